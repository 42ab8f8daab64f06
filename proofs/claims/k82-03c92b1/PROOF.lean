import PyProof.Rows.All
import Wide.All
import OpenK.AllK
import Wide.FinOn
import PyProof.Rows.SortShellK
import KE.KSortTup
import Lean
import PyProof.EqAt
import PyProof.EqKinds
import PyProof.TupleCall
import PyProof.SetRoads
import PyProof.DictRoadsH
import PyProof.IsRules
import PyProof.CollectWalk
import PyProof.FactsAll.set
import PyProof.NeData
import PyProof.P3In
import PyProof.TupleOfSeq
import PyProof.ZipIter
import PyProof.Rows.ZipGen
import KE.KDictOf
import PyProof.AttrMissHeap
import PyProof.Rows.SumAny
import PyProof.DictIter
import PyProof.DictWalks
import PyProof.DictValues
import PyProof.ListRange
import PyProof.ListStr
import PyProof.DictTruth
import PySem.Challenge.RW_strikeweave_k82_whole_least_within_all
namespace PySem.W.Fast
def tw6456600911284684739:=0
def tw15233786863101511139:=0
def tw17281453565188465473:=0
def tw10183165233655154559:=0
def tw18144269866699117659:=0
def tw2406963201057258433:=0
def tw5700151544454563063:=0
def tw2249381379529326847:=0
def tw13500085841689662630:=0
def tw4760250411942627314:=0
def tw8648279619073608491:=0
def tw5391838948194865458:=0
def tw5281487463080862748:=0
def tw1578287397181148923:=0
def tw7809208341976398652:=0
def tw17760406037581469401:=0
def tw5201413040962608692:=0
def tw18146162651702038094:=0
def tw11366646205405356458:=0
def tw17884714183378209596:=0
def tw7947340284587734408:=0
def tw6975702641399647238:=0
def tw8637262118891321045:=0
def tw5912915279438984097:=0
def tw14471489414507606883:=0
def tw171941511525244603:=0
def tw14102155662064396613:=0
def tw7687056273510834838:=0
def tw1923084129192042348:=0
def tw13528745068319325479:=0
def tw7568036025613347191:=0
def tw11327881518453562140:=0
def tw12251507478819894725:=0
def tw182467182888030623:=0
def tw10147839201731551200:=0
def tw453121423596378045:=0
def tw8303418546960716797:=0
def tw6466369104133596039:=0
def tw14677428892428413727:=0
def tw13527443315960824719:=0
def tw12915369390905462202:=0
def tw11554550487804522686:=0
def tw3618900800064434393:=0
def tw8920801900723277322:=0
def tw3166773700596407206:=0
def tw6228766865800635841:=0
def tw5817388613257700276:=0
def tw810811991678404615:=0
def tw2363100714312565820:=0
def tw18253615641543661424:=0
def tw8114178523892822631:=0
def tw4822281513847715742:=0
def tw10870655768562871817:=0
def tw12954565625938574720:=0
def tw7925705680034007219:=0
def tw1047029015824985312:=0
def tw13116668007070090670:=0
def tw8747985972133246038:=0
def tw11397920853229036165:=0
def tw1346076238215025013:=0
def tw4867621048649907648:=0
def tw4360186547258432813:=0
def tw10903939571432181942:=0
def tw12400188651924299789:=0
def tw9449670409390861470:=0
def tw4321266080089092500:=0
def tw9775462906889953635:=0
def tw60459725503491171:=0
def tw9346612259200051424:=0
def tw10094032904393533845:=0
def tw17991101592901445650:=0
def tw5884851495664878930:=0
def tw7829076850111638749:=0
def tw17969431355009189955:=0
def tw10607027043596230239:=0
def tw1719118214847980262:=0
def tw15976089381741644219:=0
def tw2550358924499781797:=0
def tw15997389009185872633:=0
def tw14831991903354198521:=0
def tw810852914579051555:=0
def tw10202853335557506638:=0
def tw7939350713302048723:=0
def tw5865038931108221582:=0
def tw7875648792462913916:=0
def tw857743169840445270:=0
def tw7184356359334787794:=0
def tw11317458730521640050:=0
def tw7710045428968483019:=0
def tw10047280748189392707:=0
def tw10753115508322797755:=0
def tw16380296153522038988:=0
def tw3842151697037199283:=0
def tw4200401800787290006:=0
def tw15130929800108567791:=0
def tw10835474071507445358:=0
def tw12700890197328741614:=0
def tw8693574951233006784:=0
def tw2691582619501994371:=0
def tw6040669177861020841:=0
def tw8142290227094522149:=0
def tw8644809074204078401:=0
def tw1311743875741949122:=0
def tw15083228237569897882:=0
def tw5139843836636326486:=0
def tw11399636768789094475:=0
def tw684816289066949882:=0
def tw4955994755060067881:=0
def tw13849793640872161726:=0
def tw10295465591434383250:=0
def tw96621289049320452:=0
def tw15736739352476267340:=0
def tw10880481849744780095:=0
def tw12405631886476947008:=0
def tw14964169306111136085:=0
def tw962151588856587008:=0
def tw4968353304118663542:=0
def tw14746800413994857512:=0
def tw12222778736664529693:=0
def tw12707168452312999644:=0
def tw2972697104644974797:=0
def tw2021950839043548578:=0
def tw14711236362346656270:=0
def tw11888456692866217843:=0
def tw1706429518991143063:=0
def tw7935265278289508610:=0
def tw323955338139560548:=0
def tw6142118338578798999:=0
def tw7784822967449132933:=0
def tw6595403502650185732:=0
def tw12922134212644676198:=0
def tw3426490497184236602:=0
def tw3295180264448122048:=0
def tw17556264938074783593:=0
def tw14371598070915424121:=0
def tw3781015142445453231:=0
def tw1067819651729485004:=0
def tw15672012912049118374:=0
def tw7595261254465510776:=0
def tw7889576450076741500:=0
def tw6793325775296157260:=0
def tw5406466071455895921:=0
def tw3433840304900458192:=0
def tw7435554062265875377:=0
def tw6483848810764628302:=0
def tw5287236420534669745:=0
def tw15419103617600414691:=0
def tw4194812686041588011:=0
def tw2155807996583839973:=0
def tw5652895042161584590:=0
def tw8872333007901240247:=0
def tw1339989146349946800:=0
def tw12590134262483192223:=0
def tw11448266656817476700:=0
def tw5161994537133652346:=0
def tw4775721205804527778:=0
def tw11630315749429631698:=0
def tw12134198794025827701:=0
def tw16874970639669332238:=0
def tw14518460134325570638:=0
def tw18078166542953482333:=0
def tw13453353350245463768:=0
def tw11607110785539992137:=0
def tw7752630864869380603:=0
def tw14333653584459869087:=0
def tw11703166969362819323:=0
def tw6676062083636257060:=0
def tw3742740216039671659:=0
def tw14551795536218191418:=0
def tw12224039941164827075:=0
def tw3615950651649985786:=0
def tw18151406648368000433:=0
def tw16453099539302585937:=0
def tw13220284239135787336:=0
def tw4101283001856933414:=0
def tw2630455174346520558:=0
def tw9465099766724623535:=0
def tw14699098412754210834:=0
def tw7530673147858030440:=0
def tw1685023835631618096:=0
def tw16575043534309305201:=0
def tw13348459454749540645:=0
def tw16185313303360743485:=0
def tw5118628590569691982:=0
def tw12111159871585686413:=0
def tw1259165206955416287:=0
def tw4636699699117197464:=0
def tw7955382559078007871:=0
def tw8725360100301530473:=0
def tw10532987000762574312:=0
def tw13085926724068383955:=0
def tw8882193671318092398:=0
def tw6659463401057662246:=0
def tw18440359688610124666:=0
def tw5762419325683305551:=0
def tw9210348219626593411:=0
def tw18305884986801451854:=0
def tw10653203641774512774:=0
def tw16756596176615532342:=0
def tw10405821365377842172:=0
def tw18317066377851898552:=0
def tw945443884707974647:=0
def tw14932580017743385128:=0
def tw1894123911869709595:=0
def tw9104631138771020264:=0
def tw6660800670894198792:=0
def tw12412054891108868259:=0
def tw3916197816464306181:=0
def tw16691528785384597499:=0
def tw9183408420220324861:=0
def tw8134320478425709480:=0
def tw15775671127203636999:=0
def tw8098083489568458192:=0
def tw12291323692412805221:=0
def tw6404684123417573939:=0
def tw9796743925047091560:=0
def tw10219625442586268272:=0
def tw13346793712610726221:=0
def tw17234957252140213651:=0
def tw8400672135189691351:=0
def tw710131634537140439:=0
def tw14627141996485452317:=0
def tw9282812861125936960:=0
def tw13918485238256449027:=0
def tw14810648701634027209:=0
def tw8580219630407114965:=0
def tw15444346190572995186:=0
def tw7516564516871268965:=0
def tw12036856506989878968:=0
def tw3625597578090202670:=0
def tw6152527739417985299:=0
def tw16144176220927925154:=0
def tw8312944324278162280:=0
def tw17183922751155714799:=0
def tw841180618820606605:=0
def tw11562576355462367984:=0
def tw14016958752190368768:=0
def tw7511996471772484977:=0
def tw7903877500203554435:=0
def tw3272478299969234445:=0
def tw15262073417112756871:=0
def tw5188352083013192975:=0
def tw10506430838157662381:=0
def tw10387824762803568622:=0
def tw4127911277599005056:=0
def tw11024643890774077347:=0
def tw6191993838055630846:=0
def tw3826424152111989066:=0
def tw11423541438728454076:=0
def tw17795028455046602626:=0
def tw12386305476842693451:=0
def tw15792009083170756417:=0
def tw10217509218642141631:=0
def tw4400738320067783509:=0
def tw9171416228500109001:=0
def tw13881424393760967771:=0
def tw13232158886023461461:=0
def tw1846611621649340225:=0
def tw3925551495098103861:=0
def tw11751470242005325807:=0
def tw4885224988819138029:=0
def tw4844205960298943700:=0
def tw8366676282197676333:=0
def tw14026191932472084758:=0
def tw13254499819905943059:=0
def tw2015023886417058486:=0
def tw2312030833015265010:=0
def tw16784986748790504128:=0
def tw5273439634506225087:=0
def tw3869979487550385574:=0
def tw9514498332398096644:=0
def tw6978120498003845652:=0
def tw3768050112731261446:=0
def tw4919616422808474658:=0
def tw1121862459683734902:=0
def tw5782283592508547060:=0
def tw12229413579865385259:=0
def tw17754729685416204961:=0
def tw5348464182875145361:=0
def tw18057789758221547491:=0
def tw16385704134215973958:=0
def tw6655390290438627661:=0
def tw16548692309632957480:=0
def tw15388188633961213401:=0
def tw3722916861999487247:=0
def tw8128849387378448652:=0
def tw14501972255886222492:=0
def tw4000230627200097494:=0
def tw16576822111578269998:=0
def tw16511054421399952730:=0
def tw10507937349947829468:=0
def tw17789758410492695219:=0
def tw223017781359228392:=0
def tw10473818481896143607:=0
def tw594279456766240270:=0
def tw15356229023187837567:=0
def tw3568555960185549379:=0
def tw7901166074618805548:=0
def tw1208670001017793123:=0
def tw13174026557078464158:=0
def tw7273134750551774091:=0
def tw774714757926296687:=0
def tw11991040919002270195:=0
def tw12384797012331408563:=0
def tw17779100688299653946:=0
def tw15187185853965068378:=0
def tw4316690002465165796:=0
def tw1733396771345285461:=0
def tw7681127122136570503:=0
def tw5106817243665208969:=0
def tw8266671484055735854:=0
def tw17092910729961244332:=0
def tw14580754856155533428:=0
def tw6234884825765020379:=0
def tw7442053636225850062:=0
def tw9602480811792978195:=0
def tw15015175890745796613:=0
def tw11534001351825782455:=0
def tw7892877666012476783:=0
def tw2760802035516435763:=0
def tw14530960406051774099:=0
def tw958265748769817327:=0
def tw4847222915156198934:=0
def tw16594299869639479738:=0
def tw11174184033065096632:=0
def tw10745861992076470942:=0
def tw16178894644590219848:=0
def tw2515716870577781734:=0
def tw16352956500916106922:=0
def tw14471898851076354647:=0
def tw6240924174193664188:=0
def tw1704247048358986255:=0
def tw16887069272248290904:=0
def tw11964200622176946741:=0
def tw4197048778299491557:=0
def tw6494872271468563014:=0
def tw1277225315801137301:=0
def tw1386007505254192208:=0
def tw5960522425570588927:=0
def tw4048630565167739003:=0
def tw14494704353444946366:=0
def tw1191759517560872720:=0
def tw3896212254807733825:=0
def tw14499809015584189131:=0
def tw11755635659208705332:=0
def tw12919753669223411784:=0
def tw2369896237356185119:=0
def tw3011697771486881627:=0
def tw9608768884548176942:=0
def tw14249472325796515159:=0
def tw9401150408404233840:=0
def tw13457654536130466663:=0
def tw3794082858732962287:=0
def tw11823071723503690985:=0
def tw1714240884193006094:=0
def tw16495549688548779101:=0
def tw12606317422571781822:=0
def tw10323422913531982401:=0
def tw7665883952071985135:=0
def tw18408907180378800903:=0
def tw14776433834561082618:=0
def tw11342415324637519456:=0
def tw665966613910492893:=0
def tw9401331472976134032:=0
def tw9301025888440448294:=0
def tw8500726385732989783:=0
def tw13289333068004685309:=0
def tw12156098771640789803:=0
def tw12189222898151487815:=0
def tw16338825415067857643:=0
def tw1697267047242014117:=0
def tw988764841925432658:=0
def tw16993669676095739843:=0
def tw3982038541043674949:=0
def tw17504163049209185214:=0
def tw12952878562753940145:=0
def tw15612613204700588126:=0
def tw12909426263424907322:=0
def tw16123775394542709160:=0
def tw13140945681135481231:=0
def tw17200564235655789649:=0
def tw3011152001195938083:=0
def tw7071649443007817374:=0
def tw823031746826470425:=0
def tw7666086961208672154:=0
def tw16565314564578150643:=0
def tw17439075112880208512:=0
def tw8416334242283022562:=0
def tw2175429801570829503:=0
def tw5405674307017760019:=0
def tw8611021359003617983:=0
def tw11704744504054958311:=0
def tw8273579574148802353:=0
def tw468270150420019520:=0
def tw16704264379305682409:=0
def tw15577338335536601003:=0
def tw9388149851174913799:=0
def tw5953775155219815552:=0
def tw3098427211529703267:=0
def tw1279633468552023985:=0
def tw2112969777637076141:=0
def tw13923457191413595608:=0
def tw1452639136452601975:=0
def tw12861400278879636590:=0
def tw12208247303552759414:=0
def tw14892889379056306396:=0
def tw6657706638708008174:=0
def tw301373714582812400:=0
def tw7784481566043316980:=0
def tw17488679426863583056:=0
def tw11589748104857213107:=0
def tw8801851043353064297:=0
def tw12083059065528411567:=0
def tw12938642548368579856:=0
def tw10898598214129404881:=0
def tw6706671493244821454:=0
def tw14950333776922074957:=0
def tw1641882925011207123:=0
def tw7848008434499744712:=0
def tw16856596429955463857:=0
def tw16044962053142000816:=0
def tw5789959917956310878:=0
def tw11431816682072748068:=0
def tw36483227506614428:=0
def tw15810703181586117638:=0
def tw5094287741752040014:=0
def tw9691459745025734565:=0
def tw14812441015119669275:=0
def tw16289110198531894442:=0
def tw3299296750925106918:=0
def tw17697996308386516548:=0
def tw9989034185457724869:=0
def tw5445274221392178858:=0
def tw11049086614945162132:=0
def tw2647772870234329388:=0
def tw1472784395785455194:=0
def tw15206684721968571487:=0
def tw6928020616381799991:=0
def tw2565916678742104026:=0
def tw5632959730318927477:=0
def tw15160340339127198797:=0
def tw5720115935464578038:=0
end PySem.W.Fast
set_option autoImplicit false
set_option genSizeOf false
set_option genSizeOfSpec false
set_option bootstrap.genMatcherCode false
set_option compiler.extract_closed false
set_option linter.all false
set_option maxRecDepth 100000
section
open PySem PySem.Spec PyProof.Rows
def AA:=@List.length_map
def AB:=@wpAny_bind
def AC:=@Heap.get?_push_of_some
def AD:=@wpAny_pure
def AE:=@List.mem_map
def AF:=@List.mem_singleton
def AG:=@List.getElem?_eq_some_iff
def AH:=@List.getElem?_eq_getElem
def AI:=@List.getElem?_map
def AJ:=@decide_eq_true
def AK:=@List.map_append
def AL:=@Heap.lt_size
def AM:=@if_neg
def AN:=@List.length_take
def AO:=@List.mem_append
def AQ:=@decide_eq_false
def AR:=@if_pos
def AS:=@Array.length_toList
def AU:=@List.mem_cons_of_mem
def AV:=@List.mem_of_getElem?
def AW:=@List.size_toArray
def AX:=@Nat.ne_of_lt
def AY:=@List.map_map
def AZ:=@of_decide_eq_true
def A_:=@List.mem_cons
def BA:=@List.map_cons
def BB:=@List.length_append
def BC:=@Heap.get?_push_size
def BD:=@Bool.false_eq_true
def BE:=@List.mem_cons_self
def BF:=@List.mem_filter
def BG:=@Bool.false_ne_true
def BH:=@Option.some.inj
def BI:=@List.append_assoc
def BJ:=@Nat.lt_of_lt_of_le
def BK:=@wpAny_loadPart'
def BL:=@Option.map_eq_some_iff
def BM:=@List.length_filter_le
def BN:=@List.take_length
def BO:=@Bool.eq_false_iff
def BP:=@List.not_mem_nil
def BQ:=@Array.getElem?_toList
def BR:=@List.length_cons
def BS:=@decide_eq_true_iff
def BT:=@List.mem_append_right
def BU:=@List.all_eq_true
def BV:=@Array.toList_append
def BW:=@List.pairwise_map
def BX:=@List.take_append_drop
def BZ:=@List.getD_eq_getElem?_getD
def B_:=@List.mem_range
def CA:=@List.length_range
def CB:=@List.mem_of_mem_take
def CC:=@Nat.zero_le
def CD:=@wpAny_mono
def CF:=@wpAny_holding
def CG:=@List.drop_eq_getElem_cons
def CH:=@wpAny_setState_of
def CI:=@List.take_of_length_le
def CJ:=@List.pairwise_append
def CK:=@Bool.and_eq_true
def CL:=@if_false
def CN:=@List.filter_sublist
def CO:=@Heap.get?_update_other
def CP:=@Array.getD_eq_getD_getElem?
def CQ:=@Nat.lt_irrefl
def CS:=@List.mem_append_left
def CT:=@List.filter_cons
def CU:=@wpAny_truthy_bool
def CV:=@Bool.eq_iff_iff
def CY:=@wpAny_newObj_type
def CZ:=@List.perm_ext_iff_of_nodup
def C_:=@List.perm_append_comm
def DA:=@List.Perm.append_left
def DB:=@List.append_nil
def DC:=@Nat.testBit_zero
def DD:=@Nat.lt_succ_of_lt
def DE:=@Nat.le_succ
def DF:=@Heap.get?_update_self
def DG:=@List.nodup_cons
def DH:=@List.length_drop
def DI:=@List.pairwise_singleton
def DJ:=@Array.getElem?_eq_some_iff
def DK:=@Nat.testBit_or
def DL:=@Array.toList_push
def DM:=@List.filter_append
def DN:=@Bool.false_and
def DP:=@List.getElem?_take_of_lt
def DQ:=@List.any_eq_true
def DR:=@Nat.testBit_succ
def DT:=@List.nodup_append
def DU:=@List.find?_cons
def DV:=@List.Perm.append_right
def DW:=@wpAny_call_entry
def DX:=@List.filter_eq_self
def DY:=@List.Pairwise.and_mem
def DZ:=@Heap.size_push
def D_:=@Nat.zero_add
def EA:=@codeAny_builtin
def EB:=@Bool.or_eq_true
def EC:=@Heap.size_update
def ED:=@Nat.eq_of_testBit_eq
def EE:=@List.take_sublist
def EF:=@Nat.le_of_succ_le
def EG:=@List.drop_of_length_le
def EH:=@Heap.SameBut.update
def EI:=@List.range_succ
def EJ:=@List.extract_eq_take_drop
def EK:=@List.getElem?_eq_none
def EL:=@Nat.lt_of_le_of_ne
def EM:=@Nat.lt_succ_self
def EN:=@if_true
def EO:=@Bool.not_true
def EQ:=@Option.isSome_iff_exists
def ER:=@List.filterMap_cons_some
def ES:=@List.mem_of_mem_drop
def ET:=@List.drop_zero
def EU:=@Array.toList_extract
def EV:=@Bool.not_eq_true'
def EW:=@Int.toNat_natCast
def EX:=@wpAny_rule
def EY:=@List.filterMap_cons
def EZ:=@List.drop_eq_nil_of_le
def E_:=@Nat.le_of_lt
def FA:=@List.drop_drop
def FB:=@List.lt_irrefl
def FC:=@wpAny_Call_Name_kw
def FD:=@Int.emod_lt_of_pos
def FE:=@wpAny_passesOwn
def FF:=@List.filter_nil
def FG:=@Nat.testBit_and
def FH:=@List.drop_sublist
def FI:=@List.mem_iff_getElem
def FJ:=@Array.toList_reverse
def FK:=@List.ext_getElem?
def FM:=@List.all_map
def FN:=@wpAny_standAt
def FO:=@List.any_cons
def FP:=@Nat.add_le_add_left
def FQ:=@List.map_congr_left
def FR:=@Nat.testBit_two_pow
def FS:=@List.Perm.refl
def FT:=@Array.size_map
def FU:=@wpAny_eqBool_str
def FV:=@List.getElem_mem
def FW:=@Nat.zero_testBit
def FX:=@Nat.eq_zero_of_not_pos
def FY:=@List.getElem?_drop
def FZ:=@Array.size_extract
def F_:=@Array.getElem?_eq_none
def GA:=@List.length_nil
def GB:=@Int.emod_nonneg
def GC:=@wpAny_newList
def GE:=@Nat.lt_of_succ_lt
def GF:=@wpAny_pyIter_list
def GG:=@List.drop_take
def GH:=@List.getElem?_append_right
def GI:=@Bool.and_false
def GJ:=@wpAny_of_eq
def GK:=@wpAny_setField
def GL:=@List.nodup_nil
def GN:=@Nat.ne_of_gt
def GO:=@wpAny_askSetting
def GP:=@List.nodup_range
def GQ:=@decide_eq_decide
def GR:=@List.getElem?_append_left
def GS:=@List.reverse_append
def GT:=@Heap.get?_update_ne
def GU:=@List.map_eq_nil_iff
def GV:=@Array.size_setIfInBounds
def GW:=@List.lt_trans
def GX:=@Bool.false_or
def GY:=@wpAny_comprehension_free
def GZ:=@List.filterMap_cons_none
def G_:=@Bool.true_and
def HB:=@Nat.testBit_two_pow_self
def HC:=@List.Pairwise.imp_of_mem
def HD:=@Nat.min_eq_left
def HE:=@Nat.zero_lt_one
def HF:=@Nat.not_lt_zero
def HG:=@List.find?_eq_none
def HH:=@List.map_singleton
def HI:=@wpAny_callSpecial?_slot
def HJ:=@List.getElem?_cons_zero
def HK:=@List.take_take
def HL:=@Heap.get?_push_ne
def HM:=@wpAny_typeOf
def HN:=@Bool.not_false
def HP:=@wpAny_storeSet_of
def HQ:=@wpAny_richCompare_same
def HR:=@List.le_antisymm
def HS:=@Array.toList_inj
def HU:=@List.lookup_cons
def HV:=@Heap.ExtBut.push
def HW:=@List.mem_flatMap
def HX:=@List.cons.inj
end
noncomputable section
namespace TS
open PySem PyProof.Rows
def kk(U:KeyKind)(p:Keyed):U.α:=(U.keyOf p.1).getD U.dflt
def Has(U:KeyKind)(p:Keyed):Prop:=∃a,U.keyOf p.1=some a
def le(U:KeyKind)(p q:Keyed):Prop:=U.kle (kk U p) (kk U q)
def Sor(U:KeyKind)(l:List Keyed):Prop:=l.Pairwise (le U)
structure Cmp(prog:Program)(w:World)(A:Around)(s:Shared)(U:KeyKind)(kd:SortKind):Prop where
 lt:∀(x y:Value) (a b:U.α) (Q:Bool->Shared->Prop) (E:Value->Shared->Prop),U.keyOf x=some a->U.keyOf y=some b->Q (U.blt a b) s->wpAny (model prog w) A (keyLt' kd x y) Q E s
section
variable{prog:Program}{w:World}{A:Around}{E:Value->Shared->Prop}{s:Shared}{U:KeyKind}{kd:SortKind}
theorem Gj(C:Cmp prog w A s U kd){st:SortSt}{x y:Keyed}{Q:Option Bool->SortSt->Prop}(hk:kindOf st=kd)(hx:Has U x)(hy:Has U y)
  (h:Q (some (U.blt (kk U x) (kk U y))) st):wpS (model prog w) A E s (lt' x y) Q st:=by
 obtain⟨a,ha⟩:=hx;obtain⟨b,hb⟩:=hy;have e1:kk U x=a:=by unfold kk;rw[ha];rfl
 have e2:kk U y=b:=by unfold kk;rw[hb];rfl
 rw[e1,e2]at h;rw[lt'_eq];refine wpS_bind (wpS_get ?_);rw[hk];refine wpS_bind (wpS_lift (wpAny_attempt (C.lt x.1 y.1 a b _ _ ha hb ⟨rfl,?_⟩)));exact wpS_pure h
theorem C9{st:SortSt}{arr:Array Keyed}{i:Nat}{p:Keyed}{Q:Keyed->SortSt->Prop}(hi:arr[i]?=some p)(h:Q p st):wpS (model prog w) A E s (elem' arr i) Q st:=by
 rw[elem'_eq,hi];exact wpS_pure h
def R8:Bool->Keyed->Array Keyed->Nat->Nat->Nat->StateT SortSt Sem (Option Nat):=sortPriv% PySem.Builtin.gallop
def bey(left:Bool)(ky:Keyed)(ar:Array Keyed)(bs:Nat)(i:Nat):StateT SortSt Sem (Option Bool):=do
 let x <-elem' ar (bs+i)
 if left then lt' x ky else return(<-lt' ky x).map (!·)
theorem Ob(left:Bool)(ky:Keyed)(ar:Array Keyed)(bs n ht:Nat):R8 left ky ar bs n ht =(do
  let mut la:=0
  let mut of:=1
  let mut lo:=0
  let mut hi:=0
  let some ri <-bey left ky ar bs ht | return none
  if ri then
   let mx:=n-ht
   for _ in [0:n] do
    if of ≥ mx then break
    let some mo <-bey left ky ar bs (ht+of) | return none
    if !mo then break
    la:=of
    of:=2*of+1
   lo:=ht+la+1
   hi:=ht+min of mx
  else
   let mx:=ht+1
   for _ in [0:n] do
    if of ≥ mx then break
    let some fo <-bey left ky ar bs (ht-of) | return none
    if fo then break
    la:=of
    of:=2*of+1
   lo:=ht+1-min of mx
   hi:=ht-la
  for _ in [0:n] do
   if lo ≥ hi then break
   let m:=lo +(hi-lo) / 2
   let some mo <-bey left ky ar bs m | return none
   if mo then lo:=m+1 else hi:=m
  return some hi):=rfl
def PB(U:KeyKind)(left:Bool)(ky:Keyed)(p:Keyed):Bool:=if left then U.blt (kk U p) (kk U ky)else !U.blt (kk U ky) (kk U p)
theorem zBm(C:Cmp prog w A s U kd){st:SortSt}{left:Bool}{ky p:Keyed}{ar:Array Keyed}{bs i:Nat}{Q:Option Bool->SortSt->Prop}(hk:kindOf st=kd)(hky:Has U ky)(hp:Has U p)(hi:ar[bs+i]?=some p)
  (h:Q (some (PB U left ky p)) st):wpS (model prog w) A E s (bey left ky ar bs i) Q st:=by
 unfold bey;refine wpS_bind (C9 hi ?_);cases left with
 | true=>exact Gj C hk hp hky h
 | false =>
  simp only[BD,CL];refine wpS_bind (Gj C hk hky hp ?_);exact wpS_pure h
theorem Oj(C:Cmp prog w A s U kd){st:SortSt}{left:Bool}{ky:Keyed}{ar:Array Keyed}{bs n ht:Nat}{Q:Option Nat->SortSt->Prop}(hk:kindOf st=kd)(hky:Has U ky)
  (P:Nat->Bool) (hP:∀i,i<n->∃p,ar[bs+i]?=some p/\Has U p/\PB U left ky p=P i) (mono:∀i j,i<=j->j<n->P j=true->P i=true) (hht:ht<n)
  (h:∀k,k<=n->(∀i,i<k->P i=true)->(∀i,k<=i->i<n->P i=false)->Q (some k) st):wpS (model prog w) A E s (R8 left ky ar bs n ht) Q st:=by
 have B:∀{st':SortSt} {i:Nat} {Q:Option Bool->SortSt->Prop},st'=st->i<n->Q (some (P i)) st'->wpS (model prog w) A E s (bey left ky ar bs i) Q st':=by
  intro st' i Q e hi q;subst e;obtain⟨p,h1,h2,h3⟩:=hP i hi;exact zBm C hk hky h2 h1 (by rw[h3];exact q)
 have nmono:∀i j,i<=j->j<n->P i=false->P j=false:=by
  intro i j hij hj hi;cases e:P j with
  | false=>rfl
  | true=>rw[mono i j hij hj e]at hi;cases hi
 rw[Ob];dsimp only;refine wpS_bind (B rfl hht ?_);dsimp only;have S:∀{lo hi:Nat} {f:Nat->(Option (Option Nat)×Nat×Nat)->StateT SortSt Sem (ForInStep (Option (Option Nat)×Nat×Nat))},
   (∀x l h,wpS (model prog w) A E s (f x (none,l,h)) (fun r st'=>st'=st/\(if h<=l then r = .done (none,l,h)else if P (l +(h-l) / 2)=true then r = .yield (none,l +(h-l) / 2+1,h)else r = .yield (none,l,l +(h-l) / 2))) st\/¬(h<=l\/l +(h-l) / 2<n)) ->
   lo<=hi->hi<=n->(∀i,i<lo->P i=true)->(∀i,hi<=i->i<n->P i=false) ->
   wpS (model prog w) A E s (forIn [0:n] (none,lo,hi) f) (fun c st'=>st'=st/\∃k,c =(none,k,k)/\k<=n/\(∀i,i<k->P i=true)/\(∀i,k<=i->i<n->P i=false)) st:=by
  intro lo hi f hf h1 h2 h3 h4;refine wpS_forRange (I:=fun x c st'=>st'=st/\∃l r,c =(none,l,r)/\l<=r/\r<=n/\r-l<=n-x/\(∀i,i<l->P i=true)/\(∀i,r<=i->i<n->P i=false)) ?_ ?_ ⟨rfl,lo,hi,rfl,h1,h2,by omega,h3,h4⟩
  .rintro x c st' _ hx ⟨rfl,l,r,rfl,hl,hr,hm,ha,hb⟩;have hin:r<=l\/l +(r-l) / 2<n:=by omega
   rcases hf x l r with q | q
   .refine wpS_mono q fun z st2 ⟨e,q2⟩=>?_;subst e;by_cases hge:r<=l
    .rw[AR hge]at q2;subst q2;have:l=r:=by omega
     subst this;exact⟨rfl,l,rfl,hr,ha,hb⟩
    .rw[AM hge]at q2;cases hp:P (l +(r-l) / 2)with
     | true =>
      rw[AR hp]at q2;subst q2;exact⟨rfl,_,_,rfl,by omega,by omega,by omega,fun i hi=>mono i (l +(r-l) / 2) (by omega) (by omega) hp,hb⟩
     | false =>
      rw[AM (by rw[hp];exact BG)]at q2;subst q2;exact⟨rfl,_,_,rfl,by omega,by omega,by omega,ha,fun i hi1 hi2=>nmono (l +(r-l) / 2) i hi1 hi2 hp⟩
   .exact absurd hin q
  .rintro c st' ⟨rfl,l,r,rfl,hl,hr,hm,ha,hb⟩;have:l=r:=by omega
   subst this;exact⟨rfl,l,rfl,hr,ha,hb⟩
 cases hr:P ht with
 | true =>
  rw[AR rfl];refine wpS_bind (wpS_mono (wpS_forRange (I:=fun x c st'=>st'=st/\∃la of,c =(none,la,of)/\la<of/\x+1<=of/\ht+la<n/\P (ht+la)=true)
   (Q:=fun c st'=>st'=st/\∃la of,c =(none,la,of)/\la<of/\ht+la<n/\P (ht+la)=true/\(n-ht<=of\/(ht+of<n/\P (ht+of)=false))) ?st ?en ⟨rfl,0,1,rfl,by omega,by omega,by omega,hr⟩) ?po)
  case en =>
   rintro c st' ⟨rfl,la,of,rfl,a1,a2,a3,a4⟩;exact⟨rfl,la,of,rfl,a1,a3,a4,.inl (by omega)⟩
  case st =>
   rintro x c st' _ hx ⟨rfl,la,of,rfl,a1,a2,a3,a4⟩;dsimp only;by_cases hge:of ≥ n-ht
   .rw[AR hge];exact wpS_pure ⟨rfl,la,of,rfl,a1,a3,a4,.inl hge⟩
   .rw[AM hge];refine wpS_bind (B rfl (show ht+of<n by omega) ?_);cases hp:P (ht+of)with
    | true=>exact wpS_pure ⟨rfl,of,2*of+1,rfl,by omega,by omega,by omega,hp⟩
    | false=>exact wpS_pure ⟨rfl,la,of,rfl,a1,a3,a4,.inr ⟨by omega,hp⟩⟩
  case po =>
   rintro c st' ⟨rfl,la,of,rfl,a1,a3,a4,a5⟩;dsimp only;refine wpS_bind (wpS_mono (S (lo:=ht+la+1) (hi:=ht+min of (n-ht)) (fun x l h'=>by
    dsimp only;by_cases hge:h'<=l
    .refine .inl ?_;rw[AR hge];exact wpS_pure ⟨rfl,by rw[AR hge]⟩
    .by_cases hn:l +(h' - l) / 2<n
     .refine .inl ?_;rw[AM hge];refine wpS_bind (B rfl hn ?_);dsimp only;cases hp:P (l +(h' - l) / 2)with
      | true =>
       simp only[EN];exact wpS_pure ⟨rfl,by rw[AM hge]⟩
      | false =>
       simp only[BD,CL];exact wpS_pure ⟨rfl,by rw[AM hge]⟩
     .exact .inr (by omega)) (by omega) (by omega) (fun i hi=>mono i (ht+la) (by omega) a3 a4) fun i hi1 hi2=>?_) fun c st' ⟨e,k,e2,b1,b2,b3⟩=>?_)
   .rcases a5 with a5 | ⟨a5,a6⟩
    .omega
    .exact nmono (ht+of) i (by omega) hi2 a6
   .subst e e2;exact wpS_pure (h k b1 b2 b3)
 | false =>
  rw[AM BG];refine wpS_bind (wpS_mono (wpS_forRange (I:=fun x c st'=>st'=st/\∃la of,c =(none,la,of)/\la<of/\x+1<=of/\la<=ht/\P (ht-la)=false)
   (Q:=fun c st'=>st'=st/\∃la of,c =(none,la,of)/\la<of/\la<=ht/\P (ht-la)=false/\(ht+1<=of\/(of<=ht/\P (ht-of)=true))) ?st ?en ⟨rfl,0,1,rfl,by omega,by omega,by omega,hr⟩) ?po)
  case en =>
   rintro c st' ⟨rfl,la,of,rfl,a1,a2,a3,a4⟩;exact⟨rfl,la,of,rfl,a1,a3,a4,.inl (by omega)⟩
  case st =>
   rintro x c st' _ hx ⟨rfl,la,of,rfl,a1,a2,a3,a4⟩;dsimp only;by_cases hge:of ≥ ht+1
   .rw[AR hge];exact wpS_pure ⟨rfl,la,of,rfl,a1,a3,a4,.inl hge⟩
   .rw[AM hge];refine wpS_bind (B rfl (show ht-of<n by omega) ?_);cases hp:P (ht-of)with
    | false=>exact wpS_pure ⟨rfl,of,2*of+1,rfl,by omega,by omega,by omega,hp⟩
    | true=>exact wpS_pure ⟨rfl,la,of,rfl,a1,a3,a4,.inr ⟨by omega,hp⟩⟩
  case po =>
   rintro c st' ⟨rfl,la,of,rfl,a1,a3,a4,a5⟩;dsimp only;refine wpS_bind (wpS_mono (S (lo:=ht+1-min of (ht+1)) (hi:=ht-la) (fun x l h'=>by
    dsimp only;by_cases hge:h'<=l
    .refine .inl ?_;rw[AR hge];exact wpS_pure ⟨rfl,by rw[AR hge]⟩
    .by_cases hn:l +(h' - l) / 2<n
     .refine .inl ?_;rw[AM hge];refine wpS_bind (B rfl hn ?_);dsimp only;cases hp:P (l +(h' - l) / 2)with
      | true =>
       simp only[EN];exact wpS_pure ⟨rfl,by rw[AM hge]⟩
      | false =>
       simp only[BD,CL];exact wpS_pure ⟨rfl,by rw[AM hge]⟩
     .exact .inr (by omega)) (by omega) (by omega) (fun i hi=>?_) fun i hi1 hi2=>nmono (ht-la) i (by omega) hi2 a4) fun c st' ⟨e,k,e2,b1,b2,b3⟩=>?_)
   .rcases a5 with a5 | ⟨a5,a6⟩
    .omega
    .exact mono i (ht-of) (by omega) (by omega) a6
   .subst e e2;exact wpS_pure (h k b1 b2 b3)
end
section
variable{U:KeyKind}
theorem le_refl(p:Keyed):le U p p:=KeyOrd.kle_refl _
theorem le_trans{p q r:Keyed}(h1:le U p q)(h2:le U q r):le U p r:=KeyOrd.kle_trans h1 h2
structure ML(U:KeyKind)(a b:List Keyed)(o:List Keyed)(i j:Nat):Prop where
 perm:o.Perm (a.take i++b.take j)
 sor:Sor U o
 la:∀x∈o,∀y∈a.drop i,le U x y
 lb:∀x∈o,∀y∈b.drop j,le U x y
theorem ML.sym{a b o:List Keyed}{i j:Nat}(m:ML U a b o i j):ML U b a o j i:=⟨m.perm.trans C_,m.sor,m.lb,m.la⟩
theorem Fj{l:List Keyed}(k:Nat)(h:Sor U l):∀x∈l.take k,∀y∈l.drop k,le U x y:=by
 have h':Sor U (l.take k++l.drop k):=by rw[BX];exact h
 exact(CJ.mp h').2.2
theorem ML.addA{a b o:List Keyed}{i j:Nat}(m:ML U a b o i j)(sa:Sor U a)(k:Nat)(hk:∀y∈(a.drop i).take k,∀z∈b.drop j,le U y z):ML U a b (o ++(a.drop i).take k) (i+k) j:=by
 have hs:Sor U (a.drop i):=sa.sublist (FH _ _);refine⟨?_,?_,fun x hx y hy=>?_,fun x hx y hy=>?_⟩
 .rw[List.take_add];refine(DV _ m.perm).trans ?_;rw[BI,BI];exact DA _ C_
 .refine CJ.mpr ⟨m.sor,hs.sublist (EE _ _),fun x hx y hy=>m.la x hx y (CB hy)⟩
 .rw[<-FA]at hy;rcases AO.mp hx with hx | hx
  .exact m.la x hx y (ES hy)
  .exact Fj k hs x hx y hy
 .rcases AO.mp hx with hx | hx
  .exact m.lb x hx y hy
  .exact hk x hx y hy
theorem ML.addB{a b o:List Keyed}{i j:Nat}(m:ML U a b o i j)(sb:Sor U b)(k:Nat)(hk:∀y∈(b.drop j).take k,∀z∈a.drop i,le U y z):ML U a b (o ++(b.drop j).take k) i (j+k) :=
 (m.sym.addA sb k hk).sym
theorem ML.endA{a b o:List Keyed}{i j:Nat}(m:ML U a b o i j)(sa:Sor U a)(sb:Sor U b)(h:∀y∈a.drop i,∀z∈b.drop j,le U y z):Sor U (o++a.drop i++b.drop j)/\(o++a.drop i++b.drop j).Perm (a++b):=by
 refine⟨?_,?_⟩
 .refine CJ.mpr ⟨CJ.mpr ⟨m.sor,sa.sublist (FH _ _),m.la⟩,sb.sublist (FH _ _),fun x hx y hy=>?_⟩;rcases AO.mp hx with hx | hx
  .exact m.lb x hx y hy
  .exact h x hx y hy
 .have h1:(o++a.drop i++b.drop j).Perm ((a.take i++b.take j)++a.drop i++b.drop j):=DV _ (DV _ m.perm);refine h1.trans ?_;have h2:((a.take i++b.take j)++a.drop i++b.drop j).Perm ((a.take i++a.drop i) ++(b.take j++b.drop j)):=by
   rw[BI,BI,BI];refine DA _ ?_;rw[<-BI,<-BI];exact DV _ C_
  rw[BX,BX]at h2;exact h2
theorem ML.endB{a b o:List Keyed}{i j:Nat}(m:ML U a b o i j)(sa:Sor U a)(sb:Sor U b)(h:∀y∈b.drop j,∀z∈a.drop i,le U y z):Sor U (o++b.drop j++a.drop i)/\(o++b.drop j++a.drop i).Perm (a++b) :=
 ⟨(m.sym.endA sb sa h).1,(m.sym.endA sb sa h).2.trans C_⟩
structure MH(U:KeyKind)(a b:List Keyed)(o:List Keyed)(i j:Nat):Prop where
 perm:o.Perm (a.drop i++b.drop j)
 sor:Sor U o
 la:∀x∈o,∀y∈a.take i,le U y x
 lb:∀x∈o,∀y∈b.take j,le U y x
theorem MH.sym{a b o:List Keyed}{i j:Nat}(m:MH U a b o i j):MH U b a o j i:=⟨m.perm.trans C_,m.sor,m.lb,m.la⟩
theorem MH.addA{a b o:List Keyed}{i j:Nat}(m:MH U a b o i j)(sa:Sor U a)(k:Nat)(hki:k<=i)(hk:∀y∈(a.take i).drop k,∀z∈b.take j,le U z y):MH U a b ((a.take i).drop k++o) k j:=by
 have hs:Sor U (a.take i):=sa.sublist (EE _ _);have e:a.drop k =(a.take i).drop k++a.drop i:=by
  conv=>lhs;rw[<-BX i a]
  rw[List.drop_append];by_cases hl:i<=a.length
  .rw[AN,HD hl,Nat.sub_eq_zero_of_le hki,ET]
  .have:a.drop i = []:=EZ (by lia);rw[this,List.drop_nil]
 have e2:(a.take i).take k=a.take k:=by rw[HK,HD hki]
 refine⟨?_,?_,fun x hx y hy=>?_,fun x hx y hy=>?_⟩
 .rw[e,BI];exact DA _ m.perm
 .exact CJ.mpr ⟨hs.sublist (FH _ _),m.sor,fun x hx y hy=>m.la y hy x (ES hx)⟩
 .rw[<-e2]at hy;rcases AO.mp hx with hx | hx
  .exact Fj k hs y hy x hx
  .exact m.la x hx y (CB hy)
 .rcases AO.mp hx with hx | hx
  .exact hk x hx y hy
  .exact m.lb x hx y hy
theorem MH.addB{a b o:List Keyed}{i j:Nat}(m:MH U a b o i j)(sb:Sor U b)(k:Nat)(hkj:k<=j)(hk:∀y∈(b.take j).drop k,∀z∈a.take i,le U z y):MH U a b ((b.take j).drop k++o) i k :=
 (m.sym.addA sb k hkj hk).sym
theorem MH.endA{a b o:List Keyed}{i j:Nat}(m:MH U a b o i j)(sa:Sor U a)(sb:Sor U b)(h:∀y∈a.take i,∀z∈b.take j,le U y z):Sor U (a.take i++b.take j++o)/\(a.take i++b.take j++o).Perm (a++b):=by
 refine⟨?_,?_⟩
 .refine CJ.mpr ⟨CJ.mpr ⟨sa.sublist (EE _ _),sb.sublist (EE _ _),h⟩,m.sor,fun x hx y hy=>?_⟩;rcases AO.mp hx with hx | hx
  .exact m.la y hy x hx
  .exact m.lb y hy x hx
 .have h1:(a.take i++b.take j++o).Perm (a.take i++b.take j ++(a.drop i++b.drop j)):=DA _ m.perm;refine h1.trans ?_;have h2:(a.take i++b.take j ++(a.drop i++b.drop j)).Perm ((a.take i++a.drop i) ++(b.take j++b.drop j)):=by
   rw[BI,BI];refine DA _ ?_;rw[<-BI,<-BI];exact DV _ C_
  rw[BX,BX]at h2;exact h2
theorem MH.endB{a b o:List Keyed}{i j:Nat}(m:MH U a b o i j)(sa:Sor U a)(sb:Sor U b)(h:∀y∈b.take j,∀z∈a.take i,le U y z):Sor U (b.take j++a.take i++o)/\(b.take j++a.take i++o).Perm (a++b) :=
 ⟨(m.sym.endA sb sa h).1,(m.sym.endA sb sa h).2.trans C_⟩
end
section
variable{prog:Program}{w:World}{A:Around}{E:Value->Shared->Prop}{s:Shared}{U:KeyKind}{kd:SortKind}
def Ae(g:Nat):StateT SortSt Sem Unit:=modify fun s=>SortSt.mk' (kindOf s) (arrOf s) (pendingOf s) g (failedOf s)
def Do:Array Keyed->Array Keyed->StateT SortSt Sem (Array Keyed):=sortPriv% PySem.Builtin.mergeLo
theorem Kl(a b:Array Keyed):Do a b =(do
  rule "list.sort.merge-lo"
  let tot:=a.size+b.size
  let dn (o:Array Keyed) (i j:Nat):=o++a.extract i a.size++b.extract j b.size
  let lA (o:Array Keyed) (i j:Nat):=o++b.extract j b.size++a.extract i a.size
  let mut o:Array Keyed:=#[<-elem' b 0]
  let mut i:=0
  let mut j:=1
  if j == b.size then return dn o i j
  if i+1 == a.size then return lA o i j
  let mut mg:=gallopOf (<-get)
  for _ in [0:tot] do
   let mut ac:=0
   let mut bc:=0
   for _ in [0:tot] do
    let some bw <-lt' (<-elem' b j) (<-elem' a i) | return dn o i j
    if bw then
     o:=o.push (<-elem' b j);j:=j+1;bc:=bc+1;ac:=0
     if j == b.size then return dn o i j
     if bc ≥ mg then break
    else
     o:=o.push (<-elem' a i);i:=i+1;ac:=ac+1;bc:=0
     if i+1 == a.size then return lA o i j
     if ac ≥ mg then break
   rule "list.sort.gallop"
   mg:=mg+1
   for _ in [0:tot] do
    if mg>1 then mg:=mg-1
    Ae mg
    let some k <-R8 false (<-elem' b j) a i (a.size-i) 0 | return dn o i j
    ac:=k
    if k>0 then
     o:=o++a.extract i (i+k);i:=i+k
     if i+1 == a.size then return lA o i j
     if i == a.size then return dn o i j
    o:=o.push (<-elem' b j);j:=j+1
    if j == b.size then return dn o i j
    let some k <-R8 true (<-elem' a i) b j (b.size-j) 0 | return dn o i j
    bc:=k
    if k>0 then
     o:=o++b.extract j (j+k);j:=j+k
     if j == b.size then return dn o i j
    o:=o.push (<-elem' a i);i:=i+1
    if i+1 == a.size then return lA o i j
    if ac<7&&bc<7 then break
   mg:=mg+1
   Ae mg
  unsupported "internal:list.sort.merge-bound"):=rfl
def Sm(st st':SortSt):Prop:=kindOf st'=kindOf st/\arrOf st'=arrOf st/\pendingOf st'=pendingOf st/\failedOf st'=failedOf st
theorem Sm.refl(st:SortSt):Sm st st:=⟨rfl,rfl,rfl,rfl⟩
theorem U5{st st0:SortSt}{g:Nat}{Q:Unit->SortSt->Prop}(hs:Sm st0 st)(h:∀st',Sm st0 st'->Q () st'):wpS (model prog w) A E s (Ae g) Q st :=
 wpS_modify (h _ ⟨hs.1,hs.2.1,hs.2.2.1,hs.2.2.2⟩)
theorem Cy{l:List Keyed}{i k:Nat}{y:Keyed}(h:y∈(l.drop i).take k):∃t,t<k/\l[i+t]?=some y:=by
 obtain⟨t,ht,e⟩:=FI.mp h;rw[AN,DH]at ht;refine⟨t,by lia,?_⟩;rw[List.getElem_take,List.getElem_drop]at e;rw[<-e];exact AH (by lia)
theorem Ji{l:List Keyed}{i:Nat}{y:Keyed}(h:y∈l.drop i):∃t,i+t<l.length/\l[i+t]?=some y:=by
 obtain⟨t,ht,e⟩:=FI.mp h;rw[DH]at ht;refine⟨t,by lia,?_⟩;rw[List.getElem_drop]at e;rw[<-e];exact AH (by lia)
theorem Nu{l:List Keyed}{i:Nat}{y:Keyed}(h:y∈l.take i):∃t,t<i/\t<l.length/\l[t]?=some y:=by
 obtain⟨t,ht,e⟩:=FI.mp h;rw[AN]at ht;refine⟨t,by lia,by lia,?_⟩;rw[List.getElem_take]at e;rw[<-e];exact AH (by lia)
theorem Yt{l:List Keyed}{i k:Nat}{y:Keyed}(h:y∈(l.take i).drop k):∃t,k<=t/\t<i/\l[t]?=some y:=by
 obtain⟨t,h1,h2⟩:=Ji h;rw[AN]at h1;rw[DP (by lia)]at h2;exact⟨k+t,by lia,by lia,h2⟩
theorem o9{l:List Keyed}(h:Sor U l){i j:Nat}{p q:Keyed}(hij:i<=j)(hp:l[i]?=some p)(hq:l[j]?=some q):le U p q:=by
 obtain⟨h1,rfl⟩:=AG.mp hp;obtain⟨h2,rfl⟩:=AG.mp hq;rcases Nat.lt_or_eq_of_le hij with z | z
 .exact List.pairwise_iff_getElem.mp h i j h1 h2 z
 .subst z;exact le_refl _
theorem Ek{l:List Keyed}(h:Sor U l){i:Nat}{p:Keyed}(hp:l[i]?=some p):∀z∈l.drop i,le U p z:=fun z hz=>by
 obtain⟨t,_,e⟩:=Ji hz;exact o9 h (Nat.le_add_right _ _) hp e
theorem ar_get{a:Array Keyed}{i:Nat}{p:Keyed}:a[i]?=some p↔a.toList[i]?=some p:=by rw[BQ]
theorem W0{a:Array Keyed}{i:Nat}(h:i<a.size):∃p,a[i]?=some p:=⟨a[i],getElem?_pos a i h⟩
theorem Qq{l:List Keyed}{i:Nat}{p:Keyed}(h:l[i]?=some p):(l.drop i).take 1 = [p]:=by
 obtain⟨h1,rfl⟩:=AG.mp h;rw[CG h1];rfl
theorem Er(a:Array Keyed)(i k:Nat):(a.extract i (i+k)).toList =(a.toList.drop i).take k:=by
 rw[EU,EJ,Nat.add_sub_cancel_left]
theorem i6(a:Array Keyed)(i:Nat):(a.extract i a.size).toList=a.toList.drop i:=by
 rw[EU,EJ,CI];rw[DH,AS];exact Nat.le_refl _
theorem g7(a:Array Keyed)(i:Nat):(a.extract 0 i).toList=a.toList.take i:=by
 rw[EU,EJ,ET,Nat.sub_zero]
def Rm(U:KeyKind)(a b r:Array Keyed):Prop:=Sor U r.toList/\r.toList.Perm (a.toList++b.toList)
structure Pre(U:KeyKind)(a b:Array Keyed):Prop where
 sa:Sor U a.toList
 sb:Sor U b.toList
 ka:∀(i:Nat) p,a[i]?=some p->Has U p
 kb:∀(i:Nat) p,b[i]?=some p->Has U p
 na:1<=a.size
 nb:1<=b.size
 first:∀q,b[0]?=some q->∀z∈a.toList,le U q z
 last:∀p,a[a.size-1]?=some p->∀z∈b.toList,le U z p
section
variable{a b o:Array Keyed}{i j k:Nat}{p q:Keyed}
theorem Pre.pushB(P:Pre U a b)(m:ML U a.toList b.toList o.toList i j)(hq:b[j]?=some q)(h:∀z∈a.toList.drop i,le U q z):ML U a.toList b.toList (o.push q).toList i (j+1):=by
 have h1:=m.addB P.sb 1 (by rw[Qq (ar_get.mp hq)];intro y hy;rw[AF.mp hy];exact h);rw[Qq (ar_get.mp hq)]at h1;rw[DL];exact h1
theorem Pre.pushA(P:Pre U a b)(m:ML U a.toList b.toList o.toList i j)(hp:a[i]?=some p)(h:∀z∈b.toList.drop j,le U p z):ML U a.toList b.toList (o.push p).toList (i+1) j:=by
 have h1:=m.addA P.sa 1 (by rw[Qq (ar_get.mp hp)];intro y hy;rw[AF.mp hy];exact h);rw[Qq (ar_get.mp hp)]at h1;rw[DL];exact h1
theorem Pre.extA(P:Pre U a b)(m:ML U a.toList b.toList o.toList i j)(h:∀y∈(a.toList.drop i).take k,∀z∈b.toList.drop j,le U y z):ML U a.toList b.toList (o++a.extract i (i+k)).toList (i+k) j:=by
 rw[BV,Er];exact m.addA P.sa k h
theorem Pre.extB(P:Pre U a b)(m:ML U a.toList b.toList o.toList i j)(h:∀y∈(b.toList.drop j).take k,∀z∈a.toList.drop i,le U y z):ML U a.toList b.toList (o++b.extract j (j+k)).toList i (j+k):=by
 rw[BV,Er];exact m.addB P.sb k h
theorem Pre.doneB(P:Pre U a b)(m:ML U a.toList b.toList o.toList i j)(hj:j=b.size):Rm U a b (o++a.extract i a.size++b.extract j b.size):=by
 unfold Rm;rw[BV,BV,i6,i6];refine m.endA P.sa P.sb fun y _ z hz=>?_;rw[EZ (by rw[AS];lia)]at hz;exact absurd hz (by simp)
theorem Pre.doneA(P:Pre U a b)(m:ML U a.toList b.toList o.toList i j)(hi:i=a.size):Rm U a b (o++a.extract i a.size++b.extract j b.size):=by
 unfold Rm;rw[BV,BV,i6,i6];refine m.endA P.sa P.sb fun y hy z _=>?_;rw[EZ (by rw[AS];lia)]at hy;exact absurd hy (by simp)
theorem Pre.lastA(P:Pre U a b)(m:ML U a.toList b.toList o.toList i j)(hi:i+1=a.size):Rm U a b (o++b.extract j b.size++a.extract i a.size):=by
 unfold Rm;rw[BV,BV,i6,i6];refine m.endB P.sa P.sb fun y hy z hz=>?_;obtain⟨t,h1,h2⟩:=Ji hz;rw[AS]at h1;have e:i+t=a.size-1:=by lia
 rw[e]at h2;exact P.last z (ar_get.mpr h2) y (ES hy)
end
theorem Sm.knd{st st':SortSt}(h:Sm st st'){k:SortKind}(hk:kindOf st=k):kindOf st'=k:=h.1.trans hk
theorem j8(C:Cmp prog w A s U kd){st:SortSt}{left:Bool}{ky:Keyed}{ar:Array Keyed}{bs n ht:Nat}{Q:Option Nat->SortSt->Prop}(hk:kindOf st=kd)(hky:Has U ky)
  (hsz:bs+n<=ar.size) (hh:∀(i:Nat) p,ar[i]?=some p->Has U p) (hs:∀(u v:Nat) p q,u<=v->v<n->ar[bs+u]?=some p->ar[bs+v]?=some q->le U p q) (hht:ht<n)
  (h:∀k,k<=n->(∀(t:Nat) p,t<k->ar[bs+t]?=some p->PB U left ky p=true)->(∀(t:Nat) p,k<=t->t<n->ar[bs+t]?=some p->PB U left ky p=false)->Q (some k) st) :
  wpS (model prog w) A E s (R8 left ky ar bs n ht) Q st:=by
 have key:∀t,t<n->∃p,ar[bs+t]?=some p:=fun t ht=>W0 (by lia);refine Oj C hk hky (fun t=>match ar[bs+t]? with | some p=>PB U left ky p | none=>false) (fun i hi=>?_) (fun i j hij hj hp=>?_) hht fun k hk1 h1 h2=>?_
 .obtain⟨p,hp⟩:=key i hi;exact⟨p,hp,hh _ p hp,by rw[hp]⟩
 .obtain⟨p,e1⟩:=key i (by lia);obtain⟨q,e2⟩:=key j hj;rw[e2]at hp;rw[e1];have l:=hs i j p q hij hj e1 e2;dsimp only at hp⊢;unfold PB at hp⊢;cases left with
  | true =>
   simp only[EN]at hp⊢;exact KeyOrd.klt_of_kle_of_klt l hp
  | false =>
   simp only[BD,CL,EV]at hp⊢;exact KeyOrd.kle_trans l hp
 .refine h k hk1 (fun t p ht hp=>?_) fun t p ht1 ht2 hp=>?_
  .have:=h1 t ht;rw[hp]at this;exact this
  .have:=h2 t ht1 ht2;rw[hp]at this;exact this
theorem Ej{ky p:Keyed}(h:PB U false ky p=true):le U p ky:=by
 unfold PB at h;show U.blt (kk U ky) (kk U p)=false;simpa using h
theorem Ar{ky p:Keyed}(h:PB U false ky p=false):U.klt (kk U ky) (kk U p):=by
 unfold PB at h;show U.blt (kk U ky) (kk U p)=true;simpa using h
theorem Ig{ky p:Keyed}(h:PB U true ky p=true):U.klt (kk U p) (kk U ky):=by
 unfold PB at h;show U.blt (kk U p) (kk U ky)=true;simpa using h
theorem Eb{ky p:Keyed}(h:PB U true ky p=false):le U ky p:=by
 unfold PB at h;show U.blt (kk U p) (kk U ky)=false;simpa using h
section
variable{α:Type}{Q:α->SortSt->Prop}{st:SortSt}
theorem Q3{c:Prop}{_:Decidable c}{t e:StateT SortSt Sem α}(h1:c->wpS (model prog w) A E s t Q st)(h2:¬c->wpS (model prog w) A E s e Q st):wpS (model prog w) A E s (if c then t else e) Q st:=by
 split
 .rename_i h;exact h1 h
 .rename_i h;exact h2 h
theorem K3{x y:Nat}{t e:StateT SortSt Sem α}(h1:x=y->wpS (model prog w) A E s t Q st)(h2:x≠y->wpS (model prog w) A E s e Q st):wpS (model prog w) A E s (if(x == y)=true then t else e) Q st :=
 Q3 (fun h=>h1 (eq_of_beq h)) fun h=>h2 fun z=>h (beq_iff_eq.mpr z)
theorem Qh{c:Prop}{_:Decidable c}{t:StateT SortSt Sem α}{F:Nat->StateT SortSt Sem α}(x:Nat){y:Nat}(h:∀g,wpS (model prog w) A E s (F g) Q st)(e:t=F x):wpS (model prog w) A E s (if c then t else F y) Q st:=by
 subst e;exact Q3 (fun _=>h _) fun _=>h _
theorem Em{c:Prop}{_:Decidable c}{t:StateT SortSt Sem α}{F:Array Keyed->Nat->StateT SortSt Sem α}{o:Array Keyed}{i:Nat}(R:Array Keyed->Nat->Prop)(h:∀o i,R o i->wpS (model prog w) A E s (F o i) Q st)
  (hT:(∀o i,R o i->wpS (model prog w) A E s (F o i) Q st)->c->wpS (model prog w) A E s t Q st) (hE:¬c->R o i):wpS (model prog w) A E s (if c then t else F o i) Q st:=Q3 (hT h) fun z=>h _ _ (hE z)
end
theorem Sb{α β:Type}{r0:Sem Unit}{el:StateT SortSt Sem Keyed}{x0:Keyed}{c1 c2:Prop}{_:Decidable c1}{_:Decidable c2}{t1 t2:Keyed->StateT SortSt Sem α}{ini:Keyed->SortSt->β}{n:Nat}{f:Nat->β->StateT SortSt Sem (ForInStep β)}{g:β->StateT SortSt Sem α}{Q:α->SortSt->Prop}{st:SortSt}
  (hr:∀R:Unit->SortSt->Prop,R () st->wpS (model prog w) A E s (liftM r0:StateT SortSt Sem Unit) R st) (he:∀R:Keyed->SortSt->Prop,R x0 st->wpS (model prog w) A E s el R st) (h1:c1->wpS (model prog w) A E s (t1 x0) Q st) (h2:¬c1->c2->wpS (model prog w) A E s (t2 x0) Q st)
  (h3:¬c1->¬c2->wpS (model prog w) A E s (forIn [0:n] (ini x0 st) f) (fun c st'=>wpS (model prog w) A E s (g c) Q st') st) :
  wpS (model prog w) A E s ((liftM r0:StateT SortSt Sem Unit) >>= fun _=>el >>= fun x=>if c1 then t1 x else if c2 then t2 x else get >>= fun st'=>forIn [0:n] (ini x st') f >>= g) Q st :=
 wpS_bind (hr _ (wpS_bind (he _ (Q3 h1 fun z1=>Q3 (h2 z1) fun z2=>wpS_bind (wpS_get (wpS_bind (h3 z1 z2)))))))
def MR(U:KeyKind)(a b:Array Keyed)(st:SortSt){β:Type}(c:Option (Array Keyed)×β)(st':SortSt):Prop:=Sm st st'/\∃r,c.1=some r/\Rm U a b r
theorem MR.mk{a b r:Array Keyed}{st st':SortSt}{β:Type}{c:β}(sm:Sm st st')(h:Rm U a b r):MR U a b st (some r,c) st':=⟨sm,r,rfl,h⟩
structure LoP(U:KeyKind)(a b:Array Keyed)(n:Nat)(o:Array Keyed)(i j:Nat):Prop where
 m:ML U a.toList b.toList o.toList i j
 hi:i+1<a.size
 hj:j<b.size
 hn:n<=i+j
theorem LoP.putB{a b o o':Array Keyed}{n i j:Nat}(h:LoP U a b n o i j)(m:ML U a.toList b.toList o'.toList i (j+1))(e:j+1≠b.size):LoP U a b (n+1) o' i (j+1):=⟨m,h.hi,EL h.hj e,Nat.succ_le_succ h.hn⟩
theorem LoP.putA{a b o o':Array Keyed}{n i j:Nat}(h:LoP U a b n o i j)(m:ML U a.toList b.toList o'.toList (i+1) j)(e:i+1+1≠a.size):LoP U a b (n+1) o' (i+1) j:=⟨m,EL h.hi e,h.hj,by rw[Nat.add_right_comm];exact Nat.succ_le_succ h.hn⟩
theorem LoP.mono{a b o:Array Keyed}{n n' i j:Nat}(h:LoP U a b n o i j)(l:n'<=n):LoP U a b n' o i j:=⟨h.m,h.hi,h.hj,Nat.le_trans l h.hn⟩
def zIg(U:KeyKind)(a b:Array Keyed)(st:SortSt)(n:Nat)(c:Option (Array Keyed)×Array Keyed×Nat×Nat×Nat)(st':SortSt):Prop:=Sm st st'/\∃o i j mg,c =(none,o,i,j,mg)/\LoP U a b n o i j
def LoI2(U:KeyKind)(a b:Array Keyed)(st:SortSt)(n:Nat)(c:Option (Array Keyed)×Array Keyed×Nat×Nat×Nat×Nat)(st':SortSt):Prop:=Sm st st'/\∃o i j ac bc,c =(none,o,i,j,ac,bc)/\LoP U a b n o i j
def LoI3(U:KeyKind)(a b:Array Keyed)(st:SortSt)(n:Nat)(c:Option (Array Keyed)×Array Keyed×Nat×Nat×Nat×Nat×Nat)(st':SortSt):Prop:=Sm st st'/\∃o i j mg ac bc,c =(none,o,i,j,mg,ac,bc)/\LoP U a b n o i j
theorem LoI2.mk{a b o:Array Keyed}{st st':SortSt}{n i j ac bc:Nat}(sm:Sm st st')(h:LoP U a b n o i j):LoI2 U a b st n (none,o,i,j,ac,bc) st':=⟨sm,_,_,_,_,_,rfl,h⟩
theorem LoI3.mk{a b o:Array Keyed}{st st':SortSt}{n i j mg ac bc:Nat}(sm:Sm st st')(h:LoP U a b n o i j):LoI3 U a b st n (none,o,i,j,mg,ac,bc) st':=⟨sm,_,_,_,_,_,_,rfl,h⟩
theorem Ii(C:Cmp prog w A s U kd){st:SortSt}{a b:Array Keyed}{Q:Array Keyed->SortSt->Prop}(hk:kindOf st=kd)(P:Pre U a b)
  (h:∀r st',Sm st st'->Rm U a b r->Q r st'):wpS (model prog w) A E s (Do a b) Q st:=by
 rw[Kl];obtain⟨b0,hb0⟩:=W0 (a:=b) (i:=0) P.nb;have m0:ML U a.toList b.toList (#[]:Array Keyed).toList 0 0:=⟨by simp,List.Pairwise.nil,fun x hx=>absurd hx (by simp),fun x hx=>absurd hx (by simp)⟩;have m1:ML U a.toList b.toList (#[b0]:Array Keyed).toList 0 1:=by
  have:=P.pushB m0 hb0 (by rw[ET];exact P.first b0 hb0);simpa using this
 apply Sb (x0:=b0) (fun R z=>wpS_lift (EX ⟨rfl,z⟩)) (fun R z=>C9 hb0 z)
 case h1=>exact fun hb1=>wpS_pure (h _ _ (Sm.refl _) (P.doneB m1 (eq_of_beq hb1)))
 case h2=>exact fun _ ha1=>wpS_pure (h _ _ (Sm.refl _) (P.lastA m1 (eq_of_beq ha1)))
 intro hb1 ha1;have p1:LoP U a b 1 #[b0] 0 1:=⟨m1,EL P.na fun z=>ha1 (beq_iff_eq.mpr z),EL P.nb fun z=>hb1 (beq_iff_eq.mpr z),Nat.le_refl _⟩;refine wpS_mono (wpS_forRange (I:=fun x=>zIg U a b st (x+1)) (Q:=MR U a b st) ?st ?en ⟨Sm.refl _,_,_,_,_,rfl,p1⟩) ?po
 case po =>
  rintro⟨c1,c2⟩ st' ⟨sm,r,e,hr⟩;cases e;exact wpS_pure (h r st' sm hr)
 case en =>
  rintro c st' ⟨sm,o,i,j,mg,rfl,p⟩;obtain⟨_,h1,h2,h3⟩:=p;exfalso;lia
 case st =>
  rintro x c st' _ hx ⟨sm,o,i,j,mg,rfl,p⟩;refine wpS_bind (wpS_mono (wpS_forRange (I:=fun _=>LoI2 U a b st (x+1)) (Q:=fun c st'=>MR U a b st c st'\/LoI2 U a b st (x+1) c st') ?st1 ?en1 (LoI2.mk sm p)) ?po1)
  case en1=>exact fun c st2 z=>.inr z
  case st1 =>
   rintro x2 c st2 _ _ ⟨sm2,o,i',j',ac,bc,rfl,p2⟩;obtain⟨bj,hbj⟩:=W0 (a:=b) (i:=j') p2.hj;obtain⟨ai,hai⟩:=W0 (a:=a) (i:=i') (GE p2.hi);refine wpS_bind (C9 hbj (wpS_bind (C9 hai (wpS_bind (Gj C (sm2.knd hk) (P.kb _ _ hbj) (P.ka _ _ hai) ?_)))));refine Q3 (fun hlt=>wpS_bind (C9 hbj ?_)) fun hlt=>wpS_bind (C9 hai ?_)
   .have m3:=P.pushB p2.m hbj fun z hz=>le_trans (KeyOrd.kle_of_klt hlt) (Ek P.sa (ar_get.mp hai) z hz);refine K3 (fun e1=>wpS_pure (.inl (MR.mk sm2 (P.doneB m3 e1)))) fun e1=>?_;have p3:=(p2.putB m3 e1).mono (DE _);exact Q3 (fun _=>wpS_pure (.inr (LoI2.mk sm2 p3))) fun _=>wpS_pure (LoI2.mk sm2 p3)
   .have m3:=P.pushA p2.m hai fun z hz=>le_trans (show le U ai bj from BO.mpr hlt) (Ek P.sb (ar_get.mp hbj) z hz);refine K3 (fun e1=>wpS_pure (.inl (MR.mk sm2 (P.lastA m3 e1)))) fun e1=>?_;have p3:=(p2.putA m3 e1).mono (DE _);exact Q3 (fun _=>wpS_pure (.inr (LoI2.mk sm2 p3))) fun _=>wpS_pure (LoI2.mk sm2 p3)
  case po1 =>
   rintro⟨c1,c2⟩ st2 (⟨sm2,r,e,hr⟩ | ⟨sm2,o2,i2,j2,ac,bc,e,p2⟩)
   .cases e;exact wpS_pure (MR.mk sm2 hr)
   .cases e;refine wpS_bind (wpS_lift (EX ⟨rfl,?_⟩));refine wpS_bind (wpS_mono (wpS_forRange (I:=fun x3=>LoI3 U a b st (x+1+x3)) (Q:=fun c st'=>MR U a b st c st'\/LoI3 U a b st (x+1+1) c st') ?st2 ?en2 (LoI3.mk sm2 p2)) ?po2)
    case en2 =>
     rintro c st3 ⟨sm3,o',i',j',mg',ac,bc,rfl,p3⟩;refine .inr (LoI3.mk sm3 (p3.mono ?_));have:=P.na;lia
    case po2 =>
     rintro⟨c1,c2⟩ st3 (⟨sm3,r,e,hr⟩ | ⟨sm3,o',i',j',mg',ac,bc,e,p3⟩)
     .cases e;exact wpS_pure (MR.mk sm3 hr)
     .cases e;refine wpS_bind (U5 sm3 fun st4 sm4=>?_);exact wpS_pure ⟨sm4,_,_,_,_,rfl,p3⟩
    case st2 =>
     rintro x3 c st3 _ _ ⟨sm3,o3,i3,j3,mg3,ac3,bc3,rfl,p3⟩;obtain⟨bj,hbj⟩:=W0 (a:=b) (i:=j3) p3.hj;have hi3:i3 +(a.size-i3)<=a.size:=by rw[Nat.add_sub_cancel' (E_ (GE p3.hi))];exact Nat.le_refl _
     have hj3:=p3.hj;apply Qh (mg3-1) (y:=mg3)
     case e=>exact rfl
     intro g;refine wpS_bind (U5 sm3 fun st4 sm4=>?_);refine wpS_bind (C9 hbj (wpS_bind (j8 C (sm4.knd hk) (P.kb _ _ hbj) hi3 P.ka (fun u v p q huv _ e1 e2=>o9 P.sa (FP huv _) (ar_get.mp e1) (ar_get.mp e2)) (Nat.sub_pos_of_lt (GE p3.hi)) fun k hk1 k1 k2=>?_)));have m4:ML U a.toList b.toList (o3++a.extract i3 (i3+k)).toList (i3+k) j3:=P.extA p3.m fun y hy z hz=>by
      obtain⟨t,ht,e⟩:=Cy hy;exact le_trans (Ej (k1 t y ht (ar_get.mpr e))) (Ek P.sb (ar_get.mp hbj) z hz)
     have hbz:∀z∈a.toList.drop (i3+k),le U bj z:=fun z hz=>by
      obtain⟨t,ht,e⟩:=Ji hz;rw[AS]at ht;exact KeyOrd.kle_of_klt (Ar (k2 (k+t) z (Nat.le_add_right _ _) (by lia) (by rw[<-Nat.add_assoc];exact ar_get.mpr e)))
     apply Em (o:=o3) (i:=i3) (fun o i=>LoP U a b (x+1+x3) o i j3/\∀z∈a.toList.drop i,le U bj z)
     .rintro o4 i4 ⟨p4,hbz⟩;refine wpS_bind (C9 hbj ?_);have m5:=P.pushB p4.m hbj hbz;refine K3 (fun e3=>wpS_pure (.inl (MR.mk sm4 (P.doneB m5 e3)))) fun e3=>?_;have p5:=p4.putB m5 e3;generalize o4.push bj=o5 at m5 p5⊢;generalize j3+1=j5 at m5 p5⊢;obtain⟨ai,hai⟩:=W0 (a:=a) (i:=i4) (GE p5.hi);refine wpS_bind (C9 hai (wpS_bind (j8 C (sm4.knd hk) (P.ka _ _ hai) (by rw[Nat.add_sub_cancel' (E_ p5.hj)];exact Nat.le_refl _) P.kb (fun u v p q huv _ e1 e2=>o9 P.sb (FP huv _) (ar_get.mp e1) (ar_get.mp e2)) (Nat.sub_pos_of_lt p5.hj) fun k' hk1' k1' k2'=>?_)));have haz:∀z∈b.toList.drop (j5+k'),le U ai z:=fun z hz=>by
       obtain⟨t,ht,e⟩:=Ji hz;rw[AS]at ht;exact Eb (k2' (k'+t) z (Nat.le_add_right _ _) (by lia) (by rw[<-Nat.add_assoc];exact ar_get.mpr e))
      apply Em (o:=o5) (i:=j5) (fun o j=>LoP U a b (x+1+x3+1) o i4 j/\∀z∈b.toList.drop j,le U ai z)
      .rintro o6 j6 ⟨p6,haz⟩;refine wpS_bind (C9 hai ?_);have m7:=P.pushA p6.m hai haz;refine K3 (fun e5=>wpS_pure (.inl (MR.mk sm4 (P.lastA m7 e5)))) fun e5=>?_;have p7:=p6.putA m7 e5;exact Q3 (fun _=>wpS_pure (.inr (LoI3.mk sm4 (p7.mono (by lia))))) fun _=>wpS_pure (LoI3.mk sm4 (p7.mono (by lia)))
      .intro hF hk0;have m6:ML U a.toList b.toList (o5++b.extract j5 (j5+k')).toList i4 (j5+k'):=P.extB m5 fun y hy z hz=>by
        obtain⟨t,ht,e⟩:=Cy hy;exact le_trans (KeyOrd.kle_of_klt (Ig (k1' t y ht (ar_get.mpr e)))) (Ek P.sa (ar_get.mp hai) z hz)
       have hj5:=p5.hj;exact K3 (fun e4=>wpS_pure (.inl (MR.mk sm4 (P.doneB m6 e4)))) fun e4=>hF _ _ ⟨⟨m6,p5.hi,by lia,Nat.le_trans p5.hn (by lia)⟩,haz⟩
      .intro hk0;have z0:k'=0:=FX hk0;subst z0;exact⟨p5,haz⟩
     .intro hF hk0;have hi:=p3.hi;exact K3 (fun e1=>wpS_pure (.inl (MR.mk sm4 (P.lastA m4 e1)))) fun e1=>K3 (fun e2=>wpS_pure (.inl (MR.mk sm4 (P.doneA m4 e2)))) fun e2=>hF _ _ ⟨⟨m4,by lia,p3.hj,Nat.le_trans p3.hn (by lia)⟩,hbz⟩
     .intro hk0;have z0:k=0:=FX hk0;subst z0;exact⟨p3,hbz⟩
end
section
variable{prog:Program}{w:World}{A:Around}{E:Value->Shared->Prop}{s:Shared}{U:KeyKind}{kd:SortKind}
def Eo:Array Keyed->Array Keyed->StateT SortSt Sem (Array Keyed):=sortPriv% PySem.Builtin.mergeHi
theorem Ja(a b:Array Keyed):Eo a b =(do
  rule "list.sort.merge-hi"
  let tot:=a.size+b.size
  let dn (o:Array Keyed) (i j:Nat):=a.extract 0 i++b.extract 0 j++o.reverse
  let fB (o:Array Keyed) (i j:Nat):=b.extract 0 j++a.extract 0 i++o.reverse
  let mut i:=a.size-1
  let mut j:=b.size
  let mut o:Array Keyed:=#[<-elem' a i]
  if i == 0 then return dn o i j
  if j == 1 then return fB o i j
  let mut mg:=gallopOf (<-get)
  for _ in [0:tot] do
   let mut ac:=0
   let mut bc:=0
   for _ in [0:tot] do
    let some aw <-lt' (<-elem' b (j-1)) (<-elem' a (i-1)) | return dn o i j
    if aw then
     i:=i-1;o:=o.push (<-elem' a i);ac:=ac+1;bc:=0
     if i == 0 then return dn o i j
     if ac ≥ mg then break
    else
     j:=j-1;o:=o.push (<-elem' b j);bc:=bc+1;ac:=0
     if j == 1 then return fB o i j
     if bc ≥ mg then break
   rule "list.sort.gallop"
   mg:=mg+1
   for _ in [0:tot] do
    if mg>1 then mg:=mg-1
    Ae mg
    let some at_ <-R8 false (<-elem' b (j-1)) a 0 i (i-1) | return dn o i j
    let k:=i-at_
    ac:=k
    if k>0 then
     o:=o ++(a.extract at_ i).reverse;i:=at_
     if i == 0 then return dn o i j
    j:=j-1;o:=o.push (<-elem' b j)
    if j == 1 then return fB o i j
    let some at_ <-R8 true (<-elem' a (i-1)) b 0 j (j-1) | return dn o i j
    let k:=j-at_
    bc:=k
    if k>0 then
     o:=o ++(b.extract at_ j).reverse;j:=at_
     if j == 1 then return fB o i j
     if j == 0 then return dn o i j
    i:=i-1;o:=o.push (<-elem' a i)
    if i == 0 then return dn o i j
    if ac<7&&bc<7 then break
   mg:=mg+1
   Ae mg
  unsupported "internal:list.sort.merge-bound"):=rfl
abbrev MHa(U:KeyKind)(a b o:Array Keyed)(i j:Nat):Prop:=MH U a.toList b.toList o.toList.reverse i j
section
variable{a b o:Array Keyed}{i j k:Nat}{p q:Keyed}
theorem td1{l:List Keyed}{i:Nat}{p:Keyed}(hi:1<=i)(h:l[i-1]?=some p):(l.take i).drop (i-1) = [p]:=by
 rw[GG,show i-(i-1)=1 by lia];exact Qq h
theorem Jc(a:Array Keyed)(k i:Nat):(a.extract k i).toList =(a.toList.take i).drop k:=by
 rw[EU,EJ,GG]
theorem Dc{l:List Keyed}(h:Sor U l){i:Nat}{p:Keyed}(hp:l[i-1]?=some p):∀z∈l.take i,le U z p:=fun z hz=>by
 obtain⟨t,h1,_,e⟩:=Nu hz;exact o9 h (by lia) e hp
theorem Pre.hpA(P:Pre U a b)(m:MHa U a b o i j)(hi:1<=i)(hp:a[i-1]?=some p)(h:∀z∈b.toList.take j,le U z p):MHa U a b (o.push p) (i-1) j:=by
 have h1:=m.addA P.sa (i-1) (by lia) (by rw[td1 hi (ar_get.mp hp)];intro y hy;rw[AF.mp hy];exact h);rw[td1 hi (ar_get.mp hp)]at h1;unfold MHa;rw[DL,GS];exact h1
theorem Pre.hpB(P:Pre U a b)(m:MHa U a b o i j)(hj:1<=j)(hq:b[j-1]?=some q)(h:∀z∈a.toList.take i,le U z q):MHa U a b (o.push q) i (j-1):=by
 have h1:=m.addB P.sb (j-1) (by lia) (by rw[td1 hj (ar_get.mp hq)];intro y hy;rw[AF.mp hy];exact h);rw[td1 hj (ar_get.mp hq)]at h1;unfold MHa;rw[DL,GS];exact h1
theorem Pre.heA(P:Pre U a b)(m:MHa U a b o i j)(hk:k<=i)(h:∀y∈(a.toList.take i).drop k,∀z∈b.toList.take j,le U z y):MHa U a b (o ++(a.extract k i).reverse) k j:=by
 unfold MHa;rw[BV,FJ,GS,List.reverse_reverse,Jc];exact m.addA P.sa k hk h
theorem Pre.heB(P:Pre U a b)(m:MHa U a b o i j)(hk:k<=j)(h:∀y∈(b.toList.take j).drop k,∀z∈a.toList.take i,le U z y):MHa U a b (o ++(b.extract k j).reverse) i k:=by
 unfold MHa;rw[BV,FJ,GS,List.reverse_reverse,Jc];exact m.addB P.sb k hk h
theorem Pre.hdA(P:Pre U a b)(m:MHa U a b o i j)(hi:i=0):Rm U a b (a.extract 0 i++b.extract 0 j++o.reverse):=by
 unfold Rm;rw[BV,BV,FJ,g7,g7];refine m.endA P.sa P.sb fun y hy z _=>?_;rw[hi,List.take_zero]at hy;exact absurd hy (by simp)
theorem Pre.hdB(P:Pre U a b)(m:MHa U a b o i j)(hj:j=0):Rm U a b (a.extract 0 i++b.extract 0 j++o.reverse):=by
 unfold Rm;rw[BV,BV,FJ,g7,g7];refine m.endA P.sa P.sb fun y _ z hz=>?_;rw[hj,List.take_zero]at hz;exact absurd hz (by simp)
theorem Pre.hfB(P:Pre U a b)(m:MHa U a b o i j)(hj:j=1):Rm U a b (b.extract 0 j++a.extract 0 i++o.reverse):=by
 unfold Rm;rw[BV,BV,FJ,g7,g7];refine m.endB P.sa P.sb fun y hy z hz=>?_;obtain⟨t,h1,_,e⟩:=Nu hy;have e0:t=0:=by lia
 rw[e0]at e;exact P.first y (ar_get.mpr e) z (CB hz)
end
structure HiP(U:KeyKind)(a b:Array Keyed)(n:Nat)(o:Array Keyed)(i j:Nat):Prop where
 m:MHa U a b o i j
 hi:1<=i
 hj:2<=j
 ia:i<=a.size
 jb:j<=b.size
 hn:n+i+j<=a.size+b.size
theorem HiP.putA{a b o o':Array Keyed}{n i j:Nat}(h:HiP U a b n o i j)(m:MHa U a b o' (i-1) j)(e:i-1≠0):HiP U a b (n+1) o' (i-1) j:=by
 obtain⟨_,h1,h2,h3,h4,h5⟩:=h;exact⟨m,by lia,h2,by lia,h4,by lia⟩
theorem HiP.putB{a b o o':Array Keyed}{n i j:Nat}(h:HiP U a b n o i j)(m:MHa U a b o' i (j-1))(e:j-1≠1):HiP U a b (n+1) o' i (j-1):=by
 obtain⟨_,h1,h2,h3,h4,h5⟩:=h;exact⟨m,h1,by lia,h3,by lia,by lia⟩
theorem HiP.mono{a b o:Array Keyed}{n n' i j:Nat}(h:HiP U a b n o i j)(l:n'<=n):HiP U a b n' o i j:=⟨h.m,h.hi,h.hj,h.ia,h.jb,Nat.le_trans (Nat.add_le_add_right (Nat.add_le_add_right l _) _) h.hn⟩
theorem HiP.la{a b o:Array Keyed}{n i j:Nat}(h:HiP U a b n o i j):i-1<a.size:=BJ (Nat.sub_lt h.hi (HE)) h.ia
theorem HiP.lb{a b o:Array Keyed}{n i j:Nat}(h:HiP U a b n o i j):j-1<b.size:=BJ (Nat.sub_lt (GE h.hj) (HE)) h.jb
theorem HiP.hj1{a b o:Array Keyed}{n i j:Nat}(h:HiP U a b n o i j):1<=j:=EF h.hj
def zIc(U:KeyKind)(a b:Array Keyed)(st:SortSt)(n:Nat)(c:Option (Array Keyed)×Nat×Nat×Array Keyed×Nat)(st':SortSt):Prop:=Sm st st'/\∃i j o mg,c =(none,i,j,o,mg)/\HiP U a b n o i j
def HiI2(U:KeyKind)(a b:Array Keyed)(st:SortSt)(n:Nat)(c:Option (Array Keyed)×Nat×Nat×Array Keyed×Nat×Nat)(st':SortSt):Prop:=Sm st st'/\∃i j o ac bc,c =(none,i,j,o,ac,bc)/\HiP U a b n o i j
def HiI3(U:KeyKind)(a b:Array Keyed)(st:SortSt)(n:Nat)(c:Option (Array Keyed)×Nat×Nat×Array Keyed×Nat×Nat×Nat)(st':SortSt):Prop:=Sm st st'/\∃i j o mg ac bc,c =(none,i,j,o,mg,ac,bc)/\HiP U a b n o i j
theorem HiI2.mk{a b o:Array Keyed}{st st':SortSt}{n i j ac bc:Nat}(sm:Sm st st')(h:HiP U a b n o i j):HiI2 U a b st n (none,i,j,o,ac,bc) st':=⟨sm,_,_,_,_,_,rfl,h⟩
theorem HiI3.mk{a b o:Array Keyed}{st st':SortSt}{n i j mg ac bc:Nat}(sm:Sm st st')(h:HiP U a b n o i j):HiI3 U a b st n (none,i,j,o,mg,ac,bc) st':=⟨sm,_,_,_,_,_,_,rfl,h⟩
theorem Ip(C:Cmp prog w A s U kd){st:SortSt}{a b:Array Keyed}{Q:Array Keyed->SortSt->Prop}(hk:kindOf st=kd)(P:Pre U a b)
  (h:∀r st',Sm st st'->Rm U a b r->Q r st'):wpS (model prog w) A E s (Eo a b) Q st:=by
 rw[Ja];have hna:=P.na;have hnb:=P.nb;obtain⟨b0,hb0⟩:=W0 (a:=a) (i:=a.size-1) (Nat.sub_lt hna HE);have m0:MHa U a b (#[]:Array Keyed) a.size b.size:=⟨by simp,List.Pairwise.nil,fun x hx=>absurd hx (by simp),fun x hx=>absurd hx (by simp)⟩;have m1:MHa U a b (#[b0]:Array Keyed) (a.size-1) b.size:=by
  have:=P.hpA m0 hna hb0 (fun z hz=>P.last b0 hb0 z (CB hz));simpa using this
 apply Sb (x0:=b0) (fun R z=>wpS_lift (EX ⟨rfl,z⟩)) (fun R z=>C9 hb0 z)
 case h1=>exact fun ha1=>wpS_pure (h _ _ (Sm.refl _) (P.hdA m1 (eq_of_beq ha1)))
 case h2=>exact fun _ hb1=>wpS_pure (h _ _ (Sm.refl _) (P.hfB m1 (eq_of_beq hb1)))
 intro ha1 hb1;have ha1:¬a.size-1=0:=fun z=>ha1 (beq_iff_eq.mpr z);have hb1:¬b.size=1:=fun z=>hb1 (beq_iff_eq.mpr z);have p1:HiP U a b 1 #[b0] (a.size-1) b.size:=⟨m1,by lia,by lia,by lia,by lia,by lia⟩;refine wpS_mono (wpS_forRange (I:=fun x=>zIc U a b st (x+1)) (Q:=MR U a b st) ?st ?en ⟨Sm.refl _,_,_,_,_,rfl,p1⟩) ?po
 case po =>
  rintro⟨c1,c2⟩ st' ⟨sm,r,e,hr⟩;cases e;exact wpS_pure (h r st' sm hr)
 case en =>
  rintro c st' ⟨sm,i,j,o,mg,rfl,p⟩;obtain⟨_,h1,h2,_,_,h3⟩:=p;exfalso;lia
 case st =>
  rintro x c st' _ hx ⟨sm,i,j,o,mg,rfl,p⟩;refine wpS_bind (wpS_mono (wpS_forRange (I:=fun _=>HiI2 U a b st (x+1)) (Q:=fun c st'=>MR U a b st c st'\/HiI2 U a b st (x+1) c st') ?st1 ?en1 (HiI2.mk sm p)) ?po1)
  case en1=>exact fun c st2 z=>.inr z
  case st1 =>
   rintro x2 c st2 _ _ ⟨sm2,i',j',o,ac,bc,rfl,p2⟩;obtain⟨bj,hbj⟩:=W0 (a:=b) (i:=j' - 1) p2.lb;obtain⟨ai,hai⟩:=W0 (a:=a) (i:=i' - 1) p2.la;refine wpS_bind (C9 hbj (wpS_bind (C9 hai (wpS_bind (Gj C (sm2.knd hk) (P.kb _ _ hbj) (P.ka _ _ hai) ?_)))));refine Q3 (fun hlt=>wpS_bind (C9 hai ?_)) fun hlt=>wpS_bind (C9 hbj ?_)
   .have m3:=P.hpA p2.m p2.hi hai fun z hz=>le_trans (Dc P.sb (ar_get.mp hbj) z hz) (KeyOrd.kle_of_klt hlt);refine K3 (fun e1=>wpS_pure (.inl (MR.mk sm2 (P.hdA m3 e1)))) fun e1=>?_;have p3:=(p2.putA m3 e1).mono (DE _);exact Q3 (fun _=>wpS_pure (.inr (HiI2.mk sm2 p3))) fun _=>wpS_pure (HiI2.mk sm2 p3)
   .have m3:=P.hpB p2.m p2.hj1 hbj fun z hz=>le_trans (Dc P.sa (ar_get.mp hai) z hz) (show le U ai bj from BO.mpr hlt);refine K3 (fun e1=>wpS_pure (.inl (MR.mk sm2 (P.hfB m3 e1)))) fun e1=>?_;have p3:=(p2.putB m3 e1).mono (DE _);exact Q3 (fun _=>wpS_pure (.inr (HiI2.mk sm2 p3))) fun _=>wpS_pure (HiI2.mk sm2 p3)
  case po1 =>
   rintro⟨c1,c2⟩ st2 (⟨sm2,r,e,hr⟩ | ⟨sm2,i2,j2,o2,ac,bc,e,p2⟩)
   .cases e;exact wpS_pure (MR.mk sm2 hr)
   .cases e;refine wpS_bind (wpS_lift (EX ⟨rfl,?_⟩));refine wpS_bind (wpS_mono (wpS_forRange (I:=fun x3=>HiI3 U a b st (x+1+x3)) (Q:=fun c st'=>MR U a b st c st'\/HiI3 U a b st (x+1+1) c st') ?st2 ?en2 (HiI3.mk sm2 p2)) ?po2)
    case en2 =>
     rintro c st3 ⟨sm3,i',j',o',mg',ac,bc,rfl,p3⟩;exact .inr (HiI3.mk sm3 (p3.mono (by lia)))
    case po2 =>
     rintro⟨c1,c2⟩ st3 (⟨sm3,r,e,hr⟩ | ⟨sm3,i',j',o',mg',ac,bc,e,p3⟩)
     .cases e;exact wpS_pure (MR.mk sm3 hr)
     .cases e;refine wpS_bind (U5 sm3 fun st4 sm4=>?_);exact wpS_pure ⟨sm4,_,_,_,_,rfl,p3⟩
    case st2 =>
     rintro x3 c st3 _ _ ⟨sm3,i3,j3,o3,mg3,ac3,bc3,rfl,p3⟩;obtain⟨bj,hbj⟩:=W0 (a:=b) (i:=j3-1) p3.lb;apply Qh (mg3-1) (y:=mg3)
     case e=>exact rfl
     intro g;refine wpS_bind (U5 sm3 fun st4 sm4=>?_);refine wpS_bind (C9 hbj (wpS_bind (j8 C (sm4.knd hk) (P.kb _ _ hbj) (by rw[D_];exact p3.ia) P.ka (fun u v p q huv _ e1 e2=>o9 P.sa (FP huv _) (ar_get.mp e1) (ar_get.mp e2)) (Nat.sub_lt p3.hi HE) fun k hk1 k1 k2=>?_)));dsimp only;have m4:MHa U a b (o3 ++(a.extract k i3).reverse) k j3:=P.heA p3.m hk1 fun y hy z hz=>by
      obtain⟨t,ht1,ht2,e⟩:=Yt hy;exact le_trans (Dc P.sb (ar_get.mp hbj) z hz) (KeyOrd.kle_of_klt (Ar (k2 t y ht1 ht2 (by rw[D_];exact ar_get.mpr e))))
     have hbz:∀z∈a.toList.take k,le U z bj:=fun z hz=>by
      obtain⟨t,ht,_,e⟩:=Nu hz;exact Ej (k1 t z ht (by rw[D_];exact ar_get.mpr e))
     generalize hd:i3-k=d;apply Em (o:=o3) (i:=i3) (fun o i=>HiP U a b (x+1+x3) o i j3/\∀z∈a.toList.take i,le U z bj)
     .rintro o4 i4 ⟨p4,hbz⟩;refine wpS_bind (C9 hbj ?_);have m5:=P.hpB p4.m p4.hj1 hbj hbz;refine K3 (fun e3=>wpS_pure (.inl (MR.mk sm4 (P.hfB m5 e3)))) fun e3=>?_;have p5:=p4.putB m5 e3;generalize o4.push bj=o5 at m5 p5⊢;generalize j3-1=j5 at m5 p5⊢;obtain⟨ai,hai⟩:=W0 (a:=a) (i:=i4-1) p5.la;refine wpS_bind (C9 hai (wpS_bind (j8 C (sm4.knd hk) (P.ka _ _ hai) (by rw[D_];exact p5.jb) P.kb (fun u v p q huv _ e1 e2=>o9 P.sb (FP huv _) (ar_get.mp e1) (ar_get.mp e2)) (Nat.sub_lt p5.hj1 HE) fun k' hk1' k1' k2'=>?_)));dsimp only;have haz:∀z∈b.toList.take k',le U z ai:=fun z hz=>by
       obtain⟨t,ht,_,e⟩:=Nu hz;exact KeyOrd.kle_of_klt (Ig (k1' t z ht (by rw[D_];exact ar_get.mpr e)))
      generalize hd':j5-k'=d';apply Em (o:=o5) (i:=j5) (fun o j=>HiP U a b (x+1+x3+1) o i4 j/\∀z∈b.toList.take j,le U z ai)
      .rintro o6 j6 ⟨p6,haz⟩;refine wpS_bind (C9 hai ?_);have m7:=P.hpA p6.m p6.hi hai haz;refine K3 (fun e5=>wpS_pure (.inl (MR.mk sm4 (P.hdA m7 e5)))) fun e5=>?_;have p7:=p6.putA m7 e5;exact Q3 (fun _=>wpS_pure (.inr (HiI3.mk sm4 (p7.mono (by lia))))) fun _=>wpS_pure (HiI3.mk sm4 (p7.mono (by lia)))
      .intro hF hk0;have m6:MHa U a b (o5 ++(b.extract k' j5).reverse) i4 k':=P.heB m5 hk1' fun y hy z hz=>by
        obtain⟨t,ht1,ht2,e⟩:=Yt hy;exact le_trans (Dc P.sa (ar_get.mp hai) z hz) (Eb (k2' t y ht1 ht2 (by rw[D_];exact ar_get.mpr e)))
       obtain⟨_,h1,h2,h3,h4,h5⟩:=p5;exact K3 (fun e4=>wpS_pure (.inl (MR.mk sm4 (P.hfB m6 e4)))) fun e4=>K3 (fun e5=>wpS_pure (.inl (MR.mk sm4 (P.hdB m6 e5)))) fun e5=>hF _ _ ⟨⟨m6,h1,by lia,h3,Nat.le_trans hk1' h4,by lia⟩,haz⟩
      .intro hk0;have z0:k'=j5:=Nat.le_antisymm hk1' (Nat.le_of_sub_eq_zero (hd'.trans (FX hk0)));subst z0;exact⟨p5,haz⟩
     .intro hF hk0;obtain⟨_,h1,h2,h3,h4,h5⟩:=p3;exact K3 (fun e1=>wpS_pure (.inl (MR.mk sm4 (P.hdA m4 e1)))) fun e1=>hF _ _ ⟨⟨m4,by lia,h2,Nat.le_trans hk1 h3,h4,by lia⟩,hbz⟩
     .intro hk0;have z0:k=i3:=Nat.le_antisymm hk1 (Nat.le_of_sub_eq_zero (hd.trans (FX hk0)));subst z0;exact⟨p3,hbz⟩
end
section
variable{prog:Program}{w:World}{A:Around}{E:Value->Shared->Prop}{s:Shared}{U:KeyKind}{kd:SortKind}
def seg(l:List Keyed)(lo n:Nat):List Keyed:=(l.drop lo).take n
theorem Rs(m:List Keyed)(lo:Nat):∀(n:Nat) (a:Array Keyed),lo+n+m.length<=a.size ->
  ((m.zipIdx n).foldl (fun a (x:Keyed×Nat)=>a.setIfInBounds (lo+x.2) x.1) a).size=a.size /\
  ∀t:Nat,((m.zipIdx n).foldl (fun a (x:Keyed×Nat)=>a.setIfInBounds (lo+x.2) x.1) a)[t]?=if lo+n<=t/\t<lo+n+m.length then m[t-(lo+n)]? else a[t]?:=by
 induction m with
 | nil =>
  intro n a h;refine⟨rfl,fun t=>?_⟩;rw[AM (by simp only[GA];omega)];rfl
 | cons p m ih =>
  intro n a h;rw[BR]at h;rw[List.zipIdx_cons,List.foldl_cons];obtain⟨i1,i2⟩:=ih (n+1) (a.setIfInBounds (lo+n) p) (by rw[GV];omega);refine⟨i1.trans GV,fun t=>?_⟩;rw[i2 t,BR];by_cases h1:lo+n=t
  .subst h1;rw[AM (by omega),AR (by omega),Array.getElem?_setIfInBounds_self_of_lt (by omega),Nat.sub_self];rfl
  .by_cases h2:lo +(n+1)<=t/\t<lo +(n+1)+m.length
   .rw[AR h2,AR (by omega),show t-(lo+n) =(t-(lo +(n+1)))+1 by omega,List.getElem?_cons_succ]
   .rw[AM h2,AM (by omega),Array.getElem?_setIfInBounds_ne h1]
theorem Bq(m:List Keyed)(lo:Nat)(a:Array Keyed)(h:lo+m.length<=a.size) :
  (m.zipIdx.foldl (fun a (x:Keyed×Nat)=>a.setIfInBounds (lo+x.2) x.1) a).toList=a.toList.take lo++m++a.toList.drop (lo+m.length):=by
 obtain⟨h1,h2⟩:=Rs m lo 0 a (by omega);refine FK fun t=>?_;rw[BQ,h2 t];have hl:(a.toList.take lo).length=lo:=by rw[AN,AS];omega
 by_cases c1:t<lo
 .rw[AM (by omega),BI,GR (by omega),DP c1,BQ]
 .by_cases c2:t<lo+m.length
  .rw[AR (by omega),GR (by rw[BB];omega),GH (by omega),hl];rfl
  .rw[AM (by omega),GH (by rw[BB];omega),BB,hl,FY,BQ];congr 1;omega
theorem Tm(l:List Keyed)(lo n:Nat):l=l.take lo++seg l lo n++l.drop (lo+n):=by
 unfold seg;rw[BI,<-FA,BX,BX]
theorem Jo(l:List Keyed)(lo n m:Nat):seg l lo (n+m)=seg l lo n++seg l (lo+n) m:=by
 unfold seg;rw[List.take_add,FA]
structure Part(U:KeyKind)(l l':List Keyed)(lo n:Nat):Prop where
 perm:l'.Perm l
 front:l'.take lo=l.take lo
 back:l'.drop (lo+n)=l.drop (lo+n)
theorem Part.refl(l:List Keyed)(lo n:Nat):Part U l l lo n:=⟨FS _,rfl,rfl⟩
theorem Part.seg_front{l l':List Keyed}{lo n:Nat}(h:Part U l l' lo n){u m:Nat}(hu:u+m<=lo):seg l' u m=seg l u m:=by
 have:∀x:List Keyed,seg x u m =((x.take lo).drop u).take m:=fun x=>by
  unfold seg;rw[GG,HK,HD (by omega)]
 rw[this,this,h.front]
theorem Part.seg_back{l l':List Keyed}{lo n:Nat}(h:Part U l l' lo n){u m:Nat}(hu:lo+n<=u):seg l' u m=seg l u m:=by
 have:∀x:List Keyed,seg x u m =((x.drop (lo+n)).drop (u-(lo+n))).take m:=fun x=>by
  unfold seg;rw[FA,show lo+n +(u-(lo+n))=u by omega]
 rw[this,this,h.back]
theorem Part.of{l z:List Keyed}{lo n:Nat}(hz:z.Perm (seg l lo n))(hl:lo+n<=l.length):Part U l (l.take lo++z++l.drop (lo+n)) lo n/\seg (l.take lo++z++l.drop (lo+n)) lo n=z:=by
 have h1:(l.take lo).length=lo:=by rw[AN];omega
 have h2:z.length=n:=by
  rw[hz.length_eq];unfold seg;rw[AN,DH];omega
 refine⟨⟨?_,?_,?_⟩,?_⟩
 .conv=>rhs;rw[Tm l lo n]
  exact DV _ (DA _ hz)
 .rw[BI,List.take_append_of_le_length (by omega),CI (by omega)]
 .rw[List.drop_append,EZ (by rw[BB];omega),List.nil_append,BB,h1,h2,Nat.sub_self,ET]
 .unfold seg;rw[BI,List.drop_append,EZ (by omega),List.nil_append,h1,Nat.sub_self,ET,List.take_append_of_le_length (by omega),CI (by omega)]
structure St(U:KeyKind)(kd:SortKind)(a₀:Array Keyed)(st:SortSt):Prop where
 perm:(arrOf st).toList.Perm a₀.toList
 kind:kindOf st=kd
 failed:failedOf st=none
theorem St.size{a₀:Array Keyed}{st:SortSt}(h:St U kd a₀ st):(arrOf st).size=a₀.size:=by
 have:=h.perm.length_eq;simpa using this
theorem St.has{a₀:Array Keyed}{st:SortSt}(h:St U kd a₀ st)(h0:KeysOf U a₀)(i:Nat)(p:Keyed)(e:(arrOf st)[i]?=some p):Has U p :=
 h0 p (h.perm.mem_iff.mp (AV (ar_get.mp e)))
theorem K9{l:List Keyed}{lo n t:Nat}(ht:t<n):(seg l lo n)[t]?=l[lo+t]?:=by
 unfold seg;rw[DP ht,FY]
theorem Kj(i:Nat):mergeAt' i =(do
  let u <-get
  let(some (sa,na,pw),some (sb,nb,_)):=((pendingOf u)[i]?,(pendingOf u)[i+1]?) | unsupported "internal:list.sort.pending"
  set (setPending u (((pendingOf u).setIfInBounds i (sa,na+nb,pw)).eraseIdxIfInBounds (i+1)))
  let some k <-R8 false (<-elem' (arrOf u) sb) (arrOf u) sa na 0 | return false
  let(sa,na):=(sa+k,na-k)
  if na == 0 then return true
  let some nb <-R8 true (<-elem' (arrOf u) (sa+na-1)) (arrOf u) sb nb (nb-1) | return false
  if nb == 0 then return true
  let x:=(arrOf u).extract sa sb
  let y:=(arrOf u).extract sb (sb+nb)
  let mm <-if na<=nb then Do x y else Eo x y
  modify fun v=>setArr v (mm.toList.zipIdx.foldl (fun a (z:Keyed×Nat)=>a.setIfInBounds (sa+z.2) z.1) (arrOf v))
  return(failedOf (<-get)).isNone):=rfl
theorem Zu{st st2:SortSt}{Q:PUnit->SortSt->Prop}(h:Q ⟨⟩ st2):wpS (model prog w) A E s (set st2:StateT SortSt Sem PUnit) Q st:=by
 unfold wpS;rw[StateT.run_set];exact AD ⟨rfl,h⟩
theorem Ik(C:Cmp prog w A s U kd){a₀:Array Keyed}(h0:KeysOf U a₀){st:SortSt}{i sa na pw sb nb pw2:Nat}{Q:Bool->SortSt->Prop}(hS:St U kd a₀ st)
  (hi:(pendingOf st)[i]?=some (sa,na,pw)) (hj:(pendingOf st)[i+1]?=some (sb,nb,pw2)) (hsb:sb=sa+na) (hsz:sb+nb<=a₀.size) (hna:1<=na) (hnb:1<=nb)
  (sx:Sor U (seg (arrOf st).toList sa na)) (sy:Sor U (seg (arrOf st).toList sb nb))
  (h:∀st',St U kd a₀ st'->Part U (arrOf st).toList (arrOf st').toList sa (na+nb)->Sor U (seg (arrOf st').toList sa (na+nb)) ->
   pendingOf st' =((pendingOf st).setIfInBounds i (sa,na+nb,pw)).eraseIdxIfInBounds (i+1)->Q true st'):wpS (model prog w) A E s (mergeAt' i) Q st:=by
 subst hsb;have hL:(arrOf st).toList.length=a₀.size:=by rw[AS];exact hS.size
 have hsz':=hS.size;rw[Kj];refine wpS_bind (wpS_get ?_);rw[hi,hj];dsimp only;refine wpS_bind (Zu ?_);obtain⟨b0,hb0⟩:=W0 (a:=arrOf st) (i:=sa+na) (by omega);have sxl:∀u v p q,u<=v->v<na->(arrOf st)[sa+u]?=some p->(arrOf st)[sa+v]?=some q->le U p q:=fun u v p q huv hv e1 e2 =>
  o9 sx huv (by rw[K9 (by omega)];exact ar_get.mp e1) (by rw[K9 hv];exact ar_get.mp e2)
 have syl:∀u v p q,u<=v->v<nb->(arrOf st)[sa+na+u]?=some p->(arrOf st)[sa+na+v]?=some q->le U p q:=fun u v p q huv hv e1 e2 =>
  o9 sy huv (by rw[K9 (by omega)];exact ar_get.mp e1) (by rw[K9 hv];exact ar_get.mp e2)
 refine wpS_bind (C9 hb0 (wpS_bind (j8 C hS.kind (hS.has h0 _ _ hb0) (by omega) (hS.has h0) sxl (by omega) fun k hk1 k1 k2=>?_)));dsimp only;have b0y:∀z∈seg (arrOf st).toList (sa+na) nb,le U b0 z:=fun z hz=>by
  obtain⟨t,ht,e⟩:=Cy hz;exact syl 0 t b0 z (by omega) ht hb0 (ar_get.mpr e)
 have xk:∀x∈(seg (arrOf st).toList sa na).take k,le U x b0:=fun x hx=>by
  obtain⟨t,ht,ht2,e⟩:=Nu hx;unfold seg at ht2;rw[AN]at ht2;rw[K9 (by omega)]at e;exact Ej (k1 t x ht (ar_get.mpr e))
 have kx:∀x∈(seg (arrOf st).toList sa na).drop k,le U b0 x:=fun x hx=>by
  obtain⟨t,ht,e⟩:=Ji hx;unfold seg at ht;rw[AN]at ht;rw[K9 (by omega)]at e;exact KeyOrd.kle_of_klt (Ar (k2 (k+t) x (by omega) (by omega) (ar_get.mpr e)))
 have S1:St U kd a₀ (setPending st (((pendingOf st).setIfInBounds i (sa,na+nb,pw)).eraseIdxIfInBounds (i+1))):=⟨hS.perm,hS.kind,hS.failed⟩;by_cases hk0:na-k=0
 .rw[AR (by simpa using hk0)];have hkk:k=na:=by omega
  refine wpS_pure (h _ S1 (Part.refl _ _ _) ?_ rfl);show Sor U (seg (arrOf st).toList sa (na+nb));rw[Jo];refine CJ.mpr ⟨sx,sy,fun x hx y hy=>le_trans (xk x ?_) (b0y y hy)⟩;rw[CI (by unfold seg;rw[AN];omega)];exact hx
 rw[AM (by simpa using hk0)];obtain⟨al,hal⟩:=W0 (a:=arrOf st) (i:=sa+k +(na-k)-1) (by omega);refine wpS_bind (C9 hal (wpS_bind (j8 C S1.kind (hS.has h0 _ _ hal) (by omega) (hS.has h0) syl (by omega) fun k' hk1' k1' k2'=>?_)));dsimp only;have hal':(arrOf st)[sa +(na-1)]?=some al:=by rw[show sa +(na-1)=sa+k +(na-k)-1 by omega];exact hal
 have xal:∀x∈seg (arrOf st).toList sa na,le U x al:=fun x hx=>by
  obtain⟨t,ht,e⟩:=Cy hx;exact sxl t (na-1) x al (by omega) (by omega) (ar_get.mpr e) hal'
 have yk:∀y∈(seg (arrOf st).toList (sa+na) nb).take k',le U y al:=fun y hy=>by
  obtain⟨t,ht,ht2,e⟩:=Nu hy;unfold seg at ht2;rw[AN]at ht2;rw[K9 (by omega)]at e;exact KeyOrd.kle_of_klt (Ig (k1' t y ht (ar_get.mpr e)))
 have ky:∀y∈(seg (arrOf st).toList (sa+na) nb).drop k',le U al y:=fun y hy=>by
  obtain⟨t,ht,e⟩:=Ji hy;unfold seg at ht;rw[AN]at ht;rw[K9 (by omega)]at e;exact Eb (k2' (k'+t) y (by omega) (by omega) (ar_get.mpr e))
 by_cases hk0':k'=0
 .rw[AR (by simpa using hk0')];refine wpS_pure (h _ S1 (Part.refl _ _ _) ?_ rfl);show Sor U (seg (arrOf st).toList sa (na+nb));rw[Jo];refine CJ.mpr ⟨sx,sy,fun x hx y hy=>le_trans (xal x hx) (ky y ?_)⟩;rw[hk0',ET];exact hy
 rw[AM (by simpa using hk0')];have ex:((arrOf st).extract (sa+k) (sa+na)).toList =(seg (arrOf st).toList sa na).drop k:=by
  rw[Jc];unfold seg;rw[GG,GG,FA];congr 1;omega
 have ey:((arrOf st).extract (sa+na) (sa+na+k')).toList =(seg (arrOf st).toList (sa+na) nb).take k':=by
  rw[Er];unfold seg;rw[HK,HD hk1']
 have P:Pre U ((arrOf st).extract (sa+k) (sa+na)) ((arrOf st).extract (sa+na) (sa+na+k')):=by
  refine⟨by rw[ex];exact sx.sublist (FH _ _),by rw[ey];exact sy.sublist (EE _ _),fun t p e=>?_,fun t p e=>?_,?_,?_,fun q e z hz=>?_,fun p e z hz=>?_⟩
  .have m:=AV (ar_get.mp e);rw[ex]at m;obtain⟨u,_,e2⟩:=Cy (ES m);exact hS.has h0 _ p (ar_get.mpr e2)
  .have m:=AV (ar_get.mp e);rw[ey]at m;obtain⟨u,_,e2⟩:=Cy (CB m);exact hS.has h0 _ p (ar_get.mpr e2)
  .rw[FZ];omega
  .rw[FZ];omega
  .have m:=ar_get.mp e;rw[ey,DP (by omega),K9 (by omega)]at m;have:q=b0:=by
    have:=ar_get.mp hb0;rw[Nat.add_zero,this]at m;exact(BH m).symm
   subst this;rw[ex]at hz;exact kx z hz
  .have m:=ar_get.mp e;rw[ex,FZ,FY,K9 (by omega)]at m;have:p=al:=by
    have q:=ar_get.mp hal';rw[show k +(min (sa+na) (arrOf st).size-(sa+k)-1)=na-1 by omega,q]at m;exact(BH m).symm
   subst this;rw[ey]at hz;exact yk z hz
 have fin:∀(r:Array Keyed) (st2:SortSt),Sm (setPending st (((pendingOf st).setIfInBounds i (sa,na+nb,pw)).eraseIdxIfInBounds (i+1))) st2->Rm U ((arrOf st).extract (sa+k) (sa+na)) ((arrOf st).extract (sa+na) (sa+na+k')) r ->
   Q (failedOf (setArr st2 (r.toList.zipIdx.foldl (fun a (z:Keyed×Nat)=>a.setIfInBounds (sa+k+z.2) z.1) (arrOf st2)))).isNone (setArr st2 (r.toList.zipIdx.foldl (fun a (z:Keyed×Nat)=>a.setIfInBounds (sa+k+z.2) z.1) (arrOf st2))):=by
  rintro r st2 ⟨q1,q2,q3,q4⟩ ⟨r1,r2⟩;rw[ex,ey]at r2;have hrl:r.toList.length =(na-k)+k':=by
   rw[r2.length_eq,BB];unfold seg;rw[DH,AN,AN,DH,AN,DH];omega
  have q2':arrOf st2=arrOf st:=q2;have ef:failedOf (setArr st2 (r.toList.zipIdx.foldl (fun a (z:Keyed×Nat)=>a.setIfInBounds (sa+k+z.2) z.1) (arrOf st2)))=none:=q4.trans hS.failed;rw[ef];have el:=Bq r.toList (sa+k) (arrOf st2) (by rw[q2'];omega);have eq:(r.toList.zipIdx.foldl (fun a (z:Keyed×Nat)=>a.setIfInBounds (sa+k+z.2) z.1) (arrOf st2)).toList =(arrOf st).toList.take sa ++((seg (arrOf st).toList sa na).take k++r.toList ++(seg (arrOf st).toList (sa+na) nb).drop k') ++(arrOf st).toList.drop (sa +(na+nb)):=by
   rw[el,q2',hrl];have e1:(arrOf st).toList.take (sa+k) =(arrOf st).toList.take sa ++(seg (arrOf st).toList sa na).take k:=by
    unfold seg;rw[List.take_add,HK,HD hk1]
   have e2:(arrOf st).toList.drop (sa+k +(na-k+k')) =(seg (arrOf st).toList (sa+na) nb).drop k' ++(arrOf st).toList.drop (sa +(na+nb)):=by
    unfold seg;rw[GG,FA,show sa+k +(na-k+k')=sa+na+k' by omega]
    conv=>lhs;rw[<-BX (nb-k') ((arrOf st).toList.drop (sa+na+k'))]
    rw[FA,show sa+na+k' +(nb-k')=sa +(na+nb) by omega]
   rw[e1,e2];simp only[BI]
  have hp:((seg (arrOf st).toList sa na).take k++r.toList ++(seg (arrOf st).toList (sa+na) nb).drop k').Perm (seg (arrOf st).toList sa (na+nb)):=by
   rw[Jo];have a1:((seg (arrOf st).toList sa na).take k++r.toList ++(seg (arrOf st).toList (sa+na) nb).drop k').Perm ((seg (arrOf st).toList sa na).take k ++((seg (arrOf st).toList sa na).drop k ++(seg (arrOf st).toList (sa+na) nb).take k') ++(seg (arrOf st).toList (sa+na) nb).drop k') :=
    DV _ (DA _ r2)
   refine a1.trans (List.Perm.of_eq ?_);rw[<-BI,BX,BI,BX]
  obtain⟨pa,ps⟩:=Part.of (U:=U) hp (by rw[hL];omega);have hs:Sor U ((seg (arrOf st).toList sa na).take k++r.toList ++(seg (arrOf st).toList (sa+na) nb).drop k'):=by
   refine CJ.mpr ⟨CJ.mpr ⟨sx.sublist (EE _ _),r1,fun x hx y hy=>?_⟩,sy.sublist (FH _ _),fun x hx y hy=>?_⟩
   .rcases AO.mp (r2.mem_iff.mp hy)with hy | hy
    .exact le_trans (xk x hx) (kx y hy)
    .exact le_trans (xk x hx) (b0y y (CB hy))
   .rcases AO.mp hx with hx | hx
    .exact le_trans (xal x (CB hx)) (ky y hy)
    .rcases AO.mp (r2.mem_iff.mp hx)with hx | hx
     .exact le_trans (xal x (ES hx)) (ky y hy)
     .exact le_trans (yk x hx) (ky y hy)
  refine h _ ⟨?_,q1.trans hS.kind,q4.trans hS.failed⟩ ?_ ?_ q3
  .show(r.toList.zipIdx.foldl (fun a (z:Keyed×Nat)=>a.setIfInBounds (sa+k+z.2) z.1) (arrOf st2)).toList.Perm a₀.toList;rw[eq];exact pa.perm.trans hS.perm
  .show Part U (arrOf st).toList (r.toList.zipIdx.foldl (fun a (z:Keyed×Nat)=>a.setIfInBounds (sa+k+z.2) z.1) (arrOf st2)).toList sa (na+nb);rw[eq];exact pa
  .show Sor U (seg (r.toList.zipIdx.foldl (fun a (z:Keyed×Nat)=>a.setIfInBounds (sa+k+z.2) z.1) (arrOf st2)).toList sa (na+nb));rw[eq,ps];exact hs
 by_cases hab:na-k<=k'
 .rw[AR hab];refine wpS_bind (Ii C S1.kind P fun r st2 q r1=>?_);exact wpS_bind (wpS_modify (wpS_bind (wpS_get (wpS_pure (fin r st2 q r1)))))
 .rw[AM hab];refine wpS_bind (Ip C S1.kind P fun r st2 q r1=>?_);exact wpS_bind (wpS_modify (wpS_bind (wpS_get (wpS_pure (fin r st2 q r1)))))
end
section
variable{prog:Program}{w:World}{A:Around}{E:Value->Shared->Prop}{s:Shared}{U:KeyKind}{kd:SortKind}{a₀:Array Keyed}
theorem Uo{xs:Array Keyed}{i:Nat}{p:Keyed}(h:xs[i]?=some p):KK U xs i=kk U p:=by unfold KK kk;rw[h]
def SI(U:KeyKind)(xs:Array Keyed)(lo m:Nat):Prop:=∀i j,i<=j->j<m->U.kle (KK U xs (lo+i)) (KK U xs (lo+j))
def NI(U:KeyKind)(xs:Array Keyed)(lo m:Nat):Prop:=∀i j,i<=j->j<m->U.kle (KK U xs (lo+j)) (KK U xs (lo+i))
theorem SI.sor{xs:Array Keyed}{lo m:Nat}(h:SI U xs lo m):Sor U (seg xs.toList lo m):=by
 refine List.pairwise_iff_getElem.mpr fun i j hi hj hij=>?_;unfold seg at hi hj;rw[AN]at hi hj;have e1:xs[lo+i]?=some (seg xs.toList lo m)[i]:=by
  rw[ar_get,<-K9 (n:=m) (by omega)];exact AH _
 have e2:xs[lo+j]?=some (seg xs.toList lo m)[j]:=by
  rw[ar_get,<-K9 (n:=m) (by omega)];exact AH _
 have:=h i j (by omega) (by omega);rw[Uo e1,Uo e2]at this;exact this
structure Lo(U:KeyKind)(kd:SortKind)(a₀:Array Keyed)(st0:SortSt)(lo n:Nat)(st:SortSt):Prop where
 S:St U kd a₀ st
 pend:pendingOf st=pendingOf st0
 out:∀t,t<lo\/lo+n<=t->(arrOf st)[t]? =(arrOf st0)[t]?
theorem Lo.part{st0 st:SortSt}{lo n:Nat}(h:Lo U kd a₀ st0 lo n st)(h0:St U kd a₀ st0):Part U (arrOf st0).toList (arrOf st).toList lo n:=by
 refine⟨h.S.perm.trans h0.perm.symm,FK fun t=>?_,FK fun t=>?_⟩
 .by_cases ht:t<lo
  .rw[DP ht,DP ht,BQ,BQ];exact h.out t (.inl ht)
  .rw[EK (by rw[AN];omega),EK (by rw[AN];omega)]
 .rw[FY,FY,BQ,BQ];exact h.out _ (.inr (by omega))
theorem Lo.mirror{st0 st:SortSt}{lo n i j:Nat}(h:Lo U kd a₀ st0 lo n st)(hi:lo<=i)(hj:j<=lo+n)(hn:lo+n<=a₀.size):Lo U kd a₀ st0 lo n (setArr st (mirror (arrOf st) i j ((j-i) / 2))):=by
 refine⟨⟨(Array.perm_iff_toList_perm.mp (mirror_perm _ _ _ _)).trans h.S.perm,h.S.kind,h.S.failed⟩,h.pend,fun t ht=>?_⟩;show(PyProof.Rows.mirror (arrOf st) i j ((j-i) / 2))[t]?=_;have:=h.S.size;rw[getElem?_mirror_all (by omega),AM (by omega)];exact h.out t ht
theorem O6(C:Cmp prog w A s U kd)(h0:KeysOf U a₀){st:SortSt}(hS:St U kd a₀ st){i j:Nat}{Q:Option Bool->SortSt->Prop}(hi:i<a₀.size)(hj:j<a₀.size)
  (h:Q (some (U.blt (KK U (arrOf st) i) (KK U (arrOf st) j))) st):wpS (model prog w) A E s (ltAt' i j) Q st:=by
 have:=hS.size;obtain⟨p,hp⟩:=W0 (a:=arrOf st) (i:=i) (by omega);obtain⟨q,hq⟩:=W0 (a:=arrOf st) (i:=j) (by omega);rw[ltAt'_eq];refine wpS_bind (wpS_get ?_);refine wpS_bind (C9 hp (wpS_bind (C9 hq (Gj C hS.kind (hS.has h0 _ _ hp) (hS.has h0 _ _ hq) ?_))));rw[Uo hp,Uo hq]at h;exact h
theorem zCr{st:SortSt}{lo a nrem:Nat}{f:Nat->(Option (Option Nat)×Nat)->StateT SortSt Sem (ForInStep (Option (Option Nat)×Nat))}{Q:(Option (Option Nat)×Nat)->SortSt->Prop}
  (hf:∀x n,1<=n->n<nrem->wpS (model prog w) A E s (f x (none,n)) (fun r st'=>st'=st/\r=if U.blt (KK U (arrOf st) (lo+n)) (KK U (arrOf st) (lo+n-1))=true then .done (none,n)else .yield (none,n+1)) st)
  (ha:1<=a) (han:a<=nrem) (hs:SI U (arrOf st) lo a)
  (h:∀n,a<=n->n<=nrem->SI U (arrOf st) lo n->(n=nrem\/U.klt (KK U (arrOf st) (lo+n)) (KK U (arrOf st) (lo+n-1)))->Q (none,n) st):wpS (model prog w) A E s (forIn [a:nrem] (none,a) f) Q st:=by
 refine wpS_forRange (I:=fun x c st'=>st'=st/\c =(none,x)/\SI U (arrOf st) lo x) ?_ ?_ ⟨rfl,rfl,hs⟩
 .rintro x c st' hax hxn ⟨rfl,rfl,hs'⟩;refine wpS_mono (hf x x (by omega) hxn) fun r st2 ⟨e,er⟩=>?_;subst e;cases hless:U.blt (KK U (arrOf st2) (lo+x)) (KK U (arrOf st2) (lo+x-1))
  .rw[hless,AM BG]at er;subst er;refine⟨rfl,rfl,fun i j hij hj=>?_⟩;by_cases hjx:j<x
   .exact hs' i j hij hjx
   .have hj':j=x:=by omega
    subst hj';by_cases hi':i=j
    .subst hi';exact KeyOrd.kle_refl _
    .have:=hs' i (j-1) (by omega) (by omega);rw[show lo +(j-1)=lo+j-1 by omega]at this;exact KeyOrd.kle_trans this hless
  .rw[hless,AR rfl]at er;subst er;exact h x hax (by omega) hs' (.inr hless)
 .rintro c st' ⟨rfl,rfl,hs'⟩;rw[show max a nrem=nrem by omega]at hs'⊢;exact h nrem han (Nat.le_refl _) hs' (.inl rfl)
theorem NI.step{xs ys:Array Keyed}{lo x:Nat}(hx:1<=x)(hk:∀k,KK U ys k=KK U xs k)(hs:NI U xs lo x)(hl:U.kle (KK U xs (lo+x)) (KK U xs (lo+x-1))):NI U ys lo (x+1):=by
 intro i j hij hj;rw[hk,hk];by_cases hjx:j<x
 .exact hs i j hij hjx
 .have hj':j=x:=by omega
  subst hj';by_cases hi':i=j
  .subst hi';exact KeyOrd.kle_refl _
  .have:=hs i (j-1) (by omega) (by omega);rw[show lo +(j-1)=lo+j-1 by omega]at this;exact KeyOrd.kle_trans hl this
abbrev DS:=Option (Option Nat)×Nat×Nat
theorem zDs{st0 st:SortSt}{lo n nrem:Nat}(hsz:lo+nrem<=a₀.size){f:Nat->DS->StateT SortSt Sem (ForInStep DS)}{Q:DS->SortSt->Prop}
  (hf:∀x n q st',1<=n->n<nrem->Lo U kd a₀ st0 lo nrem st'->wpS (model prog w) A E s (f x (none,n,q)) (fun r st2 =>
   if U.blt (KK U (arrOf st') (lo+n)) (KK U (arrOf st') (lo+n-1))=true then(st2=if q>0 then setArr st' (mirror (arrOf st') (lo+n-(q+1)) (lo+n) ((lo+n-(lo+n-(q+1))) / 2))else st')/\r = .yield (none,n+1,0)
   else st2=st'/\r=if U.blt (KK U (arrOf st') (lo+n-1)) (KK U (arrOf st') (lo+n))=true then .done (none,n,q)else .yield (none,n+1,q+1)) st')
  (h1:1<=n) (hnn:n<=nrem) (hB:Lo U kd a₀ st0 lo nrem st) (hs:NI U (arrOf st) lo n)
  (h:∀m q st',Lo U kd a₀ st0 lo nrem st'->n<=m->m<=nrem->NI U (arrOf st') lo m->q+1<=m->(∀i,m-(q+1)<=i->i<m->KK U (arrOf st') (lo+i)=KK U (arrOf st') (lo+m-1))->Q (none,m,q) st') :
  wpS (model prog w) A E s (forIn [n:nrem] (none,n,0) f) Q st:=by
 refine wpS_forRange (I:=fun x c st'=>∃q,c =(none,x,q)/\Lo U kd a₀ st0 lo nrem st'/\NI U (arrOf st') lo x/\q+1<=x /\
   (∀i,x-(q+1)<=i->i<x->KK U (arrOf st') (lo+i)=KK U (arrOf st') (lo+x-1))) ?_ ?_ ⟨0,rfl,hB,hs,by omega,fun i h1 h2=>by congr 1;omega⟩
 .rintro x c st' hax hxn ⟨q,rfl,hB',hs',hq,he⟩;have hs0:=hB'.S.size;refine wpS_mono (hf x x q st' (by omega) hxn hB') fun r st2 hr=>?_;cases hless:U.blt (KK U (arrOf st') (lo+x)) (KK U (arrOf st') (lo+x-1))
  .rw[hless,AM BG]at hr;obtain⟨e,er⟩:=hr;subst e;cases hl:U.blt (KK U (arrOf st2) (lo+x-1)) (KK U (arrOf st2) (lo+x))
   .rw[hl,AM BG]at er;subst er;have heqx:KK U (arrOf st2) (lo+x)=KK U (arrOf st2) (lo+x-1):=KeyOrd.kle_antisymm hl hless;refine⟨q+1,rfl,hB',NI.step (by omega) (fun _=>rfl) hs' hl,by omega,fun i g1 g2=>?_⟩;rw[show lo +(x+1)-1=lo+x by omega];by_cases hix:i=x
    .subst hix;rfl
    .rw[heqx];exact he i (by omega) (by omega)
   .rw[hl,AR rfl]at er;subst er;exact h x q st2 hB' hax (by omega) hs' hq he
  .rw[hless,AR rfl]at hr;obtain⟨e,er⟩:=hr;subst er;have hl:U.kle (KK U (arrOf st') (lo+x)) (KK U (arrOf st') (lo+x-1)):=KeyOrd.kle_of_klt hless;by_cases hq0:q>0
   .rw[AR hq0]at e;subst e;refine⟨0,rfl,hB'.mirror (by omega) (by omega) hsz,NI.step (by omega) (KK_mirror_equal (by omega) fun k g1 g2=>?_) hs' hl,by omega,fun i g1 g2=>by congr 1;omega⟩;have:=he (k-lo) (by omega) (by omega);rw[show lo +(k-lo)=k by omega]at this;exact this
   .rw[AM hq0]at e;subst e;exact⟨0,rfl,hB',NI.step (by omega) (fun _=>rfl) hs' hl,by omega,fun i g1 g2=>by congr 1;omega⟩
 .rintro c st' ⟨q,rfl,hB',hs',hq,he⟩;rw[show max n nrem=nrem by omega]at hs' hq he⊢;exact h nrem q st' hB' hnn (Nat.le_refl _) hs' hq he
theorem NI.turn{xs:Array Keyed}{lo n:Nat}(hn:lo+n<=xs.size)(h:NI U xs lo n):SI U (mirror xs lo (lo+n) ((lo+n-lo) / 2)) lo n:=by
 intro i j hij hj;rw[KK_mirror hn,KK_mirror hn,AR (by omega),AR (by omega)];have:=h (n-1-j) (n-1-i) (by omega) (by omega);rw[show lo +(n-1-i)=lo +(lo+n)-1-(lo+i) by omega,show lo +(n-1-j)=lo +(lo+n)-1-(lo+j) by omega]at this;exact this
theorem Fp(C:Cmp prog w A s U kd)(h0:KeysOf U a₀){st:SortSt}{lo nrem:Nat}{Q:Option Nat->SortSt->Prop}(hS:St U kd a₀ st)(hsz:lo+nrem<=a₀.size)(h1:1<=nrem)
  (h:∀m st',Lo U kd a₀ st lo nrem st'->1<=m->m<=nrem->SI U (arrOf st') lo m->Q (some m) st'):wpS (model prog w) A E s (countRun' lo nrem) Q st:=by
 have L0:Lo U kd a₀ st lo nrem st:=⟨hS,rfl,fun _ _=>rfl⟩;rw[countRun'_eq];dsimp only;refine wpS_bind (zCr (U:=U) (lo:=lo) (fun x n g1 g2=>?_) (Nat.le_refl 1) h1 (fun i j hij hj=>by have:i=j:=(by omega);subst this;exact KeyOrd.kle_refl _) fun n hn1 hn2 hsn hor=>?_)
 .dsimp only;refine wpS_bind (O6 C h0 hS (by omega) (by omega) ?_);dsimp only;cases U.blt (KK U (arrOf st) (lo+n)) (KK U (arrOf st) (lo+n-1))
  .exact wpS_pure ⟨rfl,rfl⟩
  .exact wpS_pure ⟨rfl,rfl⟩
 dsimp only;by_cases hnn:n=nrem
 .rw[AR (by simpa using hnn)];exact wpS_pure (h n st L0 hn1 hn2 hsn)
 rw[AM (by simpa using hnn)];have hlt:U.klt (KK U (arrOf st) (lo+n)) (KK U (arrOf st) (lo+n-1)):=hor.resolve_left hnn;have hz:=hS.size;by_cases hgt:n>1
 .rw[AR hgt];refine wpS_bind (O6 C h0 hS (by omega) (by omega) ?_);dsimp only;cases hrose:U.blt (KK U (arrOf st) lo) (KK U (arrOf st) (lo+n-1))with
  | true =>
   simp only[EN];exact wpS_pure (h n st L0 hn1 hn2 hsn)
  | false =>
   simp only[BD,CL];have hall:∀k,lo<=k->k<lo+n->KK U (arrOf st) k=KK U (arrOf st) (lo+n-1):=by
    intro k hk1 hk2;have a1:=hsn 0 (k-lo) (by omega) (by omega);have a2:=hsn (k-lo) (n-1) (by omega) (by omega);rw[Nat.add_zero,show lo +(k-lo)=k by omega]at a1;rw[show lo +(k-lo)=k by omega,show lo +(n-1)=lo+n-1 by omega]at a2;exact KeyOrd.kle_antisymm a2 (KeyOrd.kle_trans hrose a1)
   have hk:=KK_mirror_equal (κ:=U) (xs:=arrOf st) (i:=lo) (j:=lo+n) (by omega) hall;refine wpS_bind (wpS_reverse ?_);have hB2:=L0.mirror (i:=lo) (j:=lo+n) (by omega) (by omega) hsz;have hN:NI U (mirror (arrOf st) lo (lo+n) ((lo+n-lo) / 2)) lo (n+1):=by
    refine NI.step (by omega) hk (fun i j hij hj=>?_) (KeyOrd.kle_of_klt hlt);rw[hall (lo+i) (by omega) (by omega),hall (lo+j) (by omega) (by omega)];exact KeyOrd.kle_refl _
   refine wpS_bind (wpS_lift (EX ⟨rfl,?_⟩));refine wpS_bind (zDs (U:=U) (kd:=kd) (a₀:=a₀) (st0:=st) (lo:=lo) hsz (fun x n' q st' g1 g2 hB'=>?_) (by omega) (by omega) hB2 hN fun m q st' hB3 hm1 hm2 hs3 hq he=>?_)
   .dsimp only;refine wpS_bind (O6 C h0 hB'.S (by omega) (by omega) ?_);dsimp only;cases U.blt (KK U (arrOf st') (lo+n')) (KK U (arrOf st') (lo+n' - 1))
    .simp only[BD,CL];refine wpS_bind (O6 C h0 hB'.S (by omega) (by omega) ?_);dsimp only;cases U.blt (KK U (arrOf st') (lo+n' - 1)) (KK U (arrOf st') (lo+n'))
     .exact wpS_pure ⟨rfl,rfl⟩
     .exact wpS_pure ⟨rfl,rfl⟩
    .simp only[EN];by_cases hq:q>0
     .rw[AR hq,AR hq];exact wpS_bind (wpS_reverse (wpS_pure ⟨rfl,rfl⟩))
     .rw[AM hq,AM hq];exact wpS_pure ⟨rfl,rfl⟩
   .dsimp only;have hz3:=hB3.S.size;by_cases hq0:q>0
    .rw[AR hq0];refine wpS_bind (wpS_reverse (wpS_bind (wpS_reverse ?_)));have hB4':=hB3.mirror (i:=lo+m-(q+1)) (j:=lo+m) (by omega) (by omega) hsz;have hB4:=hB4'.mirror (i:=lo) (j:=lo+m) (by omega) (by omega) hsz;have hz4:=hB4'.S.size;have hN4:NI U (mirror (arrOf st') (lo+m-(q+1)) (lo+m) ((lo+m-(lo+m-(q+1))) / 2)) lo m:=by
      have hk:=KK_mirror_equal (κ:=U) (xs:=arrOf st') (i:=lo+m-(q+1)) (j:=lo+m) (by omega) (fun k g1 g2=>by
       have:=he (k-lo) (by omega) (by omega);rw[show lo +(k-lo)=k by omega]at this;exact this)
      intro i j hij hj;rw[hk,hk];exact hs3 i j hij hj
     have hT:=hN4.turn (U:=U) (lo:=lo) (n:=m) (by rw[mirror_size];omega);refine wpS_bind (zCr (U:=U) (lo:=lo) (fun x n' g1 g2=>?_) (by omega) hm2 hT fun m' hm1' hm2' hsm _=>wpS_pure (h m' _ hB4 (by omega) hm2' hsm));dsimp only;refine wpS_bind (O6 C h0 hB4.S (by omega) (by omega) ?_);dsimp only;cases U.blt (KK U _ (lo+n')) (KK U _ (lo+n' - 1))
     .exact wpS_pure ⟨rfl,rfl⟩
     .exact wpS_pure ⟨rfl,rfl⟩
    .rw[AM hq0];refine wpS_bind (wpS_reverse ?_);have hB4:=hB3.mirror (i:=lo) (j:=lo+m) (by omega) (by omega) hsz;have hT:=hs3.turn (U:=U) (lo:=lo) (n:=m) (by omega);refine wpS_bind (zCr (U:=U) (lo:=lo) (fun x n' g1 g2=>?_) (by omega) hm2 hT fun m' hm1' hm2' hsm _=>wpS_pure (h m' _ hB4 (by omega) hm2' hsm));dsimp only;refine wpS_bind (O6 C h0 hB4.S (by omega) (by omega) ?_);dsimp only;cases U.blt (KK U _ (lo+n')) (KK U _ (lo+n' - 1))
     .exact wpS_pure ⟨rfl,rfl⟩
     .exact wpS_pure ⟨rfl,rfl⟩
 .rw[AM hgt];have hn1':n=1:=by omega
  have hB2:=L0;have hN:NI U (arrOf st) lo (n+1):=by
   refine NI.step (by omega) (fun _=>rfl) (fun i j hij hj=>?_) (KeyOrd.kle_of_klt hlt);have:i=j:=by omega
   subst this;exact KeyOrd.kle_refl _
  refine wpS_bind (wpS_lift (EX ⟨rfl,?_⟩));refine wpS_bind (zDs (U:=U) (kd:=kd) (a₀:=a₀) (st0:=st) (lo:=lo) hsz (fun x n' q st' g1 g2 hB'=>?_) (by omega) (by omega) hB2 hN fun m q st' hB3 hm1 hm2 hs3 hq he=>?_)
  .dsimp only;refine wpS_bind (O6 C h0 hB'.S (by omega) (by omega) ?_);dsimp only;cases U.blt (KK U (arrOf st') (lo+n')) (KK U (arrOf st') (lo+n' - 1))
   .simp only[BD,CL];refine wpS_bind (O6 C h0 hB'.S (by omega) (by omega) ?_);dsimp only;cases U.blt (KK U (arrOf st') (lo+n' - 1)) (KK U (arrOf st') (lo+n'))
    .exact wpS_pure ⟨rfl,rfl⟩
    .exact wpS_pure ⟨rfl,rfl⟩
   .simp only[EN];by_cases hq:q>0
    .rw[AR hq,AR hq];exact wpS_bind (wpS_reverse (wpS_pure ⟨rfl,rfl⟩))
    .rw[AM hq,AM hq];exact wpS_pure ⟨rfl,rfl⟩
  .dsimp only;have hz3:=hB3.S.size;by_cases hq0:q>0
   .rw[AR hq0];refine wpS_bind (wpS_reverse (wpS_bind (wpS_reverse ?_)));have hB4':=hB3.mirror (i:=lo+m-(q+1)) (j:=lo+m) (by omega) (by omega) hsz;have hB4:=hB4'.mirror (i:=lo) (j:=lo+m) (by omega) (by omega) hsz;have hz4:=hB4'.S.size;have hN4:NI U (mirror (arrOf st') (lo+m-(q+1)) (lo+m) ((lo+m-(lo+m-(q+1))) / 2)) lo m:=by
     have hk:=KK_mirror_equal (κ:=U) (xs:=arrOf st') (i:=lo+m-(q+1)) (j:=lo+m) (by omega) (fun k g1 g2=>by
      have:=he (k-lo) (by omega) (by omega);rw[show lo +(k-lo)=k by omega]at this;exact this)
     intro i j hij hj;rw[hk,hk];exact hs3 i j hij hj
    have hT:=hN4.turn (U:=U) (lo:=lo) (n:=m) (by rw[mirror_size];omega);refine wpS_bind (zCr (U:=U) (lo:=lo) (fun x n' g1 g2=>?_) (by omega) hm2 hT fun m' hm1' hm2' hsm _=>wpS_pure (h m' _ hB4 (by omega) hm2' hsm));dsimp only;refine wpS_bind (O6 C h0 hB4.S (by omega) (by omega) ?_);dsimp only;cases U.blt (KK U _ (lo+n')) (KK U _ (lo+n' - 1))
    .exact wpS_pure ⟨rfl,rfl⟩
    .exact wpS_pure ⟨rfl,rfl⟩
   .rw[AM hq0];refine wpS_bind (wpS_reverse ?_);have hB4:=hB3.mirror (i:=lo) (j:=lo+m) (by omega) (by omega) hsz;have hT:=hs3.turn (U:=U) (lo:=lo) (n:=m) (by omega);refine wpS_bind (zCr (U:=U) (lo:=lo) (fun x n' g1 g2=>?_) (by omega) hm2 hT fun m' hm1' hm2' hsm _=>wpS_pure (h m' _ hB4 (by omega) hm2' hsm));dsimp only;refine wpS_bind (O6 C h0 hB4.S (by omega) (by omega) ?_);dsimp only;cases U.blt (KK U _ (lo+n')) (KK U _ (lo+n' - 1))
    .exact wpS_pure ⟨rfl,rfl⟩
    .exact wpS_pure ⟨rfl,rfl⟩
theorem Lo.bubble{st0 st:SortSt}{lo n src d:Nat}(h:Lo U kd a₀ st0 lo n st)(h1:lo+d<=src)(h2:src<lo+n)(hn:lo+n<=a₀.size):Lo U kd a₀ st0 lo n (setArr st (bubble (arrOf st) src d)):=by
 refine⟨⟨(Array.perm_iff_toList_perm.mp (bubble_perm _ _ _)).trans h.S.perm,h.S.kind,h.S.failed⟩,h.pend,fun t ht=>?_⟩;show(PyProof.Rows.bubble (arrOf st) src d)[t]?=_;have:=h.S.size;rw[getElem?_bubble (by omega) d (by omega),AM (by omega),AM (by omega)];exact h.out t ht
theorem Br(C:Cmp prog w A s U kd)(h0:KeysOf U a₀){st0 st:SortSt}{lo nrem n ok:Nat}{Q:Bool->SortSt->Prop}(hB:Lo U kd a₀ st0 lo nrem st)(hsz:lo+nrem<=a₀.size)(hn:n<=nrem)(hok:ok<=n)(hs:SI U (arrOf st) lo ok)
  (h:∀st',Lo U kd a₀ st0 lo nrem st'->SI U (arrOf st') lo n->Q true st'):wpS (model prog w) A E s (binarySort' lo n ok) Q st:=by
 rw[binarySort'_eq];refine wpS_bind (wpS_mono (wpS_forRange (I:=fun k c st'=>c =(none,())/\Lo U kd a₀ st0 lo nrem st'/\SI U (arrOf st') lo (min k n))
  (Q:=fun c st'=>c =(none,())/\Lo U kd a₀ st0 lo nrem st'/\SI U (arrOf st') lo n) ?step ?fin ?init) ?post)
 case post =>
  rintro c st' ⟨rfl,hB',hs'⟩;exact wpS_pure (h st' hB' hs')
 case init =>
  refine⟨rfl,hB,fun i j hij hj=>?_⟩;by_cases h1:ok=0
  .have:i=j:=by omega
   subst this;exact KeyOrd.kle_refl _
  .exact hs i j hij (by omega)
 case fin =>
  rintro c st' ⟨hc,hB',hs'⟩;refine⟨hc,hB',?_⟩
  rwa [show min (max (max ok 1) n) n=n by omega]at hs'
 case step =>
  rintro k c st' hak hkn ⟨rfl,hB',hs'⟩;rw[show min k n=k by omega]at hs';dsimp only;refine wpS_bind (wpS_mono (wpS_forRange (I:=fun x c st''=>st''=st'/\∃l r,c =(none,l,r)/\l<=r/\r<=k/\r-l<=k-x /\
    (∀i,i<l->U.kle (KK U (arrOf st') (lo+i)) (KK U (arrOf st') (lo+k)))/\(∀i,r<=i->i<k->U.klt (KK U (arrOf st') (lo+k)) (KK U (arrOf st') (lo+i))))
   (Q:=fun c st''=>st''=st'/\∃l r,c =(none,l,r)/\l<=k /\
    (∀i,i<l->U.kle (KK U (arrOf st') (lo+i)) (KK U (arrOf st') (lo+k)))/\(∀i,l<=i->i<k->U.klt (KK U (arrOf st') (lo+k)) (KK U (arrOf st') (lo+i)))) ?istep ?ifin ?iinit) ?ipost)
  case iinit=>exact⟨rfl,0,k,rfl,by omega,by omega,by omega,fun i hi=>by omega,fun i h1 h2=>by omega⟩
  case ifin =>
   rintro c st'' ⟨rfl,l,r,rfl,hlr,hrk,hm,hlo,hhi⟩;have:l=r:=by omega
   subst this;exact⟨rfl,l,l,rfl,hrk,hlo,hhi⟩
  case istep =>
   rintro x c st'' _ hxk ⟨rfl,l,r,rfl,hlr,hrk,hm,hlo,hhi⟩;dsimp only;by_cases hge:l ≥ r
   .rw[AR hge];have:l=r:=by omega
    subst this;exact wpS_pure ⟨rfl,l,l,rfl,hrk,hlo,hhi⟩
   .rw[AM hge];refine wpS_bind (O6 C h0 hB'.S (by omega) (by omega) ?_);dsimp only;cases hless:U.blt (KK U (arrOf st'') (lo+k)) (KK U (arrOf st'') (lo +(l+r) / 2))
    case true =>
     simp only[EN];refine wpS_pure ⟨rfl,l,(l+r) / 2,rfl,by omega,by omega,by omega,hlo,fun i h1 h2=>?_⟩;exact KeyOrd.klt_of_klt_of_kle hless (hs' _ _ h1 h2)
    case false =>
     simp only[BD,CL];refine wpS_pure ⟨rfl,(l+r) / 2+1,r,rfl,by omega,by omega,by omega,fun i h1=>?_,hhi⟩;exact KeyOrd.kle_trans (hs' i ((l+r) / 2) (by omega) (by omega)) (show U.kle _ _ from hless)
  case ipost =>
   rintro c st'' ⟨rfl,l,r,rfl,hlk,hlo,hhi⟩;have hz:=hB'.S.size;show wpS _ _ _ _ (do moveDown' (lo+k) (lo+l);pure (ForInStep.yield (none,()))) _ _;rw[moveDown'_eq];refine wpS_bind (wpS_modify (wpS_pure ⟨rfl,hB'.bubble (by omega) (by omega) hsz,?_⟩));rw[show min (k+1) n=k+1 by omega];intro i j hij hj;show U.kle (KK U (bubble (arrOf st'') (lo+k) (lo+k-(lo+l))) (lo+i)) (KK U (bubble (arrOf st'') (lo+k) (lo+k-(lo+l))) (lo+j));rw[KK_bubble (by omega) (by omega),KK_bubble (by omega) (by omega),show lo+k-(lo+k-(lo+l))=lo+l by omega];have shift:∀z,1<=z->lo+z-1=lo +(z-1):=fun z _=>by omega
   repeat' split
   all_goals first
    | (exfalso;omega)
    | exact KeyOrd.kle_refl _
    | exact hlo _ (by omega)
    | exact KeyOrd.kle_of_klt (hhi _ (by omega) (by omega))
    | exact hs' _ _ (by omega) (by omega)
    | (rw[shift j (by omega)];exact KeyOrd.kle_of_klt (hhi _ (by omega) (by omega)))
    | (rw[shift i (by omega)];exact hlo _ (by omega))
    | (rw[shift j (by omega)];exact hs' _ _ (by omega) (by omega))
    | (rw[shift i (by omega),shift j (by omega)];exact hs' _ _ (by omega) (by omega))
    | (rw[shift i (by omega)];exact hs' _ _ (by omega) (by omega))
end
abbrev Run:=Nat×Nat×Nat
def Cov:List Run->Nat->Nat->Prop
 | [],a,b=>a=b
 | x::r,a,b=>x.1=a/\1<=x.2.1/\Cov r (a+x.2.1) b
theorem Cov.app:∀{l1 l2:List Run} {a b:Nat},Cov (l1++l2) a b↔∃c,Cov l1 a c/\Cov l2 c b
 | [],l2,a,b=>⟨fun h=>⟨a,rfl,h⟩,fun⟨c,h1,h2⟩=>by have:a=c:=h1;subst this;exact h2⟩
 | x::r,l2,a,b=>by
  constructor
  .rintro⟨h1,h2,h3⟩;obtain⟨c,h4,h5⟩:=Cov.app.mp h3;exact⟨c,⟨h1,h2,h4⟩,h5⟩
  .rintro⟨c,⟨h1,h2,h4⟩,h5⟩;exact⟨h1,h2,Cov.app.mpr ⟨c,h4,h5⟩⟩
theorem Cov.le:∀{l:List Run} {a b:Nat},Cov l a b->a+l.length<=b
 | [],a,b,h=>by have:a=b:=h;subst this;simp
 | x::r,a,b,⟨h1,h2,h3⟩=>by have:=Cov.le h3;rw[BR];omega
theorem Cov.mem:∀{l:List Run} {a b:Nat} {x:Run},Cov l a b->x∈l->a<=x.1/\x.1+x.2.1<=b
 | [],_,_,_,_,hx=>absurd hx (by simp)
 | y::r,a,b,x,⟨h1,h2,h3⟩,hx=>by
  have hl:=Cov.le h3;rcases A_.mp hx with e | hx
  .subst e;omega
  .have:=Cov.mem h3 hx;omega
theorem zHj{l:List Run}{i:Nat}{x y:Run}(hx:l[i]?=some x)(hy:l[i+1]?=some y):l=l.take i++x::y::l.drop (i+2):=by
 obtain⟨h1,rfl⟩:=AG.mp hx;obtain⟨h2,rfl⟩:=AG.mp hy
 conv=>lhs;rw[<-BX i l]
 rw[CG h1,CG h2]
theorem zHb{l:List Run}{i:Nat}{x y:Run}(z:Run)(hx:l[i]?=some x)(hy:l[i+1]?=some y):(l.set i z).eraseIdx (i+1)=l.take i++z::l.drop (i+2):=by
 obtain⟨h1,_⟩:=AG.mp hx;obtain⟨h2,_⟩:=AG.mp hy;have e:=zHj hx hy;have hl:(l.take i).length=i:=by rw[AN];omega
 generalize l.take i=p at *;generalize l.drop (i+2)=q at *;subst e;rw[List.set_append_right _ _ (by omega),hl,Nat.sub_self,List.eraseIdx_append_of_length_le (by omega),hl,show i+1-i=1 by omega];rfl
section
variable{prog:Program}{w:World}{A:Around}{E:Value->Shared->Prop}{s:Shared}{U:KeyKind}{kd:SortKind}{a₀:Array Keyed}
structure RI(U:KeyKind)(kd:SortKind)(a₀:Array Keyed)(lo:Nat)(st:SortSt):Prop where
 S:St U kd a₀ st
 cov:Cov (pendingOf st).toList 0 lo
 sor:∀x∈(pendingOf st).toList,Sor U (seg (arrOf st).toList x.1 x.2.1)
theorem Jx(C:Cmp prog w A s U kd)(h0:KeysOf U a₀){st:SortSt}{lo i:Nat}{Q:Bool->SortSt->Prop}(R:RI U kd a₀ lo st)(hlo:lo<=a₀.size)(hi:i+1 <(pendingOf st).size)
  (h:∀st',RI U kd a₀ lo st'->(pendingOf st').size+1 =(pendingOf st).size->Part U (arrOf st).toList (arrOf st').toList 0 lo->Q true st'):wpS (model prog w) A E s (mergeAt' i) Q st:=by
 obtain⟨⟨sa,na,pw⟩,hx⟩:∃x,(pendingOf st)[i]?=some x:=⟨_,getElem?_pos _ i (by omega)⟩;obtain⟨⟨sb,nb,pw2⟩,hy⟩:∃x,(pendingOf st)[i+1]?=some x:=⟨_,getElem?_pos _ (i+1) hi⟩;have hx':(pendingOf st).toList[i]?=some (sa,na,pw):=by rw[BQ];exact hx
 have hy':(pendingOf st).toList[i+1]?=some (sb,nb,pw2):=by rw[BQ];exact hy
 have e:=zHj hx' hy';have c:=R.cov;rw[e]at c;obtain⟨c0,c1,c2⟩:=Cov.app.mp c;obtain⟨d1,d2,d3,d4,d5⟩:=c2;dsimp only at d1 d2 d3 d4 d5;have hl5:=Cov.le d5;refine Ik C h0 R.S hx hy (by omega) (by omega) d2 d4 (R.sor _ (AV hx')) (R.sor _ (AV hy')) fun st' S' P' s' p'=>?_;have ep:(pendingOf st').toList =(pendingOf st).toList.take i ++(sa,na+nb,pw) ::(pendingOf st).toList.drop (i+2):=by
  rw[p',<-zHb (sa,na+nb,pw) hx' hy'];simp
 refine h st' ⟨S',?_,fun x hxm=>?_⟩ ?_ ?_
 .rw[ep];exact Cov.app.mpr ⟨c0,c1,d1,(by show 1<=na+nb;omega),(by show Cov _ (c0 +(na+nb)) lo;rw[<-Nat.add_assoc];exact d5)⟩
 .rw[ep]at hxm;have old:∀y∈(pendingOf st).toList,(y.1+y.2.1<=sa\/sa +(na+nb)<=y.1)->Sor U (seg (arrOf st').toList y.1 y.2.1):=fun y hy ho=>by
   have:=R.sor y hy;rcases ho with ho | ho
   .rw[P'.seg_front ho];exact this
   .rw[P'.seg_back ho];exact this
  rcases AO.mp hxm with hm | hm
  .have:=Cov.mem c1 hm;exact old x (CB hm) (.inl (by omega))
  .rcases A_.mp hm with hm | hm
   .subst hm;exact s'
   .have:=Cov.mem d5 hm;exact old x (ES hm) (.inr (by omega))
 .have:=congrArg List.length ep;rw[AS,BB,BR,AN,DH,AS]at this;omega
 .have hb:∀z:List Keyed,z.drop (0+lo) =(z.drop (sa +(na+nb))).drop (lo-(sa +(na+nb))):=fun z=>by
   rw[FA];congr 1;omega
  exact⟨P'.perm,rfl,by rw[hb,hb,P'.back]⟩
theorem Bm{l:Array Run}{pw:Nat}:(l.modify (l.size-1) fun x=>(x.1,x.2.1,pw)).toList.map (fun x:Run=>(x.1,x.2.1))=l.toList.map fun x:Run=>(x.1,x.2.1):=by
 refine FK fun t=>?_;rw[AI,AI,BQ,BQ,Array.getElem?_modify];split
 .cases l[t]?<;>rfl
 .rfl
theorem Cov.congr:∀{l l':List Run} {a b:Nat},l'.map (fun x:Run=>(x.1,x.2.1))=l.map (fun x:Run=>(x.1,x.2.1))->Cov l a b->Cov l' a b
 | [],[],_,_,_,h=>h
 | [],_::_,_,_,e,_=>by simp at e
 | _::_,[],_,_,e,_=>by simp at e
 | x::r,y::r',a,b,e,⟨h1,h2,h3⟩=>by
  rw[BA,BA]at e;obtain⟨e1,e2⟩:=HX e;obtain⟨e3,e4⟩:=Prod.mk.inj e1;exact⟨e3.trans h1,by rw[e4];exact h2,by rw[e4];exact Cov.congr e2 h3⟩
theorem RI.congr{lo:Nat}{st:SortSt}(R:RI U kd a₀ lo st){p:Array Run}(e:p.toList.map (fun x:Run=>(x.1,x.2.1)) =(pendingOf st).toList.map fun x:Run=>(x.1,x.2.1)):RI U kd a₀ lo (setPending st p):=by
 refine⟨⟨R.S.perm,R.S.kind,R.S.failed⟩,Cov.congr e R.cov,fun x hx=>?_⟩;have:(x.1,x.2.1)∈(pendingOf st).toList.map fun x:Run=>(x.1,x.2.1):=by
  rw[<-e];exact AE.mpr ⟨x,hx,rfl⟩
 obtain⟨y,hy,ey⟩:=AE.mp this;obtain⟨e1,e2⟩:=Prod.mk.inj ey;have:=R.sor y hy;rw[e1,e2]at this;exact this
theorem Z0(C:Cmp prog w A s U kd)(h0:KeysOf U a₀){st:SortSt}{Q:Unit->SortSt->Prop}(hS:St U kd a₀ st)(hp:pendingOf st = #[])
  (h:∀st',St U kd a₀ st'->Sor U (arrOf st').toList->Q () st'):wpS (model prog w) A E s sortRuns' Q st:=by
 rw[sortRuns'_eq];refine wpS_bind (wpS_get ?_);dsimp only;have hz:=hS.size;rw[hz];generalize minRun' a₀.size a₀.size 0=mr;refine wpS_bind (wpS_mono (wpS_forRange (I:=fun x c st'=>∃lo,c =(none,lo)/\RI U kd a₀ lo st'/\lo<=a₀.size/\min x a₀.size<=lo)
  (Q:=fun c st'=>∃lo,c =(none,lo)/\RI U kd a₀ lo st'/\lo=a₀.size) ?st ?en ⟨0,rfl,⟨hS,by rw[hp];rfl,fun x hx=>by rw[hp]at hx;exact absurd hx (by simp)⟩,CC _,by omega⟩) ?po)
 case en =>
  rintro c st' ⟨lo,rfl,R,h1,h2⟩;exact⟨lo,rfl,R,by omega⟩
 case po =>
  rintro c st' ⟨lo,rfl,R,rfl⟩;dsimp only;refine wpS_bind (wpS_mono (wpS_forRange (I:=fun x c st'=>c =(none,())/\RI U kd a₀ a₀.size st'/\(pendingOf st').size+x<=a₀.size+1)
   (Q:=fun c st'=>c =(none,())/\RI U kd a₀ a₀.size st'/\(pendingOf st').size<=1) ?st3 ?en3 ⟨rfl,R,?in3⟩) ?po3)
  case in3 =>
   have:=Cov.le R.cov;rw[AS]at this;omega
  case en3 =>
   rintro c st2 ⟨rfl,R2,g⟩;exact⟨rfl,R2,by omega⟩
  case po3 =>
   rintro c st2 ⟨rfl,R2,g⟩;refine wpS_pure (h st2 R2.S ?_);have c:=R2.cov;have so:=R2.sor;have hz2:=R2.S.size;have hl:(pendingOf st2).toList.length<=1:=by rw[AS];exact g
   generalize (pendingOf st2).toList=l at c so hl
   match l,c,so,hl with
   | [],c,_,_ =>
    have c':0=a₀.size:=c;have:(arrOf st2).toList = []:=List.eq_nil_of_length_eq_zero (by rw[AS];omega);rw[this];exact List.Pairwise.nil
   | [x],⟨c1,c2,c3⟩,so,_ =>
    have c3':0+x.2.1=a₀.size:=c3;have:=so x (AF.mpr rfl);unfold seg at this;rw[c1,ET,CI (by rw[AS];omega)]at this;exact this
   | _::_::_,_,_,hl=>exact absurd hl (by simp)
  case st3 =>
   rintro x c st2 _ hx ⟨rfl,R2,g⟩
   try dsimp only
   refine wpS_bind (wpS_get ?_);by_cases hle:(pendingOf st2).size<=1
   .rw[AR hle];exact wpS_pure ⟨rfl,R2,hle⟩
   rw[AM hle];refine wpS_bind (Jx C h0 R2 (Nat.le_refl _) ?_ fun st3 R3 e3 _=>?_)
   .have hi2:∀{c:Prop} [Decidable c] {n:Nat},(if c then n-1 else n)+1<=n+1:=by intro c _ n;split<;>omega
    exact Nat.lt_of_le_of_lt hi2 (by omega)
   .simp only[EO,BD,CL];exact wpS_pure ⟨rfl,R3,by omega⟩
 case st =>
  rintro x c st' _ hx ⟨lo,rfl,R,h1,h2⟩;dsimp only;by_cases hge:lo ≥ a₀.size
  .rw[AR hge];exact wpS_pure ⟨lo,rfl,R,by omega⟩
  rw[AM hge];refine wpS_bind (Fp C h0 R.S (by omega) (by omega) fun m st2 L2 hm1 hm2 hs2=>?_);dsimp only;by_cases hmr:m<mr
  .rw[AR hmr];refine wpS_bind (wpS_lift (EX ⟨rfl,?_⟩));refine wpS_bind (Br C h0 L2 (by omega) (show min (a₀.size-lo) mr<=a₀.size-lo by omega) (by omega) hs2 fun st5 L5 s5=>?_);simp only[EO,BD,CL];have hN:1<=min (a₀.size-lo) mr/\min (a₀.size-lo) mr<=a₀.size-lo:=by omega
   generalize min (a₀.size-lo) mr=N at hN s5⊢;have R5:RI U kd a₀ lo st5:=by
    refine⟨L5.S,by rw[L5.pend];exact R.cov,fun y hy=>?_⟩;rw[L5.pend]at hy;have hc:=Cov.mem R.cov hy;rw[(L5.part R.S).seg_front (by omega)];exact R.sor y hy
   refine wpS_bind (wpS_get ?_);have push:∀(st6:SortSt),RI U kd a₀ lo st6->Sor U (seg (arrOf st6).toList lo N)->RI U kd a₀ (lo+N) (setPending st6 ((pendingOf st6).push (lo,N,0))):=fun st6 R6 s6=>by
    refine⟨⟨R6.S.perm,R6.S.kind,R6.S.failed⟩,?_,fun y hy=>?_⟩
    .show Cov ((pendingOf st6).push (lo,N,0)).toList 0 (lo+N);rw[DL];exact Cov.app.mpr ⟨lo,R6.cov,rfl,(by show 1<=N;omega),rfl⟩
    .have hy':y∈((pendingOf st6).push (lo,N,0)).toList:=hy;rw[DL]at hy';rcases AO.mp hy' with hy' | hy'
     .exact R6.sor y hy'
     .rw[AF.mp hy'];exact s6
   cases hbk:(pendingOf st5).back? with
   | none =>
    dsimp only;refine wpS_bind (wpS_modify (wpS_pure ⟨_,rfl,push _ R5 s5.sor,by omega,by omega⟩))
   | some bk =>
    obtain⟨s1,n1,pb⟩:=bk;dsimp only;generalize power' a₀.size (2*s1+n1) (2*s1+n1+n1+N) a₀.size=pw;refine wpS_bind (wpS_mono (wpS_forRange (I:=fun x c st6=>c =(none,())/\RI U kd a₀ lo st6/\Part U (arrOf st5).toList (arrOf st6).toList 0 lo)
     (Q:=fun c st6=>c =(none,())/\RI U kd a₀ lo st6/\Part U (arrOf st5).toList (arrOf st6).toList 0 lo) ?stc1 (fun _ _ z=>z) ⟨rfl,R5,Part.refl _ _ _⟩) ?poc1)
    case stc1 =>
     rintro x' c st6 _ _ ⟨rfl,R6,P6⟩
     try dsimp only
     refine wpS_bind (wpS_get ?_);by_cases hp1:(pendingOf st6).size>1
     .rw[AR hp1];obtain⟨⟨u1,u2,ol⟩,hu⟩:∃y,(pendingOf st6)[(pendingOf st6).size-2]?=some y:=⟨_,getElem?_pos _ _ (by omega)⟩;rw[hu];dsimp only;by_cases hol:ol<=pw
      .rw[AR hol];exact wpS_pure ⟨rfl,R6,P6⟩
      rw[AM hol];refine wpS_bind (Jx C h0 R6 h1 (by omega) fun st7 R7 _ P7=>?_);simp only[EO,BD,CL];exact wpS_pure ⟨rfl,R7,⟨P7.perm.trans P6.perm,rfl,P7.back.trans P6.back⟩⟩
     .rw[AM hp1];exact wpS_pure ⟨rfl,R6,P6⟩
    case poc1 =>
     rintro c st6 ⟨rfl,R6,P6⟩;dsimp only;refine wpS_bind (wpS_modify (wpS_bind (wpS_modify (wpS_pure ⟨_,rfl,push _ (R6.congr Bm) ?_,by omega,by omega⟩))));show Sor U (seg (arrOf st6).toList lo N);rw[P6.seg_back (by omega)];exact s5.sor
  .rw[AM hmr];have R5:RI U kd a₀ lo st2:=by
    refine⟨L2.S,by rw[L2.pend];exact R.cov,fun y hy=>?_⟩;rw[L2.pend]at hy;have hc:=Cov.mem R.cov hy;rw[(L2.part R.S).seg_front (by omega)];exact R.sor y hy
   refine wpS_bind (wpS_get ?_);have push:∀(st6:SortSt),RI U kd a₀ lo st6->Sor U (seg (arrOf st6).toList lo m)->RI U kd a₀ (lo+m) (setPending st6 ((pendingOf st6).push (lo,m,0))):=fun st6 R6 s6=>by
    refine⟨⟨R6.S.perm,R6.S.kind,R6.S.failed⟩,?_,fun y hy=>?_⟩
    .show Cov ((pendingOf st6).push (lo,m,0)).toList 0 (lo+m);rw[DL];exact Cov.app.mpr ⟨lo,R6.cov,rfl,(by show 1<=m;omega),rfl⟩
    .have hy':y∈((pendingOf st6).push (lo,m,0)).toList:=hy;rw[DL]at hy';rcases AO.mp hy' with hy' | hy'
     .exact R6.sor y hy'
     .rw[AF.mp hy'];exact s6
   cases hbk:(pendingOf st2).back? with
   | none =>
    dsimp only;refine wpS_bind (wpS_modify (wpS_pure ⟨_,rfl,push _ R5 hs2.sor,by omega,by omega⟩))
   | some bk =>
    obtain⟨s1,n1,pb⟩:=bk;dsimp only;generalize power' a₀.size (2*s1+n1) (2*s1+n1+n1+m) a₀.size=pw;refine wpS_bind (wpS_mono (wpS_forRange (I:=fun x c st6=>c =(none,())/\RI U kd a₀ lo st6/\Part U (arrOf st2).toList (arrOf st6).toList 0 lo)
     (Q:=fun c st6=>c =(none,())/\RI U kd a₀ lo st6/\Part U (arrOf st2).toList (arrOf st6).toList 0 lo) ?stc2 (fun _ _ z=>z) ⟨rfl,R5,Part.refl _ _ _⟩) ?poc2)
    case stc2 =>
     rintro x' c st6 _ _ ⟨rfl,R6,P6⟩
     try dsimp only
     refine wpS_bind (wpS_get ?_);by_cases hp1:(pendingOf st6).size>1
     .rw[AR hp1];obtain⟨⟨u1,u2,ol⟩,hu⟩:∃y,(pendingOf st6)[(pendingOf st6).size-2]?=some y:=⟨_,getElem?_pos _ _ (by omega)⟩;rw[hu];dsimp only;by_cases hol:ol<=pw
      .rw[AR hol];exact wpS_pure ⟨rfl,R6,P6⟩
      rw[AM hol];refine wpS_bind (Jx C h0 R6 h1 (by omega) fun st7 R7 _ P7=>?_);simp only[EO,BD,CL];exact wpS_pure ⟨rfl,R7,⟨P7.perm.trans P6.perm,rfl,P7.back.trans P6.back⟩⟩
     .rw[AM hp1];exact wpS_pure ⟨rfl,R6,P6⟩
    case poc2 =>
     rintro c st6 ⟨rfl,R6,P6⟩;dsimp only;refine wpS_bind (wpS_modify (wpS_bind (wpS_modify (wpS_pure ⟨_,rfl,push _ (R6.congr Bm) ?_,by omega,by omega⟩))));show Sor U (seg (arrOf st6).toList lo m);rw[P6.seg_back (by omega)];exact hs2.sor
end
def kd1(U:KeyKind)(v:Value):U.α:=(U.keyOf v).getD U.dflt
section
variable{prog:Program}{w:World}{A:Around}{E:Value->Shared->Prop}{s:Shared}{U:KeyKind}{kd:SortKind}
def Ext(a:Addr)(s s':Shared):Prop:=∀b o,b≠a->s.heap.get? b=some o->s'.heap.get? b=some o
structure Keys(prog:Program)(w:World)(a:Addr)(s:Shared)(U:KeyKind)(kd:SortKind)(vs:List Value):Prop where
 cmp:∀(A:Around) (s':Shared),Ext a s s'->Cmp prog w A s' U kd
 key:∀v∈vs,∃k,U.keyOf v=some k
 kind:2<=vs.length->∀(A:Around) (E:Value->Shared->Prop) (s':Shared) (Q:SortKind->Shared->Prop),Ext a s s'->Q kd s'->wpAny (model prog w) A (keyKind' vs.toArray) Q E s'
def Out(U:KeyKind)(vs:List Value)(out:Array Value):Prop:=out.toList.Perm vs/\out.toList.Pairwise fun u v=>U.kle (kd1 U u) (kd1 U v)
theorem Mm{vs:List Value}{xs:Array Keyed}(hp:xs.toList.Perm (pairsOf vs).toList)(hs:Sor U xs.toList):Out U vs (xs.map (·.2)):=by
 rw[pairsOf_toList]at hp;have hm:∀p∈xs.toList,p.1=p.2:=fun p h=>(mem_zip_self (hp.mem_iff.mp h)).1;have e:(xs.map (·.2)).toList=xs.toList.map (·.1):=by
  rw[Array.toList_map];exact FQ fun p h=>(hm p h).symm
 refine⟨?_,?_⟩
 .rw[e];have:=hp.map Prod.fst
  rwa [List.map_fst_zip (Nat.le_refl _)]at this
 .rw[e,BW];exact hs
theorem Dg{a:Addr}{vs:List Value}{n:Nat}{P:Fin->Shared->Prop}(ho:s.heap.get? a=some (seqObj "list" vs.toArray n))(hz:vs.length<=sizeLine)(K:Keys prog w a s U kd vs)
  (h:∀out:Array Value,Out U vs out->P (.done (.ret .none)) { s with heap:=sortedHeap s.heap a vs out }) :
  wpAny (model prog w) A (Builtin.«list.sort» ⟨[.ref a],[]⟩) P E s:=by
 rw[list_sort_plain];have ha:a<s.heap.objs.size:=AL ho;have hsz:vs.toArray.size=vs.length:=by simp
 refine AB (listItems_at ho rfl ?_);refine AB (listUpdate_at ho rfl ?_ (by rw[hsz];exact hz) (by simp));obtain⟨e1,ho1⟩:∃e1,(s.heap.update a (Obj.mapSeq fun _=>#[])).get? a=some (seqObj "list" #[] e1):=⟨_,get?_update_seq ho (fun _=>#[])⟩;refine AB (seqEpoch_at ho1 rfl ?_);refine AB (wpAny_newTuple ?_ (by simpa using hz));refine AB (GC ?_);refine CF ?_;have ho6:(((s.heap.update a (Obj.mapSeq fun _=>#[])).push (seqObj "tuple" vs.toArray 0)).push (seqObj "list" #[] 0)).get? a=some (seqObj "list" #[] e1):=by
  rw[HL _ _ _ (by rw[size_push',EC];exact AX (DD ha)),HL _ _ _ (by rw[EC];exact AX ha)];exact ho1
 show wpAny (model prog w) A _ P E { s with heap:=((s.heap.update a (Obj.mapSeq fun _=>#[])).push (seqObj "tuple" vs.toArray 0)).push (seqObj "list" #[] 0) };dsimp only;have hE:Ext a s { s with heap:=((s.heap.update a (Obj.mapSeq fun _=>#[])).push (seqObj "tuple" vs.toArray 0)).push (seqObj "list" #[] 0) }:=fun b o hb e =>
  AC _ (AC _ ((CO s.heap _ (Ne.symm hb)).trans e))
 by_cases h2:vs.toArray.size<2
 .rw[AR h2,AR h2];refine AB (AD ?_);rw[StateT.run_pure];refine AB (AD ?_);dsimp only;refine AB (seqEpoch_at ho6 rfl ?_);refine AB (listUpdate_at ho6 rfl ?_ (by simp) (by rw[FT];show(pairsOf vs).size<=_;rw[pairsOf_size];omega));simp only[bne_self_eq_false,BD,CL];refine AD (h _ (Mm (U:=U) (xs:=pairsOf vs) (FS _) ?_));rw[pairsOf_toList];rw[hsz]at h2
  match vs,h2 with
  | [],_=>exact List.Pairwise.nil
  | [v],_=>exact DI _ _
  | _::_::_,h2=>simp at h2;omega
 .rw[AM h2,AM h2];refine AB (K.kind (by omega) A E _ _ hE ?_);refine AB (CD (Z0 (K.cmp A _ hE) (a₀:=pairsOf vs) (st:=SortSt.mk' kd (vs.toArray.zip vs.toArray) #[] 7 none)
   (Q:=fun _ st'=>St U kd (pairsOf vs) st'/\Sor U (arrOf st').toList)
   (fun p hp=>?_) ⟨FS _,rfl,rfl⟩ rfl fun st' a1 a2=>⟨a1,a2⟩) ?_ fun _ _ e=>e)
  .rw[pairsOf_toList]at hp;exact K.key _ (mem_zip_self hp).2
  rintro⟨⟨⟩,st'⟩ s' ⟨rfl,hp,hs⟩;dsimp only;refine AB (seqEpoch_at ho6 rfl ?_);refine AB (listUpdate_at ho6 rfl ?_ (by simp) (by rw[FT];show(arrOf st').size<=_;rw[hp.size,pairsOf_size];omega));rw[show failedOf st'=none from hp.failed];simp only[bne_self_eq_false,BD,CL];exact AD (h _ (Mm hp.perm hs))
theorem sorted_gen{x:Value}{Q:Value->Shared->Prop}
  (hc:wpAny (model prog w) A.in1 (collect x) (fun vs s1=>s1.os=s.os/\vs.length<=sizeLine/\(∃(U:KeyKind) (kd:SortKind),(∀s2:Shared,Ext s1.heap.objs.size s1 s2->Keys prog w s1.heap.objs.size s2 U kd vs) /\
   ∀(out:Array Value) (h':Heap) (e:Nat),Out U vs out->(∀b o,s1.heap.get? b=some o->h'.get? b=some o)->h'.get? s1.heap.objs.size=some (seqObj "list" out e)->Q (.ref s1.heap.objs.size) { s1 with heap:=h' })) E s) :
  wpAny (model prog w) A (call (.builtin "sorted") [x]) Q E s:=by
 refine Calls.call_function_entry kind_sorted plain_sorted entry_sorted (args_sorted1 _) ?_;unfold Builtin.«sorted»;refine AB (m:=checkCount "sorted" 1 1 _) (AD ?_);refine AB (CD hc (fun vs s1 ⟨eos,hz,U,kd,K,q⟩=>?_) fun _ _ z=>z);refine AB (GC ?_);have hoL:(s1.heap.push (seqObj "list" vs.toArray 0)).get? s1.heap.objs.size=some (seqObj "list" vs.toArray 0):=BC _ rfl;show wpAny _ _ _ _ _ { s1 with heap:=s1.heap.push (seqObj "list" vs.toArray 0) };have hE:Ext s1.heap.objs.size s1 { s1 with heap:=s1.heap.push (seqObj "list" vs.toArray 0) }:=fun b o _ e=>AC _ e;refine AB (CF (DW slot_list_sort ⟨_,hoL,rfl⟩ entry_list_sort (Dg (s:={ s1 with heap:=s1.heap.push (seqObj "list" vs.toArray 0) }) hoL hz (K _ hE) fun out ho=>⟨_,rfl,?_⟩) (args_list_sort _)));obtain⟨e,he⟩:=sortedHeap_at (h:=s1.heap.push (seqObj "list" vs.toArray 0)) (out:=out) hoL;refine AD ⟨_,rfl,q out _ e ho (fun b o eb=>?_) he⟩;have hlt:=AL eb;rw[sortedHeap_old (AX hlt) (by rw[size_push'];exact DD hlt)];exact AC _ eb
theorem keys_strs{a:Addr}{vs:List Value}{ss:List Str}(hS:StrsAre vs ss):Keys prog w a s strKind oneType' vs:=by
 refine⟨fun A s' _=>⟨fun x y k l Q E hx hy q=>?_⟩,fun v hv=>?_,fun h2 A E s' Q _ q=>?_⟩
 .rw[keyLt'_oneType];exact strKind_oneLt prog w A E s' x y k l hx hy q
 .obtain⟨x,t,rfl⟩:=hS.all v hv;exact⟨_,rfl⟩
 .match vs,h2,hS with
  | v1::v2::r,_,hS =>
   rw[keyKind_strs hS];exact AD q
def pairLt(a b:List Nat×List Nat):Bool:=decide (a.1<b.1)||(decide (a.1=b.1)&&decide (a.2<b.2))
theorem pairLt_iff{a b:List Nat×List Nat}:pairLt a b=true↔a.1<b.1\/(a.1=b.1/\a.2<b.2):=by
 unfold pairLt;simp
theorem tri(a b:List Nat):a<b\/a=b\/b<a:=by
 by_cases h:a<b
 .exact .inl h
 .by_cases h':b<a
  .exact .inr (.inr h')
  .exact .inr (.inl (HR (List.not_lt.mp h') (List.not_lt.mp h)))
def Pw:List Value->Option (List Nat×List Nat)
 | [.str x _,.str y _]=>some (x.cps.toList,y.cps.toList)
 | _=>none
def Th(c:Value):Data->Option (List Nat×List Nat)
 | .seq xs _=>if c = .type "tuple" then Pw xs.toList else none
 | _=>none
def pairOf(h:Heap):Value->Option (List Nat×List Nat)
 | .ref p=>(h.get? p).bind fun o=>Th o.cls o.data
 | _=>none
@[reducible] def pairKind(h:Heap):KeyKind where
 α:=List Nat×List Nat
 blt:=pairLt
 irrefl a:=by
  rw[BO];intro z;rcases pairLt_iff.mp z with z | ⟨_,z⟩
  .exact FB _ z
  .exact FB _ z
 trans a b c h1 h2:=by
  rw[pairLt_iff]at *;rcases h1 with h1 | ⟨h1,h1'⟩
  .rcases h2 with h2 | ⟨h2,_⟩
   .exact .inl (GW h1 h2)
   .exact .inl (h2▸h1)
  .rcases h2 with h2 | ⟨h2,h2'⟩
   .exact .inl (h1▸h2)
   .exact .inr ⟨h1.trans h2,GW h1' h2'⟩
 negTrans a b c h:=by
  rw[pairLt_iff]at h;simp only[pairLt_iff];rcases h with h | ⟨h,h'⟩
  .rcases tri a.1 b.1 with q | q | q
   .exact .inl (.inl q)
   .exact .inr (.inl (q▸h))
   .exact .inr (.inl (GW q h))
  .rcases tri a.1 b.1 with q | q | q
   .exact .inl (.inl q)
   .rcases tri a.2 b.2 with r | r | r
    .exact .inl (.inr ⟨q,r⟩)
    .exact .inr (.inr ⟨q▸h,r▸h'⟩)
    .exact .inr (.inr ⟨q▸h,GW r h'⟩)
   .exact .inr (.inl (h▸q))
 total a b h1 h2:=by
  rw[BO]at h1 h2;rcases tri a.1 b.1 with q | q | q
  .exact absurd (pairLt_iff.mpr (.inl q)) h1
  .rcases tri a.2 b.2 with r | r | r
   .exact absurd (pairLt_iff.mpr (.inr ⟨q,r⟩)) h1
   .exact Prod.ext q r
   .exact absurd (pairLt_iff.mpr (.inr ⟨q.symm,r⟩)) h2
  .exact absurd (pairLt_iff.mpr (.inl q)) h2
 keyOf:=pairOf h
 dflt:=([],[])
def PairAt(h:Heap)(v:Value)(x y:Str):Prop:=∃p o n t u,v = .ref p/\h.get? p=some o/\o.cls = .type "tuple"/\o.data = .seq #[.str x t,.str y u] n
theorem PairAt.key{h:Heap}{v:Value}{x y:Str}(z:PairAt h v x y):pairOf h v=some (x.cps.toList,y.cps.toList):=by
 obtain⟨p,o,n,t,u,rfl,e,c,d⟩:=z;show(h.get? p).bind (fun o=>Th o.cls o.data)=_;rw[e];show Th o.cls o.data=_;rw[d,c];unfold Th;exact(AR rfl).trans rfl
theorem zCs{l:List Value}{k:List Nat×List Nat}(e:Pw l=some k):∃x t y u,l = [.str x t,.str y u]:=by
 match l,e with
 | [.str x t,.str y u],_=>exact⟨x,t,y,u,rfl⟩
theorem Sc{h:Heap}{v:Value}{k:List Nat×List Nat}(e:pairOf h v=some k):∃x y,PairAt h v x y:=by
 match v,e with
 | .ref p,e =>
  have e':(h.get? p).bind (fun o=>Th o.cls o.data)=some k:=e;obtain⟨o,ho,es⟩:=Option.bind_eq_some_iff.mp e';cases d:o.data with
  | seq xs n =>
   rw[d]at es;have es':(if o.cls = .type "tuple" then Pw xs.toList else none)=some k:=es;by_cases c:o.cls = .type "tuple"
   .rw[AR c]at es';obtain⟨x,t,y,u,el⟩:=zCs es';refine⟨x,y,p,o,n,t,u,rfl,ho,c,?_⟩;rw[d];have:xs = #[.str x t,.str y u]:=by rw[<-HS,el]
    rw[this]
   .rw[AM c]at es';cases es'
  | _=>rw[d]at es;cases es
theorem Mj{h:Heap}{v:Value}{k:List Nat×List Nat}{x y:Str}(z:PairAt h v x y)(e:pairOf h v=some k):k =(x.cps.toList,y.cps.toList):=by
 rw[z.key]at e;exact(BH e).symm
theorem keys_pairs{a:Addr}{vs:List Value}{h0:Heap}(hv:∀v∈vs,∃x y,PairAt h0 v x y)(hk:∀b o,h0.get? b=some o->b≠a/\s.heap.get? b=some o) :
  Keys prog w a s (pairKind h0) (tuples' true) vs:=by
 refine⟨fun A s' hE=>⟨fun x y k l Q E hx hy q=>?_⟩,fun v hvm=>?_,fun h2 A E s' Q hE q=>?_⟩
 .obtain⟨x1,x2,zx⟩:=Sc hx;obtain⟨y1,y2,zy⟩:=Sc hy;have ek:=Mj zx hx;have el:=Mj zy hy;subst ek el;obtain⟨px,ox,nx,t1,u1,rfl,e1,_,d1⟩:=zx;obtain⟨py,oy,ny,t2,u2,rfl,e2,_,d2⟩:=zy;have f1:=hE _ _ (hk _ _ e1).1 (hk _ _ e1).2;have f2:=hE _ _ (hk _ _ e2).1 (hk _ _ e2).2;refine PySem.W.kat_lt f1 d1 f2 d2 ?_;show PySem.W.KatLex prog w A true _ Q [(.str x1 t1,.str y1 t2),(.str x2 u1,.str y2 u2)] 0 s';refine PySem.W.kat_cons (FU (PySem.W.kat_go (fun he=>?_) fun he=>?_))
  .have he:x1=y1:=by simpa using he
   refine PySem.W.kat_yes (PySem.W.kat_cons (FU (PySem.W.kat_go (fun he2=>?_) fun he2=>?_)))
   .have he2:x2=y2:=by simpa using he2
    refine PySem.W.kat_yes (PySem.W.kat_nil ?_);have:pairLt (x1.cps.toList,x2.cps.toList) (y1.cps.toList,y2.cps.toList)=decide (2<2):=by
     rw[he,he2];exact(pairKind h0).irrefl (y1.cps.toList,y2.cps.toList)
    show Q (decide (2<2)) s';rw[<-this];exact q
   .refine PySem.W.kat_no (PySem.W.kat_one _ _ (lt_str ?_));have:pairLt (x1.cps.toList,x2.cps.toList) (y1.cps.toList,y2.cps.toList)=decide (x2.cps.toList<y2.cps.toList):=by
     rw[he];unfold pairLt;simp[FB]
    show Q (decide (x2.cps.toList<y2.cps.toList)) s';rw[<-this];exact q
  .have he:¬x1=y1:=by simpa using he
   refine PySem.W.kat_no (oneLt_str ?_);have hne:¬x1.cps.toList=y1.cps.toList:=fun z=>he (by cases x1;cases y1;simp at z;simp[z]);have:pairLt (x1.cps.toList,x2.cps.toList) (y1.cps.toList,y2.cps.toList)=decide (x1.cps.toList<y1.cps.toList):=by
    unfold pairLt;simp[hne]
   rw[<-this];exact q
 .obtain⟨x,y,z⟩:=hv v hvm;exact⟨_,z.key⟩
 .have hT:∀(us:List Value),(∀v∈us,∃x y,PairAt h0 v x y)->∃fs,PySem.W.KatTups s'.heap us fs/\fs.length=us.length/\∀v∈fs,∃x t,v = .str x t:=by
   intro us
   induction us with
   | nil=>exact fun _=>⟨[],.nil,rfl,fun v hv=>by simp at hv⟩
   | cons v r ih =>
    intro hus;obtain⟨fs,g1,g2,g3⟩:=ih fun u hu=>hus u (AU _ hu);obtain⟨x,y,p,o,n,t,u,rfl,e,c,d⟩:=hus v (BE ..);refine⟨.str x t::fs,.cons (hE _ _ (hk _ _ e).1 (hk _ _ e).2) c d rfl g1,by simp[g2],fun z hz=>?_⟩;rcases A_.mp hz with rfl | hz
    .exact⟨x,t,rfl⟩
    .exact g3 z hz
  obtain⟨fs,g1,g2,g3⟩:=hT vs hv;refine PySem.W.kat_kind (T:=.type "str") g1 (by omega) (fun v hv=>?_) (by rfl) q;obtain⟨x,t,rfl⟩:=g3 v hv;exact .now
end
end TS
set_option Elab.async false
namespace L2
open PySem PySem.Spec PyProof.Rows
abbrev Key:=Sum Int Str
def Dq:Key->Value->Bool
 | .inl k,v=>Value.isInt k v
 | .inr x,v=>Value.isStrOf x v
def zIf(w:World):Key->Int
 | .inl k=>hashInt k
 | .inr x=>hashStr w x
theorem E6:∀{k:Key} {v:Value},Dq k v=true->(∃i t,k=Sum.inl i/\v=Value.int i t)\/(∃x t,k=Sum.inr x/\v=Value.str x t)
 | .inl i,v,h=>by
  obtain⟨t,e⟩:=Value.isInt_shape (k:=i) (v:=v) h;exact .inl ⟨i,t,rfl,e⟩
 | .inr x,v,h=>by
  obtain⟨t,e⟩:=Value.isStrOf_shape (x:=x) (v:=v) h;exact .inr ⟨x,t,rfl,e⟩
theorem Sd(i:Int)(t:Tok):Dq (.inl i) (.int i t)=true:=by simp[Dq,Value.isInt]
theorem X1(x:Str)(t:Tok):Dq (.inr x) (.str x t)=true:=by simp[Dq,Value.isStrOf]
theorem zEw(a b:Int):decide ((Sum.inl a:Key)=Sum.inl b) =(a == b):=by
 by_cases e:a=b
 .subst e;simp
 .have h:¬(Sum.inl a:Key)=Sum.inl b:=fun q=>e (Sum.inl.inj q);rw[AQ h];exact(beq_eq_false_iff_ne.mpr e).symm
theorem zDu(a b:Str):decide ((Sum.inr a:Key)=Sum.inr b)=decide (a=b):=by
 by_cases e:a=b
 .subst e;simp
 .have h:¬(Sum.inr a:Key)=Sum.inr b:=fun q=>e (Sum.inr.inj q);rw[AQ h,AQ e]
theorem zBy(a:Int)(b:Str):decide ((Sum.inl a:Key)=Sum.inr b)=false:=AQ (fun q=>nomatch q)
theorem zCo(a:Str)(b:Int):decide ((Sum.inr a:Key)=Sum.inl b)=false:=AQ (fun q=>nomatch q)
def C0(prog:Program)(w:World):PySem.KeyKind prog w Key where
 is:=Dq
 hash:=zIf w
 inj:=fun v a b ha hb=>by
  rcases E6 ha with⟨i,t,rfl,rfl⟩ | ⟨x,t,rfl,rfl⟩
  .rcases E6 hb with⟨j,u,rfl,e⟩ | ⟨y,u,rfl,e⟩
   .injection e with e1 _;rw[e1]
   .exact nomatch e
  .rcases E6 hb with⟨j,u,rfl,e⟩ | ⟨y,u,rfl,e⟩
   .exact nomatch e
   .injection e with e1 _;rw[e1]
 byValue:=fun k v h=>by
  rcases E6 h with⟨i,t,rfl,rfl⟩ | ⟨x,t,rfl,rfl⟩<;>rfl
 pyHash:=fun hv h=>by
  rcases E6 hv with⟨i,t,rfl,rfl⟩ | ⟨x,t,rfl,rfl⟩
  .exact wpAny_pyHash_int h
  .exact wpAny_pyHash_str h
 eqBool:=fun hu hv h=>by
  rcases E6 hu with⟨i,t,rfl,rfl⟩ | ⟨x,t,rfl,rfl⟩
  .rcases E6 hv with⟨j,u,rfl,rfl⟩ | ⟨y,u,rfl,rfl⟩
   .rw[zEw]at h;exact wpAny_eqBool_int h
   .rw[zBy]at h;exact SeqAt.EqAt.int_str i t y u _ _ _ _ h
  .rcases E6 hv with⟨j,u,rfl,rfl⟩ | ⟨y,u,rfl,rfl⟩
   .rw[zCo]at h;exact SeqAt.EqAt.str_int x t j u _ _ _ _ h
   .rw[zDu]at h;exact FU h
 «strs»:=fun k x t v h=>by
  rcases E6 h with⟨i,u,rfl,e⟩ | ⟨y,u,rfl,e⟩
  .exact nomatch e
  .injection e with e1 _;subst e1;cases v<;>rfl
theorem Kf(prog:Program)(w:World)(i:Int)(t:Tok):(C0 prog w).is (.inl i) (.int i t)=true:=Sd i t
theorem Jy(prog:Program)(w:World)(x:Str)(t:Tok):(C0 prog w).is (.inr x) (.str x t)=true:=X1 x t
inductive V where
 | non | bl (b:Bool) | int (i:Int) | str (x:Str) | byt (b:Array UInt8) | flt (b:UInt64) | ref (a:Addr) | ty (n:String)
 deriving DecidableEq
def RelV:V->Value->Prop
 | .non,u=>u=Value.none
 | .bl b,u=>u=Value.bool b
 | .int i,u=>∃t,u=Value.int i t
 | .str x,u=>∃t,u=Value.str x t
 | .byt b,u=>∃t,u=Value.bytes b t
 | .flt b,u=>∃t,u=Value.float b t
 | .ref a,u=>u=Value.ref a
 | .ty n,u=>u=Value.type n
abbrev Vals:List V->List Value->Prop:=Paired RelV
theorem Vals.length{xs:List V}{us:List Value}(r:Vals xs us):xs.length=us.length:=Paired.length r
theorem Vals.get:∀{xs:List V} {us:List Value} {i:Nat} {x:V},Vals xs us->xs[i]?=some x->∃u,us[i]?=some u/\RelV x u
 | _,_,_,_,.nil,e=>by simp at e
 | _,_,0,_,.cons r _,e=>by simp at e;subst e;exact⟨_,rfl,r⟩
 | _,_,i+1,x,.cons _ t,e=>by
  obtain⟨u,h1,h2⟩:=Vals.get (i:=i) (x:=x) t (by simpa using e);exact⟨u,by simpa using h1,h2⟩
theorem Vals.set{x:V}{u:Value}(r:RelV x u):∀{xs:List V} {us:List Value} (i:Nat),Vals xs us->Vals (xs.set i x) (us.set i u)
 | _,_,_,.nil=>.nil
 | _,_,0,.cons _ t=>.cons r t
 | _,_,i+1,.cons q t=>.cons q (Vals.set r i t)
theorem Vals.append:∀{xs ys:List V} {us ws:List Value},Vals xs us->Vals ys ws->Vals (xs++ys) (us++ws)
 | _,_,_,_,.nil,s=>s
 | _,_,_,_,.cons r t,s=>.cons r (Vals.append t s)
theorem Vals.take:∀{xs:List V} {us:List Value} (n:Nat),Vals xs us->Vals (xs.take n) (us.take n)
 | _,_,0,_=>.nil
 | _,_,_+1,.nil=>.nil
 | _,_,n+1,.cons r t=>.cons r (Vals.take n t)
theorem Vals.drop:∀{xs:List V} {us:List Value} (n:Nat),Vals xs us->Vals (xs.drop n) (us.drop n)
 | _,_,0,r=>r
 | _,_,_+1,.nil=>.nil
 | _,_,n+1,.cons _ t=>Vals.drop n t
def RelO:Option V->Option Value->Prop
 | some v,some u=>RelV v u
 | none,none=>True
 | _,_=>False
def KV{U:Type}:List (U×V)->List (U×Value)->Prop:=Paired fun(p:U×V) (q:U×Value)=>p.1=q.1/\RelV p.2 q.2
def kV:Key->V
 | .inl i=>.int i
 | .inr x=>.str x
inductive HO where
 | lst (xs:List V)
 | tup (xs:List V)
 | dK (kvs:List (Key×V)) | dT (kvs:List (List Key×V))
 | set (S:Int->Bool) (n:Nat)
 | ins (C dx:Addr) (fs:List (Str×V))
 | own (x:Addr)
 | xd (fs:List (Str×V))
 | met (f x:Addr)
 | rng (lo hi:Int)
 | frz (o:Obj) (u:HO)
 | tbl (ps:Array Value)
 | ext (φ:Heap->Prop)
set_option genInjectivity false
abbrev Hp:=Addr->Option HO
def upd(H:Hp)(a:Addr)(o:HO):Hp:=fun b=>if b=a then some o else H b
theorem A9{H:Hp}{a:Addr}{o:HO}:upd H a o a=some o:=by unfold upd;rw[AR rfl]
theorem B6{H:Hp}{a b:Addr}{o:HO}(h:b≠a):upd H a o b=H b:=by unfold upd;rw[AM h]
theorem Q8{H:Hp}{a b:Addr}{o u:HO}(h:H a=some o)(h':H b=some u)(d:o≠u):a≠b:=by
 intro e;subst e;rw[h]at h';exact d (BH h')
theorem B0{H:Hp}{a b:Addr}{o:HO}(h:H a=some o)(h':H b=none):a≠b:=by
 intro e;subst e;rw[h]at h';cases h'
section
variable(P:Program)(w:World)
def ObjOk(H:Hp)(h:Heap)(a:Addr):HO->Prop
 | .lst xs=>xs.length<=sizeLine/\∃(its:List Value) (n:Nat),Vals xs its/\h.get? a=some { cls:=.type "list",data:=.seq its.toArray n }
 | .tup xs=>xs.length<=sizeLine/\∃its:List Value,Vals xs its/\IsTup h a its.toArray
 | .dK kvs=>kvs.length<=sizeLine/\(a == sysModules)=false/\∃vs,KV kvs vs/\h.DictOf (C0 P w) a vs
 | .dT kvs=>kvs.length<=sizeLine/\(a == sysModules)=false/\∃xs:List (List Key×Addr×Value),
   Paired (fun(p:List Key×V) (q:List Key×Addr×Value)=>p.1=q.1/\H q.2.1=some (.tup (p.1.map kV))/\RelV p.2 q.2.2) kvs xs /\
   ∃o es ep,h.get? a=some o/\o.ExactDict/\o.data = .dict es ep/\es.toList=xs.map (entryOfKey (tupleKind (C0 P w)))/\(xs.map (·.1)).Nodup
 | .set S n=>h.SetOf (intKind P w) a S n
 | .ins C dx fs=>H dx=some (.own a)/\fs.length<=1000/\dx≠a/\h.get? a=some (PySem.W.instObj C dx) /\
   ∃mA,h.Ns1 dx mA/\(∀f,RelO (fs.lookup f) (mA f))/\PySem.Within mA (fs.map (·.1))
 | .own _=>∃o,h.get? a=some o
 | .xd fs=>∃mA,h.Ns1 a mA/\∀f,RelO (fs.lookup f) (mA f)
 | .rng lo hi=>∃t u v,h.get? a=some { cls:=.type "range",data:=.fields #[.int lo t,.int hi u,.int 1 v] }
 | .frz o u=>h.get? a=some o/\ObjOk H h a u
 | .tbl ps=>h.get? a=some { cls:=.none,data:=.fields ps }
 | .met f x=>h.get? a=some (PySem.W.methodObj (.ref f) (.ref x))
 | .ext φ=>φ h/\(∃o,h.get? a=some o)/\∀h1 h2:Heap,φ h1->(∀o,h1.get? a=some o->h2.get? a=some o)->φ h2
def HOk(H:Hp)(h:Heap):Prop:=∀a o,H a=some o->ObjOk P w H h a o
end
section
variable{P:Program}{w:World}{H H':Hp}{h h':Heap}{a:Addr}{o:HO}
theorem ObjOk.lt(x:ObjOk P w H h a o):a<h.objs.size:=by
 cases o with
 | lst xs=>obtain⟨_,_,_,_,e⟩:=x;exact AL e
 | tup xs=>obtain⟨_,_,_,p⟩:=x;exact p.lt
 | dK kvs=>obtain⟨_,_,_,_,o,_,_,e,_⟩:=x;exact AL e
 | dT kvs=>obtain⟨_,_,_,_,o,_,_,e,_⟩:=x;exact AL e
 | set S n=>obtain⟨o,_,_,_,e,_⟩:=x;exact AL e
 | ins C dx fs=>obtain⟨_,_,_,e,_⟩:=x;exact AL e
 | own y=>obtain⟨_,e⟩:=x;exact AL e
 | xd fs=>obtain⟨_,⟨_,_,_,e,_⟩,_⟩:=x;exact AL e
 | rng lo hi=>obtain⟨_,_,_,e⟩:=x;exact AL e
 | frz ob u=>obtain⟨e,_⟩:=x;exact AL e
 | tbl ps=>exact AL (show h.get? a=some _ from x)
 | met f y=>exact AL (show h.get? a=some _ from x)
 | ext φ=>obtain⟨_,⟨_,e⟩,_⟩:=x;exact AL e
theorem Paired.mapP{α β:Type}{F G:α->β->Prop}:∀{l₁:List α} {l₂:List β},Paired F l₁ l₂->(∀a b,F a b->G a b)->Paired G l₁ l₂
 | _,_,.nil,_=>.nil
 | _,_,.cons r t,f=>.cons (f _ _ r) (Paired.mapP t f)
theorem ObjOk.stay(x:ObjOk P w H h a o)(k:∀b u,(b=a\/H b=some (.own a))->h.get? b=some u->h'.get? b=some u)
  (ho:∀b,H b=some (.own a)->H' b=some (.own a)) (ht:∀b xs,H b=some (.tup xs)->H' b=some (.tup xs)):ObjOk P w H' h' a o:=by
 induction o with
 | lst xs=>obtain⟨z,its,n,r,e⟩:=x;exact⟨z,its,n,r,k _ _ (.inl rfl) e⟩
 | tup xs=>obtain⟨z,its,r,ob,e,c⟩:=x;exact⟨z,its,r,ob,k _ _ (.inl rfl) e,c⟩
 | dK kvs=>obtain⟨z,y,vs,r,ob,es,ep,e,c⟩:=x;exact⟨z,y,vs,r,ob,es,ep,k _ _ (.inl rfl) e,c⟩
 | dT kvs =>
  obtain⟨z,y,xs,r,ob,es,ep,e,c⟩:=x;exact⟨z,y,xs,Paired.mapP r fun p q z=>⟨z.1,ht _ _ z.2.1,z.2.2⟩,ob,es,ep,k _ _ (.inl rfl) e,c⟩
 | set S n=>obtain⟨ob,es,ep,t,e,c⟩:=x;exact⟨ob,es,ep,t,k _ _ (.inl rfl) e,c⟩
 | ins C dx fs =>
  obtain⟨d,z,ne,e,mA,⟨od,es,ep,e2,c⟩,r⟩:=x;exact⟨ho _ d,z,ne,k _ _ (.inl rfl) e,mA,⟨od,es,ep,k _ _ (.inr d) e2,c⟩,r⟩
 | own y=>obtain⟨ob,e⟩:=x;exact⟨ob,k _ _ (.inl rfl) e⟩
 | xd fs=>obtain⟨mA,⟨od,es,ep,e,c⟩,r⟩:=x;exact⟨mA,⟨od,es,ep,k _ _ (.inl rfl) e,c⟩,r⟩
 | rng lo hi=>obtain⟨t,u,v,e⟩:=x;exact⟨t,u,v,k _ _ (.inl rfl) e⟩
 | frz ob u ih=>obtain⟨e,q⟩:=x;exact⟨k _ _ (.inl rfl) e,ih q⟩
 | tbl ps =>
  have e:h.get? a=some { cls:=.none,data:=.fields ps }:=x;show h'.get? a=some { cls:=.none,data:=.fields ps };exact k a _ (.inl rfl) e
 | met f y =>
  have e:h.get? a=some (PySem.W.methodObj (.ref f) (.ref y)):=x;show h'.get? a=some (PySem.W.methodObj (.ref f) (.ref y));exact k a _ (.inl rfl) e
 | ext φ=>obtain⟨p,⟨o,e⟩,st⟩:=x;exact⟨st _ _ p fun o q=>k _ _ (.inl rfl) q,⟨o,k _ _ (.inl rfl) e⟩,st⟩
theorem HOk.lt(x:HOk P w H h)(e:H a=some o):a<h.objs.size:=(x a o e).lt
theorem HOk.fresh(x:HOk P w H h)(e:h.objs.size<=a):H a=none:=by
 cases q:H a with
 | none=>rfl
 | some u=>exact absurd (BJ (x.lt q) e) (CQ _)
theorem HOk.kept(x:HOk P w H h)(k:∀b u,h.get? b=some u->h'.get? b=some u):HOk P w H h':=fun a o e =>
 (x a o e).stay (fun b u _ q=>k b u q) (fun _ q=>q) fun _ _ q=>q
theorem HOk.laid(x:HOk P w H h)(k:∀b u,h.get? b=some u->h'.get? b=some u)(hp:h.objs.size<=a)(new:ObjOk P w (upd H a o) h' a o):HOk P w (upd H a o) h':=fun b u e=>by
 have hn:=x.fresh hp;by_cases hb:b=a
 .subst hb;rw[A9]at e;cases e;exact new
 .rw[B6 hb]at e;exact(x b u e).stay (fun c v _ q=>k c v q) (fun c q=>by rw[B6 (B0 q hn)];exact q) fun c xs q=>by rw[B6 (B0 q hn)];exact q
end
def Rd(H:Hp)(a:Addr)(u:HO):Prop:=H a=some u\/∃o,H a=some (.frz o u)
theorem Rd.ok{P:Program}{w:World}{H:Hp}{h:Heap}{a:Addr}{u:HO}(r:Rd H a u)(x:HOk P w H h):ObjOk P w H h a u:=by
 rcases r with r | ⟨o,r⟩
 .exact x a u r
 .obtain⟨_,q⟩:=x a _ r;exact q
def Mut:Option HO->Prop
 | some (.lst _)=>True
 | some (.dK _)=>True
 | some (.dT _)=>True
 | some (.set _ _)=>True
 | some (.ins _ _ _)=>True
 | some (.ext _)=>True
 | _=>False
section
variable{P:Program}{w:World}{H:Hp}{h h':Heap}{x e:Addr}{o':HO}
theorem HOk.write(ok:HOk P w H h)(mu:Mut (H x))(he:e=x\/H e=some (.own x))(k:∀b u,b≠e->h.get? b=some u->h'.get? b=some u)(heo:∃u,h'.get? e=some u)
  (new:ObjOk P w (upd H x o') h' x o'):HOk P w (upd H x o') h':=fun b u q=>by
 have nown:∀c y,H c=some (.own y)->c≠x:=fun c y r z=>by subst z;rw[r]at mu;exact mu
 have ntup:∀c xs,H c=some (.tup xs)->c≠x:=fun c xs r z=>by subst z;rw[r]at mu;exact mu
 by_cases hb:b=x
 .subst hb;rw[A9]at q;cases q;exact new
 .rw[B6 hb]at q;by_cases hbe:b=e
  .have q':H b=some (.own x):=by
    rcases he with z | z
    .exact absurd (hbe.trans z) hb
    .rw[hbe];exact z
   rw[q]at q';cases q';obtain⟨v,hv⟩:=heo;exact⟨v,by rw[hbe];exact hv⟩
  .refine(ok b u q).stay (fun c v hc r=>k c v ?_ r) (fun c r=>by rw[B6 (nown c b r)];exact r) fun c xs r=>by rw[B6 (ntup c xs r)];exact r
   rcases hc with rfl | hc
   .exact hbe
   .rintro rfl;rcases he with z | z
    .exact nown c b hc z
    .rw[hc]at z;cases z;exact hb rfl
end
structure Un(fs ex:List Addr)(H H':Hp)(h h':Heap):Prop where
 keep:∀b o,h.get? b=some o->H b=none->b∉fs->b∉ex->h'.get? b=some o
 slot:∀b o,h.get? b=some o->H b=none->b∈fs->b∉ex->∃sl,h'.get? b=some { o with slots:=sl }
 free:∀b o,h.get? b=some o->H b=none->b∉ex->H' b=none
 there:∀b o,h.get? b=some o->b∉ex->∃o',h'.get? b=some o'
 tups:∀b xs,H b=some (.tup xs)->H' b=some (.tup xs)
 frzs:∀b o u,H b=some (.frz o u)->H' b=some (.frz o u)
 tbls:∀b ps,H b=some (.tbl ps)->∃more,H' b=some (.tbl (ps++more))
section
variable{fs fs' ex ex':List Addr}{H H1 H2:Hp}{h h1 h2 h':Heap}{a x e:Addr}{o:HO}
theorem Un.any(u:Un fs ex H H1 h h1){b:Addr}{ob:Obj}(q:h.get? b=some ob)(n:H b=none)(hx:b∉ex):∃sl,h1.get? b=some { ob with slots:=sl }:=by
 by_cases hb:b∈fs
 .exact u.slot b ob q n hb hx
 .exact⟨ob.slots,u.keep b ob q n hb hx⟩
theorem Un.kept(k:∀b u,h.get? b=some u->h'.get? b=some u):Un fs ex H H h h' :=
 ⟨fun b ob q _ _ _=>k b ob q,fun b ob q _ _ _=>⟨ob.slots,k b ob q⟩,fun _ _ _ n _=>n,fun b ob q _=>⟨ob,k b ob q⟩,fun _ _ q=>q,fun _ _ _ q=>q,fun _ ps q=>⟨#[],by rw[q];simp⟩⟩
theorem Un.refl:Un fs ex H H h h:=Un.kept fun _ _ q=>q
theorem Un.laid(k:∀b u,h.get? b=some u->h'.get? b=some u)(hp:h.objs.size<=a)(hn:H a=none):Un fs ex H (upd H a o) h h' where
 keep:=fun b u q _ _ _=>k b u q
 slot:=fun b u q _ _ _=>⟨u.slots,k b u q⟩
 free:=fun b u q n _=>by rw[B6 (AX (BJ (AL q) hp))];exact n
 there:=fun b u q _=>⟨u,k b u q⟩
 tups:=fun b xs q=>by rw[B6 (B0 q hn)];exact q
 frzs:=fun b u xs q=>by rw[B6 (B0 q hn)];exact q
 tbls:=fun b ps q=>⟨#[],by rw[B6 (B0 q hn),q];simp⟩
theorem Un.write(mu:Mut (H x))(he:e=x\/H e=some (.own x))(k:∀b u,b≠e->h.get? b=some u->h'.get? b=some u)(heo:∃u,h'.get? e=some u):Un fs ex H (upd H x o) h h':=by
 have hx:∀b,H b=none->b≠x:=fun b n z=>by subst z;rw[n]at mu;exact mu
 have hb:∀b,H b=none->b≠e:=fun b n z=>by
  subst z;rcases he with r | r
  .exact hx b n r
  .rw[n]at r;cases r
 have hm:∀b u,H b=some u->¬Mut (some u)->b≠x:=fun b u q nm z=>by subst z;rw[q]at mu;exact nm mu
 refine⟨fun b u q n _ _=>k b u (hb b n) q,fun b u q n _ _=>⟨u.slots,k b u (hb b n) q⟩,fun b u q n _=>by rw[B6 (hx b n)];exact n,fun b u q _=>?_,
  fun b xs q=>by rw[B6 (hm b _ q fun z=>z)];exact q,fun b u xs q=>by rw[B6 (hm b _ q fun z=>z)];exact q,fun b ps q=>⟨#[],by rw[B6 (hm b _ q fun z=>z),q];simp⟩⟩
 by_cases hbe:b=e
 .subst hbe;exact heo
 .exact⟨u,k b u hbe q⟩
end
def trk(h:Heap)(H:Hp):List Addr:=(List.range h.objs.size).filter fun a=>(H a).isSome
def Wd(h:Heap)(H:Hp):Heap:=PySem.W.hideAll h (trk h H)
theorem Rc(h:Heap)(H:Hp):(Wd h H).objs.size=h.objs.size:=PySem.W.hideAll_size _ _
theorem Wl{h:Heap}{H:Hp}{b:Addr}{o:Obj}(e:h.get? b=some o)(n:H b=none):(Wd h H).get? b=some o :=
 PySem.W.hideAll_get _ e fun hm=>by
  have q:(H b).isSome=true:=(BF.mp hm).2;rw[n]at q;simp at q
theorem Zp{h:Heap}{H:Hp}{b:Addr}{o:Obj}(e:(Wd h H).get? b=some o):h.get? b=some o/\H b=none:=by
 have e':h.get? b=some o:=PySem.W.of_hideAll (trk h H) e;refine⟨e',?_⟩;cases q:H b with
 | none=>rfl
 | some x =>
  have hm:b∈trk h H:=BF.mpr ⟨B_.mpr (AL e'),by simp[q]⟩;have z:(Wd h H).get? b=none:=PySem.W.hideAll_none (trk h H) hm;rw[z]at e;cases e
structure Mod(K:PySem.W.Frag)(mg:Str->Option Value)(base:Heap):Prop where
 kin:K.In base
 glob:base.Ns mainGlobals mg
 blt:∃mb,base.Ns builtinsNs mb/\∀x:Str,x≠ "__name__"->mb x=bootBuiltins x
 nolimit:base.NoLimit
structure Cx where
 prog:Program
 w:World
 K:PySem.W.Frag
 mg:Str->Option Value
 base:Heap
 A:Around
 N:List Str
 s₀:Shared
 H₀:Hp
 env:Env
 outer:List Env
 stack:List Env
 ex:List Addr
 fn:Str->Bool
 calm:Bool
 pn:List (Addr×Obj)
 xe:Value->Shared->Prop
def frs(l:List Env):List Addr:=l.filterMap (·.frame)
abbrev Cx.fs(X:Cx):List Addr:=frs X.outer
def Vis(sc:Scope)(x:Str):Prop:=sc.names.lookup x=some .local\/sc.names.lookup x=some .cell\/sc.names.lookup x=some .free
def Loc(sc:Scope)(x:Str):Prop:=sc.names.lookup x=some .local\/sc.names.lookup x=some .cell
def zIh(env:Env)(h:Heap)(m:Str->Option Value)(x:Str)(u:Value):Prop :=
 (env.kindOf x=some .local/\m x=some u)\/((env.kindOf x=some .cell\/env.kindOf x=some .free)/\∃c,env.cells.lookup x=some c/\h.IsCell c (some u))
structure Cx.Ok(X:Cx):Prop where
 mod:Mod X.K X.mg X.base
 kind:X.env.scope.kind = .function
 glob:X.env.globals=mainGlobals
 blt:X.env.builtins=builtinsNs
 above:X.s₀.heap.objs.size<=X.env.locals
 inj:∀x y c,X.env.cells.lookup x=some c->X.env.cells.lookup y=some c->x=y
 has:∀x,(X.env.kindOf x=some .cell\/X.env.kindOf x=some .free)->∃c,X.env.cells.lookup x=some c
 cab:∀x c,X.fn x=true->X.env.cells.lookup x=some c->X.s₀.heap.objs.size<=c
 hd:X.calm=true->X.A.handled=none
 frames:X.A.frames=some X.stack
 stk:X.stack=X.outer\/(X.stack=X.env::X.outer/\X.env.frame=some X.env.locals)
 exf:∀b∈X.ex,b≠X.env.locals/\∀x c,X.env.cells.lookup x=some c->c≠b
 bs:∀b o,X.base.get? b=some o->X.s₀.heap.get? b=some o/\X.H₀ b=none
 bsz:X.base.objs.size<=X.s₀.heap.objs.size
 noex:∀b o,X.base.get? b=some o->b∉X.ex
 exfs:∀b∈X.ex,b∉X.fs
 funs:X.s₀.heap.FunFrames X.base X.outer
 frf:∀b∈X.fs,X.H₀ b=none
structure Inv(X:Cx)(pins:List (Addr×Obj))(σ:List (Option V))(H:Hp)(s:Shared):Prop where
 ok:X.Ok
 os:s.os=X.s₀.os
 bare:AllBare s.gens
 base:Un X.fs X.ex X.H₀ H X.s₀.heap s.heap
 loc:∃m,s.heap.Ns X.env.locals m/\∀(i:Nat) (x:Str) (v:V),X.N[i]?=some x->σ[i]?=some (some v)->Vis X.env.scope x->∃u,RelV v u/\zIh X.env s.heap m x u
 cell:∀x c,X.env.cells.lookup x=some c->∃v,s.heap.IsCell c v
 free:H X.env.locals=none
 freeC:∀x c,X.env.cells.lookup x=some c->H c=none
 pin:∀p∈X.pn++pins,s.heap.get? p.1=some p.2/\H p.1=none/\p.1≠X.env.locals/\p.1∉X.fs/\∀v,p.2.data≠ .cell v
 hok:HOk X.prog X.w H s.heap
 len:σ.length=X.N.length
section
variable{X:Cx}{pins:List (Addr×Obj)}{σ:List (Option V)}{H H':Hp}{s:Shared}{h':Heap}
theorem Cx.Ok.nofr(ok:X.Ok){b:Addr}{o:Obj}(e:X.base.get? b=some o):b∉X.fs:=fun hb=>by
 have:=(ok.funs.mem hb).1;rw[e]at this;cases this
theorem Inv.bs(I:Inv X pins σ H s):∀b o,X.base.get? b=some o->s.heap.get? b=some o/\H b=none:=fun b o e =>
 ⟨I.base.keep b o (I.ok.bs b o e).1 (I.ok.bs b o e).2 (I.ok.nofr e) (I.ok.noex b o e),I.base.free b o (I.ok.bs b o e).1 (I.ok.bs b o e).2 (I.ok.noex b o e)⟩
theorem Inv.bk(I:Inv X pins σ H s):∀b o,X.base.get? b=some o->s.heap.get? b=some o:=fun b o e=>(I.bs b o e).1
theorem Inv.mod(I:Inv X pins σ H s):Mod X.K X.mg X.base:=I.ok.mod
theorem Inv.kIn(I:Inv X pins σ H s):X.K.In s.heap:=I.ok.mod.kin.keeps I.bk
theorem Inv.lt(I:Inv X pins σ H s):X.env.locals<s.heap.objs.size:=let⟨_,hn,_⟩:=I.loc;hn.lt
theorem Inv.sz(I:Inv X pins σ H s):X.s₀.heap.objs.size<=s.heap.objs.size:=Nat.le_trans I.ok.above (E_ I.lt)
theorem Inv.nofs(I:Inv X pins σ H s){a:Addr}(h:s.heap.objs.size<=a):a∉X.fs:=fun hb=>by
 obtain⟨_,o,ho,_⟩:=I.ok.funs.mem hb;exact absurd (BJ (AL ho) (Nat.le_trans I.sz h)) (CQ _)
theorem Inv.cne(I:Inv X pins σ H s):∀x c,X.env.cells.lookup x=some c->c≠X.env.locals:=fun x c e z=>by
 obtain⟨v,o,ho,hd⟩:=I.cell x c e;obtain⟨m,⟨o',es,ep,ho',hd',_⟩,_⟩:=I.loc;rw[z,ho']at ho;cases ho;rw[hd']at hd;cases hd
theorem Inv.funs(I:Inv X pins σ H s):s.heap.FunFrames X.base X.outer:=by
 have all:∀(l:List Env),(∀b∈frs l,b∈X.fs)->X.s₀.heap.FunFrames X.base l->s.heap.FunFrames X.base l:=by
  intro l
  induction l with
  | nil=>intro _ _;trivial
  | cons env r ih =>
   intro hs hl;obtain⟨hk,⟨L,o,hf,hn,ho,hd⟩,hr⟩:=hl;have hL:L∈X.fs:=hs L (by unfold frs;rw[EY,hf];exact BE);obtain⟨sl,e⟩:=I.base.slot L o ho (I.ok.frf L hL) hL fun z=>I.ok.exfs L z hL;exact⟨hk,⟨L,_,hf,hn,e,hd⟩,ih (fun b hb=>hs b (by unfold frs;rw[EY,hf];exact AU _ hb)) hr⟩
 exact all X.outer (fun _ hb=>hb) I.ok.funs
theorem Inv.stack(I:Inv X pins σ H s):s.heap.FunFrames X.base X.stack:=by
 rcases I.ok.stk with e | ⟨e,hf⟩
 .rw[e];exact I.funs
 .rw[e];obtain⟨m,hn,_⟩:=I.loc;refine .cons (by rw[I.ok.kind];decide) hf hn ?_ I.funs;exact Heap.get?_none_of_le (Nat.le_trans I.ok.bsz I.ok.above)
theorem Inv.stkSub(I:Inv X pins σ H s):∀b∈frs X.stack,b∈X.env.locals::X.fs:=fun b hb=>by
 rcases I.ok.stk with e | ⟨e,hf⟩
 .rw[e]at hb;exact AU _ hb
 .rw[e]at hb;unfold frs at hb;rw[EY,hf]at hb;exact hb
theorem Inv.stkFree(I:Inv X pins σ H s):∀b∈frs X.stack,H b=none:=fun b hb=>by
 rcases A_.mp (I.stkSub b hb)with e | hb
 .rw[e];exact I.free
 .obtain⟨_,o,ho,_⟩:=I.ok.funs.mem hb;exact I.base.free b o ho (I.ok.frf b hb) fun z=>I.ok.exfs b z hb
theorem Inv.step{g':Array GenState}{t':Nat}{d':Drawn}{ch:List Addr}(I:Inv X pins σ H s)
  (hch:∀b∈ch,(b∈X.ex\/X.s₀.heap.objs.size<=b)/\b≠X.env.locals/\(∀x c,X.env.cells.lookup x=some c->c≠b)/\∀p∈X.pn++pins,p.1≠b)
  (keep:∀b o,b≠X.env.locals->b∉X.fs->b∉ch->s.heap.get? b=some o->H b=none->h'.get? b=some o)
  (slot:∀b o,b≠X.env.locals->b∈X.fs->b∉ch->s.heap.get? b=some o->H b=none->∃sl,h'.get? b=some { o with slots:=sl }) (free:∀b o,b∉ch->s.heap.get? b=some o->H b=none->H' b=none)
  (there:∀b o,b∉ch->s.heap.get? b=some o->∃o',h'.get? b=some o')
  (tups:∀b xs,H b=some (.tup xs)->H' b=some (.tup xs)) (frzs:∀b o u,H b=some (.frz o u)->H' b=some (.frz o u)) (tbls:∀b ps,H b=some (.tbl ps)->∃more,H' b=some (.tbl (ps++more)))
  (ns:∀m,s.heap.Ns X.env.locals m->h'.Ns X.env.locals m) (hok:HOk X.prog X.w H' h') (hg:AllBare g') :
  Inv X pins σ H' { s with heap:=h',gens:=g',drawn:=d',toks:=t' }:=by
 have neL:∀b o,X.s₀.heap.get? b=some o->b≠X.env.locals:=fun b o e=>AX (BJ (AL e) I.ok.above);have neC:∀b o,X.s₀.heap.get? b=some o->b∉X.ex->b∉ch:=fun b o e hx hb=>by
  rcases(hch b hb).1 with z | z
  .exact hx z
  .exact absurd (BJ (AL e) z) (CQ _)
 have cellK:∀x c,X.env.cells.lookup x=some c->∀v,s.heap.IsCell c v->h'.IsCell c v:=fun x c e v ⟨o,ho,hd⟩=>by
  have nch:c∉ch:=fun z=>(hch c z).2.2.1 x c e rfl;by_cases hc:c∈X.fs
  .obtain⟨sl,q⟩:=slot c o (I.cne x c e) hc nch ho (I.freeC x c e);exact⟨_,q,hd⟩
  .exact⟨o,keep c o (I.cne x c e) hc nch ho (I.freeC x c e),hd⟩
 refine⟨I.ok,I.os,hg,⟨fun b o e n hb hx=>?_,fun b o e n hb hx=>?_,fun b o e n hx=>?_,fun b o e hx=>?_,fun b xs e=>tups b xs (I.base.tups b xs e),fun b o xs e=>frzs b o xs (I.base.frzs b o xs e),fun b ps e=>?_⟩,?_,fun x c e=>?_,?_,fun x c e=>?_,fun p hp=>?_,hok,I.len⟩
 .exact keep b o (neL b o e) hb (neC b o e hx) (I.base.keep b o e n hb hx) (I.base.free b o e n hx)
 .obtain⟨sl,e1⟩:=I.base.slot b o e n hb hx;obtain⟨sl',e2⟩:=slot b _ (neL b o e) hb (neC b o e hx) e1 (I.base.free b o e n hx);exact⟨sl',e2⟩
 .obtain⟨o',e1⟩:=I.base.there b o e hx;exact free b o' (neC b o e hx) e1 (I.base.free b o e n hx)
 .obtain⟨o',e1⟩:=I.base.there b o e hx;exact there b o' (neC b o e hx) e1
 .obtain⟨m1,e1⟩:=I.base.tbls b ps e;obtain⟨m2,e2⟩:=tbls b _ e1;exact⟨m1++m2,by rw[e2,Array.append_assoc]⟩
 .obtain⟨m,hn,hl⟩:=I.loc;refine⟨m,ns m hn,fun i x v e1 e2 e3=>?_⟩;obtain⟨u,r,l⟩:=hl i x v e1 e2 e3;refine⟨u,r,?_⟩;rcases l with l | ⟨k,c,e,z⟩
  .exact .inl l
  .exact .inr ⟨k,c,e,cellK x c e _ z⟩
 .obtain⟨v,z⟩:=I.cell x c e;exact⟨v,cellK x c e v z⟩
 .obtain⟨m,⟨o,_,_,ho,_⟩,_⟩:=I.loc;exact free _ o (fun z=>(hch _ z).2.1 rfl) ho I.free
 .obtain⟨v,o,ho,hd⟩:=I.cell x c e;exact free c o (fun z=>(hch c z).2.2.1 x c e rfl) ho (I.freeC x c e)
 .obtain⟨e,n,ne,nf,d⟩:=I.pin p hp;have nch:p.1∉ch:=fun z=>(hch p.1 z).2.2.2 p hp rfl;exact⟨keep p.1 p.2 ne nf nch e n,free p.1 p.2 nch e n,ne,nf,d⟩
theorem Inv.un{t':Nat}(I:Inv X pins σ H s)(u:Un X.fs [] H H' s.heap h')(hok:HOk X.prog X.w H' h'):Inv X pins σ H' { s with heap:=h',toks:=t' }:=by
 obtain⟨m,⟨o,es,ep,ho,r⟩,_⟩:=id I.loc;obtain⟨sl,hL⟩:=u.any ho I.free (by simp);exact I.step (g':=s.gens) (d':=s.drawn) (ch:=[]) (fun _ z=>nomatch z) (fun b o _ hb _ e n=>u.keep b o e n hb (by simp)) (fun b o _ hb _ e n=>u.slot b o e n hb (by simp)) (fun b o _ e n=>u.free b o e n (by simp)) (fun b o _ e=>u.there b o e (by simp)) u.tups u.frzs u.tbls (fun m' hm=>by
  obtain⟨o',es',ep',ho',r'⟩:=hm;rw[ho]at ho';cases ho';exact⟨_,es',ep',hL,r'⟩) hok I.bare
theorem Inv.call{g':Array GenState}{t':Nat}{d':Drawn}{ch:List Addr}(I:Inv X pins σ H s)(u:Un (frs X.stack) ch H H' s.heap h')(hok:HOk X.prog X.w H' h')(hg:AllBare g')
  (hch:∀b∈ch,(b∈X.ex\/X.s₀.heap.objs.size<=b)/\b≠X.env.locals/\(∀x c,X.env.cells.lookup x=some c->c≠b)/\∀p∈X.pn++pins,p.1≠b) :
  Inv X pins σ H' { s with heap:=h',gens:=g',drawn:=d',toks:=t' }:=by
 obtain⟨m,⟨o,es,ep,ho,r⟩,_⟩:=id I.loc;obtain⟨sl,hL⟩:=u.any ho I.free fun z=>(hch _ z).2.1 rfl;exact I.step (ch:=ch) hch (fun b o hL hb hc e n=>u.keep b o e n (fun z=>(A_.mp (I.stkSub b z)).elim hL hb) hc) (fun b o _ _ hc e n=>u.any e n hc) (fun b o hc e n=>u.free b o e n hc) (fun b o hc e=>u.there b o e hc) u.tups u.frzs u.tbls (fun m' hm=>by
  obtain⟨o',es',ep',ho',r'⟩:=hm;rw[ho]at ho';cases ho';exact⟨_,es',ep',hL,r'⟩) hok hg
theorem Inv.turned{t':Nat}{it:Addr}(I:Inv X pins σ H s)(k:∀b o,b≠it->s.heap.get? b=some o->h'.get? b=some o)(hn:H it=none)(hL:it≠X.env.locals)
  (h1:it∈X.ex\/X.s₀.heap.objs.size<=it) (h2:∀x c,X.env.cells.lookup x=some c->c≠it) (h3:∀p∈X.pn++pins,p.1≠it):Inv X pins σ H { s with heap:=h',toks:=t' }:=by
 have nit:∀b u,H b=some u->b≠it:=fun b u e z=>by rw[z,hn]at e;cases e
 refine I.step (g':=s.gens) (d':=s.drawn) (ch:=[it]) (fun b hb=>?_) (fun b o _ _ hc e _=>k b o (fun z=>hc (by simp[z])) e) (fun b o _ _ hc e _=>⟨o.slots,k b o (fun z=>hc (by simp[z])) e⟩) (fun _ _ _ _ n=>n)
  (fun b o hc e=>⟨o,k b o (fun z=>hc (by simp[z])) e⟩) (fun _ _ e=>e) (fun _ _ _ e=>e) (fun b ps e=>⟨#[],by rw[e];simp⟩) (fun m hm=>?_) (fun b u e=>?_) I.bare
 .have e:b=it:=by simpa using hb
  subst e;exact⟨h1,hL,h2,h3⟩
 .obtain⟨o,es,ep,ho,r⟩:=hm;exact⟨o,es,ep,k _ o (Ne.symm hL) ho,r⟩
 .refine(I.hok b u e).stay (fun c v hc q=>k c v ?_ q) (fun _ q=>q) fun _ _ q=>q;rcases hc with z | z
  .rw[z];exact nit b u e
  .exact nit c _ z
theorem Inv.tok(I:Inv X pins σ H s)(t:Nat):Inv X pins σ H { s with toks:=t }:=I.un (h':=s.heap) (t':=t) Un.refl I.hok
theorem Inv.kept{t':Nat}(I:Inv X pins σ H s)(k:∀b u,s.heap.get? b=some u->h'.get? b=some u):Inv X pins σ H { s with heap:=h',toks:=t' }:=I.un (Un.kept k) (I.hok.kept k)
theorem Inv.laid{a:Addr}{o:HO}{t':Nat}(I:Inv X pins σ H s)(k:∀b u,s.heap.get? b=some u->h'.get? b=some u)(hp:s.heap.objs.size<=a)(new:ObjOk X.prog X.w (upd H a o) h' a o) :
  Inv X pins σ (upd H a o) { s with heap:=h',toks:=t' }:=I.un (Un.laid k hp (I.hok.fresh hp)) (I.hok.laid k hp new)
theorem Inv.write{x e:Addr}{o:HO}{t':Nat}(I:Inv X pins σ H s)(mu:Mut (H x))(he:e=x\/H e=some (.own x))(k:∀b u,b≠e->s.heap.get? b=some u->h'.get? b=some u)(heo:∃u,h'.get? e=some u)
  (new:ObjOk X.prog X.w (upd H x o) h' x o):Inv X pins σ (upd H x o) { s with heap:=h',toks:=t' }:=I.un (Un.write mu he k heo) (I.hok.write mu he k heo new)
theorem Inv.pins_of{pins':List (Addr×Obj)}(I:Inv X pins σ H s)(h:∀p∈pins',s.heap.get? p.1=some p.2/\H p.1=none/\p.1≠X.env.locals/\p.1∉X.fs/\∀v,p.2.data≠ .cell v):Inv X pins' σ H s :=
 ⟨I.ok,I.os,I.bare,I.base,I.loc,I.cell,I.free,I.freeC,fun p hp=>(AO.mp hp).elim (fun z=>I.pin p (CS _ z)) (h p),I.hok,I.len⟩
theorem Mi{N:List Str}(hN:N.Nodup){i j:Nat}{x:Str}(a:N[i]?=some x)(b:N[j]?=some x):i=j:=by
 obtain⟨h1,e1⟩:=AG.mp a;obtain⟨h2,e2⟩:=AG.mp b;exact(List.getElem_inj hN).mp (e1.trans e2.symm)
theorem Hw{M:Model}{A:Around}{E:Value->Shared->Prop}{i:Nat}{x:Str}{v:V}{u:Value}{Q:Unit->Shared->Prop}(I:Inv X pins σ H s)(hN:X.N.Nodup)(hi:X.N[i]?=some x)(hx:Loc X.env.scope x)(r:RelV v u)
  (h:∀s',Inv X pins (σ.set i (some v)) H s'->(∃a,Heap.SameBut a s.heap s'.heap/\(a=X.env.locals\/X.env.cells.lookup x=some a))->Q () s') (hf:X.fn x=true\/X.env.scope.names.lookup x=some .local:=by first | exact .inl rfl | exact .inr rfl | assumption):wpAny M A (storeName X.env x u) Q E s:=by
 obtain⟨m,hn,hl⟩:=id I.loc;have hcls:(X.env.scope.kind == .class||(X.env.scope.kind == .module&&X.env.locals != X.env.globals))=false:=by rw[I.ok.kind];rfl
 have hiσ:i<σ.length:=by rw[I.len];exact(AG.mp hi).1
 have cne:=I.cne;have tracked:∀{a:Addr} {h':Heap},(∃o,s.heap.get? a=some o/\H a=none)->Heap.SameBut a s.heap h'->HOk X.prog X.w H h':=fun{a h'} ha hs b ob e=>by
  obtain⟨_,_,hfree⟩:=ha;refine(I.hok b ob e).stay (fun c w' hc q=>(hs.2 c ?_).trans q) (fun _ q=>q) fun _ _ q=>q;rintro rfl;rcases hc with rfl | hc
  .rw[hfree]at e;cases e
  .rw[hfree]at hc;cases hc
 rcases hx with hk | hk
 .refine wpAny_storeName_local hk hn (fun h' hn' hs=>?_) hcls;obtain⟨oL,_,_,hoL,_⟩:=id hn;refine h _ ⟨I.ok,I.os,I.bare,⟨fun b o e n hb hx=>?_,fun b o e n hb hx=>?_,I.base.free,fun b o e hx=>?_,I.base.tups,I.base.frzs,I.base.tbls⟩,⟨_,hn',fun j y v' e1 e2 e3=>?_⟩,fun y c e=>?_,I.free,I.freeC,fun p hp=>?_,tracked ⟨oL,hoL,I.free⟩ hs,by simpa using I.len⟩ ⟨_,hs,.inl rfl⟩
  .exact(hs.2 b (AX (BJ (AL e) I.ok.above))).trans (I.base.keep b o e n hb hx)
  .obtain⟨sl,e1⟩:=I.base.slot b o e n hb hx;exact⟨sl,(hs.2 b (AX (BJ (AL e) I.ok.above))).trans e1⟩
  .obtain⟨o',e1⟩:=I.base.there b o e hx;exact⟨o',(hs.2 b (AX (BJ (AL e) I.ok.above))).trans e1⟩
  .by_cases hj:j=i
   .subst hj;rw[hi]at e1;cases e1;rw[List.getElem?_set_self hiσ]at e2;cases e2;exact⟨u,r,.inl ⟨hk,by simp⟩⟩
   .rw[List.getElem?_set_ne (Ne.symm hj)]at e2;obtain⟨u',r',q⟩:=hl j y v' e1 e2 e3;refine⟨u',r',?_⟩;rcases q with⟨k,e⟩ | ⟨k,c,e,z⟩
    .refine .inl ⟨k,?_⟩;have:y≠x:=fun e=>hj (Mi hN e1 (e▸hi));simp[this,e]
    .exact .inr ⟨k,c,e,z.sameBut hs (cne y c e)⟩
  .obtain⟨w',z⟩:=I.cell y c e;exact⟨w',z.sameBut hs (cne y c e)⟩
  .obtain⟨e,n,ne,nf,d⟩:=I.pin p hp;exact⟨(hs.2 p.1 ne).trans e,n,ne,nf,d⟩
 .have hfn:X.fn x=true:=by
   rcases hf with z | z
   .exact z
   .rw[z]at hk;cases hk
  obtain⟨c,hc⟩:=I.ok.has x (.inl hk);obtain⟨w',z⟩:=I.cell x c hc;refine wpAny_storeName_cell I.ok.kind hk hc z (fun h' hc' hs=>?_);obtain⟨oc,hoc,hocd⟩:=id z;refine h { s with heap:=h' } ⟨I.ok,I.os,I.bare,⟨fun b o e n hb hx=>?_,fun b o e n hb hx=>?_,I.base.free,fun b o e hx=>?_,I.base.tups,I.base.frzs,I.base.tbls⟩,⟨m,hn.sameBut hs (Ne.symm (cne x c hc)),fun j y v' e1 e2 e3=>?_⟩,fun y c' e=>?_,I.free,I.freeC,fun p hp=>?_,tracked ⟨oc,hoc,I.freeC x c hc⟩ hs,by simpa using I.len⟩ ⟨c,hs,.inr hc⟩
  .exact(hs.2 b (AX (BJ (AL e) (I.ok.cab x c hfn hc)))).trans (I.base.keep b o e n hb hx)
  .obtain⟨sl,e1⟩:=I.base.slot b o e n hb hx;exact⟨sl,(hs.2 b (AX (BJ (AL e) (I.ok.cab x c hfn hc)))).trans e1⟩
  .obtain⟨o',e1⟩:=I.base.there b o e hx;exact⟨o',(hs.2 b (AX (BJ (AL e) (I.ok.cab x c hfn hc)))).trans e1⟩
  .by_cases hj:j=i
   .subst hj;rw[hi]at e1;cases e1;rw[List.getElem?_set_self hiσ]at e2;cases e2;exact⟨u,r,.inr ⟨.inl hk,c,hc,hc'⟩⟩
   .rw[List.getElem?_set_ne (Ne.symm hj)]at e2;obtain⟨u',r',q⟩:=hl j y v' e1 e2 e3;refine⟨u',r',?_⟩;rcases q with q | ⟨k,c',e,z'⟩
    .exact .inl q
    .refine .inr ⟨k,c',e,z'.sameBut hs ?_⟩;rintro rfl;exact hj (Mi hN e1 (I.ok.inj _ _ _ e hc▸hi))
  .by_cases hcc:c'=c
   .subst hcc;exact⟨_,hc'⟩
   .obtain⟨w2,z2⟩:=I.cell y c' e;exact⟨w2,z2.sameBut hs hcc⟩
  .obtain⟨e,n,ne,nf,d⟩:=I.pin p hp;refine⟨(hs.2 p.1 ?_).trans e,n,ne,nf,d⟩;intro q;rw[q,hoc]at e;have q':oc=p.2:=BH e;exact d w' (by rw[<-q'];exact hocd)
theorem Dk{M:Model}{A:Around}{E:Value->Shared->Prop}{i:Nat}{x:Str}{v:V}{u:Value}{Q:Unit->Shared->Prop}(I:Inv X pins σ H s)(hN:X.N.Nodup)(hi:X.N[i]?=some x)(hx:Loc X.env.scope x)(r:RelV v u)
  (h:∀s',Inv X pins (σ.set i (some v)) H s'->Q () s') (hf:X.fn x=true\/X.env.scope.names.lookup x=some .local:=by first | exact .inl rfl | exact .inr rfl | assumption):wpAny M A (storeName X.env x u) Q E s :=
 Hw I hN hi hx r (fun s' I' _=>h s' I') hf
theorem Inv.call'{s':Shared}{ch:List Addr}(I:Inv X pins σ H s)(ho:s'.os=s.os)(u:Un (frs X.stack) ch H H' s.heap s'.heap)(hok:HOk X.prog X.w H' s'.heap)(hg:AllBare s'.gens)
  (hch:∀b∈ch,(b∈X.ex\/X.s₀.heap.objs.size<=b)/\b≠X.env.locals/\(∀x c,X.env.cells.lookup x=some c->c≠b)/\∀p∈X.pn++pins,p.1≠b):Inv X pins σ H' s':=by
 obtain⟨h',g',d',t',o'⟩:=s';have e:o'=s.os:=ho;subst e;exact I.call (g':=g') (t':=t') (d':=d') u hok hg hch
end
abbrev XK:=Value->Option Addr->Hp->Prop
abbrev St:=List (Option V)
abbrev VK:=V->Hp->Prop
abbrev TE:=St->Hp->VK->Prop
abbrev TT:=St->Hp->(Bool->Hp->Prop)->Prop
abbrev TA:=St->Hp->(List V->Hp->Prop)->Prop
structure Ends where
 nx:St->Hp->Prop
 rt:VK
 bk:St->Hp->Prop:=fun _ _=>False
 ct:St->Hp->Prop:=fun _ _=>False
abbrev TS:=Ends->St->Hp->Prop
def EP(X:Cx)(pins:List (Addr×Obj))(σ:St)(Q:VK)(u:Value)(s':Shared):Prop:=∃v H',Inv X pins σ H' s'/\RelV v u/\Q v H'
def TP(X:Cx)(pins:List (Addr×Obj))(σ:St)(Q:Bool->Hp->Prop)(b:Bool)(s':Shared):Prop:=∃H',Inv X pins σ H' s'/\Q b H'
def AP(X:Cx)(pins:List (Addr×Obj))(σ:St)(Q:List V->Hp->Prop)(us:List Value)(s':Shared):Prop:=∃vs H',Inv X pins σ H' s'/\Vals vs us/\Q vs H'
def SP(X:Cx)(pins:List (Addr×Obj))(D:Ends)(f:Flow)(s':Shared):Prop :=
 match f with
 | .next=>∃σ' H',Inv X pins σ' H' s'/\D.nx σ' H'
 | .brk=>∃σ' H',Inv X pins σ' H' s'/\D.bk σ' H'
 | .cont=>∃σ' H',Inv X pins σ' H' s'/\D.ct σ' H'
 | .ret u=>∃v σ' H',Inv X pins σ' H' s'/\RelV v u/\D.rt v H'
def PE(X:Cx)(e:Expr)(t:TE):Prop :=
 ∀(pins:List (Addr×Obj)) (s:Shared) (σ:St) (H:Hp) (Q:VK),Inv X pins σ H s->t σ H Q->wpAny (model X.prog X.w) X.A (eval e X.env) (EP X pins σ Q) X.xe s
def PT(X:Cx)(e:Expr)(t:TT):Prop :=
 ∀(pins:List (Addr×Obj)) (s:Shared) (σ:St) (H:Hp) (Q:Bool->Hp->Prop),Inv X pins σ H s->t σ H Q->wpAny (model X.prog X.w) X.A (isTrue e X.env (eval e X.env)) (TP X pins σ Q) X.xe s
def PW(X:Cx)(e:Expr)(t:TT):Prop :=
 ∀(whole:Sem Value) (pins:List (Addr×Obj)) (s:Shared) (σ:St) (H:Hp) (Q:Bool->Hp->Prop),Inv X pins σ H s->t σ H Q->wpAny (model X.prog X.w) X.A (isTrue e X.env whole) (TP X pins σ Q) X.xe s
theorem PW.pt{X:Cx}{e:Expr}{t:TT}(h:PW X e t):PT X e t:=h _
def PA(X:Cx)(es:List Expr)(t:TA):Prop :=
 ∀(pos:Pos) (pins:List (Addr×Obj)) (s:Shared) (σ:St) (H:Hp) (Q:List V->Hp->Prop),Inv X pins σ H s->t σ H Q->wpAny (model X.prog X.w) X.A (spliced (backTo pos (starEach es X.env))) (AP X pins σ Q) X.xe s
def PS(X:Cx)(st:Stmt)(t:TS):Prop :=
 ∀(pins:List (Addr×Obj)) (s:Shared) (σ:St) (H:Hp) (D:Ends),Inv X pins σ H s->t D σ H->wpAny (model X.prog X.w) X.A (exec st X.env) (SP X pins D) X.xe s
def PSs(X:Cx)(st:List Stmt)(t:TS):Prop :=
 ∀(pins:List (Addr×Obj)) (s:Shared) (σ:St) (H:Hp) (D:Ends),Inv X pins σ H s->t D σ H->wpAny (model X.prog X.w) X.A (execs st X.env) (SP X pins D) X.xe s
theorem thn{α:Type}{t:Sem α}{Q Q':α->Shared->Prop}{M:Model}{A:Around}{E:Value->Shared->Prop}{s:Shared}(h:wpAny M A t Q E s)(hQ:∀a s,Q a s->Q' a s):wpAny M A t Q' E s:=CD h hQ fun _ _ x=>x
section
variable{X:Cx}
def Bo(i:Nat):TE:=fun σ H Q=>∃v,σ[i]?=some (some v)/\Q v H
def tC(v:V):TE:=fun _ H Q=>Q v H
theorem Xp{i:Nat}{x:Str}{pos:Pos}(hN:X.N[i]?=some x)(hv:Vis X.env.scope x)(hd:(x ==("__debug__":Str))=false:=by decide)(hcd:(x ==("__classdict__":Str))=false:=by decide):PE X (.Name x pos) (Bo i):=by
 intro pins s σ H Q I h;obtain⟨v,e,h⟩:=h;obtain⟨m,hn,hl⟩:=I.loc;obtain⟨u,r,l⟩:=hl i x v hN e hv;have fin:EP X pins σ Q u s:=⟨v,H,I,r,h⟩;rcases l with⟨hk,hm⟩ | ⟨hk,c,hc,hcell⟩
 .exact wpAny_Name (wpAny_loadName_local I.ok.kind hk hn hm fin) hd
 .rcases hk with hk | hk
  .exact wpAny_Name (wpAny_loadName_cell I.ok.kind hk hc hcell fin) hd
  .exact wpAny_Name (wpAny_loadName_free I.ok.kind hk hc hcell fin hcd) hd
theorem B8{i j pos}:PE X (.Constant (.int i) j pos) (tC (.int i)):=fun _ _ _ H _ I h=>wpAny_Constant_int ⟨.int i,H,I.tok _,⟨_,rfl⟩,h⟩
theorem T5{b j pos}:PE X (.Constant (.bool b) j pos) (tC (.bl b)):=fun _ _ _ H _ I h=>Constant_bool ⟨.bl b,H,I,rfl,h⟩
theorem Xo{j pos}:PE X (.Constant .none j pos) (tC .non):=fun _ _ _ H _ I h=>Constant_none ⟨.non,H,I,rfl,h⟩
theorem I0{x j pos}:PE X (.Constant (.str x) j pos) (tC (.str x)):=fun _ _ _ H _ I h=>Calls.Constant_str ⟨.str x,H,I.tok _,⟨_,rfl⟩,h⟩
def Gl(X:Cx)(x:Str):Prop:=X.env.kindOf x=some .globalImplicit
theorem Ih{E:Value->Shared->Prop}{pins:List (Addr×Obj)}{s:Shared}{σ:St}{H:Hp}{x:Str}{u:Value}{pos:Pos}{Q:Value->Shared->Prop}(I:Inv X pins σ H s)(hg:Gl X x)(hm:X.mg x=some u)(h:Q u s)
  (hd:(x ==("__debug__":Str))=false:=by decide):wpAny (model X.prog X.w) X.A (eval (.Name x pos) X.env) Q E s :=
 Calls.Name_function_global I.ok.kind hg (Calls.loadGlobal_global (by rw[I.ok.glob];exact I.mod.glob.keeps I.bk) hm h) hd
theorem Cd{E:Value->Shared->Prop}{pins:List (Addr×Obj)}{s:Shared}{σ:St}{H:Hp}{x:Str}{u:Value}{pos:Pos}{Q:Value->Shared->Prop}(I:Inv X pins σ H s)(hg:Gl X x)(hm:X.mg x=none)(hv:bootBuiltins x=some u)(h:Q u s)
  (hn:x≠ "__name__":=by decide) (hd:(x ==("__debug__":Str))=false:=by decide):wpAny (model X.prog X.w) X.A (eval (.Name x pos) X.env) Q E s:=by
 obtain⟨mb,h1,h2⟩:=I.mod.blt;exact Calls.Name_function_global I.ok.kind hg (Calls.loadGlobal_builtin (by rw[I.ok.glob];exact I.mod.glob.keeps I.bk) hm (by rw[I.ok.blt];exact h1.keeps I.bk) ((h2 x hn).trans hv) h) hd
theorem Ir{x:Str}{v:V}{u:Value}{pos:Pos}(hg:Gl X x)(hm:X.mg x=some u)(r:RelV v u)(hd:(x ==("__debug__":Str))=false:=by decide):PE X (.Name x pos) (tC v) :=
 fun _ _ _ H _ I h=>Ih I hg hm ⟨v,H,I,r,h⟩ hd
theorem Zy{x:Str}{v:V}{u:Value}{pos:Pos}(hg:Gl X x)(hm:X.mg x=none)(hv:bootBuiltins x=some u)(r:RelV v u)(hn:x≠ "__name__":=by decide)(hd:(x ==("__debug__":Str))=false:=by decide):PE X (.Name x pos) (tC v) :=
 fun _ _ _ H _ I h=>Cd I hg hm hv ⟨v,H,I,r,h⟩ hn hd
variable{a b:Expr}{ta tb:TE}{pos:Pos}
def PC(X:Cx)(op:CmpOp)(a b:Expr)(t:TE):Prop :=
 ∀(pins:List (Addr×Obj)) (s:Shared) (σ:St) (H:Hp) (Q:VK),Inv X pins σ H s->t σ H Q ->
  wpAny (model X.prog X.w) X.A (eval a X.env) (fun v s₁=>wpAny (model X.prog X.w) X.A (eval b X.env) (fun u s₂=>wpAny (model X.prog X.w) X.A (compareOp op v u) (EP X pins σ Q) X.xe s₂) X.xe s₁) X.xe s
def tB(t:TE):TT:=fun σ H Q=>t σ H fun x H1=>∃c,x = .bl c/\Q c H1
theorem zDy{op:CmpOp}{t:TE}(h:PC X op a b t)(h1:behindInMarks op b=false:=by first | exact nobehind _ (by decide) (by decide) | rfl):PT X (.Compare a [op] [b] pos) (tB t):=by
 intro pins s σ H Q I hw;refine wpAny_isTrue_Compare1 (thn (h pins s σ H _ I hw) fun v s1 h1=>thn h1 fun u s2 h2=>thn h2 fun c s3 ⟨x,H1,I1,r1,q1⟩=>?_) h1;obtain⟨d,rfl,q⟩:=q1;cases r1;exact CU ⟨H1,I1,q⟩
theorem K6{e:Expr}{t:TE}(h:PE X e t)(he:∀whole,isTrue e X.env whole =(do let v <-whole;standAt e.pos;holding [v] (truthy v)):=by intro _;rfl):PT X e (tB t):=by
 intro pins s σ H Q I hw;refine isTrue_plain (thn (h pins s σ H _ I hw) fun v s1 ⟨x,H1,I1,r1,q1⟩=>?_) (he _);obtain⟨d,rfl,q⟩:=q1;cases r1;exact CU ⟨H1,I1,q⟩
variable{tA tB':TT}{rest:List Expr}
def zIi(t u:TT):TT:=fun σ H Q=>t σ H fun c H1=>if c=true then u σ H1 Q else Q false H1
def tOr(t u:TT):TT:=fun σ H Q=>t σ H fun c H1=>if c=true then Q true H1 else u σ H1 Q
def zHo(t:TT):TT:=fun σ H Q=>t σ H fun c H1=>Q (!c) H1
theorem Df(ha:PT X a tA):PW X (.BoolOp .And [a] pos) tA:=by
 intro wh pins s σ H Q I h;refine isTrue_and (thn (ha pins s σ H Q I h) fun c s1 e=>?_);cases c with
 | true=>exact isTrue_and_nil e
 | false=>exact e
theorem V4(ha:PT X a tA):PW X (.BoolOp .Or [a] pos) tA:=by
 intro wh pins s σ H Q I h;refine isTrue_or (thn (ha pins s σ H Q I h) fun c s1 e=>?_);cases c with
 | false=>exact isTrue_or_nil e
 | true=>exact e
theorem Ey(ha:PT X a tA)(hb:PW X (.BoolOp .And (b::rest) pos) tB'):PW X (.BoolOp .And (a::b::rest) pos) (zIi tA tB'):=by
 intro wh pins s σ H Q I h;refine isTrue_and (thn (ha pins s σ H _ I h) fun c s1 ⟨H1,I1,q1⟩=>?_);cases c with
 | true=>exact hb wh pins s1 σ H1 Q I1 q1
 | false=>exact⟨H1,I1,q1⟩
theorem Bs(ha:PT X a tA)(hb:PW X (.BoolOp .Or (b::rest) pos) tB'):PW X (.BoolOp .Or (a::b::rest) pos) (tOr tA tB'):=by
 intro wh pins s σ H Q I h;refine isTrue_or (thn (ha pins s σ H _ I h) fun c s1 ⟨H1,I1,q1⟩=>?_);cases c with
 | true=>exact⟨H1,I1,q1⟩
 | false=>exact hb wh pins s1 σ H1 Q I1 q1
theorem S8(ha:PT X a tA):PT X (.UnaryOp .Not a pos) (zHo tA):=by
 intro pins s σ H Q I h;exact isTrue_not (ha pins s σ H (fun c H1=>Q (!c) H1) I h)
def zGn(ta tb:TE):TE:=fun σ H Q=>ta σ H fun x H1=>∃c,x = .bl c/\if c=true then tb σ H1 Q else Q (.bl false) H1
def zGs(ta:TE):TE:=fun σ H Q=>ta σ H fun x H1=>∃c,x = .bl c/\Q (.bl (!c)) H1
theorem X9{op}{t:TE}(h:PE X a t):PE X (.BoolOp op [a] pos) t:=fun pins s σ H Q I hw=>BoolOp_one (h pins s σ H Q I hw)
theorem X2(ha:PE X a ta)(hb:PE X (.BoolOp .And (b::rest) pos) tb):PE X (.BoolOp .And (a::b::rest) pos) (zGn ta tb):=by
 intro pins s σ H Q I h;refine BoolOp_and (thn (ha pins s σ H _ I h) fun v s1 ⟨x,H1,I1,r1,q1⟩=>?_);obtain⟨c,rfl,q1⟩:=q1;cases r1;refine CU ?_;cases c with
 | true=>exact hb pins s1 σ H1 Q I1 q1
 | false=>exact⟨.bl false,H1,I1,rfl,q1⟩
theorem zDf(ha:PE X a ta):PE X (.UnaryOp .Not a pos) (zGs ta):=by
 intro pins s σ H Q I h;refine UnaryOp_ (thn (ha pins s σ H _ I h) fun v s1 ⟨x,H1,I1,r1,q1⟩=>?_);obtain⟨c,rfl,q1⟩:=q1;cases r1;exact not_of (CU ⟨.bl (!c),H1,I1,rfl,q1⟩)
def tIf(t:TT)(ta tb:TE):TE:=fun σ H Q=>t σ H fun c H1=>if c=true then ta σ H1 Q else tb σ H1 Q
theorem Vh{c:Expr}(hc:PT X c tA)(ha:PE X a ta)(hb:PE X b tb):PE X (.IfExp c a b pos) (tIf tA ta tb):=by
 intro pins s σ H Q I h;refine wpAny_IfExp (thn (hc pins s σ H _ I h) fun d s1 ⟨H1,I1,q1⟩=>?_);cases d with
 | true=>exact ha pins s1 σ H1 Q I1 q1
 | false=>exact hb pins s1 σ H1 Q I1 q1
end
def SqL(K:PySem.W.Frag)(H:Hp)(a:Addr)(xs:List V):Prop :=
 Rd H a (.lst xs) \/
  ∃(o:Obj) (its:Array Value) (n:Nat),K.lookup a=some o/\o.cls = .type "list"/\o.dict=none/\o.data = .seq its n/\its.size<=sizeLine/\Vals xs its.toList
def SqT(K:PySem.W.Frag)(H:Hp)(a:Addr)(xs:List V):Prop :=
 Rd H a (.tup xs) \/
  ∃(o:Obj) (its:Array Value) (n:Nat),K.lookup a=some o/\o.cls = .type "tuple"/\o.data = .seq its n/\its.size<=sizeLine/\Vals xs its.toList
def zIk:Value->Option V
 | .none=>some .non
 | .bool b=>some (.bl b)
 | .int i _=>some (.int i)
 | .str x _=>some (.str x)
 | .bytes b _=>some (.byt b)
 | .float b _=>some (.flt b)
 | .ref a=>some (.ref a)
 | .type n=>some (.ty n)
 | _=>none
theorem RelV.abs{x:V}{u:Value}(r:RelV x u):zIk u=some x:=by
 cases x with
 | non=>cases r;rfl
 | bl _=>cases r;rfl
 | int _=>obtain⟨t,rfl⟩:=r;rfl
 | str _=>obtain⟨t,rfl⟩:=r;rfl
 | byt _=>obtain⟨t,rfl⟩:=r;rfl
 | flt _=>obtain⟨t,rfl⟩:=r;rfl
 | ref _=>cases r;rfl
 | ty _=>cases r;rfl
theorem RelV.inj{x y:V}{u:Value}(r:RelV x u)(q:RelV y u):x=y:=BH (r.abs.symm.trans q.abs)
theorem Vals.inj:∀{xs ys:List V} {us:List Value},Vals xs us->Vals ys us->xs=ys
 | _,_,_,.nil,.nil=>rfl
 | _,_,_,.cons r t,.cons r' t'=>by rw[r.inj r',Vals.inj t t']
section
variable{X:Cx}{pins:List (Addr×Obj)}{σ:St}{H:Hp}{s:Shared}{a:Addr}{xs ys:List V}
theorem SqL.of{K:PySem.W.Frag}(h:H a=some (.lst xs)):SqL K H a xs:=.inl (.inl h)
theorem SqT.of{K:PySem.W.Frag}(h:H a=some (.tup xs)):SqT K H a xs:=.inl (.inl h)
theorem Inv.list(I:Inv X pins σ H s)(h:SqL X.K H a xs):∃its:List Value,Vals xs its/\PlainL s.heap a its.toArray/\xs.length<=sizeLine:=by
 rcases h with h | ⟨o,its,n,hk,hc,hd,hs,hz,r⟩
 .obtain⟨z,its,n,r,e⟩:=h.ok I.hok;exact⟨its,r,⟨_,n,e,rfl,rfl,rfl⟩,z⟩
 .refine⟨its.toList,r,⟨o,n,I.kIn a o hk,hc,hd,by simpa using hs⟩,?_⟩;have e:=r.length;simp only[AS]at e;omega
theorem Inv.tuple(I:Inv X pins σ H s)(h:SqT X.K H a xs):∃its:List Value,Vals xs its/\IsTup s.heap a its.toArray/\xs.length<=sizeLine:=by
 rcases h with h | ⟨o,its,n,hk,hc,hs,hz,r⟩
 .obtain⟨z,its,r,p⟩:=h.ok I.hok;exact⟨its,r,p,z⟩
 .refine⟨its.toList,r,⟨o,I.kIn a o hk,hc,n,by simpa using hs⟩,?_⟩;have e:=r.length;simp only[AS]at e;omega
theorem Inv.list_inj(I:Inv X pins σ H s)(h:SqL X.K H a xs)(h':SqL X.K H a ys):xs=ys:=by
 obtain⟨its,r,⟨o,n,e,_,_,d⟩,_⟩:=I.list h;obtain⟨its',r',⟨o',n',e',_,_,d'⟩,_⟩:=I.list h';rw[e]at e';cases e';rw[d]at d';injection d' with d1 _;have:its=its':=by simpa using congrArg Array.toList d1
 subst this;exact r.inj r'
theorem Inv.tuple_inj(I:Inv X pins σ H s)(h:SqT X.K H a xs)(h':SqT X.K H a ys):xs=ys:=by
 obtain⟨its,r,⟨o,e,_,n,d⟩,_⟩:=I.tuple h;obtain⟨its',r',⟨o',e',_,n',d'⟩,_⟩:=I.tuple h';rw[e]at e';cases e';rw[d]at d';injection d' with d1 _;have:its=its':=by simpa using congrArg Array.toList d1
 subst this;exact r.inj r'
end
abbrev Cx.wish(X:Cx)(E:Value->Shared->Prop):Cx:={ X with xe:=E }
abbrev Cx.nox(X:Cx):Cx:=X.wish fun _ _=>False
theorem Cx.Ok.wish{X:Cx}(ok:X.Ok)(E:Value->Shared->Prop):(X.wish E).Ok :=
 ⟨ok.mod,ok.kind,ok.glob,ok.blt,ok.above,ok.inj,ok.has,ok.cab,ok.hd,ok.frames,ok.stk,ok.exf,ok.bs,ok.bsz,ok.noex,ok.exfs,ok.funs,ok.frf⟩
theorem Cx.Ok.unwish{X:Cx}{E:Value->Shared->Prop}(ok:(X.wish E).Ok):X.Ok :=
 ⟨ok.mod,ok.kind,ok.glob,ok.blt,ok.above,ok.inj,ok.has,ok.cab,ok.hd,ok.frames,ok.stk,ok.exf,ok.bs,ok.bsz,ok.noex,ok.exfs,ok.funs,ok.frf⟩
section
variable{X:Cx}{pins:List (Addr×Obj)}{σ:St}{H:Hp}{s:Shared}{E:Value->Shared->Prop}
theorem Inv.wish(I:Inv X pins σ H s)(E:Value->Shared->Prop):Inv (X.wish E) pins σ H s:=⟨I.ok.wish E,I.os,I.bare,I.base,I.loc,I.cell,I.free,I.freeC,I.pin,I.hok,I.len⟩
theorem Inv.unwish(I:Inv (X.wish E) pins σ H s):Inv X pins σ H s:=⟨I.ok.unwish,I.os,I.bare,I.base,I.loc,I.cell,I.free,I.freeC,I.pin,I.hok,I.len⟩
theorem SP.unwish{D:Ends}{f:Flow}{s':Shared}(h:SP (X.wish E) pins D f s'):SP X pins D f s':=by
 cases f with
 | next=>obtain⟨σ',H',I,q⟩:=h;exact⟨σ',H',I.unwish,q⟩
 | brk=>obtain⟨σ',H',I,q⟩:=h;exact⟨σ',H',I.unwish,q⟩
 | cont=>obtain⟨σ',H',I,q⟩:=h;exact⟨σ',H',I.unwish,q⟩
 | ret u=>obtain⟨v,σ',H',I,r,q⟩:=h;exact⟨v,σ',H',I.unwish,r,q⟩
theorem PSs.nox{st:List Stmt}{t:TS}(h:PSs X.nox st t):PSs X st t:=fun pins s σ H D I hw =>
 CD (h pins s σ H D (I.wish _) hw) (fun _ _ q=>q.unwish) fun _ _ z=>False.elim z
end
section
variable{X:Cx}{st:Stmt}{rest:List Stmt}{t u:TS}{e:Expr}{te:TE}{pos:Pos}
def zGi:TS:=fun D σ H=>D.nx σ H
def Vx(t u:TS):TS:=fun D σ H=>t { D with nx:=u D } σ H
theorem D0:PSs X [] zGi:=fun _ _ σ H _ I h=>wpAny_execs_nil ⟨σ,H,I,h⟩
theorem B3(h1:PS X st t)(h2:PSs X rest u):PSs X (st::rest) (Vx t u):=by
 intro pins s σ H D I h;refine wpAny_execs_cons (thn (h1 pins s σ H { D with nx:=u D } I h) fun f s1 q=>?_);cases f with
 | next =>
  obtain⟨σ',H',I',q⟩:=q;exact h2 pins s1 σ' H' D I' q
 | ret v=>exact q
 | brk=>exact q
 | cont=>exact q
theorem B4(h1:PS X st t):PSs X [st] t:=by
 intro pins s σ H D I h;refine wpAny_execs_cons (thn (h1 pins s σ H D I h) fun f s1 q=>?_);cases f with
 | next=>exact wpAny_execs_nil q
 | ret v=>exact q
 | brk=>exact q
 | cont=>exact q
theorem Inv.quiet{pins:List (Addr×Obj)}{σ:St}{H:Hp}{s:Shared}(I:Inv X pins σ H s):interactive X.env=false:=by simp[interactive,I.ok.kind]
def zDc(te:TE):TS:=fun D σ H=>te σ H fun _ H1=>D.nx σ H1
theorem E9(he:PE X e te)(hs:swapsWith e none pos.line X.env=pure false:=by rfl):PS X (.Expr e pos) (zDc te):=by
 intro pins s σ H D I h;exact wpAny_Expr_any (thn (he pins s σ H _ I h) fun v s1 ⟨x,H1,I1,r1,q1⟩=>⟨σ,H1,I1,q1⟩) I.quiet hs
def Xl(te:TE):TS:=fun D σ H=>te σ H D.rt
theorem B9(he:PE X e te):PS X (.Return (some e) pos) (Xl te):=by
 intro pins s σ H D I h;exact wpAny_Return_some (thn (he pins s σ H _ I h) fun v s1 ⟨x,H1,I1,r1,q1⟩=>⟨x,σ,H1,I1,r1,q1⟩)
def zHf:TS:=fun D _ H=>D.rt .non H
theorem Jt:PS X (.Return none pos) zHf:=fun _ _ σ H _ I h=>wpAny_Return_none ⟨.non,σ,H,I,rfl,h⟩
def zIl(c:TT)(t u:TS):TS:=fun D σ H=>c σ H fun b H1=>if b=true then t D σ H1 else u D σ H1
theorem K4{c:Expr}{a b:List Stmt}{tc:TT}(hc:PT X c tc)(ha:PSs X a t)(hb:PSs X b u):PS X (.If c a b pos) (zIl tc t u):=by
 intro pins s σ H D I h;refine wpAny_If (thn (hc pins s σ H _ I h) fun d s1 ⟨H1,I1,q1⟩=>?_);cases d with
 | true=>exact ha pins s1 σ H1 D I1 q1
 | false=>exact hb pins s1 σ H1 D I1 q1
def zEe:TS:=fun _ _ _=>False
theorem v9:PS X st zEe:=fun _ _ _ _ _ _ h=>h.elim
end
abbrev TG:=V->St->Hp->(St->Hp->Prop)->Prop
abbrev TGs:=List V->St->Hp->(St->Hp->Prop)->Prop
def PG(X:Cx)(target:Expr)(t:TG):Prop :=
 ∀(pins:List (Addr×Obj)) (s:Shared) (σ:St) (H:Hp) (v:V) (u:Value) (Q:St->Hp->Prop),Inv X pins σ H s->RelV v u->t v σ H Q ->
  wpAny (model X.prog X.w) X.A (assign target X.env u) (fun _ s'=>∃σ' H',Inv X pins σ' H' s'/\Q σ' H') X.xe s
def PGs(X:Cx)(ts:List Expr)(t:TGs):Prop :=
 ∀(pins:List (Addr×Obj)) (s:Shared) (σ:St) (H:Hp) (vs:List V) (us:List Value) (Q:St->Hp->Prop),Inv X pins σ H s->Vals vs us->t vs σ H Q ->
  wpAny (model X.prog X.w) X.A (assignInOrder ((assignEach ts X.env).map (·.2)) us) (fun _ s'=>∃σ' H',Inv X pins σ' H' s'/\Q σ' H') X.xe s
abbrev TSet:=V->V->V->Hp->(Hp->Prop)->Prop
def zHi(X:Cx)(t:TSet):Prop :=
 ∀(pins:List (Addr×Obj)) (s:Shared) (σ:St) (H:Hp) (o i v:V) (ov iv u:Value) (Q:Hp->Prop),Inv X pins σ H s->RelV o ov->RelV i iv->RelV v u->t o i v H Q ->
  wpAny (model X.prog X.w) X.A (setItem ov iv u) (fun _ s'=>∃H',Inv X pins σ H' s'/\Q H') X.xe s
abbrev TIp:=V->V->Hp->VK->Prop
def PIp(X:Cx)(op:Operator)(t:TIp):Prop :=
 ∀(pins:List (Addr×Obj)) (s:Shared) (σ:St) (H:Hp) (x y:V) (v u:Value) (Q:VK),Inv X pins σ H s->RelV x v->RelV y u->t x y H Q ->
  wpAny (model X.prog X.w) X.A (inplaceOp op v u) (EP X pins σ Q) X.xe s
section
variable{X:Cx}{pos:Pos}
def J5(i:Nat):TG:=fun v σ H Q=>Q (σ.set i (some v)) H
theorem J2{i:Nat}{x:Str}(hN:X.N.Nodup)(hi:X.N[i]?=some x)(hx:Loc X.env.scope x)(hf:X.fn x=true\/X.env.scope.names.lookup x=some .local:=by first | exact .inl rfl | exact .inr rfl | assumption):PG X (.Name x pos) (J5 i):=by
 intro pins s σ H v u Q I r h;exact wpAny_assign_Name (Dk I hN hi hx r (fun s' I'=>⟨_,H,I',h⟩) hf)
def zHg:TGs:=fun vs σ H Q=>vs = []/\Q σ H
def Vo(t:TG)(u:TGs):TGs:=fun vs σ H Q=>∃v r,vs=v::r/\t v σ H fun σ' H'=>u r σ' H' Q
theorem P5:PGs X [] zHg:=by
 intro pins s σ H vs us Q I r h;obtain⟨e,h⟩:=h;subst e;cases r;exact assignInOrder_nil ⟨σ,H,I,h⟩
theorem C8{e:Expr}{es:List Expr}{t:TG}{u:TGs}(h1:PG X e t)(h2:PGs X es u)
  (hs:(assignEach (e::es) X.env).map (·.2)=assign e X.env ::(assignEach es X.env).map (·.2):=by rfl):PGs X (e::es) (Vo t u):=by
 intro pins s σ H vs us Q I r h;obtain⟨v,vr,e1,h⟩:=h;subst e1;cases r with
 | cons r rr =>
  rw[hs];refine assignInOrder_cons (thn (h1 pins s σ H _ _ _ I r h) fun _ s1 ⟨σ1,H1,I1,q1⟩=>?_);exact h2 pins s1 σ1 H1 _ _ Q I1 rr q1
def zFu(K:PySem.W.Frag)(n:Nat)(t:TGs):TG:=fun v σ H Q=>∃a xs,v = .ref a/\SqT K H a xs/\xs.length=n/\t xs σ H Q
theorem zCh{es:List Expr}{k:Nat}{t:TGs}{n:Nat}(hc:X.calm=true)(h:PGs X es t)
  (hn:(assignEach es X.env).length=n:=by rfl) (hst:(assignEach es X.env).findIdx? (·.1)=none:=by rfl):PG X (.Tuple es k pos) (zFu X.K n t):=by
 intro pins s σ H v u Q I r hw;obtain⟨a,xs,e1,hq,hl,hw⟩:=hw;subst e1;cases r;obtain⟨its,rv,ht,hz⟩:=I.tuple hq;refine assign_Tuple_tuple (I.ok.hd hc) ht (by simp[hn,<-hl,rv.length]) hst fun h' hx=>?_;have I1:Inv X pins σ H { s with heap:=h' }:=I.kept (t':=s.toks) fun b o e=>hx b o (AX (AL e)) e;exact h pins _ σ H xs _ Q I1 (by simpa using rv) hw
def zIb(to ti:TE)(t:TSet):TG:=fun v σ H Q=>to σ H fun o H1=>ti σ H1 fun i H2=>t o i v H2 fun H3=>Q σ H3
theorem Rn{o i:Expr}{to ti:TE}{t:TSet}(ho:PE X o to)(hi:PE X i ti)(hs:zHi X t)
  (ha:∀v,assign (.Subscript o i pos) X.env v =(do
   let ov <-holding [v] (eval o X.env)
   let iv <-holding [v,ov] (eval i X.env)
   standAt pos
   holding [v,ov,iv] (setItem ov iv v)
   release [v,ov,iv] []):=by intro _;rfl):PG X (.Subscript o i pos) (zIb to ti t):=by
 intro pins s σ H v u Q I r h;rw[ha];refine AB (CF (thn (ho pins s σ H _ I h) fun ov s1 ⟨x,H1,I1,r1,q1⟩=>?_));refine AB (CF (thn (hi pins s1 σ H1 _ I1 q1) fun iv s2 ⟨y,H2,I2,r2,q2⟩=>?_));refine AB (FN (AB (CF (thn (hs pins s2 σ H2 x y v ov iv u _ I2 r1 r2 r q2) fun _ s3 ⟨H3,I3,q3⟩=>?_))));exact wpAny_release ⟨σ,H3,I3,q3⟩
def Ul(te:TE)(g:TG):TS:=fun D σ H=>te σ H fun x H1=>g x σ H1 D.nx
theorem Fe{tg e:Expr}{te:TE}{g:TG}(he:PE X e te)(hg:PG X tg g)(hs:swapsWithSole [tg] e pos.line X.env=pure false:=by rfl)(hw:swappedStores [tg] e X.env=pure none:=by rfl)
  (h1:(assignEach [tg] X.env).map (·.2) = [assign tg X.env]:=by rfl):PS X (.Assign [tg] e pos) (Ul te g):=by
 intro pins s σ H D I h;refine wpAny_Assign_stores (thn (he pins s σ H _ I h) fun v s1 ⟨x,H1,I1,r1,q1⟩=>?_) hs hw;rw[h1];exact thn (hg pins s1 σ H1 x v _ I1 r1 q1) fun _ s2 q=>q
theorem C5{i:Nat}{x:Str}{e:Expr}{te:TE}{pos':Pos}(hN:X.N.Nodup)(hi:X.N[i]?=some x)(hx:Loc X.env.scope x)(he:PE X e te)(hs:swapsWith e (some (.Name x pos')) pos.line X.env=pure false:=by rfl)(hf:X.fn x=true\/X.env.scope.names.lookup x=some .local:=by first | exact .inl rfl | exact .inr rfl | assumption) :
  PS X (.Assign [.Name x pos'] e pos) (Ul te (J5 i)):=by
 intro pins s σ H D I h;refine wpAny_Assign_Name (thn (he pins s σ H _ I h) fun v s1 ⟨y,H1,I1,r1,q1⟩=>?_) hs;exact Dk I1 hN hi hx r1 (fun s2 I2=>⟨_,H1,I2,q1⟩) hf
def zIr(i:Nat)(te:TE)(ti:TIp):TS:=fun D σ H=>∃x,σ[i]?=some (some x)/\te σ H fun y H1=>ti x y H1 fun z H2=>D.nx (σ.set i (some z)) H2
theorem Xn{i:Nat}{x:Str}{e:Expr}{te:TE}{op:Operator}{ti:TIp}{pos':Pos}(hN:X.N.Nodup)(hi:X.N[i]?=some x)(hx:Loc X.env.scope x)(he:PE X e te)(ho:PIp X op ti)(hf:X.fn x=true\/X.env.scope.names.lookup x=some .local:=by first | exact .inl rfl | exact .inr rfl | assumption) :
  PS X (.AugAssign (.Name x pos') op e pos) (zIr i te ti):=by
 intro pins s σ H D I h;obtain⟨v,e1,h⟩:=h;obtain⟨m,hn,hl⟩:=I.loc;have vis:Vis X.env.scope x:=by rcases hx with k | k;exact .inl k;exact .inr (.inl k)
 obtain⟨u,r,l⟩:=hl i x v hi e1 vis;refine wpAny_AugAssign_Name ?_;have go:wpAny (model X.prog X.w) X.A (eval e X.env) (fun w s₂=>wpAny (model X.prog X.w) X.A (inplaceOp op u w) (fun r s₃=>wpAny (model X.prog X.w) X.A (storeName X.env x r) (fun _=>SP X pins D .next) X.xe s₃) X.xe s₂) X.xe s:=by
  refine thn (he pins s σ H _ I h) fun w s1 ⟨y,H1,I1,r1,q1⟩=>?_;refine thn (ho pins s1 σ H1 v y u w _ I1 r r1 q1) fun z s2 ⟨zv,H2,I2,r2,q2⟩=>?_;exact Dk I2 hN hi hx r2 (fun s3 I3=>⟨_,H2,I3,q2⟩) hf
 rcases l with⟨hk,hm⟩ | ⟨hk,c,hc,hcell⟩
 .exact wpAny_loadName_local I.ok.kind hk hn hm go
 .rcases hk with hk | hk
  .exact wpAny_loadName_cell I.ok.kind hk hc hcell go
  .rcases hx with k | k
   .have:X.env.scope.names.lookup x=some .free:=hk;rw[k]at this;cases this
   .have:X.env.scope.names.lookup x=some .free:=hk;rw[k]at this;cases this
def ipI(f:Int->Int->Int):TIp:=fun x y H Q=>∃i j,x = .int i/\y = .int j/\Q (.int (f i j)) H
theorem zDq:PIp X .Add (ipI fun i j=>i+j):=by
 intro pins s σ H x y v u Q I r1 r2 h;obtain⟨i,j,e1,e2,q⟩:=h;subst e1;subst e2;obtain⟨t,rfl⟩:=r1;obtain⟨t',rfl⟩:=r2;exact iadd_int ⟨.int _,H,I.tok _,⟨_,rfl⟩,q⟩
def zEz(c:TT)(tb:TS):TS:=fun D σ H=>∃W:Nat->St->Hp->Prop,(∃m,W m σ H)/\∀m σ H,W m σ H ->
 c σ H fun b H1=>if b=true then ∃N:St->Hp->Prop,(∀σ' H',N σ' H'->∃m',m' < m/\W m' σ' H')/\tb { D with nx:=N,ct:=N,bk:=D.nx } σ H1 else D.nx σ H1
theorem Dv{c:Expr}{body:List Stmt}{tc:TT}{tb:TS}(hp:PassesOwn (model X.prog X.w) X.A X.env X.xe)(hc:PT X c tc)(hb:PSs X body tb):PS X (.While c body [] pos) (zEz tc tb):=by
 intro pins s σ H D I h;obtain⟨W,⟨m0,w0⟩,turn⟩:=h;refine wpAny_While (codeAny_whileLoop (fun n s'=>∃σ' H',Inv X pins σ' H' s'/\W n σ' H') ?_ m0 ⟨σ,H,I,w0⟩);rintro n s1 ⟨σ1,H1,I1,w1⟩;refine FE hp (thn (hc pins s1 σ1 H1 _ I1 (turn n σ1 H1 w1)) fun b s2 ⟨H2,I2,q2⟩=>?_);cases b with
 | true =>
  obtain⟨N,hN,q2⟩:=q2;rw[AR rfl];refine FE hp (thn (hb pins s2 σ1 H2 _ I2 q2) fun f s3 q3=>?_);cases f with
  | next =>
   obtain⟨σ3,H3,I3,n3⟩:=q3;obtain⟨m',hm,w3⟩:=hN σ3 H3 n3;exact⟨m',hm,σ3,H3,I3,w3⟩
  | cont =>
   obtain⟨σ3,H3,I3,n3⟩:=q3;obtain⟨m',hm,w3⟩:=hN σ3 H3 n3;exact⟨m',hm,σ3,H3,I3,w3⟩
  | brk=>exact q3
  | ret v=>exact q3
 | false =>
  rw[AM BG];exact wpAny_execs_nil ⟨σ1,H2,I2,q2⟩
end
structure It where
 go:Nat->Hp->Prop
 yld:Nat->Hp->V->Hp->Prop
 stop:Nat->Hp->Prop
def Bp(X:Cx)(pins:List (Addr×Obj))(H:Hp)(b:Addr):Prop :=
 H b=none/\b≠X.env.locals/\b∉X.fs/\(b∈X.ex\/X.s₀.heap.objs.size<=b)/\(∀x c,X.env.cells.lookup x=some c->c≠b)/\∀p∈X.pn++pins,p.1≠b
theorem Inv.fpOk{X:Cx}{pins:List (Addr×Obj)}{σ:St}{H H':Hp}{s:Shared}{b:Addr}(I:Inv X pins σ H s)(hb:s.heap.objs.size<=b)(hn:H' b=none):Bp X pins H' b:=by
 refine⟨hn,GN (BJ I.lt hb),I.nofs hb,.inr (Nat.le_trans I.sz hb),fun x c e z=>?_,fun p hp z=>?_⟩
 .obtain⟨v,q⟩:=I.cell x c e;exact absurd (BJ q.lt (by rw[z];exact hb)) (CQ _)
 .exact absurd (BJ (AL (I.pin p hp).1) (by rw[z];exact hb)) (CQ _)
structure Turn(P:Program)(w:World)(K:PySem.W.Frag)(tg:Expr)(J:It)(fp:List Addr)(it:Addr)(tn:Nat->Heap->Prop):Prop where
 mem:it∈fp
 obj:∀i h,tn i h->∀b∈fp,∃o,h.get? b=some o/\∀v,o.data≠ .cell v
 keep:∀i h h',tn i h->(∀b∈fp,∀o,h.get? b=some o->h'.get? b=some o)->tn i h'
 item:∀(X:Cx),X.prog=P->X.w=w->X.K=K->X.calm=true->∀(i:Nat) (pins:List (Addr×Obj)) (s:Shared) (σ:St) (H:Hp) (E:Value->Shared->Prop),Inv X pins σ H s->(∀b∈fp,Bp X pins H b)->tn i s.heap->J.go i H ->
  wpAny (model P w) X.A (pyNext (.ref it)) (fun r s1=>∃u,r=some u /\
   wpAny (model P w) X.A (letOwnedTupleGo tg (.ref it) u) (fun _ s2=>∃x H',Inv X pins σ H' s2/\RelV x u/\J.yld i H x H'/\tn (i+1) s2.heap/\∀b∈fp,H' b=none) E s1) E s
 done:∀(X:Cx),X.prog=P->X.w=w->X.K=K->X.calm=true->∀(i:Nat) (pins:List (Addr×Obj)) (s:Shared) (σ:St) (H:Hp) (E:Value->Shared->Prop),Inv X pins σ H s->(∀b∈fp,Bp X pins H b)->tn i s.heap->J.stop i H ->
  wpAny (model P w) X.A (pyNext (.ref it)) (fun r s1=>r=none/\Inv X pins σ H s1) E s
 self:∀(A:Around) (i:Nat) (s:Shared) (Q:Value->Shared->Prop) (E:Value->Shared->Prop),tn i s.heap->Q (.ref it) s->wpAny (model P w) A (pyIter (.ref it)) Q E s
abbrev TI:=St->Hp->(It->Hp->Prop)->Prop
def PIE(X:Cx)(pins:List (Addr×Obj))(σ:St)(tg:Expr)(R:It->Hp->Prop)(itv:Value)(s2:Shared):Prop :=
 ∃(it:Addr) (fp:List Addr) (tn:Nat->Heap->Prop) (J:It) (H':Hp),itv = .ref it/\Inv X pins σ H' s2/\Turn X.prog X.w X.K tg J fp it tn/\tn 0 s2.heap/\(∀b∈fp,Bp X pins H' b)/\R J H'
def PI(X:Cx)(tg iter:Expr)(wi:TI):Prop :=
 ∀(pins:List (Addr×Obj)) (s:Shared) (σ:St) (H:Hp) (R:It->Hp->Prop),Inv X pins σ H s->wi σ H R ->
  wpAny (model X.prog X.w) X.A (eval iter X.env) (fun v s1=>wpAny (model X.prog X.w) X.A (pyIter v) (PIE X pins σ tg R) X.xe s1) X.xe s
theorem Ni{M:Model}{A:Around}{E:Value->Shared->Prop}{s:Shared}{tg:Expr}{it:Addr}{u:Value}{o:Obj}{n:String}{vs:Array Value}{Q:Unit->Shared->Prop}(ho:s.heap.get? it=some o)(hc:o.cls = .type n)(hd:o.data = .fields vs)
    (hn:["enumerate", "zip", "dict_itemiterator", "dict_reverseitemiterator", "odict_iterator", "itertools.zip_longest", "itertools.pairwise"].contains n=false) (hQ:Q () s):wpAny M A (letOwnedTupleGo tg (.ref it) u) Q E s:=by
  unfold letOwnedTupleGo;cases tg<;>first
    | exact AD hQ
    | (cases u<;>first
        | exact AD hQ
        | (refine AB (wpAny_load ho ?_)
           rw[hc,hd];show wpAny M A (if(["enumerate", "zip", "dict_itemiterator", "dict_reverseitemiterator", "odict_iterator", "itertools.zip_longest", "itertools.pairwise"].contains n&&vs[0]? == some (rawInt _))=true then _ else _) Q E s;rw[AM (by intro h;rw[hn,DN]at h;cases h)];exact AD hQ))
def Itl(K:PySem.W.Frag)(a:Addr):It :=
 ⟨fun i H=>∃xs x,SqL K H a xs/\xs[i]?=some x,fun i H x H'=>H'=H/\∀xs,SqL K H a xs->xs[i]?=some x,fun i H=>∃xs,SqL K H a xs/\xs.length<=i⟩
def Itt(K:PySem.W.Frag)(a:Addr):It :=
 ⟨fun i H=>∃xs x,SqT K H a xs/\xs[i]?=some x,fun i H x H'=>H'=H/\∀xs,SqT K H a xs->xs[i]?=some x,fun i H=>∃xs,SqT K H a xs/\xs.length<=i⟩
def Itr(lo:Int)(n:Nat):It:=⟨fun i _=>i<n,fun i H x H'=>H'=H/\x = .int (lo+i),fun i _=>n<=i⟩
theorem Fw{P:Program}{w:World}{K:PySem.W.Frag}{tg:Expr}(a it:Addr):Turn P w K tg (Itl K a) [it] it (fun i h=>h.IsListIter it a i) where
 mem:=by simp
 obj:=fun i h st b hb=>by
  have e:b=it:=by simpa using hb
  subst e;obtain⟨o,e,c,d⟩:=st;exact⟨o,e,fun v z=>by rw[d]at z;cases z⟩
 keep:=fun i h h' st k=>st.at fun o e=>k it (by simp) o e
 item:=by
  intro X hP hw hK hc i pins s σ H E I hf st hg;subst hP hw hK;obtain⟨xs,x,hq,hx⟩:=hg;obtain⟨its,rv,p,hz⟩:=I.list hq;obtain⟨u,hu,ru⟩:=rv.get hx;obtain⟨f0,f1,f2,f3,f4,f5⟩:=hf it (by simp);refine wpAny_pyNext_list_item st p.isList (x:=u) (by simpa using hu) fun h' st' sb=>?_;have I1:Inv X pins σ H { s with heap:=h' }:=I.turned (t':=s.toks) (fun b o hb e=>(sb.2 b hb).trans e) f0 f1 f3 f4 f5;obtain⟨o,e,c,d⟩:=id st';exact⟨u,rfl,Ni (s:={ s with heap:=h' }) e c d (by decide) ⟨x,H,I1,ru,⟨rfl,fun ys hy=>by rw[I.list_inj hy hq];exact hx⟩,st',fun b hb=>(hf b hb).1⟩⟩
 done:=by
  intro X hP hw hK hc i pins s σ H E I hf st hg;subst hP hw hK;obtain⟨xs,hq,hx⟩:=hg;obtain⟨its,rv,p,hz⟩:=I.list hq;obtain⟨f0,f1,f2,f3,f4,f5⟩:=hf it (by simp);have hl:=rv.length;exact wpAny_pyNext_list_end (I.ok.hd hc) st p.isList (by simp;omega) fun h' eb=>⟨rfl,I.turned (t':=s.toks) (fun b o hb e=>eb b o hb e) f0 f1 f3 f4 f5⟩
 self:=fun _ _ _ _ _ st h=>wpAny_pyIter_listiter st h
theorem Nq{P:Program}{w:World}{K:PySem.W.Frag}{tg:Expr}(a it:Addr):Turn P w K tg (Itt K a) [it] it (fun i h=>h.IsTupleIter it a i) where
 mem:=by simp
 obj:=fun i h st b hb=>by
  have e:b=it:=by simpa using hb
  subst e;obtain⟨o,e,c,d⟩:=st;exact⟨o,e,fun v z=>by rw[d]at z;cases z⟩
 keep:=fun i h h' st k=>st.at fun o e=>k it (by simp) o e
 item:=by
  intro X hP hw hK hc i pins s σ H E I hf st hg;subst hP hw hK;obtain⟨xs,x,hq,hx⟩:=hg;obtain⟨its,rv,p,hz⟩:=I.tuple hq;obtain⟨u,hu,ru⟩:=rv.get hx;obtain⟨f0,f1,f2,f3,f4,f5⟩:=hf it (by simp);refine wpAny_pyNext_tuple_item st (show s.heap.IsTuple a its.toArray from p) (x:=u) (by simpa using hu) fun h' st' sb=>?_;have I1:Inv X pins σ H { s with heap:=h' }:=I.turned (t':=s.toks) (fun b o hb e=>(sb.2 b hb).trans e) f0 f1 f3 f4 f5;obtain⟨o,e,c,d⟩:=id st';exact⟨u,rfl,Ni (s:={ s with heap:=h' }) e c d (by decide) ⟨x,H,I1,ru,⟨rfl,fun ys hy=>by rw[I.tuple_inj hy hq];exact hx⟩,st',fun b hb=>(hf b hb).1⟩⟩
 done:=by
  intro X hP hw hK hc i pins s σ H E I hf st hg;subst hP hw hK;obtain⟨xs,hq,hx⟩:=hg;obtain⟨its,rv,p,hz⟩:=I.tuple hq;obtain⟨f0,f1,f2,f3,f4,f5⟩:=hf it (by simp);have hl:=rv.length;exact wpAny_pyNext_tuple_end (I.ok.hd hc) st (show s.heap.IsTuple a its.toArray from p) (by simp;omega) fun h' eb=>⟨rfl,I.turned (t':=s.toks) (fun b o hb e=>eb b o hb e) f0 f1 f3 f4 f5⟩
 self:=fun _ _ _ _ _ st h=>wpAny_pyIter_tupleiter st h
theorem Oe{P:Program}{w:World}{K:PySem.W.Frag}{tg:Expr}(it:Addr)(lo:Int)(n:Nat):Turn P w K tg (Itr lo n) [it] it (fun i h=>IsRangeIter h it (lo +(i:Nat)*1) ((n:Int)-(i:Nat)) 1) where
 mem:=by simp
 obj:=fun i h st b hb=>by
  have e:b=it:=by simpa using hb
  subst e;exact⟨_,st,fun v z=>by
   have z':Data.fields _=Data.cell v:=z;cases z'⟩
 keep:=fun i h h' st k=>k it (by simp) _ st
 item:=by
  intro X hP hw hK hc i pins s σ H E I hf st hg;subst hP hw hK;obtain⟨f0,f1,f2,f3,f4,f5⟩:=hf it (by simp);have W:=Walks.range (prog:=X.prog) (w:=X.w) (I.ok.hd hc) it lo 1 n;refine W.item i s _ _ hg st fun v h' tk hv st' kk=>?_;obtain⟨t,rfl⟩:=hv;have I1:Inv X pins σ H { s with heap:=h',toks:=tk }:=I.turned (fun b o hb e=>kk b o (by simpa using hb) e) f0 f1 f3 f4 f5;refine⟨_,rfl,Ni (s:={ s with heap:=h',toks:=tk }) (n := "range_iterator") st' rfl rfl (by decide) ⟨.int (lo+i),H,I1,⟨t,?_⟩,⟨rfl,rfl⟩,st',fun b hb=>(hf b hb).1⟩⟩;rw[Int.mul_one]
 done:=by
  intro X hP hw hK hc i pins s σ H E I hf st hg;subst hP hw hK;obtain⟨f0,f1,f2,f3,f4,f5⟩:=hf it (by simp);exact wpAny_pyNext_range_end (I.ok.hd hc) st (by have:n<=i:=hg;omega) fun h' eb=>⟨rfl,I.turned (t':=s.toks) (fun b o hb e=>eb b o hb e) f0 f1 f3 f4 f5⟩
 self:=fun _ _ _ _ _ st h=>wpAny_pyIter_rangeiter st h
section
variable{X:Cx}{tg:Expr}
def zCg(K:PySem.W.Frag)(tl:TE):TI:=fun σ H R=>tl σ H fun x H1=>∃a,x = .ref a/\(∃xs,SqL K H1 a xs)/\R (Itl K a) H1
theorem zBs{l:Expr}{tl:TE}(hl:PE X l tl):PI X tg l (zCg X.K tl):=by
 intro pins s σ H R I h;refine thn (hl pins s σ H _ I h) fun v s1 ⟨x,H1,I1,r1,q1⟩=>?_;obtain⟨a,e,⟨xs,hq⟩,q⟩:=q1;subst e;cases r1;obtain⟨its,rv,p,hz⟩:=I1.list hq;refine GF p.isList ?_;refine⟨s1.heap.objs.size,[s1.heap.objs.size],_,_,H1,rfl,I1.kept (t':=s1.toks) fun b o e=>AC _ e,Fw a _,⟨_,BC _ rfl,rfl,rfl⟩,fun b hb=>?_,q⟩;have e:b=s1.heap.objs.size:=by simpa using hb
 subst e;exact I1.fpOk (Nat.le_refl _) (I1.hok.fresh (Nat.le_refl _))
theorem Uy{pins:List (Addr×Obj)}{σ:St}{H:Hp}{s:Shared}{R:It->Hp->Prop}{E:Value->Shared->Prop}{lo hi:Int}{t u v:Tok}{tk:Nat}(I:Inv X pins σ H s)(h1:-(2^62)<=lo)(h2:lo<2^62)(h3:-(2^62)<=hi)(h4:hi<2^62)
  (q:R (Itr lo (hi-lo).toNat) H):wpAny (model X.prog X.w) X.A (pyIter (.ref s.heap.objs.size)) (PIE X pins σ tg R) E { s with heap:=s.heap.push { cls:=.type "range",data:=.fields #[.int lo t,.int hi u,.int 1 v] },toks:=tk }:=by
 refine wpAny_pyIter_range (IsRange.new ..) (small_one h1 h2 h3 h4) ?_;have I1:Inv X pins σ H { s with heap:=s.heap.push { cls:=.type "range",data:=.fields #[.int lo t,.int hi u,.int 1 v] },toks:=tk }:=I.kept fun b o e=>AC _ e;refine⟨(s.heap.push { cls:=.type "range",data:=.fields #[.int lo t,.int hi u,.int 1 v] }).objs.size,[(s.heap.push { cls:=.type "range",data:=.fields #[.int lo t,.int hi u,.int 1 v] }).objs.size],_,_,H,rfl,
  I1.kept (t':=tk) fun b o e=>AC _ e,Oe _ lo (hi-lo).toNat,?_,fun b hb=>?_,q⟩
 .have e1:lo +((0:Nat):Int)*1=lo:=by simp
  have e2:(((hi-lo).toNat:Nat):Int)-((0:Nat):Int)=Builtin.Range.rangeSize lo hi 1:=by rw[rangeSize_one];split<;>omega
  show IsRangeIter _ _ (lo +((0:Nat):Int)*1) ((((hi-lo).toNat:Nat):Int)-((0:Nat):Int)) 1;rw[e1,e2];exact BC _ rfl
 .have e:b =(s.heap.push { cls:=.type "range",data:=.fields #[.int lo t,.int hi u,.int 1 v] }).objs.size:=by simpa using hb
  subst e;exact I1.fpOk (Nat.le_refl _) (I1.hok.fresh (Nat.le_refl _))
def zEh(ta:TA):TI:=fun σ H R=>ta σ H fun vs H1=>∃j:Int,vs = [.int j]/\-(2^62)<=j/\j<2^62/\R (Itr 0 j.toNat) H1
theorem Rr{a:Expr}{ta:TA}{p pos:Pos}(hg:Gl X "range")(hm:X.mg "range" = none)(ha:PA X [a] ta)(hs:starEach [a] X.env = [(false,eval a X.env)]:=by rfl):PI X tg (.Call (.Name "range" p) [a] [] pos) (zEh ta):=by
 intro pins s σ H R I h;refine Call_ (Cd I hg hm boot_range (PyProof.Rows.callWith_type1 (thn (ha pos pins s σ H _ I h) fun us s1 ⟨vs,H1,I1,r1,q1⟩=>?_) hs rfl));obtain⟨j,e,q1,q2,q⟩:=q1;subst e;cases r1 with
 | cons r rr =>
  cases rr;obtain⟨t,rfl⟩:=r;exact call_range_1 (Uy I1 (by omega) (by omega) q1 q2 (by simpa using q))
def zIs(wi:TI)(g:TG)(tb:TS):TS:=fun D σ H=>wi σ H fun J H1=>∃W:Nat->Nat->St->Hp->Prop,(∃m,W 0 m σ H1)/\∀i m σ H,W i m σ H ->
 (J.stop i H/\D.nx σ H)\/(J.go i H/\∃N:St->Hp->Prop,(∀σ' H',N σ' H'->∃m',m' < m/\W (i+1) m' σ' H')/\∀x H',J.yld i H x H'->g x σ H' fun σ2 H2=>tb { D with nx:=N,ct:=N,bk:=D.nx } σ2 H2)
def Hn(fp:List Addr)(h:Heap):List (Addr×Obj):=fp.filterMap fun b=>(h.get? b).map fun o=>(b,o)
theorem U3{fp:List Addr}{h:Heap}{b:Addr}{o:Obj}(hb:b∈fp)(e:h.get? b=some o):(b,o)∈Hn fp h:=List.mem_filterMap.mpr ⟨b,hb,by rw[e];rfl⟩
theorem Ty{fp:List Addr}{h:Heap}{p:Addr×Obj}(hp:p∈Hn fp h):p.1∈fp/\h.get? p.1=some p.2:=by
 obtain⟨b,hb,e⟩:=List.mem_filterMap.mp hp;cases q:h.get? b with
 | none=>rw[q]at e;cases e
 | some o =>
  rw[q]at e;have e':(b,o)=p:=BH e;subst e';exact⟨hb,q⟩
theorem Inv.pinned{pins:List (Addr×Obj)}{σ:St}{H:Hp}{s:Shared}{fp:List Addr}(I:Inv X pins σ H s)(hf:∀b∈fp,Bp X pins H b)(ho:∀b∈fp,∃o,s.heap.get? b=some o/\∀v,o.data≠ .cell v):Inv X (pins++Hn fp s.heap) σ H s :=
 I.pins_of fun p hp=>(AO.mp hp).elim (fun z=>I.pin p (BT _ z)) fun z=>by
  obtain⟨hb,e⟩:=Ty z;obtain⟨f0,f1,f2,_⟩:=hf p.1 hb;obtain⟨o,e',d⟩:=ho p.1 hb;rw[e]at e';cases e';exact⟨e,f0,f1,f2,d⟩
theorem Inv.unpinned{pins pl:List (Addr×Obj)}{σ:St}{H:Hp}{s:Shared}(I:Inv X (pins++pl) σ H s):Inv X pins σ H s:=I.pins_of fun p hp=>I.pin p (BT _ (CS _ hp))
theorem f9{iter:Expr}{body:List Stmt}{wi:TI}{g:TG}{tb:TS}{pos:Pos}(hp:PassesOwn (model X.prog X.w) X.A X.env X.xe)(hc:X.calm=true)(hi:PI X tg iter wi)(hg:PG X tg g)(hb:PSs X body tb)
  (hs:∀x,foldedSetIterable iter X.env x=pure x:=by intro _;rfl):PS X (.For tg iter body [] pos) (zIs wi g tb):=by
 intro pins s σ H D I h;refine wpAny_For (thn (hi pins s σ H _ I h) fun v s1 h1=>thn h1 fun itv s2 h2=>?_) hs;obtain⟨it,fp,tn,J,H2,e,I2,T,st2,f2,W,⟨m0,w0⟩,turn⟩:=h2;subst e;have stat:∀{H':Hp},(∀b∈fp,H' b=none)->∀b∈fp,Bp X pins H' b:=fun hn b hb=>⟨hn b hb,(f2 b hb).2⟩;refine codeAny_forLoop_any (fun n s'=>∃i σ' H',Inv X pins σ' H' s'/\tn i s'.heap/\(∀b∈fp,H' b=none)/\W i n σ' H') ?_ m0 ⟨0,σ,H2,I2,st2,fun b hb=>(f2 b hb).1,w0⟩;rintro n s3 ⟨i,σ3,H3,I3,st3,fr3,w3⟩;rcases turn i n σ3 H3 w3 with⟨stop,qn⟩ | ⟨go,N,hN,step⟩
 .refine FE hp (thn (T.done X rfl rfl rfl hc i pins s3 σ3 H3 X.xe I3 (stat fr3) st3 stop) fun r s4 ⟨hr,I4⟩=>?_);subst hr;exact wpAny_execs_nil ⟨σ3,H3,I4,qn⟩
 .refine FE hp (thn (T.item X rfl rfl rfl hc i pins s3 σ3 H3 X.xe I3 (stat fr3) st3 go) fun r s4 ⟨u,hr,h4⟩=>?_);subst hr;refine FE hp (thn h4 fun _ s5 ⟨x,H5,I5,r5,y5,st5,fr5⟩=>?_);have I5':=I5.pinned (stat fr5) (T.obj _ _ st5);refine FE hp (thn (hg _ s5 σ3 H5 x u _ I5' r5 (step x H5 y5)) fun _ s6 ⟨σ6,H6,I6,q6⟩=>?_);refine FE hp (thn (hb _ s6 σ6 H6 _ I6 q6) fun f s7 q7=>?_);have again:∀{σ7:St} {H7:Hp},Inv X (pins++Hn fp s5.heap) σ7 H7 s7->N σ7 H7->∃m,m<n/\∃i σ' H',Inv X pins σ' H' s7/\tn i s7.heap/\(∀b∈fp,H' b=none)/\W i m σ' H':=fun{σ7 H7} I7 n7=>by
   obtain⟨m',hm,w7⟩:=hN σ7 H7 n7;refine⟨m',hm,i+1,σ7,H7,I7.unpinned,T.keep _ _ _ st5 fun b hb o e=>(I7.pin (b,o) (BT _ (BT _ (U3 hb e)))).1,fun b hb=>?_,w7⟩;obtain⟨o,e,d⟩:=T.obj _ _ st5 b hb;exact(I7.pin (b,o) (BT _ (BT _ (U3 hb e)))).2.1
  cases f with
  | next=>obtain⟨σ7,H7,I7,n7⟩:=q7;exact again I7 n7
  | cont=>obtain⟨σ7,H7,I7,n7⟩:=q7;exact again I7 n7
  | brk=>obtain⟨σ7,H7,I7,q7⟩:=q7;exact⟨σ7,H7,I7.unpinned,q7⟩
  | ret v=>obtain⟨x7,σ7,H7,I7,r7,q7⟩:=q7;exact⟨x7,σ7,H7,I7.unpinned,r7,q7⟩
end
theorem Rb{lo:Int}{n:Nat}{g:TG}{tb:TS}{D:Ends}{σ:St}{H:Hp}(Pv:Nat->St->Hp->Prop)(h0:Pv 0 σ H)
  (hs:∀i σ H,i<n->Pv i σ H->g (.int (lo+i)) σ H fun σ2 H2=>tb { D with nx:=Pv (i+1),ct:=Pv (i+1),bk:=D.nx } σ2 H2) (hd:∀σ H,Pv n σ H->D.nx σ H) :
  ∃W:Nat->Nat->St->Hp->Prop,(∃m,W 0 m σ H)/\∀i m σ H,W i m σ H ->
   ((Itr lo n).stop i H/\D.nx σ H)\/((Itr lo n).go i H/\∃N:St->Hp->Prop,(∀σ' H',N σ' H'->∃m',m' < m/\W (i+1) m' σ' H')/\∀x H',(Itr lo n).yld i H x H'->g x σ H' fun σ2 H2=>tb { D with nx:=N,ct:=N,bk:=D.nx } σ2 H2):=by
 refine⟨fun i m σ H=>m=n-i/\i<=n/\Pv i σ H,⟨n,by simp,CC _,h0⟩,?_⟩;rintro i m σ H ⟨rfl,hi,p⟩;by_cases hlt:i<n
 .refine .inr ⟨hlt,Pv (i+1),fun σ' H' p'=>⟨n-(i+1),by omega,rfl,hlt,p'⟩,fun x H' y=>?_⟩;obtain⟨e,y⟩:=y;subst e y;exact hs i σ _ hlt p
 .have e:i=n:=by omega
  subst e;exact .inl ⟨Nat.le_refl _,hd σ H p⟩
abbrev R2:=V->V->Hp->VK->Prop
def OpR(X:Cx)(f:Value->Value->Sem Value)(r:R2):Prop :=
 ∀(pins:List (Addr×Obj)) (s:Shared) (σ:St) (H:Hp) (x y:V) (v u:Value) (Q:VK),Inv X pins σ H s->RelV x v->RelV y u->r x y H Q ->
  wpAny (model X.prog X.w) X.A (f v u) (EP X pins σ Q) X.xe s
def UnR(X:Cx)(f:Value->Sem Value)(r:V->Hp->VK->Prop):Prop :=
 ∀(pins:List (Addr×Obj)) (s:Shared) (σ:St) (H:Hp) (x:V) (v:Value) (Q:VK),Inv X pins σ H s->RelV x v->r x H Q ->
  wpAny (model X.prog X.w) X.A (f v) (EP X pins σ Q) X.xe s
def G6(X:Cx)(f:Value)(r:List V->Hp->VK->Prop):Prop :=
 ∀(pins:List (Addr×Obj)) (s:Shared) (σ:St) (H:Hp) (xs:List V) (us:List Value) (Q:VK),Inv X pins σ H s->Vals xs us->r xs H Q ->
  wpAny (model X.prog X.w) X.A (call f us) (EP X pins σ Q) X.xe s
def zIj(X:Cx)(r:V->Hp->(Bool->Hp->Prop)->Prop):Prop :=
 ∀(pins:List (Addr×Obj)) (s:Shared) (σ:St) (H:Hp) (x:V) (v:Value) (Q:Bool->Hp->Prop),Inv X pins σ H s->RelV x v->r x H Q ->
  wpAny (model X.prog X.w) X.A (truthy v) (TP X pins σ Q) X.xe s
def tOp(r:R2)(ta tb:TE):TE:=fun σ H Q=>ta σ H fun x H1=>tb σ H1 fun y H2=>r x y H2 Q
def tUn(r:V->Hp->VK->Prop)(ta:TE):TE:=fun σ H Q=>ta σ H fun x H1=>r x H1 Q
def rI(C:Int->Int->Prop)(g:Int->Int->V):R2:=fun x y H Q=>∃i j,x = .int i/\y = .int j/\C i j/\Q (g i j) H
def rI0(g:Int->Int->V):R2:=fun x y H Q=>∃i j,x = .int i/\y = .int j/\Q (g i j) H
def rU(g:Int->V):V->Hp->VK->Prop:=fun x H Q=>∃i,x = .int i/\Q (g i) H
section
variable{X:Cx}{a b c:Expr}{ta tb tc:TE}{pos:Pos}
theorem zFz(ha:PE X a ta)(hb:PE X b tb){pins:List (Addr×Obj)}{s:Shared}{σ:St}{H:Hp}{R:V->V->Hp->Prop}(I:Inv X pins σ H s)
  (h:ta σ H fun x H1=>tb σ H1 fun y H2=>R x y H2) {Q:Value->Shared->Prop} {f:Value->Value->Sem Value}
  (hf:∀v u s2 x y H2,Inv X pins σ H2 s2->RelV x v->RelV y u->R x y H2->wpAny (model X.prog X.w) X.A (f v u) Q X.xe s2) :
  wpAny (model X.prog X.w) X.A (eval a X.env) (fun v s₁=>wpAny (model X.prog X.w) X.A (eval b X.env) (fun u s₂=>wpAny (model X.prog X.w) X.A (f v u) Q X.xe s₂) X.xe s₁) X.xe s:=by
 refine thn (ha pins s σ H _ I h) fun v s1 ⟨x,H1,I1,r1,q1⟩=>?_;refine thn (hb pins s1 σ H1 _ I1 q1) fun u s2 ⟨y,H2,I2,r2,q2⟩=>?_;exact hf v u s2 x y H2 I2 r1 r2 q2
theorem E8{op:Operator}{r:R2}(ho:OpR X (binaryOp op) r)(ha:PE X a ta)(hb:PE X b tb):PE X (.BinOp a op b pos) (tOp r ta tb):=by
 intro pins s σ H Q I h;exact wpAny_BinOp (zFz ha hb I h fun v u s2 x y H2 I2 rx ry q=>ho pins s2 σ H2 x y v u Q I2 rx ry q)
theorem zFw{op:UnaryOp}{r:V->Hp->VK->Prop}(ho:UnR X (unaryOp op) r)(ha:PE X a ta):PE X (.UnaryOp op a pos) (tUn r ta):=by
 intro pins s σ H Q I h;exact UnaryOp_ (thn (ha pins s σ H _ I h) fun v s1 ⟨x,H1,I1,r1,q1⟩=>ho pins s1 σ H1 x v Q I1 r1 q1)
theorem opI{f:Value->Value->Sem Value}{C:Int->Int->Prop}{g:Int->Int->Int}
  (rule:∀(i j:Int) (t u:Tok) (s:Shared) (Q:Value->Shared->Prop) (E:Value->Shared->Prop),C i j->Q (.int (g i j) s.toks) { s with toks:=s.toks+1 }->wpAny (model X.prog X.w) X.A (f (.int i t) (.int j u)) Q E s) :
  OpR X f (rI C fun i j=>.int (g i j)):=by
 intro pins s σ H x y v u Q I rx ry h;obtain⟨i,j,rfl,rfl,hc,q⟩:=h;obtain⟨t,rfl⟩:=rx;obtain⟨t',rfl⟩:=ry;exact rule i j t t' s _ _ hc ⟨.int (g i j),H,I.tok _,⟨_,rfl⟩,q⟩
theorem zFh{f:Value->Value->Sem Value}{g:Int->Int->Int}
  (rule:∀(i j:Int) (t u:Tok) (s:Shared) (Q:Value->Shared->Prop) (E:Value->Shared->Prop),Q (.int (g i j) s.toks) { s with toks:=s.toks+1 }->wpAny (model X.prog X.w) X.A (f (.int i t) (.int j u)) Q E s) :
  OpR X f (rI0 fun i j=>.int (g i j)):=by
 intro pins s σ H x y v u Q I rx ry h;obtain⟨i,j,rfl,rfl,q⟩:=h;obtain⟨t,rfl⟩:=rx;obtain⟨t',rfl⟩:=ry;exact rule i j t t' s _ _ ⟨.int (g i j),H,I.tok _,⟨_,rfl⟩,q⟩
theorem zFi{f:Value->Value->Sem Value}{g:Int->Int->Bool}
  (rule:∀(i j:Int) (t u:Tok) (s:Shared) (Q:Value->Shared->Prop) (E:Value->Shared->Prop),Q (.bool (g i j)) s->wpAny (model X.prog X.w) X.A (f (.int i t) (.int j u)) Q E s) :
  OpR X f (rI0 fun i j=>.bl (g i j)):=by
 intro pins s σ H x y v u Q I rx ry h;obtain⟨i,j,rfl,rfl,q⟩:=h;obtain⟨t,rfl⟩:=rx;obtain⟨t',rfl⟩:=ry;exact rule i j t t' s _ _ ⟨.bl (g i j),H,I,rfl,q⟩
def zIm(i j:Int):Prop:=0<j/\j<1073741824
def zHn(i j:Int):Prop:=0<=j/\j<=1000000/\i.natAbs<2^64
def CMul(i j:Int):Prop:=(-(2^64)<i/\i<2^64)\/(-(2^64)<j/\j<2^64)
theorem CMul.ok{i j:Int}(h:CMul i j):IntMulOk i j:=by
 rcases h with⟨h1,h2⟩ | ⟨h1,h2⟩
 .exact .of_left (intBits_le_64 h1 h2)
 .exact .of_right (intBits_le_64 h1 h2)
theorem Z8:OpR X (binaryOp .Add) (rI0 fun i j=>.int (i+j)):=zFh fun _ _ _ _ _ _ _ q=>add_int q
theorem Cu:OpR X (binaryOp .Mult) (rI CMul fun i j=>.int (i*j)):=opI fun _ _ _ _ _ _ _ hc q=>mul_int q hc.ok
theorem Qk:OpR X (binaryOp .FloorDiv) (rI zIm fun i j=>.int (i / j)):=opI fun i j _ _ _ _ _ hc q=>by
 have h1:(0:Int)<j:=hc.1;have h2:j<1073741824:=hc.2;exact floordiv_int (by omega) (by rw[Int.fdiv_eq_ediv_of_nonneg i (by omega)];exact q) (.inl (PyProof.noPylong_small (by omega)))
theorem Hh:OpR X (binaryOp .Mod) (rI (fun _ j=>0<j) fun i j=>.int (i % j)):=opI fun i j _ _ _ _ _ hc q=>by
 have h1:(0:Int)<j:=hc;exact mod_int' (by omega) (by rw[Int.fmod_eq_emod_of_nonneg i (by omega)];exact q)
theorem zEi:OpR X (binaryOp .Pow) (rI zHn fun i j=>.int (i^j.toNat)):=opI fun _ _ _ _ _ _ _ hc q=>pow_int_small hc.1 hc.2.1 hc.2.2 q
theorem zCk:OpR X (binaryOp .LShift) (rI zHn fun i j=>.int (i*2^j.toNat)):=opI fun _ _ _ _ _ _ _ hc q=>lshift_int_small hc.1 hc.2.1 hc.2.2 q
theorem Bc:OpR X (binaryOp .BitAnd) (rI0 fun i j=>.int (Builtin.bitAnd i j)):=zFh fun _ _ _ _ _ _ _ q=>and_int q
theorem Ht:OpR X (binaryOp .BitOr) (rI0 fun i j=>.int (Builtin.bitOr i j)):=zFh fun _ _ _ _ _ _ _ q=>or_int q
theorem Ky:OpR X (binaryOp .BitXor) (rI0 fun i j=>.int (Builtin.bitXor i j)):=zFh fun _ _ _ _ _ _ _ q=>xor_int q
theorem unI{f:Value->Sem Value}{g:Int->Int}
  (rule:∀(i:Int) (t:Tok) (s:Shared) (Q:Value->Shared->Prop) (E:Value->Shared->Prop),Q (.int (g i) s.toks) { s with toks:=s.toks+1 }->wpAny (model X.prog X.w) X.A (f (.int i t)) Q E s) :
  UnR X f (rU fun i=>.int (g i)):=by
 intro pins s σ H x v Q I rx h;obtain⟨i,rfl,q⟩:=h;obtain⟨t,rfl⟩:=rx;exact rule i t s _ _ ⟨.int (g i),H,I.tok _,⟨_,rfl⟩,q⟩
theorem zCq:UnR X (unaryOp .USub) (rU fun i=>.int (-i)):=unI fun _ _ _ _ _ q=>neg_int q
end
def zHy:V->V->Bool
 | .non,.non=>true | .non,.int _=>true | .int _,.non=>true | .non,.bl _=>true | .bl _,.non=>true | .non,.str _=>true | .str _,.non=>true
 | .int _,.int _=>true | .bl _,.bl _=>true | .str _,.str _=>true | .byt _,.byt _=>true
 | .int _,.str _=>true | .str _,.int _=>true | .bl _,.str _=>true | .str _,.bl _=>true
 | _,_=>false
def rEq:R2:=fun x y H Q=>zHy x y=true/\Q (.bl (decide (x=y))) H
def rNe:R2:=fun x y H Q=>zHy x y=true/\Q (.bl (!decide (x=y))) H
theorem Qz{i j:Int}:decide (V.int i=V.int j) =(i == j):=by
 rw[CV];simp
theorem Xs{i j:Bool}:decide (V.bl i=V.bl j) =(i == j):=by
 rw[CV];simp
theorem Rj{i j:Str}:decide (V.str i=V.str j) =(i == j):=by
 rw[CV];simp
theorem Sq{i j:Array UInt8}:decide (V.byt i=V.byt j) =(i.toList == j.toList):=by
 rw[CV];cases i;cases j;simp
section
variable{X:Cx}{a b c:Expr}{ta tb tc:TE}{pos:Pos}
theorem E3{pins:List (Addr×Obj)}{σ:St}{H:Hp}{s:Shared}{Q:VK}{k k':Bool}(I:Inv X pins σ H s)(q:Q (.bl k) H)(e:k=k'):EP X pins σ Q (.bool k') s:=by
 subst e;exact⟨.bl k,H,I,rfl,q⟩
theorem T0:OpR X (compareOp .Eq) rEq:=by
 intro pins s σ H x y v u Q I rx ry h;obtain⟨hs,q⟩:=h;cases x with
 | non =>
  cases rx;cases y with
  | non=>cases ry;exact PySem.EqNone.eq_none_none (E3 I q (by simp))
  | bl j=>cases ry;exact PySem.EqNone.eq_none_bool (E3 I q (by simp))
  | int j=>obtain⟨t',rfl⟩:=ry;exact PySem.EqNone.eq_none_int (E3 I q (by simp))
  | str j=>obtain⟨t',rfl⟩:=ry;exact PySem.EqNone.eq_none_str (E3 I q (by simp))
  | _=>exact absurd (show false=true from hs) BG
 | bl i =>
  cases rx;cases y with
  | non=>cases ry;exact PySem.EqNone.eq_bool_none (E3 I q (by simp))
  | bl j=>cases ry;exact eq_bool (E3 I q Xs)
  | str j=>obtain⟨t',rfl⟩:=ry;exact PySem.EqMixed.eq_bool_str (E3 I q (by simp))
  | _=>exact absurd (show false=true from hs) BG
 | int i =>
  obtain⟨t,rfl⟩:=rx;cases y with
  | non=>cases ry;exact PySem.EqNone.eq_int_none (E3 I q (by simp))
  | int j=>obtain⟨t',rfl⟩:=ry;exact eq_int (E3 I q Qz)
  | str j=>obtain⟨t',rfl⟩:=ry;exact PySem.EqMixed.eq_int_str (E3 I q (by simp))
  | _=>exact absurd (show false=true from hs) BG
 | str i =>
  obtain⟨t,rfl⟩:=rx;cases y with
  | non=>cases ry;exact PySem.EqNone.eq_str_none (E3 I q (by simp))
  | bl j=>cases ry;exact PySem.EqMixed.eq_str_bool (E3 I q (by simp))
  | int j=>obtain⟨t',rfl⟩:=ry;exact PySem.EqMixed.eq_str_int (E3 I q (by simp))
  | str j=>obtain⟨t',rfl⟩:=ry;exact eq_str (E3 I q Rj)
  | _=>exact absurd (show false=true from hs) BG
 | byt i =>
  obtain⟨t,rfl⟩:=rx;cases y with
  | byt j=>obtain⟨t',rfl⟩:=ry;exact PySem.W.eq_bytes (E3 I q Sq)
  | _=>exact absurd (show false=true from hs) BG
 | _=>cases y<;>exact absurd (show false=true from hs) BG
theorem zBg:OpR X (compareOp .NotEq) rNe:=by
 intro pins s σ H x y v u Q I rx ry h;obtain⟨hs,q⟩:=h;cases x with
 | non =>
  cases rx;cases y with
  | non=>cases ry;exact PySem.EqNone.ne_none_none (E3 I q (by simp))
  | bl j=>cases ry;exact PySem.EqNone.ne_none_bool (E3 I q (by simp))
  | int j=>obtain⟨t',rfl⟩:=ry;exact PySem.EqNone.ne_none_int (E3 I q (by simp))
  | str j=>obtain⟨t',rfl⟩:=ry;exact PySem.EqNone.ne_none_str (E3 I q (by simp))
  | _=>exact absurd (show false=true from hs) BG
 | bl i =>
  cases rx;cases y with
  | non=>cases ry;exact PySem.EqNone.ne_bool_none (E3 I q (by simp))
  | bl j=>cases ry;exact ne_bool (E3 I q (congrArg not Xs))
  | str j=>obtain⟨t',rfl⟩:=ry;exact PySem.EqMixed.ne_bool_str (E3 I q (by simp))
  | _=>exact absurd (show false=true from hs) BG
 | int i =>
  obtain⟨t,rfl⟩:=rx;cases y with
  | non=>cases ry;exact PySem.EqNone.ne_int_none (E3 I q (by simp))
  | int j=>obtain⟨t',rfl⟩:=ry;exact ne_int (E3 I q (congrArg not Qz))
  | str j=>obtain⟨t',rfl⟩:=ry;exact PySem.EqMixed.ne_int_str (E3 I q (by simp))
  | _=>exact absurd (show false=true from hs) BG
 | str i =>
  obtain⟨t,rfl⟩:=rx;cases y with
  | non=>cases ry;exact PySem.EqNone.ne_str_none (E3 I q (by simp))
  | bl j=>cases ry;exact PySem.EqMixed.ne_str_bool (E3 I q (by simp))
  | int j=>obtain⟨t',rfl⟩:=ry;exact PySem.EqMixed.ne_str_int (E3 I q (by simp))
  | str j=>obtain⟨t',rfl⟩:=ry;exact ne_str (E3 I q (congrArg not Rj))
  | _=>exact absurd (show false=true from hs) BG
 | byt i =>
  obtain⟨t,rfl⟩:=rx;cases y with
  | byt j=>obtain⟨t',rfl⟩:=ry;exact PySem.W.ne_bytes (E3 I q (congrArg not Sq))
  | _=>exact absurd (show false=true from hs) BG
 | _=>cases y<;>exact absurd (show false=true from hs) BG
theorem zCm:OpR X (compareOp .Lt) (rI0 fun i j=>.bl (decide (i<j))):=zFi fun _ _ _ _ _ _ _ q=>lt_int q
theorem Zv:OpR X (compareOp .LtE) (rI0 fun i j=>.bl (decide (i<=j))):=zFi fun _ _ _ _ _ _ _ q=>le_int q
theorem zGg:OpR X (compareOp .Gt) (rI0 fun i j=>.bl (decide (j<i))):=zFi fun _ _ _ _ _ _ _ q=>gt_int q
theorem zGo:OpR X (compareOp .GtE) (rI0 fun i j=>.bl (decide (j<=i))):=zFi fun _ _ _ _ _ _ _ q=>ge_int q
theorem Tf:OpR X (compareOp .In) (fun x y H Q=>∃i j,x = .str i/\y = .str j/\Q (.bl (!(Builtin.Str.occurrences j i 0 j.length 1).isEmpty)) H):=by
 intro pins s σ H x y v u Q I rx ry h;obtain⟨i,j,rfl,rfl,q⟩:=h;obtain⟨t,rfl⟩:=rx;obtain⟨t',rfl⟩:=ry;exact in_str (E3 I q rfl)
theorem zFe:OpR X (compareOp .Is) (fun x y H Q=>y = .non/\Q (.bl (decide (x = .non))) H):=by
 intro pins s σ H x y v u Q I rx ry h;obtain⟨rfl,q⟩:=h;cases ry;refine is_none_gen (E3 I q ?_);cases x<;>first
  | (cases rx;rfl)
  | (obtain⟨t,rfl⟩:=rx;rfl)
theorem D8(b:Expr){op:CmpOp}(h:op≠ .In:=by decide)(h2:op≠ .NotIn:=by decide):behindInMarks op b=false:=by
 have e1:(op == CmpOp.In)=false:=by cases op<;>first | rfl | exact absurd rfl h
 have e2:(op == CmpOp.NotIn)=false:=by cases op<;>first | rfl | exact absurd rfl h2
 cases b<;>simp[behindInMarks,e1,e2]
theorem E4{op:CmpOp}{r:R2}(ho:OpR X (compareOp op) r)(ha:PE X a ta)(hb:PE X b tb)(hm:behindInMarks op b=false):PE X (.Compare a [op] [b] pos) (tOp r ta tb):=by
 intro pins s σ H Q I h;exact wpAny_Compare1 (zFz ha hb I h fun v u s2 x y H2 I2 rx ry q=>ho pins s2 σ H2 x y v u Q I2 rx ry q) hm
def zFf(t:TE):TT:=fun σ H Q=>t σ H fun x H'=>∃k,x = .bl k/\Q k H'
theorem C6{op:CmpOp}{r:R2}(ho:OpR X (compareOp op) r)(ha:PE X a ta)(hb:PE X b tb)(hm:behindInMarks op b=false):PT X (.Compare a [op] [b] pos) (zFf (tOp r ta tb)):=by
 intro pins s σ H Q I h;refine wpAny_isTrue_Compare1 (thn (ha pins s σ H _ I h) fun v s1 ⟨x,H1,I1,r1,q1⟩=>thn (hb pins s1 σ H1 _ I1 q1) fun u s2 ⟨y,H2,I2,r2,q2⟩ =>
  thn (ho pins s2 σ H2 x y v u _ I2 r1 r2 q2) fun c s3 ⟨z,H3,I3,r3,k,e,q3⟩=>?_) hm
 subst e;cases r3;exact CU ⟨H3,I3,q3⟩
def zCi(r r':R2)(ta tb tc:TE):TE:=fun σ H Q=>ta σ H fun x H1=>tb σ H1 fun y H2=>r x y H2 fun z H3=>∃k,z = .bl k /\
 (if k=true then tc σ H3 fun w' H4=>r' y w' H4 Q else Q (.bl false) H3)
theorem Vp{op op':CmpOp}{r r':R2}(ho:OpR X (compareOp op) r)(ho':OpR X (compareOp op') r')(ha:PE X a ta)(hb:PE X b tb)(hc:PE X c tc)
  (hm:lastMarks [op,op'] [b,c]=false:=by with_unfolding_all rfl):PT X (.Compare a [op,op'] [b,c] pos) (zFf (zCi r r' ta tb tc)):=by
 intro pins s σ H Q I h;refine isTrue_chain (thn (ha pins s σ H _ I h) fun v s1 ⟨x,H1,I1,r1,q1⟩=>test_link (thn (hb pins s1 σ H1 _ I1 q1) fun u s2 ⟨y,H2,I2,r2,q2⟩ =>
  thn (ho pins s2 σ H2 x y v u _ I2 r1 r2 q2) fun d s3 ⟨z,H3,I3,r3,k,e,q3⟩=>?_)) hm
 subst e;cases r3;refine CU ?_;cases k with
 | false =>
  obtain⟨k',e',q'⟩:=q3;cases e';exact ite_ff ⟨H3,I3,q'⟩
 | true =>
  refine ite_tt (test_last (thn (hc pins s3 σ H3 _ I3 q3) fun w' s4 ⟨z',H4,I4,r4,q4⟩=>thn (ho' pins s4 σ H4 y z' u w' _ I4 r2 r4 q4) fun d' s5 ⟨z2,H5,I5,r5,k2,e2,q5⟩=>?_));subst e2;cases r5;exact CU ⟨H5,I5,q5⟩
def zFr(K:PySem.W.Frag)(x:V)(H:Hp)(k:Bool):Prop :=
 match x with
 | .non=>k=false
 | .bl b=>k=b
 | .int i=>k =(i != 0)
 | .str y=>y.length<=sizeLine/\k =((y.length:Int) != 0)
 | .byt y=>y.size<=sizeLine/\k =((y.size:Int) != 0)
 | .ref p=>(∃xs,SqL K H p xs/\k=!xs.isEmpty)\/(∃xs,SqT K H p xs/\k=!xs.isEmpty)\/∃kvs,H p=some (.dK kvs)/\k=!kvs.isEmpty
 | _=>False
theorem Nt{U:Type}{kvs:List (U×V)}{vs:List (U×Value)}(r:KV kvs vs):(!vs.isEmpty)=!kvs.isEmpty:=by
 cases r<;>rfl
theorem Ce{xs:List V}{its:List Value}(r:Vals xs its):(!its.toArray.isEmpty)=!xs.isEmpty:=by
 cases r<;>simp
theorem Cm:(sizeLine:Nat)<2^63:=by rw[sizeLine_eq];decide
theorem zDt:zIj X (fun x H Q=>∃k,zFr X.K x H k/\Q k H):=by
 intro pins s σ H x v Q I rx h;obtain⟨k,e,q⟩:=h;have hl:=Cm;have hs:sizeLine=16777216:=sizeLine_eq;cases x with
 | non =>
  cases rx;have e':k=false:=e;subst e';exact truthy_none ⟨H,I,q⟩
 | bl b =>
  cases rx;have e':k=b:=e;subst e';exact CU ⟨H,I,q⟩
 | int i =>
  obtain⟨t,rfl⟩:=rx;have e':k =(i != 0):=e;subst e';exact PySem.P.truthy_int ⟨H,I,q⟩
 | str y =>
  obtain⟨t,rfl⟩:=rx;obtain⟨hy,e'⟩:y.length<=sizeLine/\k =((y.length:Int) != 0):=e;subst e';exact PySem.P.truthy_str (by omega) ⟨H,I.tok _,q⟩
 | byt y =>
  obtain⟨t,rfl⟩:=rx;obtain⟨hy,e'⟩:y.size<=sizeLine/\k =((y.size:Int) != 0):=e;subst e';exact PySem.W.truthy_bytes (by omega) ⟨H,I.tok _,q⟩
 | ref p =>
  cases rx;have e':(∃xs,SqL X.K H p xs/\k=!xs.isEmpty)\/(∃xs,SqT X.K H p xs/\k=!xs.isEmpty)\/∃kvs,H p=some (.dK kvs)/\k=!kvs.isEmpty:=e;rcases e' with⟨xs,hx,e'⟩ | ⟨xs,hx,e'⟩ | ⟨kvs,hx,e'⟩
  .subst e';obtain⟨its,r,pl,hz⟩:=I.list hx;have hlen:=r.length;exact wpAny_truthy_list pl.isList (by simp only[AW];omega) ⟨H,I.tok _,by rw[Ce r];exact q⟩
  .subst e';obtain⟨its,r,pl,hz⟩:=I.tuple hx;have hlen:=r.length;exact truthy_tuple pl (by simp only[AW];omega) ⟨H,I.tok _,by rw[Ce r];exact q⟩
  .subst e';obtain⟨hz,hS,vs,r,m⟩:kvs.length<=sizeLine/\(p == sysModules)=false/\∃vs,KV kvs vs/\s.heap.DictOf (C0 X.prog X.w) p vs:=I.hok p _ hx;have hlen:kvs.length=vs.length:=Paired.length r;exact wpAny_truthy_dict hS m (by omega) ⟨H,I.tok _,by rw[Nt r];exact q⟩
 | _=>exact(show False from e).elim
theorem Xb(ha:PE X a ta)(he:∀whole,isTrue a X.env whole =(do let v <-whole;standAt a.pos;holding [v] (truthy v))) :
  PT X a (fun σ H Q=>ta σ H fun x H'=>∃k,zFr X.K x H' k/\Q k H'):=by
 intro pins s σ H Q I h;exact isTrue_plain (thn (ha pins s σ H _ I h) fun v s1 ⟨x,H1,I1,r1,q1⟩=>zDt pins s1 σ H1 x v Q I1 r1 q1) (he _)
theorem R4{x:V}{us:List Value}(r:Vals [x] us):∃u,us = [u]/\RelV x u:=by
 cases r with
 | cons r1 r2=>cases r2;exact⟨_,rfl,r1⟩
theorem zGr{x y:V}{us:List Value}(r:Vals [x,y] us):∃u w',us = [u,w']/\RelV x u/\RelV y w':=by
 cases r with
 | cons r1 r2 =>
  cases r2 with
  | cons r3 r4=>cases r4;exact⟨_,_,rfl,r1,r3⟩
theorem Lb:G6 X (.builtin "abs") (fun xs H Q=>∃i,xs = [.int i]/\Q (.int (if i<0 then -i else i)) H):=by
 intro pins s σ H xs us Q I r h;obtain⟨i,rfl,q⟩:=h;obtain⟨u,rfl,t,rfl⟩:=R4 r;exact call_abs_int fun u tk=>⟨.int (if i<0 then -i else i),H,I.tok _,⟨_,rfl⟩,q⟩
theorem Rv(hc:X.calm=true):G6 X (.builtin "min") (fun xs H Q=>∃i j,xs = [.int i,.int j]/\Q (.int (if j<i then j else i)) H):=by
 intro pins s σ H xs us Q I r h;obtain⟨i,j,rfl,q⟩:=h;obtain⟨u,w',rfl,⟨t,rfl⟩,⟨t',rfl⟩⟩:=zGr r;refine min_two_ints (I.ok.hd hc) fun h' tk k=>⟨_,H,I.kept k,?_,q⟩;by_cases hj:j<i
 .rw[AR hj,AR hj];exact⟨_,rfl⟩
 .rw[AM hj,AM hj];exact⟨_,rfl⟩
theorem Sy:G6 X (.type "int") (fun xs H Q=>(∃i,xs = [.int i]/\Q (.int i) H)\/∃k,xs = [.bl k]/\Q (.int (if k then 1 else 0)) H):=by
 intro pins s σ H xs us Q I r h;rcases h with⟨i,rfl,q⟩ | ⟨k,rfl,q⟩
 .obtain⟨u,rfl,t,rfl⟩:=R4 r;exact call_int_int ⟨.int i,H,I,⟨_,rfl⟩,q⟩
 .obtain⟨u,rfl,r1⟩:=R4 r;cases r1;exact call_int_bool ⟨.int (if k then 1 else 0),H,I.tok _,⟨_,rfl⟩,q⟩
end
structure ObjM(h:Heap)(x dx C:Addr)(mA:Str->Option Value):Prop where
 obj:h.get? x=some (PySem.W.instObj C dx)
 ns:h.Ns1 dx mA
 ne:dx≠x
theorem Tj{h:Heap}{dx:Addr}{mA:Str->Option Value}(n:h.Ns1 dx mA):∃od,h.get? dx=some od/\∀name,PySem.W.lookIn name od=some (mA name):=by
 obtain⟨o,es,ep,ho,hd,hk,_,hm⟩:=n;refine⟨o,ho,fun name=>?_⟩;have e:=hm name;unfold nsFind findBy at e;rw[<-Array.find?_toList]at e;unfold PySem.W.lookIn;rw[hd];dsimp only;split
 .rename_i y q;rw[q]at e;exact congrArg some e
 .rename_i q;rw[q]at e;have a:es.toList.any (·.refKey)=false:=by
   rw[List.any_eq_false];intro y hy;obtain⟨z,t,hkey⟩:=hk y (Array.mem_toList_iff.mp hy);simp[DictEntry.refKey,hkey]
  have a':¬es.toList.any (·.refKey)=true:=by rw[a];exact BG
  rw[AM a'];exact congrArg some e
theorem ObjM.look{h:Heap}{x dx C:Addr}{mA:Str->Option Value}(I:ObjM h x dx C mA):∃od,PySem.W.InstAt h x (PySem.W.instObj C dx) C (some od)/\∀name,PySem.W.lookIn name od=some (mA name) :=
 let⟨od,ho,hl⟩:=Tj I.ns
 ⟨od,⟨I.obj,rfl,rfl,ho⟩,hl⟩
section
variable{prog:Program}{w:World}{A:Around}{E:Value->Shared->Prop}{s:Shared}{K:PySem.W.Frag}{x dx C f:Addr}{mA:Str->Option Value}{name:Str}{v:Value}
theorem zBa{expr:Bool}{Q:Value->Shared->Prop}(X:K.In s.heap)(I:ObjM s.heap x dx C mA)(hg:PySem.W.plainGet K C name=true)(hh:PySem.W.hasDictIn K C=true)
  (ha:PySem.W.findIn K (.ref C) name=some none) (hv:mA name=some v) (hv':PySem.W.handedIn v=true) (h:Q v { s with toks:=s.toks+1 }) :
  wpAny (model prog w) A (getAttr (.ref x) name expr) Q E s:=by
 obtain⟨od,J,hl⟩:=I.look;exact PySem.W.get_value X J (PySem.W.plainGet_of hg).1 (PySem.W.findObj_own hh ha rfl (by rw[hl,hv])) hv' h
theorem Wi{pl:Sem Bool}{Q:Value×List Value->Shared->Prop}(X:K.In s.heap)(I:ObjM s.heap x dx C mA)(hg:PySem.W.plainGet K C name=true)
  (hf:PySem.W.findIn K (.ref C) name=some (some (.ref f))) (ht:PySem.W.isFn K (.ref f)=true) (hv:mA name=none) (h:Q (.ref f,[.ref x]) s) :
  wpAny (model prog w) A (getMethod (.ref x) name pl) Q E s:=by
 obtain⟨od,J,hl⟩:=I.look;exact PySem.W.method_fn X J (PySem.W.plainGet_of hg).1 (PySem.W.plainGet_of hg).2 hf (beq_iff_eq.mp ht) (by show(PySem.W.lookIn name od).map (·.isSome)=some false;rw[hl,hv];rfl) h
theorem Zl{ns:List Str}{Q:Unit->Shared->Prop}(X:K.In s.heap)(I:ObjM s.heap x dx C mA)
  (hs:PySem.W.findIn K (.ref C) "__setattr__" = some (some (.builtin "object.__setattr__"))) (hp:PySem.W.plainOver K C=true) (ht:PySem.W.takerIn K C name=some none) (hh:PySem.W.hasDictIn K C=true)
  (hw:PySem.Within mA ns) (hsz:ns.length<=sizeLine)
  (h:∀h',ObjM h' x dx C (fun y=>if y=name then some v else mA y)->Heap.SameBut dx s.heap h'->Q () { s with heap:=h',toks:=s.toks+2 }) :
  wpAny (model prog w) A (setAttr (.ref x) name v) Q E s:=by
 obtain⟨od,J,hl⟩:=I.look;refine PySem.W.set_plain X J hs (PySem.W.osa_open (s:={ s with toks:=s.toks+1 }) (r:=none) X J hp ht fun b=>?_);obtain⟨cd,hc,hd'⟩:=PySem.W.any_some hh;have hx:s.heap.get? x=some ⟨.ref C,some dx,.plain,#[]⟩:=I.obj;refine AB (AD (AB (AB (wpAny_loadPart hx (AB (PySem.W.Looks.here (s:={ s with toks:=s.toks+1 }) (PySem.W.looks_clsIn X hc) ?_))))));rw[hd'];refine AD (a:=some dx) (AB (AD (AB ?_)));refine wpAny_nsSet1 (s:={ s with toks:=s.toks+1 }) I.ns fun h' hn2 hs2=>?_;obtain⟨oD,esD,epD,hoD,hdD,hcD⟩:=hn2.count (PySem.Within.cons name v hw);refine AB (wpAny_lookBehind hoD (by rw[hdD];exact pastItsLine_dict (Nat.le_trans hcD (by rw[BR];omega))) ?_);exact AD (h _ ⟨(hs2.2 _ (Ne.symm I.ne)).trans I.obj,hn2,I.ne⟩ hs2)
theorem Ur{R:Result->Shared->Prop}{vs:List Value}{kw:List (Str×Value)}(X:K.In s.heap)(hm:PySem.W.makesIn K C=true)
  (hi:PySem.W.findIn K (.ref C) "__init__" = some (some (.ref f))) (hf:PySem.W.typeIn K (.ref f)=some (.type "function"))
  (h:codeAny (model prog w) (A.under (.builtin "type.__call__" ⟨.ref C::vs,kw⟩)) (.call (.ref f) ⟨.ref (s.heap.objs.size+1)::vs,kw⟩) (PySem.W.InitBack (s.heap.objs.size+1) R)
   { s with heap:=(s.heap.push PySem.W.emptyDict).push (PySem.W.instObj C s.heap.objs.size) }) :
  codeAny (model prog w) A (.call (.ref C) ⟨vs,kw⟩) R s:=by
 obtain⟨hh,g,d,t,os⟩:=s;exact PySem.W.make_core (PySem.W.makes_of X hm) (PySem.W.looks_findIn X hi) (fun self=>PySem.W.bind_fn X self hf) (.inl rfl) h
end
def O2(f:Str)(v:V):List (Str×V)->List (Str×V)
 | []=>[(f,v)]
 | (g,x)::r=>if g=f then(g,v)::r else(g,x)::O2 f v r
theorem Be(f g:Str)(v:V):∀fs:List (Str×V),(O2 f v fs).lookup g=if g=f then some v else fs.lookup g
 | []=>by
  show List.lookup g [(f,v)]=_;by_cases h:g=f
  .have hb:(g == f)=true:=beq_iff_eq.mpr h;simp only[List.lookup,hb,AR h]
  .have hb:(g == f)=false:=beq_eq_false_iff_ne.mpr h;simp only[List.lookup,hb,AM h]
 | (k,x)::r=>by
  have ih:=Be f g v r;rw[show O2 f v ((k,x)::r) =(if k=f then(k,v)::r else(k,x)::O2 f v r)from rfl];by_cases hk:k=f
  .rw[AR hk];by_cases h:g=k
   .have hb:(g == k)=true:=beq_iff_eq.mpr h;simp only[List.lookup,hb,AR (h.trans hk)]
   .have hb:(g == k)=false:=beq_eq_false_iff_ne.mpr h;simp only[List.lookup,hb,AM (fun e:g=f=>h (e.trans hk.symm))]
  .rw[AM hk];by_cases h:g=k
   .have hb:(g == k)=true:=beq_iff_eq.mpr h;simp only[List.lookup,hb,AM (fun e:g=f=>hk (h.symm.trans e))]
   .have hb:(g == k)=false:=beq_eq_false_iff_ne.mpr h;simp only[List.lookup,hb];exact ih
theorem Bd(f:Str)(v:V):∀fs:List (Str×V),f∈(O2 f v fs).map (·.1)/\∀g,g∈fs.map (·.1)->g∈(O2 f v fs).map (·.1)
 | []=>⟨by simp[O2],fun g h=>by simp at h⟩
 | (k,x)::r=>by
  obtain⟨i1,i2⟩:=Bd f v r;rw[show O2 f v ((k,x)::r) =(if k=f then(k,v)::r else(k,x)::O2 f v r)from rfl];by_cases hk:k=f
  .rw[AR hk];subst hk;exact⟨by simp,fun g h=>by simpa using h⟩
  .rw[AM hk];refine⟨?_,fun g h=>?_⟩
   .rw[BA];exact AU _ i1
   .rw[BA]at h⊢;rcases A_.mp h with e | e
    .exact A_.mpr (.inl e)
    .exact AU _ (i2 g e)
theorem As(f:Str)(v:V):∀fs:List (Str×V),(O2 f v fs).length<=fs.length+1
 | []=>by simp[O2]
 | (k,x)::r=>by
  have ih:=As f v r;rw[show O2 f v ((k,x)::r) =(if k=f then(k,v)::r else(k,x)::O2 f v r)from rfl];by_cases hk:k=f
  .rw[AR hk,BR,BR];omega
  .rw[AM hk,BR,BR];omega
theorem RelO.some_of{v:V}{o:Option Value}(r:RelO (some v) o):∃u,o=some u/\RelV v u:=by
 cases o with
 | none=>exact(show False from r).elim
 | some u=>exact⟨u,rfl,r⟩
theorem RelO.none_of{o:Option Value}(r:RelO none o):o=none:=by
 cases o with
 | none=>rfl
 | some u=>exact(show False from r).elim
theorem Pj{v:V}{u:Value}(r:RelV v u):PySem.W.handedIn u=true:=by
 cases v with
 | non=>cases(show u=Value.none from r);rfl
 | bl b=>cases(show u=Value.bool b from r);rfl
 | int i=>obtain⟨t,e⟩:=(show ∃t,u=Value.int i t from r);cases e;rfl
 | str x=>obtain⟨t,e⟩:=(show ∃t,u=Value.str x t from r);cases e;rfl
 | byt b=>obtain⟨t,e⟩:=(show ∃t,u=Value.bytes b t from r);cases e;rfl
 | flt b=>obtain⟨t,e⟩:=(show ∃t,u=Value.float b t from r);cases e;rfl
 | ref a=>cases(show u=Value.ref a from r);rfl
 | ty n=>cases(show u=Value.type n from r);rfl
section
variable{P:Program}{w:World}{H H':Hp}{h h':Heap}{a C dx:Addr}{fs fs':List (Str×V)}
theorem Ea(hok:HOk P w H h)(e:H a=some (.ins C dx fs)):∃mA,ObjM h a dx C mA/\(∀f,RelO (fs.lookup f) (mA f))/\PySem.Within mA (fs.map (·.1))/\fs.length<=1000/\H dx=some (.own a):=by
 obtain⟨d,z,ne,ob,mA,n,r,q⟩:=(show ObjOk P w H h a (.ins C dx fs)from hok a _ e);exact⟨mA,⟨ob,n,ne⟩,r,q,z,d⟩
end
structure Cls(K:PySem.W.Frag)(C:Addr):Prop where
 pg:PySem.W.plainGet K C Str.empty=true
 hd:PySem.W.hasDictIn K C=true
 po:PySem.W.plainOver K C=true
 sa:PySem.W.findIn K (.ref C) "__setattr__" = some (some (.builtin "object.__setattr__"))
theorem Cls.get{K:PySem.W.Frag}{C:Addr}(c:Cls K C)(f:Str):PySem.W.plainGet K C f=true:=c.pg
def NoAttr(K:PySem.W.Frag)(C:Addr)(f:Str):Prop:=PySem.W.findIn K (.ref C) f=some none
theorem NoAttr.taker{K:PySem.W.Frag}{C:Addr}{f:Str}(n:NoAttr K C f):PySem.W.takerIn K C f=some none:=by
 unfold PySem.W.takerIn;rw[show PySem.W.findIn K (.ref C) f=some none from n];rfl
structure Meth(K:PySem.W.Frag)(C:Addr)(m:Str)(f:Addr):Prop where
 at_:PySem.W.findIn K (.ref C) m=some (some (.ref f))
 fn:PySem.W.isFn K (.ref f)=true
 kp:PySem.W.keepIn K (.ref f)=true
section
variable{X:Cx}{pins:List (Addr×Obj)}{σ:St}{H:Hp}{s:Shared}{a C dx:Addr}{fs:List (Str×V)}{f:Str}{v:V}{A:Around}{E:Value->Shared->Prop}
theorem Nd{b:Bool}{Q:Value->Shared->Prop}(I:Inv X pins σ H s)(e:H a=some (.ins C dx fs))(c:Cls X.K C)(n:NoAttr X.K C f)(l:fs.lookup f=some v)
  (h:∀u s',Inv X pins σ H s'->RelV v u->Q u s'):wpAny (model X.prog X.w) A (getAttr (.ref a) f b) Q E s:=by
 obtain⟨mA,O,r,_,_,_⟩:=Ea I.hok e;obtain⟨u,hu,ru⟩:=RelO.some_of (v:=v) (o:=mA f) (by rw[<-l];exact r f);exact zBa I.kIn O (c.get f) c.hd n hu (Pj ru) (h u _ (I.tok _) ru)
theorem Ct{m:Str}{g:Addr}{pl:Sem Bool}{Q:Value×List Value->Shared->Prop}(I:Inv X pins σ H s)(e:H a=some (.ins C dx fs))(c:Cls X.K C)(k:Meth X.K C m g)(l:fs.lookup m=none)
  (h:Q (.ref g,[.ref a]) s):wpAny (model X.prog X.w) A (getMethod (.ref a) m pl) Q E s:=by
 obtain⟨mA,O,r,_,_,_⟩:=Ea I.hok e;have hn:mA m=none:=RelO.none_of (by rw[<-l];exact r m);exact Wi I.kIn O (c.get m) k.at_ k.fn hn h
theorem Oo{y:V}{u:Value}{Q:Unit->Shared->Prop}(I:Inv X pins σ H s)(e:H a=some (.ins C dx fs))(c:Cls X.K C)(n:NoAttr X.K C f)(hl:fs.length<1000)(ry:RelV y u)
  (h:∀s',Inv X pins σ (upd H a (.ins C dx (O2 f y fs))) s'->Q () s'):wpAny (model X.prog X.w) A (setAttr (.ref a) f u) Q E s:=by
 obtain⟨mA,O,r,wi,_,ho⟩:=Ea I.hok e;have hz:(fs.map (·.1)).length<=sizeLine:=by rw[AA,sizeLine_eq];omega
 refine Zl I.kIn O c.sa c.po n.taker c.hd wi hz fun h' O' sb=>h _ ?_;have hd:∃o,h'.get? dx=some o:=let⟨o,_,_,e',_⟩:=O'.ns;⟨o,e'⟩;refine I.write (x:=a) (e:=dx) (by rw[e];exact True.intro) (.inr ho) (fun b q hb z=>(sb.2 b hb).trans z) hd ?_;refine⟨by rw[B6 O.ne];exact ho,?_,O.ne,O'.obj,_,O'.ns,fun g=>?_,fun g hg=>?_⟩
 .have:=As f y fs;omega
 .show RelO ((O2 f y fs).lookup g) (if g=f then some u else mA g);rw[Be];by_cases q:g=f
  .rw[AR q,AR q];exact ry
  .rw[AM q,AM q];exact r g
 .by_cases q:g=f
  .rw[q];exact(Bd f y fs).1
  .refine(Bd f y fs).2 g (wi g fun z=>hg ?_);show(if g=f then some u else mA g)=none;rw[AM q];exact z
theorem Inv.made(I:Inv X pins σ H s):Inv X pins σ (upd (upd H s.heap.objs.size (.own (s.heap.objs.size+1))) (s.heap.objs.size+1) (.ins C s.heap.objs.size []))
  { s with heap:=(s.heap.push PySem.W.emptyDict).push (PySem.W.instObj C s.heap.objs.size) }:=by
 have e1:(s.heap.push PySem.W.emptyDict).get? s.heap.objs.size=some PySem.W.emptyDict:=BC s.heap rfl;have e2:((s.heap.push PySem.W.emptyDict).push (PySem.W.instObj C s.heap.objs.size)).get? (s.heap.objs.size+1)=some (PySem.W.instObj C s.heap.objs.size):=by
  have:=BC (s.heap.push PySem.W.emptyDict) (o:=PySem.W.instObj C s.heap.objs.size) rfl
  rwa [DZ]at this
 have e3:(s.heap.push PySem.W.emptyDict).Ns s.heap.objs.size (fun _=>none):=⟨PySem.W.emptyDict,#[],_,e1,rfl,(fun e he=>absurd he (by simp)),fun _=>rfl⟩;have I1:=I.laid (a:=s.heap.objs.size) (o:=.own (s.heap.objs.size+1)) (h':=s.heap.push PySem.W.emptyDict) (t':=s.toks) (fun b u q=>AC _ q) (Nat.le_refl _) ⟨_,e1⟩;refine I1.laid (a:=s.heap.objs.size+1) (o:=.ins C s.heap.objs.size []) (t':=s.toks) (fun b u q=>AC _ q) (Nat.le_of_eq (DZ _ _)) ?_;have ne:s.heap.objs.size≠s.heap.objs.size+1:=AX (EM _);refine⟨by rw[B6 ne,A9],CC _,ne,e2,fun _=>none,(Heap.Ns1.of_empty e3).at fun o q=>AC _ q,fun _=>True.intro,fun y hy=>absurd rfl hy⟩
theorem Zw{prog:Program}{w:World}{env:Env}{e:Expr}{f:Str}{pos:Pos}{s:Shared}{Q:Value->Shared->Prop}(hb:attributeBase e f env (eval e env)=eval e env)
  (h:wpAny (model prog w) A (eval e env) (fun o s₁=>wpAny (model prog w) A (getAttr o f true) Q E s₁) E s):wpAny (model prog w) A (eval (.Attribute e f pos) env) Q E s :=
 Attribute_any_ h (by rw[arm_eval_Attribute,hb])
end
def zHp(K:PySem.W.Frag)(ta:TE)(f:Str):TE:=fun σ H Q=>ta σ H fun x H1=>∃a C dx fs v,x = .ref a/\H1 a=some (.ins C dx fs)/\Cls K C/\NoAttr K C f/\fs.lookup f=some v/\Q v H1
def zHt(K:PySem.W.Frag)(ta tv:TE)(f:Str):TS:=fun D σ H=>tv σ H fun y H1=>ta σ H1 fun x H2=>∃a C dx fs,x = .ref a/\H2 a=some (.ins C dx fs)/\Cls K C/\NoAttr K C f/\fs.length<1000 /\
 D.nx σ (upd H2 a (.ins C dx (O2 f y fs)))
section
variable{X:Cx}{o e value:Expr}{f:Str}{pos pos' tpos:Pos}{ta tv:TE}
theorem zFg(he:PE X e ta)(hb:attributeBase e f X.env (eval e X.env)=eval e X.env):PE X (.Attribute e f pos) (zHp X.K ta f):=by
 intro pins s σ H Q I h;refine Zw hb (thn (he pins s σ H _ I h) fun u s1 ⟨x,H1,I1,rx,a,C,dx,fs,v,ex,ea,c,n,l,q⟩=>?_);subst ex;obtain rfl:u=Value.ref a:=rx;exact Nd I1 ea c n l fun u' s2 I2 ru=>⟨v,H1,I2,ru,q⟩
theorem zDr(ha:PE X o ta)(hv:PE X value tv)(hs:swapsWith value (some (.Attribute o f pos')) pos.line X.env=pure false):PS X (.Assign [.Attribute o f pos'] value pos) (zHt X.K ta tv f):=by
 intro pins s σ H D I h;refine plainObj_wpAny_Assign_Attribute (thn (hv pins s σ H _ I h) fun u s1 ⟨y,H1,I1,ry,q⟩=>thn (ha pins s1 σ H1 _ I1 q) fun ov s2 ⟨x,H2,I2,rx,a,C,dx,fs,ex,ea,c,n,l,q2⟩=>?_) hs;subst ex;obtain rfl:ov=Value.ref a:=rx;exact Oo I2 ea c n l ry fun s3 I3=>⟨σ,_,I3,q2⟩
end
section
variable{X:Cx}{pins:List (Addr×Obj)}{σ:St}{H:Hp}{s:Shared}{A:Around}{E:Value->Shared->Prop}{Q:Value->Shared->Prop}{c:Value}{b:Bool}
inductive TyOf(K:PySem.W.Frag)(H:Hp):V->Value->Prop where
 | non:TyOf K H .non (.type "NoneType")
 | bl (x:Bool):TyOf K H (.bl x) (.type "bool")
 | int (i:Int):TyOf K H (.int i) (.type "int")
 | str (x:Str):TyOf K H (.str x) (.type "str")
 | flt (x:UInt64):TyOf K H (.flt x) (.type "float")
 | lst {a:Addr} {xs:List V} (e:H a=some (.lst xs)):TyOf K H (.ref a) (.type "list")
 | frz {a:Addr} {o:Obj} {xs:List V} (e:H a=some (.frz o (.lst xs))):TyOf K H (.ref a) (.type "list")
 | tup {a:Addr} {xs:List V} (e:H a=some (.tup xs)):TyOf K H (.ref a) (.type "tuple")
 | dK {a:Addr} {kvs:List (Key×V)} (e:H a=some (.dK kvs)):TyOf K H (.ref a) (.type "dict")
 | dT {a:Addr} {kvs:List (List Key×V)} (e:H a=some (.dT kvs)):TyOf K H (.ref a) (.type "dict")
 | ins {a C dx:Addr} {fs:List (Str×V)} (e:H a=some (.ins C dx fs)) (cl:Cls K C) (ha:PySem.W.findIn K (.ref C) "__class__" = some (some (.builtin "object.__class__")))
   (hn:PySem.W.specialIn K (.builtin "object.__class__") "__get__" = some (some (.builtin "getset_descriptor.__get__"))) (htk:PySem.W.takesIn K (.builtin "object.__class__")=some true)
   (hm:PySem.W.mroIn K C (.type "object")=some true):TyOf K H (.ref a) (.ref C)
theorem Sh{x:V}{u t:Value}(I:Inv X pins σ H s)(rx:RelV x u)(ty:TyOf X.K H x t)(e:PySem.W.kitOne X.K t c=some b)(h:∀tk,Q (.bool b) { s with toks:=tk }) :
  wpAny (model X.prog X.w) A (call (.builtin "isinstance") [u,c]) Q E s:=by
 cases ty with
 | non=>cases(show u=Value.none from rx);exact PySem.W.kia_one PySem.W.kitx_none I.kIn True.intro e (fun z=>nomatch z) h
 | bl y=>cases(show u=Value.bool y from rx);exact PySem.W.kia_one PySem.W.kitx_bool I.kIn True.intro e (fun z=>nomatch z) h
 | int i=>obtain⟨t,q⟩:=(show ∃t,u=Value.int i t from rx);cases q;exact PySem.W.kia_one PySem.W.kitx_int I.kIn True.intro e (fun z=>nomatch z) h
 | str y=>obtain⟨t,q⟩:=(show ∃t,u=Value.str y t from rx);cases q;exact PySem.W.kia_one PySem.W.kitx_str I.kIn True.intro e (fun z=>nomatch z) h
 | flt y=>obtain⟨t,q⟩:=(show ∃t,u=Value.float y t from rx);cases q;exact PySem.W.kia_one PySem.W.kitx_float I.kIn True.intro e (fun z=>nomatch z) h
 | @lst a xs ea =>
  cases(show u=Value.ref a from rx);obtain⟨_,_,n,_,h1⟩:=(show ObjOk X.prog X.w H s.heap a (.lst xs)from I.hok a _ ea);exact PySem.W.kia_one PySem.W.kitx_list I.kIn ⟨_,h1,rfl⟩ e (fun z=>nomatch z) h
 | @frz a ob xs ea =>
  cases(show u=Value.ref a from rx);obtain⟨_,_,_,n,_,h1⟩:=(show ObjOk X.prog X.w H s.heap a (.frz ob (.lst xs))from I.hok a _ ea);exact PySem.W.kia_one PySem.W.kitx_list I.kIn ⟨_,h1,rfl⟩ e (fun z=>nomatch z) h
 | @tup a xs ea =>
  cases(show u=Value.ref a from rx);obtain⟨_,_,_,p⟩:=(show ObjOk X.prog X.w H s.heap a (.tup xs)from I.hok a _ ea);obtain⟨o,h1,h2,_⟩:=p;exact PySem.W.kia_one PySem.W.kitx_tuple I.kIn ⟨o,h1,h2⟩ e (fun z=>nomatch z) h
 | @dK a kvs ea =>
  cases(show u=Value.ref a from rx);obtain⟨_,_,vs,_,p⟩:=(show ObjOk X.prog X.w H s.heap a (.dK kvs)from I.hok a _ ea);obtain⟨o,es,ep,h1,h2,_⟩:=p;exact PySem.W.kia_one PySem.W.kitx_dict I.kIn ⟨o,h1,h2.1⟩ e (fun z=>nomatch z) h
 | @dT a kvs ea =>
  cases(show u=Value.ref a from rx);obtain⟨_,_,xs,_,o,es,ep,h1,h2,_⟩:=(show ObjOk X.prog X.w H s.heap a (.dT kvs)from I.hok a _ ea);exact PySem.W.kia_one PySem.W.kitx_dict I.kIn ⟨o,h1,h2.1⟩ e (fun z=>nomatch z) h
 | @ins a C dx fs ea cl ha hn htk hm =>
  cases(show u=Value.ref a from rx);obtain⟨mA,O,_⟩:=Ea I.hok ea;obtain⟨od,J,_⟩:=O.look;exact PySem.W.kia_one (PySem.W.kitx_own (cl.get _) cl.hd ha hn htk hm) I.kIn J e (fun z=>nomatch z) h
end
structure Room(k:Nat)(A:Around):Prop where
 hd:A.handled=none
 dp:A.depth+3*k+5<recursionLimit
 un:A.units+16*k+200<cLine
theorem Room.mono{j k:Nat}{A:Around}(r:Room k A)(h:j<=k):Room j A:=⟨r.hd,by have:=r.dp;omega,by have:=r.un;omega⟩
theorem Room.deeper{k:Nat}{A:Around}(r:Room (k+1) A)(env:Env):Room k (A.deeper env) :=
 ⟨r.hd,by have:=r.dp;show A.depth+1+3*k+5<_;omega,by have:=r.un;show A.units+3+16*k+200<_;omega⟩
theorem Og{A:Around}{C:Addr}{us:List Value}{kw:List (Str×Value)}:(A.under (.builtin "type.__call__" ⟨.ref C::us,kw⟩)).depth=A.depth+1:=by
 first | rfl | simp[Around.under,Code.weight,Code.isCreation,Code.isGuard,Code.isCaller,Code.frames,Code.isFrame,guardIds]
theorem No{A:Around}{C:Addr}{us:List Value}{kw:List (Str×Value)}:(A.under (.builtin "type.__call__" ⟨.ref C::us,kw⟩)).units=A.units+1:=by
 first | rfl | simp[Around.under,Code.cUnits,Code.frames,Code.isFrame]
theorem Room.make{k:Nat}{A:Around}(r:Room (k+1) A)(C:Addr)(us:List Value)(kw:List (Str×Value)):Room k (A.under (.builtin "type.__call__" ⟨.ref C::us,kw⟩)) :=
 ⟨r.hd,by have:=r.dp;rw[Og];omega,by have:=r.un;rw[No];omega⟩
theorem Room.depth{k:Nat}{A:Around}(r:Room k A):A.depth<recursionLimit:=by have:=r.dp;omega
theorem Room.units{k:Nat}{A:Around}(r:Room k A):A.units+64<cLine:=by have:=r.un;omega
def Kv:TA:=fun _ H Q=>Q [] H
def T6(ta:TE)(tr:TA):TA:=fun σ H Q=>ta σ H fun x H1=>tr σ H1 fun xs H2=>Q (x::xs) H2
section
variable{X:Cx}{e:Expr}{es:List Expr}{te:TE}{t:TA}{pos:Pos}
theorem B2:PA X [] Kv:=fun _ _ _ _ H Q I h=>Calls.spliced_nil ⟨[],H,I,.nil,h⟩
theorem A8(ha:PE X e te)(hr:PA X es t)(hs:starEach (e::es) X.env =(false,eval e X.env)::starEach es X.env:=by rfl):PA X (e::es) (T6 te t):=by
 intro pos pins s σ H Q I h;rw[hs];show wpAny _ _ (spliced ((false,eval e X.env)::backTo pos (starEach es X.env))) _ _ s;refine Calls.spliced_cons (thn (ha pins s σ H _ I h) fun u s1 ⟨x,H1,I1,r1,q1⟩=>?_);exact thn (hr pos pins s1 σ H1 _ I1 q1) fun us s2 ⟨xs,H2,I2,r2,q2⟩=>⟨x::xs,H2,I2,.cons r1 r2,q2⟩
def zEl(t:TA):TE:=fun σ H Q=>t σ H fun xs H1=>xs.length<=sizeLine/\∀p,H1 p=none->Q (.ref p) (upd H1 p (.tup xs))
def zHu(t:TA):TE:=fun σ H Q=>t σ H fun xs H1=>xs.length<=sizeLine/\∀p,H1 p=none->Q (.ref p) (upd H1 p (.lst xs))
theorem M7{x1}(h:PA X es t):PE X (.Tuple es x1 pos) (zEl t):=by
 intro pins s σ H Q I hq;refine wpAny_Tuple_spliced (thn (h pos pins s σ H _ I hq) fun us s1 ⟨xs,H1,I1,r,z,q⟩=>⟨by rw[<-r.length];exact z,?_⟩);have hf:H1 s1.heap.objs.size=none:=I1.hok.fresh (Nat.le_refl _);refine⟨.ref s1.heap.objs.size,upd H1 s1.heap.objs.size (.tup xs),I1.laid (t':=s1.toks) (fun b u e=>AC _ e) (Nat.le_refl _) ?_,rfl,q _ hf⟩;exact⟨z,us,r,⟨_,BC _ rfl,rfl,_,rfl⟩⟩
theorem S6(h:PA X es t):PE X (.List es pos) (zHu t):=by
 intro pins s σ H Q I hq;refine wpAny_List_spliced (thn (h pos pins s σ H _ I hq) fun us s1 ⟨xs,H1,I1,r,z,q⟩=>⟨by rw[<-r.length];exact z,?_⟩);have hf:H1 s1.heap.objs.size=none:=I1.hok.fresh (Nat.le_refl _);refine⟨.ref s1.heap.objs.size,upd H1 s1.heap.objs.size (.lst xs),I1.laid (t':=s1.toks) (fun b u e=>AC _ e) (Nat.le_refl _) ?_,rfl,q _ hf⟩;exact⟨z,us,0,r,BC _ rfl⟩
end
abbrev Sp:=List V->Hp->VK->XK->Prop
abbrev CXT:=List Env->Hp->Shared->XK->Value->Shared->Prop
structure Env0(P:Program)(w:World)(K:PySem.W.Frag)(mg:Str->Option Value)(base:Heap)(A:Around)(outer:List Env)(s:Shared)(H:Hp):Prop where
 frames:A.frames=some outer
 mod:Mod K mg base
 bs:∀b o,base.get? b=some o->s.heap.get? b=some o/\H b=none
 bsz:base.objs.size<=s.heap.objs.size
 funs:s.heap.FunFrames base outer
 frf:∀b∈frs outer,H b=none
 hok:HOk P w H s.heap
 bare:AllBare s.gens
def CE(outer:List Env)(P:Program)(w:World)(H:Hp)(s:Shared)(Q:VK)(u:Value)(s':Shared):Prop :=
 ∃v H',s'.os=s.os/\AllBare s'.gens/\Un (frs outer) [] H H' s.heap s'.heap/\HOk P w H' s'.heap/\RelV v u/\Q v H'
def CR(CX:CXT)(outer:List Env)(P:Program)(w:World)(H:Hp)(s:Shared)(Q:VK)(E:XK)(r:Result)(s':Shared):Prop :=
 match r with
 | .ok (.ret u)=>CE outer P w H s Q u s'
 | .ok _=>False
 | .error e=>CX outer H s E e s'
structure FnOk(P:Program)(w:World)(K:PySem.W.Frag)(mg:Str->Option Value)(base:Heap)(CX:CXT)(k:Nat)(f:Addr)(fd:FuncData)(ps:List Str)(sp:Sp):Prop where
 len:∀vs H Q E,sp vs H Q E->vs.length=ps.length
 run:∀(A:Around) (outer:List Env) (s:Shared) (H:Hp) (args:Args) (us:List Value) (vs:List V) (Q:VK) (E:XK),Room k A->Env0 P w K mg base A outer s H->BindsTo s fd args (ps.zip us)->Vals vs us->sp vs H Q E ->
  codeAny (model P w) A (.call (.ref f) args) (CR CX outer P w H s Q E) s
theorem FnOk.mono{P:Program}{w:World}{K:PySem.W.Frag}{mg:Str->Option Value}{base:Heap}{CX:CXT}{j k:Nat}{f:Addr}{fd:FuncData}{ps:List Str}{sp:Sp}(F:FnOk P w K mg base CX j f fd ps sp)(h:j<=k) :
  FnOk P w K mg base CX k f fd ps sp:=⟨F.len,fun A outer s H args us vs Q E hr=>F.run A outer s H args us vs Q E (hr.mono h)⟩
theorem Env0.make{P:Program}{w:World}{K:PySem.W.Frag}{mg:Str->Option Value}{base:Heap}{A:Around}{outer:List Env}{s:Shared}{H:Hp}(e:Env0 P w K mg base A outer s H)(C:Addr)(us:List Value)(kw:List (Str×Value)) :
  Env0 P w K mg base (A.under (.builtin "type.__call__" ⟨.ref C::us,kw⟩)) outer s H:=⟨by first | exact e.frames | (simpa [Around.under,Code.envs,Code.isFrame,pushEnvs] using e.frames),e.mod,e.bs,e.bsz,e.funs,e.frf,e.hok,e.bare⟩
section
variable{X:Cx}{pins:List (Addr×Obj)}{σ:St}{H:Hp}{s s':Shared}
theorem Inv.env0(I:Inv X pins σ H s):Env0 X.prog X.w X.K X.mg X.base X.A X.stack s H :=
 ⟨I.ok.frames,I.ok.mod,I.bs,Nat.le_trans I.ok.bsz I.sz,I.stack,I.stkFree,I.hok,I.bare⟩
theorem Inv.after{Q:VK}{u:Value}(I:Inv X pins σ H s)(h:CE X.stack X.prog X.w H s Q u s'):EP X pins σ Q u s':=by
 obtain⟨v,H',os,bare,un,hok,r,q⟩:=h;obtain⟨hh,g,d,t,os'⟩:=s';obtain rfl:os'=s.os:=os;exact⟨v,H',I.call (h':=hh) (g':=g) (d':=d) (t':=t) (ch:=[]) un hok bare (fun b z=>absurd z (by simp)),r,q⟩
end
def zBl(sp:Sp)(dvs:List V)(E:XK)(t:TA):TE:=fun σ H Q=>t σ H fun vs H1=>sp (vs++dvs) H1 Q E
def zDz(C:Addr)(m:Str)(sp:Sp)(dvs:List V)(E:XK)(ta:TE)(t:TA):TE:=fun σ H Q=>ta σ H fun x H1=>∃a dx fs,x = .ref a/\H1 a=some (.ins C dx fs)/\fs.lookup m=none /\
 t σ H1 fun vs H2=>sp (x ::(vs++dvs)) H2 Q E
def zFs(C:Addr)(sp:Sp)(dvs:List V)(E:XK)(t:TA):TE:=fun σ H Q=>t σ H fun vs H1=>∀x dx,H1 x=none->H1 dx=none->dx≠x ->
 sp (.ref x ::(vs++dvs)) (upd (upd H1 dx (.own x)) x (.ins C dx [])) (fun v H2=>v = .non/\Q (.ref x) H2) E
def Binds(K:PySem.W.Frag)(fd:FuncData)(ps:List Str)(ds:List Value):Prop :=
 ∀(s:Shared) (us:List Value),K.In s.heap->(us++ds).length=ps.length->BindsTo s fd ⟨us,[]⟩ (ps.zip (us++ds))
theorem Binds.all{K:PySem.W.Frag}{fd:FuncData}{ps:List Str}(h:∀us:List Value,us.length=ps.length->bindArgs fd ⟨us,[]⟩=pure (ps.zip us)):Binds K fd ps []:=fun s us _ hl=>by
 rw[DB]at hl⊢;exact .of_eq (h us hl)
def p0(CX:CXT)(X:Cx)(E:XK):Prop:=∀(pins:List (Addr×Obj)) (σ:St) (H:Hp) (s:Shared) (e:Value) (s':Shared),Inv X pins σ H s->CX X.stack H s E e s'->X.xe e s'
section
variable{X:Cx}{CX:CXT}{k:Nat}{f C:Addr}{fd:FuncData}{ps:List Str}{sp:Sp}{dvs:List V}{ds:List Value}{E:XK}{x m:Str}{p pos apos:Pos}{e o:Expr}{es:List Expr}{ta:TE}{t:TA}
theorem Lq{pins:List (Addr×Obj)}{σ:St}{H:Hp}{s:Shared}{Q:VK}{us:List Value}{vs:List V}(F:FnOk X.prog X.w X.K X.mg X.base CX k f fd ps sp)(hr:Room k X.A)(hb:Binds X.K fd ps ds)(hd:Vals dvs ds)(hx:p0 CX X E)
  (I:Inv X pins σ H s) (r:Vals vs us) (h:sp (vs++dvs) H Q E):wpAny (model X.prog X.w) X.A (call (.ref f) us) (EP X pins σ Q) X.xe s:=by
 have r2:Vals (vs++dvs) (us++ds):=r.append hd;have hl:(us++ds).length=ps.length:=by rw[<-r2.length];exact F.len _ _ _ _ h
 refine wpAny_call (codeAny_mono (F.run X.A X.stack s H ⟨us,[]⟩ (us++ds) (vs++dvs) Q E hr I.env0 (hb s us I.kIn hl) r2 h) fun r s' hq=>?_);cases r with
 | error e=>exact hx pins σ H s e s' I hq
 | ok fl =>
  cases fl with
  | ret u=>exact I.after hq
  | next=>exact False.elim hq
  | brk=>exact False.elim hq
  | cont=>exact False.elim hq
theorem zBo(F:FnOk X.prog X.w X.K X.mg X.base CX k f fd ps sp)(hr:Room k X.A)(hg:Gl X x)(hm:X.mg x=some (.ref f))(hk:PySem.W.keepIn X.K (.ref f)=true)(hb:Binds X.K fd ps ds)(hd:Vals dvs ds)(hx:p0 CX X E)
  (ha:PA X (e::es) t) (hdb:(x ==("__debug__":Str))=false:=by decide) (he:starEach (e::es) X.env =(false,eval e X.env)::starEach es X.env:=by rfl) (hpl:(backTo pos (starEach es X.env)).any (·.1)=false:=by rfl) :
  PE X (.Call (.Name x p) (e::es) [] pos) (zBl sp dvs E t):=by
 intro pins s σ H Q I h;refine FC (Ih I hg hm ?_ hdb);refine PySem.W.callWith_K (h₀:=X.base) I.ok.mod.kin hk (thn (ha pos pins s σ H _ I h) fun us s1 ⟨vs,H1,I1,r,q⟩=>⟨I1.kIn,?_⟩) he hpl;exact Lq F hr hb hd hx I1 r q
theorem G7{pl:Sem Bool}(he:PE X o ta)(c:Cls X.K C)(hm:Meth X.K C m f)(F:FnOk X.prog X.w X.K X.mg X.base CX k f fd ps sp)(hr:Room k X.A)(hb:Binds X.K fd ps ds)(hd:Vals dvs ds)(hx:p0 CX X E)(ha:PA X (e::es) t)
  (hst:starEach (e::es) X.env =(false,eval e X.env)::starEach es X.env:=by rfl) (hpl:(backTo pos (starEach es X.env)).any (·.1)=false:=by rfl)
  (ht:eval (.Call (.Attribute o m apos) (e::es) [] pos) X.env =(do
   let ov <-eval o X.env
   standAt apos.atName
   let(f,first) <-holding [ov] (getMethod ov m pl)
   callWith pos f first (backTo pos (starEach (e::es) X.env)) (backToKw pos (keywordEach [] X.env))):=by rfl) :
  PE X (.Call (.Attribute o m apos) (e::es) [] pos) (zDz C m sp dvs E ta t):=by
 intro pins s σ H Q I h;refine PySem.W.methodCall_KW (pl:=pl) (thn (he pins s σ H _ I h) fun u s1 ⟨x,H1,I1,rx,a,dx,fs,ex,ea,l,q⟩=>?_) ht;subst ex;obtain rfl:u=Value.ref a:=rx;refine Ct I1 ea c hm l ?_;refine PySem.W.callWith_K (first:=[.ref a]) (h₀:=X.base) I.ok.mod.kin hm.kp (thn (ha pos pins s1 σ H1 _ I1 q) fun us s2 ⟨vs,H2,I2,r,q2⟩=>⟨I2.kIn,?_⟩) hst hpl;exact Lq (us:=.ref a::us) (vs:=.ref a::vs) F hr hb hd hx I2 (.cons rfl r) q2
theorem Y1{pl:Sem Bool}(he:PE X o ta)(c:Cls X.K C)(hm:Meth X.K C m f)(F:FnOk X.prog X.w X.K X.mg X.base CX k f fd ps sp)(hr:Room k X.A)(hb:Binds X.K fd ps ds)(hd:Vals dvs ds)(hx:p0 CX X E)
  (ht:eval (.Call (.Attribute o m apos) [] [] pos) X.env =(do
   let ov <-eval o X.env
   standAt apos.atName
   let(f,first) <-holding [ov] (getMethod ov m pl)
   callWith pos f first (backTo pos (starEach [] X.env)) (backToKw pos (keywordEach [] X.env))):=by rfl) :
  PE X (.Call (.Attribute o m apos) [] [] pos) (zDz C m sp dvs E ta Kv):=by
 intro pins s σ H Q I h;refine PySem.W.methodCall_KW (pl:=pl) (thn (he pins s σ H _ I h) fun u s1 ⟨x,H1,I1,rx,a,dx,fs,ex,ea,l,q⟩=>?_) ht;subst ex;obtain rfl:u=Value.ref a:=rx;refine Ct I1 ea c hm l ?_;exact PySem.W.callWith_K0 (first:=[.ref a]) I1.kIn hm.kp (Lq (us:=[.ref a]) (vs:=[.ref a]) F hr hb hd hx I1 (.cons rfl .nil) q)
structure Mk(K:PySem.W.Frag)(C f:Addr):Prop where
 makes:PySem.W.makesIn K C=true
 init:PySem.W.findIn K (.ref C) "__init__" = some (some (.ref f))
 fn:PySem.W.isFn K (.ref f)=true
 kp:PySem.W.keepIn K (.ref C)=true
theorem Wt{pins:List (Addr×Obj)}{σ:St}{H:Hp}{s:Shared}{Q:VK}{us:List Value}{vs:List V}(M:Mk X.K C f)(F:FnOk X.prog X.w X.K X.mg X.base CX k f fd ps sp)(hr:Room (k+1) X.A)(hb:Binds X.K fd ps ds)(hd:Vals dvs ds)
  (hx:p0 CX X E) (I:Inv X pins σ H s) (r:Vals vs us)
  (h:∀x dx,H x=none->H dx=none->dx≠x->sp (.ref x ::(vs++dvs)) (upd (upd H dx (.own x)) x (.ins C dx [])) (fun v H2=>v = .non/\Q (.ref x) H2) E) :
  wpAny (model X.prog X.w) X.A (call (.ref C) us) (EP X pins σ Q) X.xe s:=by
 have hq:=h (s.heap.objs.size+1) s.heap.objs.size (I.hok.fresh (DE _)) (I.hok.fresh (Nat.le_refl _)) (AX (EM _));have I2:=Inv.made (C:=C) I;have r2:Vals (V.ref (s.heap.objs.size+1) ::(vs++dvs)) (Value.ref (s.heap.objs.size+1) ::(us++ds)):=.cons rfl (r.append hd);have hl:(Value.ref (s.heap.objs.size+1)::us++ds).length=ps.length:=by
  have e:=r2.length;rw[F.len _ _ _ _ hq]at e;exact e.symm
 refine wpAny_call (Ur (f:=f) I.kIn M.makes M.init (beq_iff_eq.mp M.fn) (codeAny_mono (F.run _ X.stack _ _ ⟨Value.ref (s.heap.objs.size+1)::us,[]⟩ (Value.ref (s.heap.objs.size+1) ::(us++ds)) _ _ E (hr.make C us [])
  (I2.env0.make C us []) (hb _ (Value.ref (s.heap.objs.size+1)::us) I2.kIn hl) r2 hq) fun r s' hq'=>?_))
 cases r with
 | error e=>exact hx pins σ _ _ e s' I2 hq'
 | ok fl =>
  cases fl with
  | ret u =>
   obtain⟨v,H',I3,rv,ev,q3⟩:=I2.after hq';subst ev;exact⟨rv,⟨V.ref (s.heap.objs.size+1),H',I3,rfl,q3⟩⟩
  | next=>exact False.elim hq'
  | brk=>exact False.elim hq'
  | cont=>exact False.elim hq'
theorem Io(M:Mk X.K C f)(F:FnOk X.prog X.w X.K X.mg X.base CX k f fd ps sp)(hr:Room (k+1) X.A)(hg:Gl X x)(hm:X.mg x=some (.ref C))(hb:Binds X.K fd ps ds)(hd:Vals dvs ds)(hx:p0 CX X E)
  (ha:PA X (e::es) t) (hdb:(x ==("__debug__":Str))=false:=by decide) (he:starEach (e::es) X.env =(false,eval e X.env)::starEach es X.env:=by rfl) (hpl:(backTo pos (starEach es X.env)).any (·.1)=false:=by rfl) :
  PE X (.Call (.Name x p) (e::es) [] pos) (zFs C sp dvs E t):=by
 intro pins s σ H Q I h;refine FC (Ih I hg hm ?_ hdb);refine PySem.W.callWith_K (h₀:=X.base) I.ok.mod.kin M.kp (thn (ha pos pins s σ H _ I h) fun us s1 ⟨vs,H1,I1,r,q⟩=>⟨I1.kIn,?_⟩) he hpl;exact Wt M F hr hb hd hx I1 r q
end
structure FnScope(N P:List Str)(sc:Scope):Prop where
 kind:sc.kind = .function
 co:sc.isCoroutine=false
 gen:sc.isGenerator=false
 nd:N.Nodup
 pre:N.take P.length=P
 par:∀x∈P,sc.names.lookup x=some .local\/sc.names.lookup x=some .cell
 nofree:∀y∈sc.names,y.2≠ .free
theorem Ff{kindOf:Str->Option NameKind}{x:Str}:∀{binds:List (Str×Value)} {m:Str->Option Value},(∀v,(x,v)∉binds)->bindL kindOf binds m x=m x
 | [],_,_=>rfl
 | (n,v)::r,m,h=>by
  unfold bindL;rw[Ff fun w hw=>h w (AU _ hw)];split
  .have:x≠n:=by rintro rfl;exact h v BE
   simp[this]
  .rfl
theorem Ia{kindOf:Str->Option NameKind}{x:Str}:∀{binds:List (Str×Value)} {m:Str->Option Value},(∀v,(x,v)∉binds)->bindC kindOf binds m x=m x
 | [],_,_=>rfl
 | (n,v)::r,m,h=>by
  unfold bindC;rw[Ia fun w hw=>h w (AU _ hw)];split
  .rfl
  .have:x≠n:=by rintro rfl;exact h v BE
   simp[this]
theorem Ez{kindOf:Str->Option NameKind}{x:Str}{v:Value}:∀{P:List Str} {vs:List Value} {i:Nat} {m:Str->Option Value},P.Nodup->P[i]?=some x->vs[i]?=some v->kindOf x=some .local ->
  bindL kindOf (P.zip vs) m x=some v
 | [],_,_,_,_,h,_,_=>by simp at h
 | _::_,[],_,_,_,_,h,_=>by simp at h
 | p::P,w::vs,0,m,nd,h1,h2,hk=>by
  simp at h1 h2;subst h1;subst h2;show bindL kindOf ((p,w)::P.zip vs) m p=_;unfold bindL;rw[Ff fun v hv=>(DG.mp nd).1 (List.of_mem_zip hv).1,AR hk];simp
 | p::P,w::vs,i+1,m,nd,h1,h2,hk=>by
  show bindL kindOf ((p,w)::P.zip vs) m x=_;unfold bindL;exact Ez (i:=i) (DG.mp nd).2 (by simpa using h1) (by simpa using h2) hk
theorem Gm{kindOf:Str->Option NameKind}{x:Str}{v:Value}:∀{P:List Str} {vs:List Value} {i:Nat} {m:Str->Option Value},P.Nodup->P[i]?=some x->vs[i]?=some v->kindOf x≠some .local ->
  bindC kindOf (P.zip vs) m x=some v
 | [],_,_,_,_,h,_,_=>by simp at h
 | _::_,[],_,_,_,_,h,_=>by simp at h
 | p::P,w::vs,0,m,nd,h1,h2,hk=>by
  simp at h1 h2;subst h1;subst h2;show bindC kindOf ((p,w)::P.zip vs) m p=_;unfold bindC;rw[Ia fun v hv=>(DG.mp nd).1 (List.of_mem_zip hv).1,AM hk];simp
 | p::P,w::vs,i+1,m,nd,h1,h2,hk=>by
  show bindC kindOf ((p,w)::P.zip vs) m x=_;unfold bindC;exact Gm (i:=i) (DG.mp nd).2 (by simpa using h1) (by simpa using h2) hk
def Hk(N:List Str)(vs:List V):St:=vs.map some++List.replicate (N.length-vs.length) none
def zBw(CX:CXT)(P:Program)(w:World)(K:PySem.W.Frag)(mg:Str->Option Value)(base:Heap)(N:List Str)(qual:Str)(scope:Scope)(f:Addr)(cd:Value)(A:Around)(outer:List Env)(s:Shared)(H:Hp)(E:XK):Cx where
 prog:=P
 w:=w
 K:=K
 mg:=mg
 base:=base
 A:=A.deeper (envOfC qual scope s.heap.objs.size f cd)
 N:=N
 s₀:=s
 H₀:=H
 env:=envOfC qual scope s.heap.objs.size f cd
 outer:=outer
 stack:=envOfC qual scope s.heap.objs.size f cd::outer
 ex:=[]
 calm:=true
 fn:=fun _=>true
 pn:=[]
 xe:=fun e s'=>wpAny (model P w) (A.deeper (envOfC qual scope s.heap.objs.size f cd)) (leaving (envOfC qual scope s.heap.objs.size f cd) e) (fun _ s''=>CX outer H s E e s'') (fun e' s''=>CX outer H s E e' s'') s'
theorem Kq{sc:Scope}{n:Nat}{x:Str}(h:sc.names.lookup x=some .cell):∃c,(cellsFrom n sc.names []).lookup x=some c:=by
 have q:=PySem.W.cellsFrom_some sc.names n [] (.inl h);exact EQ.mp q
theorem Qc{CX:CXT}{P:Program}{w:World}{K:PySem.W.Frag}{mg:Str->Option Value}{base:Heap}{N ps:List Str}{qual:Str}{scope:Scope}{f:Addr}{cd:Value}{A:Around}{outer:List Env}{s s1:Shared}{H:Hp}{E:XK}{us:List Value}{vs:List V}
  (S:FnScope N ps scope) (hd:A.handled=none) (e0:Env0 P w K mg base A outer s H) (hl:vs.length=ps.length) (r:Vals vs us)
  (x:InCallC s s.heap.objs.size (bindL (envOfC qual scope s.heap.objs.size f cd).kindOf (ps.zip us) fun _=>none) (cellsFrom (s.heap.objs.size+1) scope.names []) (bindC (envOfC qual scope s.heap.objs.size f cd).kindOf (ps.zip us) fun _=>none) s1) :
  Inv (zBw CX P w K mg base N qual scope f cd A outer s H E) [] (Hk N vs) H s1:=by
 have hpl:ps.length<=N.length:=by have:=congrArg List.length S.pre;rw[AN]at this;omega
 obtain⟨h1,tk,rfl,hk⟩:=x.done;have noA:∀b:Addr,b∉(zBw CX P w K mg base N qual scope f cd A outer s H E).ex:=fun b z=>absurd (show b∈([]:List Addr)from z) (by simp);refine⟨⟨e0.mod,S.kind,rfl,rfl,Nat.le_refl _,fun y z c h1 h2=>?_,fun y hy=>?_,fun y c _ h=>?_,fun _=>hd,Around.frames_deeper e0.frames,.inr ⟨rfl,rfl⟩,fun b z=>absurd z (noA b),e0.bs,e0.bsz,fun b _ _=>noA b,fun b z=>absurd z (noA b),e0.funs,e0.frf⟩,
  rfl,e0.bare,Un.kept hk,⟨_,x.toInCall.ns,fun i y v h1 h2 h3=>?_⟩,fun y c h=>⟨_,x.cell y c h⟩,e0.hok.fresh (Nat.le_refl _),fun y c h=>?_,fun p hp=>absurd (show p∈([]:List (Addr×Obj))from hp) (by simp),e0.hok.kept hk,?_⟩
 .exact name_of_addr x.apart (PySem.mem_of_lookup h1) (PySem.mem_of_lookup h2)
 .have hy:scope.names.lookup y=some .cell\/scope.names.lookup y=some .free:=hy;rcases hy with hy | hy
  .exact Kq hy
  .exact absurd rfl (S.nofree _ (PySem.mem_of_lookup hy))
 .exact E_ (x.above y c (PySem.mem_of_lookup h))
 .have hi:i<vs.length:=by
   unfold Hk at h2;by_cases hi:i<vs.length
   .exact hi
   .rw[GH (by simpa using hi)]at h2;rw[List.getElem?_replicate]at h2;split at h2<;>cases h2
  have ha:vs[i]?=some v:=by
   unfold Hk at h2;rw[GR (by simpa using hi),AI]at h2;cases e:vs[i]? with
   | none=>rw[e]at h2;cases h2
   | some a=>rw[e]at h2;cases h2;rfl
  obtain⟨u,hu,rv⟩:=r.get ha;have hp:ps[i]?=some y:=by
   rw[<-S.pre,DP (by omega)];exact h1
  have ndP:ps.Nodup:=by rw[<-S.pre];exact S.nd.sublist (EE _ _)
  refine⟨u,rv,?_⟩;rcases S.par y (AV hp)with k | k
  .exact .inl ⟨k,Ez ndP hp hu k⟩
  .obtain⟨c,e⟩:=Kq (n:=s.heap.objs.size+1) k;refine .inr ⟨.inl k,c,e,?_⟩;have q:=x.cell y c e;rw[Gm ndP hp hu (by show scope.names.lookup y≠_;rw[k];decide)]at q;exact q
 .exact e0.hok.fresh (E_ (x.above y c (PySem.mem_of_lookup h)))
 .unfold Hk;show _=N.length;rw[BB,AA,List.length_replicate];omega
theorem zGa{CX:CXT}{P:Program}{w:World}{K:PySem.W.Frag}{mg:Str->Option Value}{base:Heap}{k:Nat}{f:Addr}{name qual:Str}{params:Arguments}{body:List Stmt}{scope:Scope}{dV kV doc pm cdv ct oc:Value}{an od:Option Addr}
  {osl:Array (Option Value)} {N ps:List Str} {sp:Sp} (lk:K.lookup f=some ⟨oc,od,.func (PySem.W.fnOf name qual params body scope dV kV doc pm an cdv ct),osl⟩) (hcd:PySem.W.codeIn K cdv qual=true) (S:FnScope N ps scope)
  (len:∀vs H Q E,sp vs H Q E->vs.length=ps.length)
  (hbody:∀(A:Around) (outer:List Env) (s:Shared) (H:Hp) (vs:List V) (Q:VK) (E:XK),Room k (A.deeper (envOfC qual scope s.heap.objs.size f cdv))->sp vs H Q E ->
   ∃t,PSs (zBw CX P w K mg base N qual scope f cdv A outer s H E) body t/\t { nx:=fun _ H'=>Q .non H',rt:=Q } (Hk N vs) H) :
  FnOk P w K mg base CX (k+1) f (PySem.W.fnOf name qual params body scope dV kV doc pm an cdv ct) ps sp:=by
 refine⟨len,fun A outer s H args us vs Q E hr e0 hb r hsp=>?_⟩;have hl:=len _ _ _ _ hsp;have KX:K.In s.heap:=e0.mod.kin.keeps fun b o e=>(e0.bs b o e).1;have lim:s.heap.NoLimit:=e0.mod.nolimit.keeps fun b o e=>(e0.bs b o e).1;have hkind:∀y∈ps.zip us,scope.names.lookup y.1=some .local\/(scope.names.lookup y.1=some .cell/\((cellsFrom (s.heap.objs.size+1) scope.names []).lookup y.1).isSome=true):=fun⟨n,v⟩ hy=>by
  rcases S.par n (List.of_mem_zip hy).1 with q | q
  .exact .inl q
  .exact .inr ⟨q,PySem.W.cellsFrom_some _ _ _ (.inl q)⟩
 refine codeAny_call_function hr.depth (KX _ _ lk) rfl S.co S.gen rfl (PySem.W.codeRec_of KX hcd) (hb _ _ _ _ ?_);refine wpAny_newFunctionEnv_cells S.kind hkind fun env he s1 x=>?_;subst he;refine⟨lim.keeps x.toInCall.keep,codeAny_func ?_⟩;obtain⟨t,ht,hq⟩:=hbody A outer s H vs Q E (hr.deeper _) hsp;have I:Inv (zBw CX P w K mg base N qual scope f cdv A outer s H E) [] (Hk N vs) H s1:=Qc S hr.hd e0 hl r x;refine CD (ht [] s1 (Hk N vs) H _ I hq) (fun fl s' hs=>?_) fun e s' hs=>hs;have fin:∀{σ':St} {H':Hp} {v:V} {u:Value},Inv (zBw CX P w K mg base N qual scope f cdv A outer s H E) [] σ' H' s'->RelV v u->Q v H'->CE outer P w H s Q u s' :=
  fun{σ' H' v u} J rv q=>⟨v,H',J.os,J.bare,J.base,J.hok,rv,q⟩
 cases fl with
 | ret u =>
  obtain⟨v,σ',H',J,rv,q⟩:=hs;exact fin J rv q
 | next =>
  obtain⟨σ',H',J,q⟩:=hs;exact fin (v:=V.non) (u:=Value.none) J rfl q
 | brk =>
  obtain⟨_,_,_,q⟩:=hs;exact False.elim q
 | cont =>
  obtain⟨_,_,_,q⟩:=hs;exact False.elim q
section
variable{X:Cx}{x:Str}{p pos:Pos}{e:Expr}{es:List Expr}{t:TA}{id T:String}{r:List V->Hp->VK->Prop}
def tCB(r:List V->Hp->VK->Prop)(t:TA):TE:=fun σ H Q=>t σ H fun vs H1=>r vs H1 Q
theorem Wv(hc:G6 X (.builtin id) r)(hg:Gl X x)(hm:X.mg x=none)(hv:bootBuiltins x=some (.builtin id))(ha:PA X (e::es) t)(hn:x≠ "__name__":=by decide)(hdb:(x ==("__debug__":Str))=false:=by decide)
  (he:starEach (e::es) X.env =(false,eval e X.env)::starEach es X.env:=by rfl) (hpl:(backTo pos (starEach es X.env)).any (·.1)=false:=by rfl):PE X (.Call (.Name x p) (e::es) [] pos) (tCB r t):=by
 intro pins s σ H Q I h;refine FC (Cd I hg hm hv ?_ hn hdb);exact PyProof.Rows.callWith_builtin1 (thn (ha pos pins s σ H _ I h) fun us s1 ⟨vs,H1,I1,r1,q1⟩=>hc pins s1 σ H1 vs us Q I1 r1 q1) he hpl
theorem Ro(hc:G6 X (.type T) r)(hg:Gl X x)(hm:X.mg x=none)(hv:bootBuiltins x=some (.type T))(ha:PA X (e::es) t)(hn:x≠ "__name__":=by decide)(hdb:(x ==("__debug__":Str))=false:=by decide)
  (he:starEach (e::es) X.env =(false,eval e X.env)::starEach es X.env:=by rfl) (hpl:(backTo pos (starEach es X.env)).any (·.1)=false:=by rfl):PE X (.Call (.Name x p) (e::es) [] pos) (tCB r t):=by
 intro pins s σ H Q I h;refine FC (Cd I hg hm hv ?_ hn hdb);exact PyProof.Rows.callWith_type1 (thn (ha pos pins s σ H _ I h) fun us s1 ⟨vs,H1,I1,r1,q1⟩=>hc pins s1 σ H1 vs us Q I1 r1 q1) he hpl
theorem Co(hc:G6 X (.type T) r)(hg:Gl X x)(hm:X.mg x=none)(hv:bootBuiltins x=some (.type T))(hn:x≠ "__name__":=by decide)(hdb:(x ==("__debug__":Str))=false:=by decide) :
  PE X (.Call (.Name x p) [] [] pos) (tCB r Kv):=by
 intro pins s σ H Q I h;refine FC (Cd I hg hm hv ?_ hn hdb);exact PyProof.Rows.callWith_type0 (hc pins s σ H [] [] Q I .nil h)
end
end L2
namespace HT
open PySem PyProof.Rows
section
variable{prog:Program}{w:World}{A:Around}{E:Value->Shared->Prop}{s:Shared}
def sIx(n d:Nat):Option Int->Nat
 | none=>d
 | some v=>if v<0 then(v +(n:Int)).toNat else min v.toNat n
theorem sIx_none(n d:Nat):sIx n d none=d:=rfl
theorem sIx_nat(n d k:Nat):sIx n d (some (k:Int))=min k n:=by
 show(if(k:Int)<0 then((k:Int) +(n:Int)).toNat else min (k:Int).toNat n)=min k n;rw[AM (by omega),EW]
theorem zEx(n d:Nat)(hd:d<=n)(o:Option Int):sIx n d o<=n:=by
 cases o with
 | none=>exact hd
 | some v =>
  show(if v<0 then(v +(n:Int)).toNat else min v.toNat n)<=n;by_cases hv:v<0
  .rw[AR hv];omega
  .rw[AM hv];exact Nat.min_le_right _ _
theorem Ud(v:Int)(n d:Nat):(if v<0 then max (v +(n:Int)) 0 else min v (n:Int)) =((sIx n d (some v):Nat):Int):=by
 show(if v<0 then max (v +(n:Int)) 0 else min v (n:Int)) =(((if v<0 then(v +(n:Int)).toNat else min v.toNat n):Nat):Int);by_cases hv:v<0
 .simp only[AR hv];omega
 .simp only[AM hv];omega
theorem Ol(lo hi:Option Int)(n:Nat):Builtin.Slice.sliceAdjust lo hi 1 (n:Int) =(((sIx n 0 lo:Nat):Int),((sIx n n hi:Nat):Int)):=by
 have h1:¬((1:Int)<0):=by omega
 unfold Builtin.Slice.sliceAdjust;simp only[h1,CL];refine Prod.ext ?_ ?_
 .cases lo with
  | none=>rfl
  | some v=>exact Ud v n 0
 .cases hi with
  | none=>rfl
  | some v=>exact Ud v n n
theorem Ot(i j:Nat):Builtin.Slice.slicePlaces (i:Int) (j:Int) 1=j-i:=by
 unfold Builtin.Slice.slicePlaces;have h1:(1:Int)>0:=by omega
 simp only[h1,EN,Int.ediv_one];split<;>omega
theorem Cv{v:Value}{o:Option Int}{Q:Option Int->Shared->Prop}(p:IsPart v o)(h:Q o s):wpAny (model prog w) A (Builtin.Slice.slicePartIndex v) Q E s:=by
 cases p with
 | none=>exact slicePart_none h
 | int i t=>exact slicePart_int h
theorem r9{sl:Addr}{vl vu:Value}{lo hi:Option Int}{n:Nat}{Q:Int×Int×Nat->Shared->Prop}(hs:s.heap.IsSliceOf sl vl vu .none)(pl:IsPart vl lo)(pu:IsPart vu hi)
  (h:Q (((sIx n 0 lo:Nat):Int),1,sIx n n hi-sIx n 0 lo) s):wpAny (model prog w) A (Builtin.Slice.sliceApplied (.ref sl) (pure (n:Int))) Q E s:=by
 obtain⟨os,hos,hcs,hds⟩:=id hs;unfold Builtin.Slice.sliceApplied Builtin.Slice.sliceFields;refine AB (AB (wpAny_field hos hds (x:=vl) rfl (AB (wpAny_field hos hds (x:=vu) rfl (AB (wpAny_field hos hds (x:=.none) rfl (AD ?_)))))));refine AB (slicePart_none ?_);show wpAny _ _ (if((1:Int) == 0)=true then _ else _) _ _ s;rw[AM (by decide)];refine AB (Cv pl (AB (Cv pu (AB (AD ?_)))));show wpAny _ _ (match Builtin.Slice.sliceAdjust lo hi 1 (n:Int)with | (lo,hi)=>pure (lo,(1:Int),Builtin.Slice.slicePlaces lo hi 1)) _ _ s;rw[Ol lo hi n];show wpAny _ _ (pure (((sIx n 0 lo:Nat):Int),(1:Int),Builtin.Slice.slicePlaces ((sIx n 0 lo:Nat):Int) ((sIx n n hi:Nat):Int) 1)) _ _ s;rw[Ot];exact AD h
theorem Vk(xs:Array Value)(i k:Nat):((List.range k).filterMap fun(m:Nat)=>xs[((i:Int) +(m:Int)*1).toNat]?).toArray =((xs.toList.drop i).take k).toArray:=by
 have e:(fun(m:Nat)=>xs[((i:Int) +(m:Int)*1).toNat]?)=fun m=>xs[i+m]?:=by
  funext m;have:((i:Int) +(m:Int)*1).toNat=i+m:=by omega
  rw[this]
 rw[e];have:=pick_run xs i k;rw[List.filterMap_map]at this;have e2:((fun x=>xs[x]?)∘fun x=>i+x)=fun m=>xs[i+m]?:=rfl;rw[e2]at this;rw[this]
theorem getItem_tuple_cut{t sl:Addr}{items:Array Value}{vl vu:Value}{lo hi:Option Int}{Q:Value->Shared->Prop}(ht:IsTup s.heap t items)(hs:s.heap.IsSliceOf sl vl vu .none)(pl:IsPart vl lo)(pu:IsPart vu hi)
  (hw:¬(sIx items.size 0 lo=0/\sIx items.size items.size hi=items.size))
  (h:Q (.ref s.heap.objs.size) { s with heap:=s.heap.push { cls:=.type "tuple",data:=.seq ((items.toList.drop (sIx items.size 0 lo)).take (sIx items.size items.size hi-sIx items.size 0 lo)).toArray } })
  (hsz:items.size<=sizeLine):wpAny (model prog w) A (getItem (.ref t) (.ref sl)) Q E s:=by
 have htake:sizeOk (.seq ((items.toList.drop (sIx items.size 0 lo)).take (sIx items.size items.size hi-sIx items.size 0 lo)).toArray):=by
  show((items.toList.drop (sIx items.size 0 lo)).take (sIx items.size items.size hi-sIx items.size 0 lo)).toArray.size<=sizeLine;rw[AW,AN,DH,AS];omega
 have hj:sIx items.size items.size hi<=items.size:=zEx _ _ (Nat.le_refl _) hi;obtain⟨os,hos,hcs,hds⟩:=id hs;have hTs:s.TypeIs (.ref sl) "slice":=⟨os,hos,hcs⟩;unfold getItem
 try with_reducible refine CF ?_
 first | refine AB (AD ?_) | skip
 refine AB (wpAny_sequenceKey ht.typeIs (by decide) ?_);refine AB (HI (name:=Str.ofString "__getitem__") ht.typeIs PyProof.Rows.slot_tuple_getitem
  (DW PyProof.Rows.slot_tuple_getitem ht.typeIs entry_tuple_getitem ?_ (args_tuple_getitem _ _)))
 show wpAny _ _ (Builtin.Tuple.tupleItemsOf (.ref t) >>= _) _ _ s;refine AB (tupleItemsOf_ ht ?_);refine AB (HM hTs ?_);rw[AR (by decide)];refine AB (r9 hs pl pu ?_);have hno:¬((((sIx items.size 0 lo:Nat):Int) == 0 &&(1:Int) == 1 &&(sIx items.size items.size hi-sIx items.size 0 lo) == items.size)=true):=by
  intro q;rw[CK,CK]at q;have q1:((sIx items.size 0 lo:Nat):Int)=0:=eq_of_beq q.1.1;have q2:sIx items.size items.size hi-sIx items.size 0 lo=items.size:=eq_of_beq q.2;exact hw ⟨by omega,by omega⟩
 show wpAny _ _ (if(((sIx items.size 0 lo:Nat):Int) == 0 &&(1:Int) == 1 &&(sIx items.size items.size hi-sIx items.size 0 lo) == items.size)=true then _ else _) _ _ s;rw[AM hno,Vk]
 first
  | exact AB (m:=Builtin.Tuple.tupleExact _) (CY (AD ⟨_,rfl,AD h⟩) htake)
  | exact AB (m:=Builtin.Tuple.tupleExact _) (CY (AB (AD (AD ⟨_,rfl,AD h⟩))) htake)
  | exact AB (AB (m:=Builtin.Tuple.tupleExact _) (CY (AD (AD ⟨_,rfl,AD h⟩)) htake))
  | exact AB (AB (m:=Builtin.Tuple.tupleExact _) (CY (AD ⟨_,rfl,AD h⟩) htake))
end
end HT
namespace L2
open PySem PySem.Spec PyProof.Rows
abbrev TO:=St->Hp->(Option Int->Hp->Prop)->Prop
def PO(X:Cx)(e:Option Expr)(t:TO):Prop :=
 ∀(pins:List (Addr×Obj)) (s:Shared) (σ:St) (H:Hp) (Q:Option Int->Hp->Prop),Inv X pins σ H s->t σ H Q ->
  wpAny (model X.prog X.w) X.A (evalPart e X.env) (fun u s'=>∃o H',Inv X pins σ H' s'/\IsPart u o/\Q o H') X.xe s
def Qb:TO:=fun _ H Q=>Q none H
def zDm(t:TE):TO:=fun σ H Q=>t σ H fun x H1=>∃i,x = .int i/\Q (some i) H1
theorem Oq{ns:List Int}:∀{us:List Value},Vals (ns.map V.int) us->IntsAre us ns:=by
 induction ns with
 | nil=>intro us r;rw[List.map_nil]at r;cases r;exact .nil
 | cons n ns ih =>
  intro us r;rw[BA]at r;cases r with
  | cons r1 r2 =>
   obtain⟨t,e⟩:=r1;subst e;exact .cons n t (ih r2)
section
variable{X:Cx}{e:Expr}{te:TE}{lo hi:Option Expr}{tl th:TO}{pos p2:Pos}
theorem Tq:PO X none Qb:=by
 intro pins s σ H Q I h;rw[evalPart_none];exact AD ⟨none,H,I,.none,h⟩
theorem Rf(h:PE X e te):PO X (some e) (zDm te):=by
 intro pins s σ H Q I hw;rw[evalPart_some];refine thn (h pins s σ H _ I hw) fun u s1 ⟨x,H1,I1,r1,q1⟩=>?_;obtain⟨i,rfl,q⟩:=q1;obtain⟨t,rfl⟩:=r1;exact⟨some i,H1,I1,.int i t,q⟩
def SlR(X:Cx)(r:V->Option Int->Option Int->Hp->VK->Prop):Prop :=
 ∀(pins:List (Addr×Obj)) (s:Shared) (σ:St) (H:Hp) (x:V) (v vl vu:Value) (lo hi:Option Int) (sl:Addr) (Q:VK),Inv X pins σ H s->RelV x v->s.heap.IsSliceOf sl vl vu .none->IsPart vl lo->IsPart vu hi->r x lo hi H Q ->
  ∃T id,typeLookup (.type T) "__getitem__" = pure (some (.builtin id))/\s.TypeIs v T/\wpAny (model X.prog X.w) X.A (getItem v (.ref sl)) (EP X pins σ Q) X.xe s
def tSl(r:V->Option Int->Option Int->Hp->VK->Prop)(te:TE)(tl th:TO):TE:=fun σ H Q=>te σ H fun x H1=>tl σ H1 fun l H2=>th σ H2 fun u H3=>r x l u H3 Q
theorem Lk{r:V->Option Int->Option Int->Hp->VK->Prop}(hr:SlR X r)(he:PE X e te)(hl:PO X lo tl)(hu:PO X hi th):PE X (.Subscript e (.Slice lo hi none p2) pos) (tSl r te tl th):=by
 intro pins s σ H Q I h;refine Subscript_ (thn (he pins s σ H _ I h) fun v s1 ⟨x,H1,I1,r1,q1⟩=>?_);refine wpAny_Slice (thn (hl pins s1 σ H1 _ I1 q1) fun vl s2 ⟨l,H2,I2,pl,q2⟩=>thn (hu pins s2 σ H2 _ I2 q2) fun vu s3 ⟨u,H3,I3,pu,q3⟩=>?_);rw[evalPart_none];refine AD ?_;have I4:Inv X pins σ H3 { s3 with heap:=s3.heap.push { cls:=.type "slice",data:=.fields #[vl,vu,.none] } }:=I3.kept (t':=s3.toks) fun b ob q=>AC _ q;obtain⟨T,id,hT,ht,hg⟩:=hr pins { s3 with heap:=s3.heap.push { cls:=.type "slice",data:=.fields #[vl,vu,.none] } } σ H3 x v vl vu l u s3.heap.objs.size Q I4 r1 (Heap.IsSliceOf.new ..) pl pu q3;show wpAny (model X.prog X.w) X.A (subscriptTail e (.Slice lo hi none p2) v (.ref s3.heap.objs.size)) (EP X pins σ Q) X.xe { s3 with heap:=s3.heap.push { cls:=.type "slice",data:=.fields #[vl,vu,.none] } };exact tail_any (ops:=[.ref s3.heap.objs.size,v]) ht hT hg (by with_unfolding_all rfl)
def Ly(xs:List V)(lo hi:Option Int):List V:=(xs.drop (HT.sIx xs.length 0 lo)).take (HT.sIx xs.length xs.length hi-HT.sIx xs.length 0 lo)
theorem Ax(xs:List V)(lo hi:Option Int):(Ly xs lo hi).length<=xs.length:=by
 unfold Ly;rw[AN,DH];omega
def zHa(K:PySem.W.Frag):V->Option Int->Option Int->Hp->VK->Prop:=fun x lo hi H Q=>∃a xs,x = .ref a/\SqT K H a xs /\
 ¬(HT.sIx xs.length 0 lo=0/\HT.sIx xs.length xs.length hi=xs.length)/\∀p,H p=none->Q (.ref p) (upd H p (.tup (Ly xs lo hi)))
theorem zEr:SlR X (zHa X.K):=by
 intro pins s σ H x v vl vu lo hi sl Q I rx hs pl pu h;obtain⟨a,xs,rfl,hx,hw,q⟩:=h;cases rx;obtain⟨its,r,ht,hz⟩:=I.tuple hx;have hlen:its.toArray.size=xs.length:=by rw[AW];exact r.length.symm
 refine⟨"tuple",_,PyProof.Rows.slot_tuple_getitem.lookup,ht.typeIs,?_⟩;refine HT.getItem_tuple_cut ht hs pl pu (by rw[hlen];exact hw) ?_ (by rw[hlen];exact hz);rw[hlen];refine⟨.ref s.heap.objs.size,_,I.laid (t':=s.toks) (o:=.tup (Ly xs lo hi)) (fun b ob q=>AC _ q) (Nat.le_refl _) ?_,rfl,q _ (I.hok.fresh (Nat.le_refl _))⟩;exact⟨Nat.le_trans (Ax xs lo hi) hz,_,(r.drop (HT.sIx xs.length 0 lo)).take (HT.sIx xs.length xs.length hi-HT.sIx xs.length 0 lo),IsTup.new _ _⟩
end
def ixN(n:Nat)(i:Int):Option Nat:=if 0<=i then(if i<n then some i.toNat else none)else if -(n:Int)<=i then some (i+n).toNat else none
def atI{α:Type}(xs:List α)(i:Int):Option α:=(ixN xs.length i).bind fun j=>xs[j]?
theorem To{n:Nat}{i:Int}{j:Nat}(h:ixN n i=some j):seqIndex? i n=some j/\j<n/\-(n:Int)<=i/\i<n:=by
 unfold ixN at h;by_cases h0:0<=i
 .rw[AR h0]at h;by_cases h1:i<n
  .rw[AR h1]at h;have e:i.toNat=j:=BH h;exact⟨by rw[seqIndex_of h0 h1,e],by omega,by omega,h1⟩
  .rw[AM h1]at h;cases h
 .rw[AM h0]at h;by_cases h1:-(n:Int)<=i
  .rw[AR h1]at h;have e:(i+n).toNat=j:=BH h;exact⟨by rw[seqIndex_neg (by omega) h1,e],by omega,h1,by omega⟩
  .rw[AM h1]at h;cases h
theorem Uj{α:Type}{xs:List α}{i:Int}{v:α}(h:atI xs i=some v):∃j,seqIndex? i xs.length=some j/\xs[j]?=some v/\j<xs.length/\-(xs.length:Int)<=i/\i<xs.length:=by
 unfold atI at h;cases e:ixN xs.length i with
 | none=>rw[e]at h;cases h
 | some j =>
  rw[e]at h;obtain⟨h1,h2,h3,h4⟩:=To e;exact⟨j,h1,h,h2,h3,h4⟩
theorem Iy{α:Type}{xs:List α}{j:Nat}{v:α}(h:xs[j]?=some v):atI xs (j:Int)=some v:=by
 have hj:j<xs.length:=(AG.mp h).1;have e:ixN xs.length (j:Int)=some j:=by
  unfold ixN;rw[AR (by omega),AR (by omega)];simp
 unfold atI;rw[e];exact h
def zAb(b:Expr):Prop:=∀o i,subscripted b false o i=operate [o,i] (getItem o i)
def IxR(X:Cx)(r:R2):Prop :=
 ∀(value slice:Expr) (pins:List (Addr×Obj)) (s:Shared) (σ:St) (H:Hp) (x y:V) (v u:Value) (Q:VK),Inv X pins σ H s->RelV x v->RelV y u->r x y H Q ->
  subscripted slice false v u=operate [v,u] (getItem v u)->wpAny (model X.prog X.w) X.A (subscriptTail value slice v u) (EP X pins σ Q) X.xe s
def MtR(X:Cx)(id:String)(r:V->List V->Hp->VK->Prop):Prop :=
 ∀(pins:List (Addr×Obj)) (s:Shared) (σ:St) (H:Hp) (x:V) (xs:List V) (v:Value) (us:List Value) (Q:VK),Inv X pins σ H s->RelV x v->Vals xs us->r x xs H Q ->
  wpAny (model X.prog X.w) X.A (call (.builtin id) (v::us)) (EP X pins σ Q) X.xe s
section
variable{X:Cx}{a b:Expr}{ta tb:TE}{pos:Pos}
theorem Q0{r:R2}(hr:IxR X r)(ha:PE X a ta)(hb:PE X b tb)(hs:zAb b):PE X (.Subscript a b pos) (tOp r ta tb):=by
 intro pins s σ H Q I h;exact Subscript_ (zFz ha hb I h fun v u s2 x y H2 I2 rx ry q=>hr a b pins s2 σ H2 x y v u Q I2 rx ry q (hs _ _))
def zHw(K:PySem.W.Frag):R2:=fun x y H Q=>∃p xs i v,x = .ref p/\y = .int i/\SqL K H p xs/\atI xs i=some v/\Q v H
def zHq(K:PySem.W.Frag):R2:=fun x y H Q=>∃p xs i v,x = .ref p/\y = .int i/\SqT K H p xs/\atI xs i=some v/\Q v H
theorem zBd:IxR X (zHw X.K):=by
 intro value slice pins s σ H x y v u Q I rx ry h hs;obtain⟨p,xs,i,z,rfl,rfl,hq,he,q⟩:=h;cases rx;obtain⟨t,rfl⟩:=ry;obtain⟨its,r,pl,hz⟩:=I.list hq;obtain⟨j,h1,h2,h3,h4,h5⟩:=Uj he;obtain⟨w,ew,rw'⟩:=r.get h2;have hl:=r.length;have hn:=Cm;have fin:EP X pins σ Q w s:=⟨z,H,I,rw',q⟩;by_cases h0:0<=i
 .have hj:i.toNat=j:=by
   rw[seqIndex_of h0 h5]at h1;exact BH h1
  exact item_listR pl.isList h0 (by omega) (by rw[hj];simpa using ew) fin hs
 .have hj:(i +(its.toArray.size:Int)).toNat=j:=by
   rw[seqIndex_neg (by omega) h4]at h1;rw[AW,<-hl];exact BH h1
  exact subscriptTail_builtinR (x:=w) pl.isList.typeIs slot_list_getitem.lookup
   (wpAny_getItem_list_neg (Q:=fun r s'=>r=w/\EP X pins σ Q r s') pl.isList (by omega) (by rw[AW]<;>omega) (by omega) (by rw[hj];simpa using ew) ⟨rfl,fin⟩) hs
theorem zDa:IxR X (zHq X.K):=by
 intro value slice pins s σ H x y v u Q I rx ry h hs;obtain⟨p,xs,i,z,rfl,rfl,hq,he,q⟩:=h;cases rx;obtain⟨t,rfl⟩:=ry;obtain⟨its,r,pl,hz⟩:=I.tuple hq;obtain⟨j,h1,h2,h3,h4,h5⟩:=Uj he;obtain⟨w,ew,rw'⟩:=r.get h2;have hl:=r.length;have hn:=Cm;have fin:EP X pins σ Q w s:=⟨z,H,I,rw',q⟩;exact subscriptTail_builtinR (x:=w) pl.typeIs slot_tuple_getitem.lookup
  (getItem_tuple (j:=j) (Q:=fun r s'=>r=w/\EP X pins σ Q r s') pl (by omega) (by omega) (by rw[AW,<-hl];exact h1) (by simpa using ew) ⟨rfl,fin⟩) hs
theorem Na(its:List Value)(n j:Nat)(u:Value):Obj.mapSeq (·.setIfInBounds j u) { cls:=.type "list",data:=.seq its.toArray n } ={ cls:=.type "list",data:=.seq (its.set j u).toArray n }:=by
 simp[Obj.mapSeq]
theorem Inv.lst{pins:List (Addr×Obj)}{σ:St}{H:Hp}{s:Shared}{p:Addr}{xs:List V}(I:Inv X pins σ H s)(h:H p=some (.lst xs)) :
  ∃(its:List Value) (n:Nat),Vals xs its/\s.heap.get? p=some { cls:=.type "list",data:=.seq its.toArray n }/\xs.length<=sizeLine:=by
 obtain⟨z,its,n,r,e⟩:=I.hok p _ h;exact⟨its,n,r,e,z⟩
theorem Inv.lstUpd{pins:List (Addr×Obj)}{σ:St}{H:Hp}{s:Shared}{p:Addr}{xs ys:List V}{its its':List Value}{n n':Nat}{f:Obj->Obj}(I:Inv X pins σ H s)(h:H p=some (.lst xs))
  (ho:s.heap.get? p=some { cls:=.type "list",data:=.seq its.toArray n }) (hf:f { cls:=.type "list",data:=.seq its.toArray n } ={ cls:=.type "list",data:=.seq its'.toArray n' }) (r:Vals ys its') (hz:ys.length<=sizeLine) (t:Nat) :
  Inv X pins σ (upd H p (.lst ys)) { s with heap:=s.heap.update p f,toks:=t }:=by
 have e:(s.heap.update p f).get? p=some { cls:=.type "list",data:=.seq its'.toArray n' }:=by
  rw[DF f ho (by rw[hf]<;>rfl),hf]
 refine I.write (x:=p) (e:=p) (by rw[h];trivial) (.inl rfl) (fun b u hb q=>(CO _ _ (Ne.symm hb)).trans q) ⟨_,e⟩ ?_;exact⟨hz,its',n',r,e⟩
def zGt:V->V->V->Hp->(Hp->Prop)->Prop:=fun o i v H Q=>∃p xs k j,o = .ref p/\i = .int k/\H p=some (.lst xs)/\ixN xs.length k=some j/\Q (upd H p (.lst (xs.set j v)))
theorem Es:zHi X zGt:=by
 intro pins s σ H o i v ov iv u Q I ro ri rv h;obtain⟨p,xs,k,j,rfl,rfl,hp,hj,q⟩:=h;cases ro;obtain⟨t,rfl⟩:=ri;obtain⟨its,n,r,ho,hz⟩:=I.lst hp;obtain⟨h1,h2,h3,h4⟩:=To hj;have hl:=r.length;have hn:=Cm;have I':Inv X pins σ (upd H p (.lst (xs.set j v))) { s with heap:=s.heap.update p (Obj.mapSeq (·.setIfInBounds j u)) } :=
  I.lstUpd hp ho (Na its n j u) (r.set rv j) (by rw[List.length_set];exact hz) s.toks
 by_cases h0:0<=k
 .have hk:k.toNat=j:=by
   rw[seqIndex_of h0 h4]at h1;exact BH h1
  exact PySem.W.ki_setAt ho h0 (by omega) (by rw[AW,<-hl];exact h4) (by rw[hk];exact⟨_,I',q⟩)
 .have hk:(k +(its.toArray.size:Int)).toNat=j:=by
   rw[seqIndex_neg (by omega) h3]at h1;rw[AW,<-hl];exact BH h1
  exact PySem.W.ki_setBack ho (by omega) (by rw[AW,<-hl];exact h3) (by omega) (by rw[hk];exact⟨_,I',q⟩)
theorem Hq(lo hi:Option Int)(n:Nat):(sliceBounds lo hi none n).1 =((HT.sIx n 0 lo:Nat):Int)/\(sliceBounds lo hi none n).2.1 =((HT.sIx n n hi:Nat):Int)/\(sliceBounds lo hi none n).2.2=1:=by
 refine⟨?_,?_,rfl⟩
 .cases lo with
  | none=>simp[sliceBounds,HT.sIx]
  | some i =>
   simp only[sliceBounds,HT.sIx,Option.getD_none,show(1:Int)>0 by decide,EN];by_cases h:i<0
   .simp only[h,EN]<;>omega
   .simp only[h,CL]<;>omega
 .cases hi with
  | none=>simp[sliceBounds,HT.sIx]
  | some i =>
   simp only[sliceBounds,HT.sIx,Option.getD_none,show(1:Int)>0 by decide,EN];by_cases h:i<0
   .simp only[h,EN]<;>omega
   .simp only[h,CL]<;>omega
theorem Eg(its:List Value)(lo hi:Option Int):slicePick its.toArray lo hi none =((its.drop (HT.sIx its.length 0 lo)).take (HT.sIx its.length its.length hi-HT.sIx its.length 0 lo)).toArray:=by
 obtain⟨h1,h2,h3⟩:=Hq lo hi its.toArray.size;unfold slicePick;rw[h1,h2,h3];simp only[sliceRange_one,pick_run,AW]<;>rfl
def zHm(K:PySem.W.Frag):V->Option Int->Option Int->Hp->VK->Prop:=fun x lo hi H Q=>∃a xs,x = .ref a/\SqL K H a xs/\∀p,H p=none->Q (.ref p) (upd H p (.lst (Ly xs lo hi)))
theorem Zn:SlR X (zHm X.K):=by
 intro pins s σ H x v vl vu lo hi sl Q I rx hs pl pu h;obtain⟨a,xs,rfl,hx,q⟩:=h;cases rx;obtain⟨its,r,ht,hz⟩:=I.list hx;have hlen:=r.length;refine⟨"list",_,slot_list_getitem.lookup,ht.isList.typeIs,?_⟩;refine wpAny_getItem_list_slice ht.isList hs pl pu .none (by simp) ?_ (by rw[AW]<;>omega);rw[Eg,<-hlen];refine⟨.ref s.heap.objs.size,_,I.laid (t':=s.toks) (o:=.lst (Ly xs lo hi)) (fun b ob q=>AC _ q) (Nat.le_refl _) ?_,rfl,q _ (I.hok.fresh (Nat.le_refl _))⟩;exact⟨Nat.le_trans (Ax xs lo hi) hz,_,0,(r.drop (HT.sIx xs.length 0 lo)).take (HT.sIx xs.length xs.length hi-HT.sIx xs.length 0 lo),BC _ rfl⟩
def Al:V->Bool
 | .non=>true
 | .bl _=>true
 | .int _=>true
 | .str _=>true
 | _=>false
def eqV:V->V->Bool
 | .non,.non=>true
 | .bl a,.bl b=>a == b
 | .bl a,.int b=>(if a then 1 else 0) == b
 | .int a,.bl b=>a ==(if b then 1 else 0)
 | .int a,.int b=>a == b
 | .str a,.str b=>a == b
 | _,_=>false
theorem zCv{A:Around}{s:Shared}{y x:V}{u v:Value}(ry:RelV y u)(rx:RelV x v)(fy:Al y=true)(fx:Al x=true):SeqAt.EqAt A s u v (eqV y x):=by
 cases y with
 | non =>
  cases ry;cases x with
  | non=>cases rx;exact SeqAt.EqAt.same _
  | bl b=>cases rx;exact SeqAt.EqAt.none_bool b
  | int b=>obtain⟨t,rfl⟩:=rx;exact SeqAt.EqAt.none_int b t
  | str b=>obtain⟨t,rfl⟩:=rx;exact SeqAt.EqAt.none_str b t
  | _=>exact absurd (show false=true from fx) BG
 | bl a =>
  cases ry;cases x with
  | non=>cases rx;exact SeqAt.EqAt.bool_none a
  | bl b=>cases rx;exact SeqAt.EqAt.bool_bool a b
  | int b=>obtain⟨t,rfl⟩:=rx;exact SeqAt.EqAt.bool_int a b t
  | str b=>obtain⟨t,rfl⟩:=rx;exact SeqAt.EqAt.bool_str a b t
  | _=>exact absurd (show false=true from fx) BG
 | int a =>
  obtain⟨t',rfl⟩:=ry;cases x with
  | non=>cases rx;exact SeqAt.EqAt.int_none a t'
  | bl b=>cases rx;exact SeqAt.EqAt.int_bool a t' b
  | int b=>obtain⟨t,rfl⟩:=rx;exact SeqAt.EqAt.int_int a t' b t
  | str b=>obtain⟨t,rfl⟩:=rx;exact SeqAt.EqAt.int_str a t' b t
  | _=>exact absurd (show false=true from fx) BG
 | str a =>
  obtain⟨t',rfl⟩:=ry;cases x with
  | non=>cases rx;exact SeqAt.EqAt.str_none a t'
  | bl b=>cases rx;exact SeqAt.EqAt.str_bool a t' b
  | int b=>obtain⟨t,rfl⟩:=rx;exact SeqAt.EqAt.str_int a t' b t
  | str b=>obtain⟨t,rfl⟩:=rx;exact SeqAt.EqAt.str_str a t' b t
  | _=>exact absurd (show false=true from fx) BG
 | _=>exact absurd (show false=true from fy) BG
def eqU(x:V)(u:Value):Bool:=match u with
 | .none=>eqV .non x
 | .bool b=>eqV (.bl b) x
 | .int i _=>eqV (.int i) x
 | .str z _=>eqV (.str z) x
 | _=>false
theorem Yd{x y:V}{u:Value}(r:RelV y u)(f:Al y=true):eqU x u=eqV y x:=by
 cases y with
 | non=>cases r;rfl
 | bl b=>cases r;rfl
 | int i=>obtain⟨t,rfl⟩:=r;rfl
 | str z=>obtain⟨t,rfl⟩:=r;rfl
 | _=>exact absurd (show false=true from f) BG
theorem Bk{x:V}:∀{xs:List V} {us:List Value},Vals xs us->xs.all Al=true->us.any (eqU x)=xs.any fun y=>eqV y x
 | _,_,.nil,_=>rfl
 | y::xs,u::us,.cons r t,f=>by
  rw[List.all_cons,CK]at f;rw[FO,FO,Yd r f.1,Bk t f.2]
theorem Y3{A:Around}{s:Shared}{x:V}{v:Value}(rx:RelV x v)(fx:Al x=true):∀{xs:List V} {us:List Value},Vals xs us->xs.all Al=true->∀u∈us,SeqAt.EqAt A s u v (eqU x u)
 | _,_,.nil,_=>fun u hu=>by cases hu
 | y::xs,u::us,.cons r t,f=>fun u' hu=>by
  rw[List.all_cons,CK]at f;rcases A_.mp hu with rfl | hu
  .rw[Yd r f.1];exact zCv r rx f.1 fx
  .exact Y3 rx fx t f.2 u' hu
def inV(x:V)(xs:List V):Bool:=xs.any fun y=>eqV y x
def rIn(K:PySem.W.Frag)(neg:Bool):R2:=fun x y H Q=>∃p xs,y = .ref p/\(SqL K H p xs\/SqT K H p xs)/\Al x=true/\xs.all Al=true/\Q (.bl (if neg then !inV x xs else inV x xs)) H
theorem Pd:OpR X (compareOp .In) (rIn X.K false):=by
 intro pins s σ H x y v u Q I rx ry h;obtain⟨p,xs,rfl,hq,fx,fs,q⟩:=h;cases ry;rcases hq with hq | hq
 .obtain⟨its,r,pl,hz⟩:=I.list hq;refine SeqAt.in_listAt (eqU x) pl.isList (fun w hw=>Y3 rx fx r fs w (by simpa using hw)) ⟨.bl _,H,I,rfl,?_⟩;rw[show its.toArray.any (eqU x)=its.any (eqU x) by simp,Bk r fs];exact q
 .obtain⟨its,r,pl,hz⟩:=I.tuple hq;refine SeqAt.in_tupleAt (eqU x) pl (fun w hw=>Y3 rx fx r fs w (by simpa using hw)) ⟨.bl _,H,I,rfl,?_⟩;rw[show its.toArray.any (eqU x)=its.any (eqU x) by simp,Bk r fs];exact q
theorem Fk:OpR X (compareOp .NotIn) (rIn X.K true):=by
 intro pins s σ H x y v u Q I rx ry h;obtain⟨p,xs,rfl,hq,fx,fs,q⟩:=h;cases ry;rcases hq with hq | hq
 .obtain⟨its,r,pl,hz⟩:=I.list hq;refine SeqAt.notIn_listAt (eqU x) pl.isList (fun w hw=>Y3 rx fx r fs w (by simpa using hw)) ⟨.bl _,H,I,rfl,?_⟩;rw[show its.toArray.any (eqU x)=its.any (eqU x) by simp,Bk r fs];exact q
 .obtain⟨its,r,pl,hz⟩:=I.tuple hq;refine SeqAt.notIn_tupleAt (eqU x) pl (fun w hw=>Y3 rx fx r fs w (by simpa using hw)) ⟨.bl _,H,I,rfl,?_⟩;rw[show its.toArray.any (eqU x)=its.any (eqU x) by simp,Bk r fs];exact q
theorem Fm:G6 X (.builtin "len") (fun xs H Q=>∃p ys,xs = [.ref p]/\(SqL X.K H p ys\/SqT X.K H p ys)/\Q (.int ys.length) H):=by
 intro pins s σ H xs us Q I r h;obtain⟨p,ys,rfl,hq,q⟩:=h;obtain⟨u,rfl,rx⟩:=R4 r;cases rx;have hn:=Cm;rcases hq with hq | hq
 .obtain⟨its,r',pl,hz⟩:=I.list hq;have hlen:=r'.length;exact Calls.call_len_list pl.isList (by simp only[AW]<;>omega) ⟨.int ys.length,H,I.tok _,⟨s.toks+1,by rw[AW,hlen]⟩,q⟩
 .obtain⟨its,r',pl,hz⟩:=I.tuple hq;have hlen:=r'.length;exact len_tuple pl (by simp only[AW]<;>omega) ⟨.int ys.length,H,I.tok _,⟨s.toks+1,by rw[AW,hlen]⟩,q⟩
theorem Gv:G6 X (.builtin "len") (fun xs H Q=>∃z,xs = [.str z]/\z.length<=sizeLine/\Q (.int z.length) H):=by
 intro pins s σ H xs us Q I r h;obtain⟨z,rfl,hz,q⟩:=h;obtain⟨u,rfl,t,rfl⟩:=R4 r;have hn:=Cm;exact len_str (by omega) ⟨.int z.length,H,I.tok _,⟨_,rfl⟩,q⟩
theorem Ge:G6 X (.type "list") (fun xs H Q=>∃p ys,xs = [.ref p]/\(SqL X.K H p ys\/SqT X.K H p ys)/\∀l,H l=none->Q (.ref l) (upd H l (.lst ys))):=by
 intro pins s σ H xs us Q I r h;obtain⟨p,ys,rfl,hq,q⟩:=h;obtain⟨u,rfl,rx⟩:=R4 r;cases rx;have fin:∀(its:List Value),Vals ys its->ys.length<=sizeLine->∀(h':Heap) (c':Nat),(∀b o',s.heap.get? b=some o'->h'.get? b=some o') ->
   h'.get? s.heap.objs.size=some { cls:=.type "list",dict:=none,data:=.seq its.toArray c',slots:=#[] }->EP X pins σ Q (.ref s.heap.objs.size) { s with heap:=h' }:=fun its r' hz h' c' kp e =>
  ⟨.ref s.heap.objs.size,_,I.laid (t':=s.toks) kp (Nat.le_refl _) (show ObjOk X.prog X.w _ h' _ (.lst ys)from⟨hz,its,c',r',e⟩),rfl,q _ (I.hok.fresh (Nat.le_refl _))⟩
 rcases hq with hq | hq
 .obtain⟨its,r',pl,hz⟩:=I.list hq;have hlen:=r'.length;obtain⟨o,ho,hc,n,hd⟩:=pl.isList;exact call_list_seq p (.inl rfl) ho hc hd (fun h' c' kp e=>fin its r' hz h' c' kp e) (by simp only[AW]<;>omega)
 .obtain⟨its,r',pl,hz⟩:=I.tuple hq;have hlen:=r'.length;obtain⟨o,ho,hc,n,hd⟩:=pl;exact call_list_seq p (.inr rfl) ho hc hd (fun h' c' kp e=>fin its r' hz h' c' kp e) (by simp only[AW]<;>omega)
def tyV(K:PySem.W.Frag)(T:String)(x:V)(H:Hp):Prop:=match x with
 | .str _=>T = "str"
 | .int _=>T = "int"
 | .ref p=>(T = "list"/\∃xs,SqL K H p xs)\/(T = "tuple"/\∃o,K.lookup p=some o/\o.cls = .type "tuple"/\o.dict=none) \/
   (T = "dict"/\((∃kvs,H p=some (.dK kvs))\/∃kvs,H p=some (.dT kvs)))\/(T = "set"/\∃S n,H p=some (.set S n))
 | _=>False
theorem zEu{pins:List (Addr×Obj)}{σ:St}{H:Hp}{s:Shared}{T:String}{x:V}{v:Value}(I:Inv X pins σ H s)(r:RelV x v)(ty:tyV X.K T x H) :
  s.TypeIs v T/\∀a,v = .ref a->∃ob,s.heap.get? a=some ob/\ob.dict=none:=by
 cases x with
 | str z =>
  obtain⟨t,rfl⟩:=r;cases(show T = "str" from ty);exact⟨typeIs_str s z t,fun _ e=>nomatch e⟩
 | int i =>
  obtain⟨t,rfl⟩:=r;cases(show T = "int" from ty);exact⟨typeIs_int s i t,fun _ e=>nomatch e⟩
 | ref p =>
  cases r;rcases ty with⟨rfl,xs,hq⟩ | ⟨rfl,o,hk,hc,hd⟩ | ⟨rfl,hk⟩ | ⟨rfl,S,n,hk⟩
  .obtain⟨its,_,pl,_⟩:=I.list hq;refine⟨pl.isList.typeIs,fun a e=>?_⟩;cases e;obtain⟨o,n,e,c,hd,_⟩:=pl;exact⟨o,e,hd⟩
  .refine⟨⟨o,I.kIn p o hk,hc⟩,fun a e=>?_⟩;cases e;exact⟨o,I.kIn _ o hk,hd⟩
  .have z:∃o,s.heap.get? p=some o/\o.ExactDict:=by
    rcases hk with⟨kvs,hk⟩ | ⟨kvs,hk⟩
    .obtain⟨_,_,_,_,o,_,_,e,ex,_⟩:=I.hok p _ hk;exact⟨o,e,ex⟩
    .obtain⟨_,_,_,_,o,_,_,e,ex,_⟩:=I.hok p _ hk;exact⟨o,e,ex⟩
   obtain⟨o,e,ex⟩:=z;refine⟨⟨o,e,ex.1⟩,fun a e2=>?_⟩;cases e2;exact⟨o,e,ex.2.1⟩
  .obtain⟨o,_,_,_,e,ex,_⟩:=I.hok p _ hk;refine⟨⟨o,e,ex.1⟩,fun a e2=>?_⟩;cases e2;exact⟨o,e,ex.2.1⟩
 | _=>exact False.elim ty
def tBM(K:PySem.W.Frag)(T:String)(r:V->List V->Hp->VK->Prop)(to:TE)(t:TA):TE:=fun σ H Q=>to σ H fun x H1=>tyV K T x H1/\t σ H1 fun xs H2=>r x xs H2 Q
variable{o e:Expr}{es:List Expr}{to:TE}{t:TA}{name:Str}{apos cpos:Pos}{T id:String}{r:V->List V->Hp->VK->Prop}
theorem zGp(pa:PlainAttrs T)(slot:Slot T name id)(hty:typeOf (.builtin id)=pure (.type "method_descriptor"))(hm:MtR X id r)(ho:PE X o to)(ha:PA X (e::es) t)
  (hbase:attributeBase o name X.env (eval o X.env)=eval o X.env:=by rfl)
  (hfew:((backTo cpos (starEach (e::es) X.env)).all (fun x=>!x.1) &&(backToKw cpos (keywordEach [] X.env)).all (fun x=>x.1.isSome)
   && decide ((e::es).length +([]:List Keyword).length +(if([]:List Keyword).isEmpty then 0 else 1)<30))=true:=by rfl)
  (hline:(apos.endLine == cpos.line)=true:=by rfl) (hs:starEach (e::es) X.env =(false,eval e X.env)::starEach es X.env:=by rfl) (hplain:(backTo cpos (starEach es X.env)).any (·.1)=false:=by rfl) :
  PE X (.Call (.Attribute o name apos) (e::es) [] cpos) (tBM X.K T r to t):=by
 intro pins s σ H Q I h;refine wpAny_Call_method_late hbase hfew hline rfl (thn (ho pins s σ H _ I h) fun v s1 ⟨x,H1,I1,r1,ty,q1⟩=>?_);obtain⟨h1,h2⟩:=zEu I1 r1 ty;refine⟨T,id,pa,slot,hty,h1,h2,?_⟩;have hA:=ha cpos pins s1 σ H1 _ I1 q1;rw[hs]at hA⊢;refine Calls.callWith_builtin (by show(false||(backTo cpos (starEach es X.env)).any (·.1))=false;rw[hplain]<;>rfl) (Calls.evalArgs_plain ?_);exact thn hA fun us s2 ⟨vs,H2,I2,r2,q2⟩=>hm pins s2 σ H2 x vs v us Q I2 r1 r2 q2
end
def MtM(X:Cx)(id:String)(r:V->List V->Hp->VK->Prop):Prop :=
 ∀(pins:List (Addr×Obj)) (s:Shared) (σ:St) (H:Hp) (x:V) (xs:List V) (v:Value) (us:List Value) (Q:VK),Inv X pins σ H s->RelV x v->Vals xs us->r x xs H Q ->
  wpAny (model X.prog X.w) X.A (call (.builtin id) (v::us)) (EP X pins σ Q) X.xe s
theorem Vals.one:∀{x:V} {us:List Value},Vals [x] us->∃u,us = [u]/\RelV x u
 | _,_,.cons r .nil=>⟨_,rfl,r⟩
theorem Vals.two:∀{x y:V} {us:List Value},Vals [x,y] us->∃u v,us = [u,v]/\RelV x u/\RelV y v
 | _,_,_,.cons r (.cons q .nil)=>⟨_,_,rfl,r,q⟩
theorem Vals.eraseIdx:∀{xs:List V} {us:List Value} (i:Nat),Vals xs us->Vals (xs.eraseIdx i) (us.eraseIdx i)
 | _,_,_,.nil=>.nil
 | _,_,0,.cons _ t=>t
 | _,_,i+1,.cons r t=>.cons r (Vals.eraseIdx i t)
theorem Hu{α:Type}:∀(l:List α) (i:Nat),(l.eraseIdx i).length<=l.length
 | [],_=>Nat.le_refl _
 | _::_,0=>DE _
 | _::r,i+1=>Nat.succ_le_succ (Hu r i)
section
variable{X:Cx}{pins:List (Addr×Obj)}{σ:St}{H:Hp}{s:Shared}{l b:Addr}{xs ys zs:List V}
theorem Inv.lset{its its':List Value}{n:Nat}{f:Array Value->Array Value}{t':Nat}(I:Inv X pins σ H s)(hH:H l=some (.lst xs))
  (e:s.heap.get? l=some { cls:=.type "list",data:=.seq its.toArray n }) (hf:f its.toArray=its'.toArray) (hv:Vals ys its') (hz:ys.length<=sizeLine) :
  Inv X pins σ (upd H l (.lst ys)) { s with heap:=s.heap.update l (Obj.mapSeq f),toks:=t' }:=by
 have q:=PySem.IsL.update e f;rw[hf]at q;refine I.write (x:=l) (e:=l) (by rw[hH];exact trivial) (.inl rfl) (fun b' u hb hu=>(CO s.heap (Obj.mapSeq f) (Ne.symm hb)).trans hu) ⟨_,q⟩ ?_;exact⟨hz,its',_,hv,q⟩
theorem Inv.lnew{its:List Value}{t':Nat}(I:Inv X pins σ H s)(hv:Vals ys its)(hz:ys.length<=sizeLine) :
  Inv X pins σ (upd H s.heap.objs.size (.lst ys)) { s with heap:=s.heap.push { cls:=.type "list",data:=.seq its.toArray },toks:=t' } :=
 I.laid (fun _ _ q=>AC _ q) (Nat.le_refl _) ⟨hz,its,0,hv,BC _ rfl⟩
theorem Inv.fresh(I:Inv X pins σ H s):H s.heap.objs.size=none:=I.hok.fresh (Nat.le_refl _)
theorem Inv.lstM(I:Inv X pins σ H s)(hH:H l=some (.lst xs)):xs.length<=sizeLine/\∃(its:List Value) (n:Nat),Vals xs its/\xs.length=its.length/\s.heap.get? l=some { cls:=.type "list",data:=.seq its.toArray n }:=by
 obtain⟨z,its,n,r,e⟩:=I.hok l _ hH;exact⟨z,its,n,r,r.length,e⟩
theorem Uq{n:Nat}(h:n<=sizeLine):Builtin.List.listTooLong n=false:=by
 unfold Builtin.List.listTooLong;exact AQ (by omega)
end
section
variable{X:Cx}
def Tp:V->List V->Hp->VK->Prop:=fun x vs H Q=>∃l xs y,x = .ref l/\vs = [y]/\H l=some (.lst xs)/\xs.length<sizeLine/\Q .non (upd H l (.lst (xs ++ [y])))
theorem J8:MtM X "list.append" Tp:=by
 intro pins s σ H x vs v us Q I rx rv h;obtain⟨l,xs,y,rfl,rfl,hH,hz,q⟩:=h;cases rx;obtain⟨u,rfl,ru⟩:=rv.one;obtain⟨z,its,n,r,hl,e⟩:=I.lstM hH;refine call_meets F.slot_list_append ⟨_,e,rfl⟩ F.entry_list_append (F.args_list_append_2 _ _) (PySem.list_append l its.toArray n u (by rw[AW];omega)) ⟨e,?_⟩;refine⟨.non,_,I.lset (its':=its ++ [u]) hH e (by simp) (r.append (.cons ru .nil)) ?_,rfl,q⟩;rw[BB,List.length_singleton];omega
def Yz:V->List V->Hp->VK->Prop:=fun x vs H Q=>∃l b xs zs,x = .ref l/\vs = [.ref b]/\H l=some (.lst xs)/\H b=some (.lst zs)/\xs.length+zs.length<=sizeLine/\Q .non (upd H l (.lst (xs++zs)))
theorem Pe:MtM X "list.extend" Yz:=by
 intro pins s σ H x vs v us Q I rx rv h;obtain⟨l,b,xs,zs,rfl,rfl,hH,hB,hz,q⟩:=h;cases rx;obtain⟨u,rfl,ru⟩:=rv.one;cases ru;obtain⟨z,its,n,r,hl,e⟩:=I.lstM hH;obtain⟨z2,its2,n2,r2,hl2,e2⟩:=I.lstM hB;have hsz:its.toArray.size+its2.toArray.size<=sizeLine:=by rw[AW,AW];omega
 have hlong:¬(!its.toArray.isEmpty&&Builtin.List.listTooLong (its.toArray.size+its2.toArray.size))=true:=by
  rw[Uq hsz,GI];exact BG
 refine call_meets F.slot_list_extend ⟨_,e,rfl⟩ F.entry_list_extend (F.args_list_extend_2 _ _)
  (AutoSeq1.list_extend_list_list_0 l its.toArray n b its2.toArray n2 hlong (by rw[AW];omega) (by omega)) ⟨e,e2,?_⟩
 refine⟨.non,_,I.lset (its':=its++its2) hH e (by simp) (r.append r2) ?_,rfl,q⟩;rw[BB];omega
def zFc:V->List V->Hp->VK->Prop:=fun x vs H Q=>∃l xs i k y,x = .ref l/\vs = [.int i]/\H l=some (.lst xs)/\-(2^63)<=i/\i<2^63/\seqIndex? i xs.length=some k/\xs[k]?=some y/\Q y (upd H l (.lst (xs.eraseIdx k)))
theorem Va:MtM X "list.pop" zFc:=by
 intro pins s σ H x vs v us Q I rx rv h;obtain⟨l,xs,i,k,y,rfl,rfl,hH,h1,h2,hk,hy,q⟩:=h;cases rx;obtain⟨u,rfl,ru⟩:=rv.one;obtain⟨t,rfl⟩:=ru;obtain⟨z,its,n,r,hl,e⟩:=I.lstM hH;obtain⟨w,hw,rw'⟩:=r.get hy;refine call_meets F.slot_list_pop ⟨_,e,rfl⟩ F.entry_list_pop (F.args_list_pop_2 _ _)
  (MeetsSeq.list_pop_at l its.toArray n i t k w (fitsIndex_both h1 h2) (by rw[AW,<-hl];exact hk) (by rw[<-BQ];exact hw) (by rw[AW];omega)) ⟨e,?_⟩
 refine⟨y,_,I.lset (its':=its.eraseIdx k) hH e ?_ (r.eraseIdx k) ?_,rw',q⟩
 .show its.toArray.eraseIdxIfInBounds k =(its.eraseIdx k).toArray;rw[List.eraseIdxIfInBounds_toArray]
 .have:=Hu xs k;omega
def zIa:R2:=fun x y H Q=>∃l b xs zs,x = .ref l/\y = .ref b/\H l=some (.lst xs)/\H b=some (.lst zs)/\xs.length+zs.length<=sizeLine/\∀p,H p=none->Q (.ref p) (upd H p (.lst (xs++zs)))
theorem Mq:OpR X (binaryOp .Add) zIa:=by
 intro pins s σ H x y v u Q I rx ry h;obtain⟨l,b,xs,zs,rfl,rfl,hH,hB,hz,q⟩:=h;cases rx;cases ry;obtain⟨z,its,n,r,hl,e⟩:=I.lstM hH;obtain⟨z2,its2,n2,r2,hl2,e2⟩:=I.lstM hB;refine PySem.P.add_list e e2 ?_ (by rw[AW,AW];omega);have ea:its.toArray++its2.toArray =(its++its2).toArray:=by simp
 rw[ea];exact⟨.ref _,_,I.lnew (t':=s.toks) (r.append r2) (by rw[BB];omega),rfl,q _ I.fresh⟩
end
section
variable{U:Type}[DecidableEq U]
def P8(kvs:List (U×V))(k:U):Option V:=(kvs.find? fun kv=>decide (kv.1=k)).map (·.2)
def An(kvs:List (U×V))(k:U)(v:V):List (U×V) :=
 if(kvs.any fun kv=>decide (kv.1=k))=true then kvs.map (fun kv=>if kv.1=k then(kv.1,v)else kv)else kvs ++ [(k,v)]
theorem J6{p:U×V}{r:List (U×V)}{k:U}(e:p.1=k):P8 (p::r) k=some p.2:=by simp[P8,DU,e]
theorem J3{p:U×V}{r:List (U×V)}{k:U}(e:¬p.1=k):P8 (p::r) k=P8 r k:=by simp[P8,DU,e]
theorem f7(k:U):∀kvs:List (U×V),(kvs.any fun kv=>decide (kv.1=k)) =(P8 kvs k).isSome
 | []=>rfl
 | p::r=>by
  rw[FO];by_cases e:p.1=k
  .simp only[J6 e,AJ e,Bool.true_or,Option.isSome_some]
  .rw[J3 e,AQ e,GX];exact f7 k r
theorem Lw(k j:U)(y:V):∀kvs:List (U×V),P8 (kvs.map fun kv=>if kv.1=k then(kv.1,y)else kv) j =(P8 kvs j).map fun x=>if j=k then y else x
 | []=>rfl
 | p::r=>by
  have ih:=Lw k j y r;rw[BA];by_cases h:p.1=k
  .rw[AR h];by_cases e:p.1=j
   .rw[J6 (p:=(p.1,y)) e,J6 e,Option.map_some,AR (e.symm.trans h)]
   .rw[J3 (p:=(p.1,y)) e,J3 e,ih]
  .rw[AM h];by_cases e:p.1=j
   .rw[J6 (p:=p) e,J6 e,Option.map_some,AM (fun z=>h (e.trans z))]
   .rw[J3 (p:=p) e,J3 e,ih]
theorem Ga(k j:U)(y:V):∀kvs:List (U×V),P8 kvs k=none->P8 (kvs ++ [(k,y)]) j=if j=k then some y else P8 kvs j
 | [],_=>by
  by_cases e:k=j
  .rw[AR e.symm];exact J6 (p:=(k,y)) e
  .rw[AM (fun z=>e z.symm)];exact J3 (p:=(k,y)) e
 | p::r,hn=>by
  rw[List.cons_append];have hk:¬p.1=k:=fun z=>by rw[J6 z]at hn;cases hn
  rw[J3 hk]at hn;have ih:=Ga k j y r hn;by_cases e:p.1=j
  .rw[J6 e,J6 e,AM (fun z=>hk (e.trans z))]
  .rw[J3 e,J3 e,ih]
theorem Uv(kvs:List (U×V))(k j:U)(y:V):P8 (An kvs k y) j=if j=k then some y else P8 kvs j:=by
 unfold An;by_cases a:(kvs.any fun kv=>decide (kv.1=k))=true
 .rw[AR a,Lw];rw[f7]at a;by_cases e:j=k
  .obtain⟨x,hx⟩:=EQ.mp a;rw[AR e,e,hx,Option.map_some,AR rfl]
  .rw[AM e];cases P8 kvs j with
   | none=>rfl
   | some x=>rw[Option.map_some,AM e]
 .rw[AM a];refine Ga k j y kvs ?_;rw[f7]at a;cases q:P8 kvs k with
  | none=>rfl
  | some x=>rw[q]at a;exact(a rfl).elim
theorem V6(kvs:List (U×V))(k:U)(v:V):(An kvs k v).length<=kvs.length+1:=by
 unfold An;split
 .rw[AA];omega
 .rw[BB,BR,GA];omega
theorem Mo{kvs:List (U×V)}{k:U}(v:V)(h:P8 kvs k=none):An kvs k v=kvs ++ [(k,v)]:=by
 unfold An;rw[f7,h];exact AM (by decide)
theorem RelO.isSome_eq{o:Option V}{u:Option Value}(r:RelO o u):o.isSome=u.isSome:=by
 cases o with
 | none=>cases u with
  | none=>rfl
  | some _=>exact(show False from r).elim
 | some _=>cases u with
  | none=>exact(show False from r).elim
  | some _=>rfl
theorem RelO.getD{o:Option V}{u:Option Value}{d:V}{d':Value}(r:RelO o u)(rd:RelV d d'):RelV (o.getD d) (u.getD d'):=by
 cases o with
 | none=>cases u with
  | none=>exact rd
  | some _=>exact(show False from r).elim
 | some _=>cases u with
  | none=>exact(show False from r).elim
  | some _=>exact r
theorem KV.val{kvs:List (U×V)}{vs:List (U×Value)}(r:KV kvs vs)(k:U):RelO (P8 kvs k) (valueAt vs k):=by
 unfold KV at r
 induction r with
 | nil=>exact True.intro
 | @cons p q ps qs h t ih =>
  obtain⟨h1,h2⟩:=h;by_cases e:p.1=k
  .have e':q.1=k:=h1.symm.trans e;have b:valueAt (q::qs) k=some q.2:=by simp[valueAt,DU,e']
   rw[J6 e,b];exact h2
  .have e':¬q.1=k:=fun z=>e (h1.trans z);have b:valueAt (q::qs) k=valueAt qs k:=by simp[valueAt,DU,e']
   rw[J3 e,b];exact ih
theorem KV.any{kvs:List (U×V)}{vs:List (U×Value)}(r:KV kvs vs)(k:U):(kvs.any fun kv=>decide (kv.1=k))=vs.any fun kv=>decide (kv.1=k):=by
 unfold KV at r
 induction r with
 | nil=>rfl
 | cons h t ih=>rw[FO,FO,ih,h.1]
theorem KV.repl{kvs:List (U×V)}{vs:List (U×Value)}(r:KV kvs vs)(k:U){y:V}{u:Value}(ry:RelV y u) :
  KV (kvs.map fun kv=>if kv.1=k then(kv.1,y)else kv) (vs.map fun kv=>if kv.1=k then(kv.1,u)else kv):=by
 unfold KV at r⊢
 induction r with
 | nil=>exact .nil
 | @cons p q ps qs h t ih =>
  rw[BA,BA];refine .cons ?_ ih;obtain⟨h1,h2⟩:=h;by_cases e:p.1=k
  .rw[AR e,AR (h1.symm.trans e)];exact⟨h1,ry⟩
  .rw[AM e,AM (fun z=>e (h1.trans z))];exact⟨h1,h2⟩
theorem KV.put{kvs:List (U×V)}{vs:List (U×Value)}(r:KV kvs vs)(k:U){y:V}{u:Value}(ry:RelV y u):KV (An kvs k y) (stored vs k u):=by
 unfold An stored;rw[r.any k];by_cases e:(vs.any fun kv=>decide (kv.1=k))=true
 .rw[AR e,AR e];exact r.repl k ry
 .rw[AM e,AM e];exact Paired.snoc r ⟨rfl,ry⟩
theorem KV.length{kvs:List (U×V)}{vs:List (U×Value)}(r:KV kvs vs):kvs.length=vs.length:=Paired.length r
end
theorem Gw{P:Program}{w:World}{k:Key}{u:Value}(r:RelV (kV k) u):(C0 P w).is k u=true:=by
 cases k with
 | inl i=>obtain⟨t,e⟩:=(show ∃t,u=Value.int i t from r);subst e;exact Kf P w i t
 | inr x=>obtain⟨t,e⟩:=(show ∃t,u=Value.str x t from r);subst e;exact Jy P w x t
theorem Hy{P:Program}{w:World}:∀{ks:List Key} {us:List Value},Vals (ks.map kV) us->ItemsAre (C0 P w) ks us
 | [],_,r=>by rw[List.map_nil]at r;cases r;exact .nil
 | k::ks,_,r=>by
  rw[BA]at r;cases r with
  | cons h t=>exact .cons (Gw h) (Hy t)
abbrev KT(H:Hp):List (List Key×V)->List (List Key×Addr×Value)->Prop:=Paired fun p q=>p.1=q.1/\H q.2.1=some (.tup (p.1.map kV))/\RelV p.2 q.2.2
theorem KT.val{H:Hp}{kvs:List (List Key×V)}{xs:List (List Key×Addr×Value)}(r:KT H kvs xs)(k:List Key):RelO (P8 kvs k) ((atKey xs k).map (·.2)):=by
 induction r with
 | nil=>exact True.intro
 | @cons p q ps qs h t ih =>
  obtain⟨h1,_,h2⟩:=h;by_cases e:p.1=k
  .have e':q.1=k:=h1.symm.trans e;have b:atKey (q::qs) k=some q.2:=by simp[atKey,DU,e']
   rw[J6 e,b];exact h2
  .have e':¬q.1=k:=fun z=>e (h1.trans z);have b:atKey (q::qs) k=atKey qs k:=by simp[atKey,DU,e']
   rw[J3 e,b];exact ih
section
variable{P:Program}{w:World}{H:Hp}{h:Heap}{a:Addr}
theorem zCx{u:HO}(ok:HOk P w H h)(e:Rd H a u):ObjOk P w H h a u:=e.ok ok
theorem Nn{kvs:List (Key×V)}(ok:HOk P w H h)(e:Rd H a (.dK kvs)):kvs.length<=sizeLine/\(a == sysModules)=false/\∃vs,KV kvs vs/\h.DictOf (C0 P w) a vs :=
 show ObjOk P w H h a (.dK kvs)from zCx ok e
theorem Rw{kvs:List (Key×V)}(ok:HOk P w H h)(e:H a=some (.dK kvs)):kvs.length<=sizeLine/\(a == sysModules)=false/\∃vs,KV kvs vs/\h.DictOf (C0 P w) a vs:=Nn ok (.inl e)
theorem l7{ks:List Key}(ok:HOk P w H h)(e:H a=some (.tup (ks.map kV))):(tupleKind (C0 P w)).is h ks a:=by
 obtain⟨_,its,r,o,h1,h2,n,h3⟩:=(show ObjOk P w H h a (.tup (ks.map kV))from ok a _ e);exact⟨o,its.toArray,n,h1,h2,h3,by simpa using Hy r⟩
theorem Qg{kvs:List (List Key×V)}(ok:HOk P w H h)(e:Rd H a (.dT kvs)):kvs.length<=sizeLine/\(a == sysModules)=false /\
  ∃xs,KT H kvs xs/\h.DictOfH (tupleKind (C0 P w)) a xs:=by
 obtain⟨z,y,xs,r,o,es,ep,h1,h2,h3,h4,h5⟩:=(show ObjOk P w H h a (.dT kvs)from zCx ok e);refine⟨z,y,xs,r,o,es,ep,h1,h2,h3,h4,fun x hx=>?_,h5⟩;have all:∀{l:List (List Key×V)} {m:List (List Key×Addr×Value)},KT H l m->∀x∈m,(tupleKind (C0 P w)).is h x.1 x.2.1:=by
  intro l m q
  induction q with
  | nil=>intro x hx;exact nomatch hx
  | @cons p q ps qs hq t ih =>
   intro x hx;rcases A_.mp hx with e | hx
   .subst e;exact l7 ok (by rw[<-hq.1];exact hq.2.1)
   .exact ih x hx
 exact all r x hx
end
def DGet(H:Hp)(a:Addr)(y:V)(r:Option V):Prop :=
 (∃kvs k,Rd H a (.dK kvs)/\y=kV k/\r=P8 kvs k)\/∃kvs k b,Rd H a (.dT kvs)/\y = .ref b/\H b=some (.tup (k.map kV))/\r=P8 kvs k
theorem DGet.k{H:Hp}{a:Addr}{kvs:List (Key×V)}{k:Key}(e:H a=some (.dK kvs)):DGet H a (kV k) (P8 kvs k):=.inl ⟨kvs,k,.inl e,rfl,rfl⟩
section
variable{X:Cx}{pins:List (Addr×Obj)}{σ:St}{H:Hp}{s:Shared}{a:Addr}{y v:V}{u r:Value}{o:Option V}{A:Around}{E:Value->Shared->Prop}
theorem Inv.big(I:Inv X pins σ H s):sysModules<s.heap.objs.size:=by
 have h:mainGlobals<s.heap.objs.size:=(I.mod.glob.keeps I.bk).lt;exact Nat.lt_trans (by decide) h
theorem Ri{Q:Value->Shared->Prop}(hu:A.units+1<cLine)(I:Inv X pins σ H s)(g:DGet H a y (some v))(ry:RelV y u)(h:∀w' s',Inv X pins σ H s'->RelV v w'->Q w' s') :
  wpAny (model X.prog X.w) A (getItem (.ref a) u) Q E s:=by
 rcases g with⟨kvs,k,e,ey,l⟩ | ⟨kvs,k,b,e,ey,eb,l⟩
 .subst ey;obtain⟨z,hd,vs,rel,dd⟩:=Nn I.hok e;obtain⟨w',hw,rw'⟩:=RelO.some_of (v:=v) (o:=valueAt vs k) (by rw[l];exact rel.val k);exact wpAny_getItem_of (Gw ry) dd.mapOf hw (h w' _ (I.tok _) rw')
 .subst ey;cases(show u=Value.ref b from ry);obtain⟨z,hd,xs,rel,dd⟩:=Qg I.hok e;obtain⟨w',hw,rw'⟩:=RelO.some_of (v:=v) (o:=(atKey xs k).map (·.2)) (by rw[l];exact rel.val k);obtain⟨p,hp,hp2⟩:=BL.mp hw;refine wpAny_getItem_heap (tupleKind_room_in1 hu) (l7 I.hok eb) dd hp ?_;rw[hp2];exact h w' _ (I.tok _) rw'
theorem zAv{Q:Value->Shared->Prop}(hu:A.units+1<cLine)(I:Inv X pins σ H s)(g:DGet H a y o)(ry:RelV y u)(h:∀s',Inv X pins σ H s'->Q (.bool (!o.isSome)) s') :
  wpAny (model X.prog X.w) A (compareOp .NotIn u (.ref a)) Q E s:=by
 rcases g with⟨kvs,k,e,ey,l⟩ | ⟨kvs,k,b,e,ey,eb,l⟩
 .subst ey;obtain⟨z,hd,vs,rel,dd⟩:=Nn I.hok e;refine wpAny_notIn_of (Gw ry) hd dd.mapOf ?_;rw[<-(rel.val k).isSome_eq,<-l];exact h _ (I.tok _)
 .subst ey;cases(show u=Value.ref b from ry);obtain⟨z,hd,xs,rel,dd⟩:=Qg I.hok e;refine wpAny_notIn_heap (tupleKind_room_in1 hu) (l7 I.hok eb) hd dd ?_;have q:=(rel.val k).isSome_eq;rw[Option.isSome_map]at q;rw[<-q,<-l];exact h _ (I.tok _)
theorem Ub{h':Heap}{t':Nat}{ob:HO}(I:Inv X pins σ H s)(mu:Mut (H a))(hs:Heap.SameBut a s.heap h')(he:∃q,h'.get? a=some q)(new:ObjOk X.prog X.w (upd H a ob) h' a ob) :
  Inv X pins σ (upd H a ob) { s with heap:=h',toks:=t' } :=
 I.write (x:=a) (e:=a) mu (.inl rfl) (fun b q hb z=>(hs.2 b hb).trans z) he new
theorem Mw{P:Program}{w:World}{H':Hp}{h':Heap}{kvs:List (Key×V)}{vs:List (Key×Value)}(z:kvs.length<=sizeLine)(hd:(a == sysModules)=false)(rel:KV kvs vs)(dd:h'.DictOf (C0 P w) a vs) :
  ObjOk P w H' h' a (.dK kvs):=⟨z,hd,vs,rel,dd⟩
end
def zHl(i:Expr):Prop:=∀ov iv,subscripted i false ov iv=operate [ov,iv] (getItem ov iv)
theorem Zi{prog:Program}{w:World}{A:Around}{E:Value->Shared->Prop}{s:Shared}{env:Env}{value slice:Expr}{pos:Pos}{T id:String}{Q:Value->Shared->Prop}
  (hl:typeLookup (.type T) "__getitem__" = pure (some (.builtin id))) (hs:zHl slice)
  (h:wpAny (model prog w) A (eval value env) (fun o s₁=>wpAny (model prog w) A (eval slice env) (fun i s₂=>s₂.TypeIs o T/\wpAny (model prog w) A (getItem o i) Q E s₂) E s₁) E s) :
  wpAny (model prog w) A (eval (.Subscript value slice pos) env) Q E s:=by
 refine Subscript_ (CD h (fun o s₁ h₁=>CD h₁ (fun i s₂ h₂=>?_) fun _ _ x=>x) fun _ _ x=>x);obtain⟨hT,h₂⟩:=h₂;unfold subscriptTail;refine AB ?_;rw[getitemInPython_of_ne hT.not_modules];refine AB (wpAny_specialOf hT hl ?_);have fin:wpAny (model prog w) A (subscripted slice false o i) (fun r s₃=>wpAny (model prog w) A (letTemporaryGo value o r >>= fun _=>pure r) Q E s₃) E s₂:=by
  rw[hs o i];exact wpAny_operating (CD h₂ (fun r s₃ h₃=>AB (wpAny_letTemporaryGo (AD h₃))) fun _ _ x=>x)
 first
  | exact AD (AB fin)
  | exact AB (AD (AB fin))
  | exact AB fin
theorem Js{X:Cx}{pins:List (Addr×Obj)}{σ:St}{H:Hp}{s:Shared}{a:Addr}{y:V}{o:Option V}(I:Inv X pins σ H s)(g:DGet H a y o):s.TypeIs (.ref a) "dict":=by
 rcases g with⟨kvs,k,e,_,_⟩ | ⟨kvs,k,b,e,_,_,_⟩
 .obtain⟨_,_,vs,_,dd⟩:=Nn I.hok e;exact dd.typeIs
 .obtain⟨_,_,xs,_,dd⟩:=Qg I.hok e;exact dd.typeIs
def zCz(td ty:TE):TE:=fun σ H Q=>td σ H fun x H1=>ty σ H1 fun y H2=>∃a v,x = .ref a/\DGet H2 a y (some v)/\Q v H2
def zAp(ty td:TE):TE:=fun σ H Q=>ty σ H fun y H1=>td σ H1 fun x H2=>∃a o,x = .ref a/\DGet H2 a y o/\Q (.bl (!o.isSome)) H2
section
variable{X:Cx}{o i e value:Expr}{pos pos' tpos:Pos}{td ty tv:TE}
theorem F0(hu:X.A.units+1<cLine)(ho:PE X o td)(hi:PE X i ty)(hs:zHl i):PE X (.Subscript o i pos) (zCz td ty):=by
 intro pins s σ H Q I h;refine Zi PySem.F.slot_dict_getitem.lookup hs (thn (ho pins s σ H _ I h) fun u s1 ⟨x,H1,I1,rx,q1⟩=>thn (hi pins s1 σ H1 _ I1 q1) fun iv s2 ⟨y,H2,I2,ry,a,v,ex,g,q2⟩=>?_);subst ex;obtain rfl:u=Value.ref a:=rx;exact⟨Js I2 g,Ri hu I2 g ry fun w' s3 I3 rw'=>⟨v,H2,I3,rw',q2⟩⟩
theorem Ta(hu:X.A.units+1<cLine)(hi:PE X i ty)(ho:PE X o td):PC X .NotIn i o (zAp ty td):=by
 intro pins s σ H Q I h;refine thn (hi pins s σ H _ I h) fun iv s1 ⟨y,H1,I1,ry,q1⟩=>thn (ho pins s1 σ H1 _ I1 q1) fun u s2 ⟨x,H2,I2,rx,a,ov,ex,g,q2⟩=>?_;subst ex;obtain rfl:u=Value.ref a:=rx;exact zAv hu I2 g ry fun s3 I3=>⟨.bl (!ov.isSome),H2,I3,rfl,q2⟩
end
theorem Lf{P:Program}{w:World}{H:Hp}(h:Heap)(hb:sysModules<h.objs.size):ObjOk P w H (h.push { cls:=.type "dict",data:=.dict #[] }) h.objs.size (.dK []) :=
 ⟨CC _,beq_eq_false_iff_ne.mpr (Ne.symm (AX hb)),[],.nil,Heap.DictOf.new h⟩
def zEy:TE:=fun _ H Q=>∀p,H p=none->Q (.ref p) (upd H p (.dK []))
section
variable{X:Cx}{pos:Pos}
theorem Wz:PE X (.Dict [] [] pos) zEy:=fun pins s σ H Q I h =>
 wpAny_Dict_empty ⟨.ref s.heap.objs.size,_,I.laid (a:=s.heap.objs.size) (o:=.dK []) (t':=s.toks) (fun _ _ q=>AC _ q) (Nat.le_refl _) (Lf s.heap I.big),rfl,h _ (I.hok.fresh (Nat.le_refl _))⟩
end
structure M1(X:Cx)(o:Expr)(m:Str)(apos:Pos)(e:Expr)(cpos:Pos):Prop where
 base:attributeBase o m X.env (eval o X.env)=eval o X.env
 few:((backTo cpos (starEach [e] X.env)).all (fun x=>!x.1) &&(backToKw cpos (keywordEach [] X.env)).all (fun x=>x.1.isSome)
  && decide (([e]:List Expr).length +([]:List Keyword).length +(if([]:List Keyword).isEmpty then 0 else 1)<30))=true
 line:(apos.endLine == cpos.line)=true
 trees:backTo cpos (starEach [e] X.env) = [(false,eval e X.env)]
def IsD(H:Hp)(a:Addr):Prop:=(∃kvs,Rd H a (.dK kvs))\/∃kvs,Rd H a (.dT kvs)
theorem Rh{X:Cx}{pins:List (Addr×Obj)}{σ:St}{H:Hp}{s:Shared}{a:Addr}(I:Inv X pins σ H s)(d:IsD H a) :
  s.TypeIs (.ref a) "dict"/\(∀b,Value.ref a = .ref b->∃ob,s.heap.get? b=some ob/\ob.dict=none)/\(a == sysModules)=false:=by
 rcases d with⟨kvs,e⟩ | ⟨kvs,e⟩
 .obtain⟨_,hd,vs,_,dd⟩:=Nn I.hok e;refine⟨dd.typeIs,fun b q=>?_,hd⟩;cases q;obtain⟨ob,_,_,h1,h2,_⟩:=dd;exact⟨ob,h1,h2.2.1⟩
 .obtain⟨_,hd,xs,_,dd⟩:=Qg I.hok e;refine⟨dd.typeIs,fun b q=>?_,hd⟩;cases q;obtain⟨ob,_,_,h1,h2,_⟩:=dd;exact⟨ob,h1,h2.2.1⟩
section
variable{X:Cx}{pins:List (Addr×Obj)}{σ:St}{H:Hp}{s:Shared}{a:Addr}{y d:V}{u r:Value}{o:Option V}{A:Around}{E:Value->Shared->Prop}
theorem zDx{Q:Value->Shared->Prop}(hu:A.units+1<cLine)(I:Inv X pins σ H s)(g:DGet H a y o)(ry:RelV y u)(h:∀w' s',Inv X pins σ H s'->RelV (o.getD .non) w'->Q w' s') :
  wpAny (model X.prog X.w) A (call (.builtin "dict.get") [.ref a,u]) Q E s:=by
 rcases g with⟨kvs,k,e,ey,l⟩ | ⟨kvs,k,b,e,ey,eb,l⟩
 .subst ey;obtain⟨z,hd,vs,rel,dd⟩:=Nn I.hok e;refine call_meetsIn PySem.F.slot_dict_get dd.typeIs PySem.F.entry_dict_get (PySem.F.args_dict_get_2 _ _) (meets_dict_get (C0 X.prog X.w) a (Gw ry) hd) ⟨_,dd.mapOf,h _ _ (I.tok _) ?_⟩;rw[l];exact(rel.val k).getD rfl
 .subst ey;cases(show u=Value.ref b from ry);obtain⟨z,hd,xs,rel,dd⟩:=Qg I.hok e;refine call_meetsIn PySem.F.slot_dict_get dd.typeIs PySem.F.entry_dict_get (PySem.F.args_dict_get_2 _ _) (meetsH_dict_get (tupleKind (C0 X.prog X.w)) a b hd) ⟨tupleKind_room_in1 hu,k,xs,l7 I.hok eb,dd,h _ _ (I.tok _) ?_⟩;rw[l];exact(rel.val k).getD rfl
end
def Yr(td ty:TE):TE:=fun σ H Q=>td σ H fun x H1=>∃a,x = .ref a/\IsD H1 a/\ty σ H1 fun y H2=>∃o,DGet H2 a y o/\Q (o.getD .non) H2
section
variable{X:Cx}{o e f:Expr}{apos cpos:Pos}{td ty tx:TE}
theorem Ko(hu:X.A.units+1<cLine)(ho:PE X o td)(he:PE X e ty)(m:M1 X o "get" apos e cpos):PE X (.Call (.Attribute o "get" apos) [e] [] cpos) (Yr td ty):=by
 intro pins s σ H Q I h;refine wpAny_Call_method m.base m.few m.line PySem.F.plainAttrs_dict PySem.F.slot_dict_get PySem.F.type_dict_get (thn (ho pins s σ H _ I h) fun u s1 ⟨x,H1,I1,rx,a,ex,d,q1⟩=>?_);subst ex;obtain rfl:u=Value.ref a:=rx;obtain⟨t1,t2,_⟩:=Rh I1 d;refine⟨t1,t2,?_⟩;rw[m.trees];refine Calls.callWith_builtin rfl (Calls.evalArgs_plain (Calls.spliced_cons (thn (he pins s1 σ H1 _ I1 q1) fun iv s2 ⟨y,H2,I2,ry,ov,g,q2⟩=>Calls.spliced_nil ?_)));exact zDx hu I2 g ry fun w' s3 I3 rw'=>⟨_,H2,I3,rw',q2⟩
end
end L2
namespace Att
open PySem PySem.W PySem.Calls PyProof.Rows
theorem Aj{P:Params}{h:Heap}:∀(ns:List Int) (vs:List Value),WellAll P h vs (ns.map WData.int)->IntsAre vs ns:=by
 intro ns
 induction ns with
 | nil =>
  intro vs w;rw[List.map_nil]at w;cases w;exact .nil
 | cons n ns ih =>
  intro vs w;rw[BA]at w;cases w with
  | cons a b =>
   cases a;exact .cons _ _ (ih _ b)
theorem Ps{l:OpenLaw}{n:Nat}(hn:l.most=some n){P:Params}{h:Heap}{args:List WData}{vals:List Value}
  (hpre:l.row.toRowW.claim.pre args=true) (hwl:WellAll P h vals args) :
  ∃a vs ns,vals = [Value.ref a]/\args = [WData.list (ns.map WData.int)]/\h.get? a=some { cls:=.type "list",data:=.seq vs.toArray }/\IntsAre vs ns/\ns.length<=n:=by
 have hsh:WShape.hasAll [] args [.list .int]=true:=(pre_splitW hpre).1;have hc:l.pre.holds [] { args:=args }=true:=(pre_splitW hpre).2;obtain⟨d,r,rfl,h1,h2⟩:=hasAllW_cons hsh;obtain rfl:=hasAllW_nil h2;obtain⟨xs,rfl,h3⟩:=hasW_list h1;obtain⟨ns,rfl⟩:=items_int h3;have hlen:ns.length<=n:=by
  unfold OpenLaw.pre at hc;have h4:(WTm.not (.lt (.lit (.int (n:Int))) (.len (.arg 0)))).holds [] { args:=[.list (ns.map .int)] }=true:=by
   have h4:=(holds_andW hc).1;rw[hn]at h4;exact h4
  have h5:=condW_of h4 (w_not (w_lt w_lit (w_len_list (w_arg rfl))));rw[AA]at h5;refine Nat.le_of_not_lt fun q=>?_;have q':(n:Int) <((ns.length:Nat):Int):=by omega
  first
   | (rw[AJ q']at h5;exact absurd h5 (by decide))
   | (simp at h5;omega)
 cases hwl with
 | cons w1 w2 =>
  cases w2;cases w1 with
  | list ho hall=>exact⟨_,_,ns,rfl,rfl,ho,Aj ns _ hall,hlen⟩
theorem Pc(l:OpenLaw)(args:List WData):l.row.toRowW.claim.post args (.bool true) args=true :=
 postW_of (r:=l.row.toRowW) (X:=(true == true))
  (show WShape.has [] (.bool true) .bool=true by first | rfl | decide | simp[WShape.has,WShape.arms,WShape.armsAll])
  (show(WTm.eq .res (.lit (.bool true))).value [] { args:=args,res:=some (.bool true),after:=args }=some (.bool (true == true))from w_eq_bool (w_res rfl) w_lit) rfl
theorem attach_call{l:OpenLaw}{n:Nat}{q:Program}{loose:List Str}{XP:(Str->Option Value)->Heap->Prop}{YP:World->Heap->Prop}{d:DefRec}
  (hn:l.most=some n) (hdf:d.params.defaults = [])
  (call:∀(w:World) (s₀ s₁:Shared) (mg mb:Str->Option Value) (fa:Addr) (o:Obj) (pm cd doc:Value) (a:Addr) (vs:List Value) (ns:List Int),
   Ground q loose [] XP w s₀ mg mb s₁.heap->YP w s₁.heap ->
   s₁.heap.get? fa=some o->o.data = .func (docDef d.name d.params d.body d.scope pm cd doc)->s₁.heap.CodeRec cd d.name->mg d.name=some (.ref fa) ->
   s₁.heap.get? a=some { cls:=.type "list",data:=.seq vs.toArray }->IntsAre vs ns->ns.length<=n->s₁.gens = #[] ->
   codeAny (model l.prog w) callerA (.call (.ref fa) ⟨[.ref a],[]⟩) (fun r s'=>r = .ok (.ret (.bool true))/\OldK s₁.heap s'.heap/\s'.os=s₁.os/\AllBare s'.gens) s₁) :
  WalkO q loose XP YP l.row.toRowW d [] (fun f vs=>PySem.call f vs):=by
 intro w s₀ s₁ mg mb G Y fa o pm cd doc dV kV ho hd hcd hD hmg hg args vals as hpre hlay hrd hwl hlo;obtain rfl:dV = .none:=Dflts.none hD hdf;obtain rfl:kV = .none:=Dflts.noKw hD;obtain⟨a,vs,ns,rfl,rfl,hobj,hints,hlen⟩:=Ps hn hpre hwl;refine enter_call (codeAny_mono (call w s₀ s₁ mg mb fa o pm cd doc a vs ns G Y ho (fd_plain hd) hcd hmg hobj hints hlen hg) fun r s' hq=>?_);obtain⟨rfl,h2,h3,h4⟩:=hq;exact⟨.inl ⟨.bool true,.bool true,[],rfl,fun _=>rfl,.bool true,Pc l _,fun _=>⟨List.Pairwise.nil,fun _ hm=>(nomatch hm)⟩⟩,h2,h3,h4⟩
end Att
namespace L2
open PySem PySem.Spec PyProof.Rows
theorem Gf:∀{vs:List Value} {ns:List Int},IntsAre vs ns->Vals (ns.map V.int) vs
 | _,_,.nil=>.nil
 | _,_,.cons n t h=>.cons ⟨t,rfl⟩ (Gf h)
def zGy(H:Hp):Prop:=∀b,H b=none\/∃o xs,H b=some (.frz o (.lst xs))
theorem Vd{P:Program}{w:World}{K:PySem.W.Frag}{mg mb:Str->Option Value}{CX:CXT}{k:Nat}{fa a:Addr}{fd:FuncData}{x:Str}{sp:Sp}{s₁:Shared}{vs:List Value}{ns:List Int}
  (KX:K.In s₁.heap) (hns:s₁.heap.Ns mainGlobals mg) (hb:s₁.heap.Ns builtinsNs mb) (hbb:∀x:Str,x≠ "__name__"->mb x=bootBuiltins x) (hlim:s₁.heap.NoLimit) (hg:s₁.gens = #[])
  (ha:s₁.heap.get? a=some { cls:=.type "list",data:=.seq vs.toArray }) (hi:IntsAre vs ns) (hl:ns.length<=sizeLine) (hr:Room k callerA)
  (F:∀base:Heap,K.In base->base.Ns mainGlobals mg->FnOk P w K mg base CX k fa fd [x] sp) (hbind:∀(s:Shared) (u:Value),BindsTo s fd ⟨[u],[]⟩ [(x,u)])
  (hsp:∀H:Hp,zGy H->SqL K H a (ns.map V.int)->sp [.ref a] H (fun v _=>v = .bl true) fun _ _ _=>False)
  (hCX:∀H e s',CX [] H s₁ (fun _ _ _=>False) e s'->False) :
  codeAny (model P w) callerA (.call (.ref fa) ⟨[.ref a],[]⟩) (fun r s'=>r = .ok (.ret (.bool true))/\OldK s₁.heap s'.heap/\s'.os=s₁.os/\AllBare s'.gens) s₁:=by
 have rv:=Gf hi;have lenV:=hi.length;have core:∀H:Hp,zGy H->SqL K H a (ns.map V.int)->HOk P w H s₁.heap->(∀b,H b≠none->b=a)->(H a≠none->K.lookup a=none) ->
   codeAny (model P w) callerA (.call (.ref fa) ⟨[.ref a],[]⟩) (fun r s'=>r = .ok (.ret (.bool true))/\OldK s₁.heap s'.heap/\s'.os=s₁.os/\AllBare s'.gens) s₁:=by
  intro H hO hS hok hA hK;have base_of:∀{b:Addr} {o:Obj},s₁.heap.get? b=some o->H b=none->(Wd s₁.heap H).get? b=some o:=fun e n=>Wl e n;have noA:∀{b:Addr} {o:Obj} {es:Array DictEntry} {ep:Nat},s₁.heap.get? b=some o->o.data = .dict es ep->H b=none:=fun{b o es ep} e d=>by
   cases q:H b with
   | none=>rfl
   | some u =>
    have e':b=a:=hA b (by rw[q];simp);subst e';rw[ha]at e;cases e;have d':Data.seq vs.toArray _=Data.dict es ep:=d;cases d'
  have nsK:∀{b:Addr} {m:Str->Option Value},s₁.heap.Ns b m->(Wd s₁.heap H).Ns b m:=fun{b m} ⟨o,es,ep,e,d,r⟩=>⟨o,es,ep,base_of e (noA e d),d,r⟩;have hKb:K.In (Wd s₁.heap H):=fun b o e=>base_of (KX b o e) (by
   cases q:H b with
   | none=>rfl
   | some u =>
    have e':b=a:=hA b (by rw[q];simp);subst e';rw[hK (by rw[q];simp)]at e;cases e)
  have hM:Mod K mg (Wd s₁.heap H):=⟨hKb,nsK hns,⟨mb,nsK hb,hbb⟩,let⟨mc,h1,h2⟩:=hlim;⟨mc,nsK h1,h2⟩⟩;have e0:Env0 P w K mg (Wd s₁.heap H) callerA [] s₁ H:=⟨rfl,hM,fun b o e=>Zp e,Nat.le_of_eq (Rc _ _),trivial,fun b hb=>absurd (show b∈([]:List Addr)from hb) (by simp),hok,.of_eq hg⟩;refine codeAny_mono ((F _ hKb (nsK hns)).run callerA [] s₁ H ⟨[.ref a],[]⟩ [.ref a] [.ref a] _ _ hr e0 (hbind s₁ (.ref a)) (.cons rfl .nil) (hsp H hO hS)) fun r s' h=>?_;cases r with
  | error e=>exact(hCX H e s' h).elim
  | ok fl =>
   cases fl with
   | next=>exact False.elim h
   | brk=>exact False.elim h
   | cont=>exact False.elim h
   | ret u =>
    obtain⟨v,H',os,bare,un,hok',r',q⟩:=h;have q':v = .bl true:=q;subst q';obtain rfl:u=Value.bool true:=r';refine⟨rfl,OldK.of_keep fun b o e=>?_,os,bare⟩;cases q:H b with
    | none=>exact un.keep b o e q (by intro z;exact absurd (show b∈([]:List Addr)from z) (by simp)) (by simp)
    | some u =>
     rcases hO b with z | ⟨ob,xs,z⟩
     .rw[q]at z;cases z
     .have z2:=un.frzs b ob _ z;obtain⟨e1,_⟩:=hok b _ z;obtain⟨e2,_⟩:=hok' b _ z2;rw[e]at e1;cases e1;exact e2
 cases hk:K.lookup a with
 | some o =>
  have e:=KX a o hk;rw[ha]at e;cases e;refine core (fun _=>none) (fun _=>.inl rfl) (.inr ⟨_,vs.toArray,_,hk,rfl,rfl,rfl,by rw[AW,lenV];exact hl,by simpa using rv⟩) (fun b u z=>by have z':(none:Option HO)=some u:=z;cases z') (fun b z=>absurd rfl z) fun z=>absurd rfl z
 | none =>
  refine core (fun b=>if b=a then some (.frz { cls:=.type "list",data:=.seq vs.toArray } (.lst (ns.map V.int)))else none) (fun b=>?_) (.inl (.inr ⟨{ cls:=.type "list",data:=.seq vs.toArray },AR rfl⟩)) (fun b u z=>?_) (fun b z=>?_) fun _=>hk
  .by_cases hb:b=a
   .exact .inr ⟨_,_,AR hb⟩
   .exact .inl (AM hb)
  .by_cases hb:b=a
   .have z':=(AR hb).symm.trans z;cases z';subst hb;exact⟨ha,by rw[AA];exact hl,vs,_,rv,ha⟩
   .have z':=(AM hb).symm.trans z;cases z'
  .by_cases hb:b=a
   .exact hb
   .exact absurd (AM hb) z
theorem walk_of{l:PySem.W.OpenLaw}{n k:Nat}{q:Program}{loose:List Str}{XP:(Str->Option Value)->Heap->Prop}{YP:World->Heap->Prop}{d:DefRec}{K:Params->PySem.W.Frag}{CX:World->CXT}{sp:World->Sp}{x:Str}
  (hn:l.most=some n) (hn2:n<=sizeLine) (hdf:d.params.defaults = []) (hr:Room k callerA)
  (hY:∀(w:World) (h:Heap),YP w h->(K w.params).In h)
  (F:∀(w:World) (mg:Str->Option Value) (fa:Addr) (h:Heap),(K w.params).In h->h.Ns mainGlobals mg->mg d.name=some (.ref fa) ->
   ∃fd:FuncData,(∀(s:Shared) (u:Value),BindsTo s fd ⟨[u],[]⟩ [(x,u)]) /\
    ∀base:Heap,(K w.params).In base->base.Ns mainGlobals mg->FnOk l.prog w (K w.params) mg base (CX w) k fa fd [x] (sp w))
  (hsp:∀(w:World) (H:Hp) (a:Addr) (ns:List Int),ns.length<=n->zGy H->SqL (K w.params) H a (ns.map V.int)->sp w [.ref a] H (fun v _=>v = .bl true) fun _ _ _=>False)
  (hCX:∀(w:World) (H:Hp) (s:Shared) (e:Value) (s':Shared),CX w [] H s (fun _ _ _=>False) e s'->False) :
  PySem.W.WalkO q loose XP YP l.row.toRowW d [] (fun f vs=>PySem.call f vs):=by
 refine Att.attach_call hn hdf fun w s₀ s₁ mg mb fa o pm cd doc a vs ns G Y ho hd hcd hmg hobj hints hlen hg=>?_;have KX:=hY w _ Y;obtain⟨fd,hb,hF⟩:=F w mg fa _ KX G.T.g hmg;exact Vd KX G.T.g G.T.b G.T.builtins G.T.nolimit hg hobj hints (Nat.le_trans hlen hn2) hr hF hb (fun H hO hS=>hsp w H a ns hlen hO hS) fun H e s'=>hCX w H s₁ e s'
def K1(s:Stmt)(j:Nat):Stmt:=match s with
 | .ClassDef _ _ _ body _ _ _ _ _ _ _=>body.getD j (.Pass ⟨0,0,0,0⟩)
 | _=>.Pass ⟨0,0,0,0⟩
def P4(s:Stmt):Arguments:=match s with
 | .FunctionDef _ a _ _ _ _ _ _ _ _=>a
 | _=>{ posonlyargs:=[],args:=[],vararg:=none,kwonlyargs:=[],kw_defaults:=[],kwarg:=none,defaults:=[] }
def O4(s:Stmt):List Stmt:=match s with
 | .FunctionDef _ _ b _ _ _ _ _ _ _=>b
 | _=>[]
def B5(s:Stmt):Scope:=match s with
 | .FunctionDef _ _ _ _ _ _ sc _ _ _=>sc
 | _=>{ kind:=.function,names:=[],isGenerator:=false,isCoroutine:=false }
abbrev CX0:CXT:=fun _ _ _ _ _ _=>False
abbrev E0:XK:=fun _ _ _=>False
theorem K0{X:Cx}:p0 CX0 X E0:=fun _ _ _ _ _ _ _ h=>h.elim
structure Fun(K:PySem.W.Frag)(x qual:Str)(st:Stmt)(f:Addr)(fd:FuncData):Prop where
 ex:∃(oc:Value) (od:Option Addr) (kV doc pm:Value) (an:Option Addr) (cdv ct:Value) (osl:Array (Option Value)),
  fd=PySem.W.fnOf x qual (P4 st) (O4 st) (B5 st) .none kV doc pm an cdv ct/\K.lookup f=some ⟨oc,od,.func fd,osl⟩/\PySem.W.codeIn K cdv qual=true
 kp:PySem.W.keepIn K (.ref f)=true
section
variable{P:Program}{w:World}{K:PySem.W.Frag}{mg:Str->Option Value}{base:Heap}
theorem Fun.ok{x qual:Str}{st:Stmt}{f:Addr}{fd:FuncData}{N ps:List Str}{k:Nat}{sp:Sp}(F:Fun K x qual st f fd)(S:FnScope N ps (B5 st))(len:∀vs H Q E,sp vs H Q E->vs.length=ps.length)
  (hbody:∀(cdv:Value) (A:Around) (outer:List Env) (s:Shared) (H:Hp) (vs:List V) (Q:VK) (E:XK),Room k (A.deeper (envOfC qual (B5 st) s.heap.objs.size f cdv))->sp vs H Q E ->
   ∃t,PSs (zBw CX0 P w K mg base N qual (B5 st) f cdv A outer s H E).nox (O4 st) t/\t { nx:=fun _ H'=>Q .non H',rt:=Q } (Hk N vs) H):FnOk P w K mg base CX0 (k+1) f fd ps sp:=by
 obtain⟨oc,od,kV,doc,pm,an,cdv,ct,osl,rfl,lk,hcd⟩:=F.ex;refine zGa lk hcd S len fun A outer s H vs Q E hr hsp=>?_;obtain⟨t,h,q⟩:=hbody cdv A outer s H vs Q E hr hsp;exact⟨t,h.nox,q⟩
theorem Fun.binds{x qual:Str}{st:Stmt}{f:Addr}{fd:FuncData}{ps:List Str}(F:Fun K x qual st f fd)
  (h:∀(kV doc pm:Value) (an:Option Addr) (cdv ct:Value) (us:List Value),us.length=ps.length->bindArgs (PySem.W.fnOf x qual (P4 st) (O4 st) (B5 st) .none kV doc pm an cdv ct) ⟨us,[]⟩=pure (ps.zip us)):Binds K fd ps []:=by
 obtain⟨oc,od,kV,doc,pm,an,cdv,ct,osl,rfl,lk,hcd⟩:=F.ex;exact .all (h kV doc pm an cdv ct)
theorem fun_mk{x qual:Str}{st:Stmt}{f:Addr}{oc:Value}{od an:Option Addr}{osl:Array (Option Value)}{kV doc pm cdv ct:Value}(l:K.lookup f=some ⟨oc,od,.func (PySem.W.fnOf x qual (P4 st) (O4 st) (B5 st) .none kV doc pm an cdv ct),osl⟩)
  (c:PySem.W.codeIn K cdv qual=true) (k:PySem.W.keepIn K (.ref f)=true):Fun K x qual st f (PySem.W.fnOf x qual (P4 st) (O4 st) (B5 st) .none kV doc pm an cdv ct):=⟨⟨oc,od,kV,doc,pm,an,cdv,ct,osl,rfl,l,c⟩,k⟩
end
theorem T9{A:Around}{k:Nat}(hr:Room k A):A.units+1<cLine:=Nat.lt_of_le_of_lt (FP (by decide:1<=64) _) hr.units
section
variable{X:Cx}
theorem pv(i:Nat){x:Str}{pos:Pos}(hN:X.N[i]?=some x:=by rfl)(hv:Vis X.env.scope x:=by first | exact Or.inl rfl | exact Or.inr (Or.inl rfl) | exact Or.inr (Or.inr rfl))(hd:(x ==("__debug__":Str))=false:=by decide)
  (hcd:(x ==("__classdict__":Str))=false:=by decide):PE X (.Name x pos) (Bo i):=Xp hN hv hd hcd
end
theorem X0{A B:Prop}(h:B):if false=true then A else B:=by
 rw[AM BG];exact h
theorem Um{A B:Prop}(h:A):if true=true then A else B:=by
 rw[AR rfl];exact h
theorem U0{c A B:Prop}[Decidable c](h1:c->A)(h2:¬c->B):if c then A else B:=by
 by_cases h:c
 .rw[AR h];exact h1 h
 .rw[AM h];exact h2 h
def Same(H H':Hp):Prop:=∀b o,H b=some o->H' b=some o
theorem Same.refl(H:Hp):Same H H:=fun _ _ h=>h
theorem Same.trans{H H1 H2:Hp}(a:Same H H1)(b:Same H1 H2):Same H H2:=fun c o h=>b c o (a c o h)
theorem Same.free{H H':Hp}(e:Same H H'){l:Addr}(h:H' l=Option.none):H l=Option.none:=by
 cases q:H l with
 | none=>rfl
 | some o =>
  rw[e l o q]at h;cases h
section
variable{U:Type}[DecidableEq U]
theorem Zo{kvs:List (U×V)}{k:U}{v:V}(h:P8 kvs k=some v):k∈kvs.map (·.1):=by
 have q:(kvs.any fun kv=>decide (kv.1=k))=true:=by
  rw[f7,h]
  all_goals rfl
 obtain⟨p,hp,e⟩:=DQ.mp q;exact AE.mpr ⟨p,hp,AZ e⟩
theorem Pg:∀{l:List U} {k:U},l.Nodup->¬k∈l->(l ++ [k]).Nodup
 | [],k,_,_=>by simp
 | a::r,k,h,hk=>by
  obtain⟨h1,h2⟩:=DG.mp h;show(a ::(r ++ [k])).Nodup;refine DG.mpr ⟨fun m=>?_,Pg h2 fun m=>hk (A_.mpr (Or.inr m))⟩;rcases AO.mp m with q | q
  .exact h1 q
  .exact hk (A_.mpr (Or.inl (AF.mp q).symm))
end
def cxC(X:Cx)(scope:Scope)(cl:List (Str×Addr))(N':List Str)(pins:List (Addr×Obj))(ex:List Addr)(s3:Shared)(H3:Hp):Cx where
 prog:=X.prog
 w:=X.w
 K:=X.K
 mg:=X.mg
 base:=X.base
 A:=X.A
 N:=N'
 s₀:=s3
 H₀:=H3
 env:=compEnvC scope cl s3.heap.objs.size X.env
 outer:=X.stack
 stack:=X.stack
 ex:=ex
 fn:=fun _=>false
 calm:=X.calm
 pn:=X.pn++pins
 xe:=fun _ _=>False
def Caps(X:Cx)(scope:Scope)(cl:List (Str×Addr)):List Str->List (Option Nat)->Prop
 | [],[]=>True
 | _::N,none::c=>Caps X scope cl N c
 | x::N,some j::c=>(X.N[j]?=some x/\X.env.scope.names.lookup x=some .cell/\(relabel scope X.env).names.lookup x=some .cell/\cl.lookup x=X.env.cells.lookup x)/\Caps X scope cl N c
 | _,_=>False
def ClIn(X:Cx):List (Str×Addr)->Prop
 | []=>True
 | p::r=>X.env.cells.lookup p.1=some p.2/\ClIn X r
structure CScope(X:Cx)(scope:Scope)(cl:List (Str×Addr))(N':List Str)(cap:List (Option Nat)):Prop where
 kind:scope.kind = .function
 nocell:∀y∈scope.names,y.2≠ .cell
 loc:∀y∈scope.names,y.2 = .local->scope.names.lookup y.1=some .local
 clos:closureFor scope X.env=pure cl
 cin:ClIn X cl
 has:((relabel scope X.env).names.all fun y=>!(y.2 == .cell||y.2 == .free)||(cl.lookup y.1).isSome)=true
 caps:Caps X scope cl N' cap
def Ma(cap:List (Option Nat))(σ:St):St:=cap.map fun o=>o.bind fun j=>(σ[j]?).join
theorem ClIn.get{X:Cx}:∀{cl:List (Str×Addr)} {x:Str} {c:Addr},ClIn X cl->cl.lookup x=some c->X.env.cells.lookup x=some c
 | [],_,_,_,h=>by simp at h
 | (y,d)::r,x,c,⟨h1,h2⟩,h=>by
  rw[HU]at h;cases e:x == y with
  | true =>
   rw[e]at h;cases h;rw[beq_iff_eq.mp e];exact h1
  | false =>
   rw[e]at h;exact ClIn.get h2 h
theorem Caps.len{X:Cx}{scope:Scope}{cl:List (Str×Addr)}:∀{N:List Str} {cap:List (Option Nat)},Caps X scope cl N cap->cap.length=N.length
 | [],[],_=>rfl
 | _::N,none::c,h=>by rw[BR,BR,Caps.len (N:=N) (cap:=c) h]
 | _::N,some j::c,h=>by rw[BR,BR,Caps.len h.2]
 | [],_::_,h=>h.elim
 | _::_,[],h=>h.elim
theorem Caps.get{X:Cx}{scope:Scope}{cl:List (Str×Addr)}{j:Nat}{x:Str}:∀{N:List Str} {cap:List (Option Nat)} {i:Nat},Caps X scope cl N cap->N[i]?=some x->cap[i]?=some (some j) ->
  X.N[j]?=some x/\X.env.scope.names.lookup x=some .cell/\(relabel scope X.env).names.lookup x=some .cell/\cl.lookup x=X.env.cells.lookup x
 | [],_,_,_,h,_=>by simp at h
 | _::_,[],_,_,_,h=>by simp at h
 | y::N,none::c,0,_,_,h=>by simp at h
 | y::N,none::c,i+1,h,h1,h2=>Caps.get (N:=N) (cap:=c) (i:=i) h (by simpa using h1) (by simpa using h2)
 | y::N,some k::c,0,h,h1,h2=>by
  simp at h1 h2;subst h1;subst h2;exact h.1
 | y::N,some k::c,i+1,h,h1,h2=>Caps.get (N:=N) (cap:=c) (i:=i) h.2 (by simpa using h1) (by simpa using h2)
section
variable{X:Cx}{scope:Scope}{cl:List (Str×Addr)}{N':List Str}{cap:List (Option Nat)}{pins:List (Addr×Obj)}{σ:St}{H3:Hp}{s3:Shared}{ex:List Addr}
theorem i5{p:NameKind->Bool}:∀{names:List (Str×NameKind)} {q:Str->NameKind->Bool} {x:Str} {k:NameKind},(names.all fun y=>q y.1 y.2)=true->names.lookup x=some k->q x k=true
 | [],_,_,_,_,h=>by simp at h
 | (y,d)::r,q,x,k,ha,h=>by
  rw[List.all_cons,CK]at ha;rw[HU]at h;cases e:x == y with
  | true =>
   rw[e]at h;cases h;rw[beq_iff_eq.mp e];exact ha.1
  | false =>
   rw[e]at h;exact i5 (p:=p) (names:=r) (q:=q) ha.2 h
theorem Inv.block(I:Inv X pins σ H3 s3)(S:CScope X scope cl N' cap)(hc:X.calm=true)(hex:∀b∈ex,Bp X pins H3 b/\∃o,s3.heap.get? b=some o){h1:Heap}{tk:Nat}
  (hns:h1.Ns s3.heap.objs.size (fun _=>none)) (hk:∀b o,s3.heap.get? b=some o->h1.get? b=some o) :
  Inv (cxC X scope cl N' pins ex s3 H3) [] (Ma cap σ) H3 { s3 with heap:=h1,toks:=tk }:=by
 have lt3:∀b o,s3.heap.get? b=some o->b≠s3.heap.objs.size:=fun b o e=>AX (AL e);have hcell:∀x c,cl.lookup x=some c->∃v,s3.heap.IsCell c v:=fun x c e=>I.cell x c (S.cin.get e);have hfree:H3 s3.heap.objs.size=none:=I.hok.fresh (Nat.le_refl _);refine⟨⟨I.ok.mod,?_,I.ok.glob,I.ok.blt,Nat.le_refl _,fun x y c e1 e2=>I.ok.inj x y c (S.cin.get e1) (S.cin.get e2),fun x hx=>?_,fun x c h _=>absurd h BG,I.ok.hd,I.ok.frames,.inl rfl,fun b hb=>?_,I.bs,Nat.le_trans I.ok.bsz I.sz,fun b o e hb=>?_,fun b hb=>?_,I.stack,I.stkFree⟩,
  rfl,I.bare,Un.kept hk,⟨_,hns,fun i x v e1 e2 e3=>?_⟩,fun x c e=>?_,hfree,fun x c e=>I.freeC x c (S.cin.get e),fun p hp=>?_,I.hok.kept hk,?_⟩
 .exact S.kind
 .have q:∀k,(relabel scope X.env).names.lookup x=some k->(!(k == .cell||k == .free)||(cl.lookup x).isSome)=true:=fun k e=>i5 (p:=fun _=>true) (q:=fun a k=>!(k == .cell||k == .free)||(cl.lookup a).isSome) S.has e;have hx':(relabel scope X.env).names.lookup x=some .cell\/(relabel scope X.env).names.lookup x=some .free:=hx;have:(cl.lookup x).isSome=true:=by
   rcases hx' with e | e
   .exact q _ e
   .exact q _ e
  exact EQ.mp this
 .obtain⟨⟨_,_,_,_,f4,_⟩,o,e⟩:=hex b hb;exact⟨lt3 b o e,fun x c ec=>f4 x c (S.cin.get ec)⟩
 .obtain⟨⟨f0,f1,f2,f3,_⟩,_⟩:=hex b hb;rcases f3 with f3 | f3
  .exact I.ok.noex b o e f3
  .have:=(I.ok.bs b o e).1;exact absurd (BJ (AL this) f3) (CQ _)
 .intro hf;obtain⟨⟨_,f1,f2,_⟩,_⟩:=hex b hb;rcases A_.mp (I.stkSub b hf)with z | z
  .exact f1 z
  .exact f2 z
 .unfold Ma at e2;rw[AI]at e2;cases ec:cap[i]? with
  | none=>rw[ec]at e2;cases e2
  | some o =>
   rw[ec]at e2;cases o with
   | none=>cases e2
   | some j =>
    have e2':(σ[j]?).join=some v:=BH e2;obtain⟨c1,c2,c3,c4⟩:=S.caps.get e1 ec;have ej:σ[j]?=some (some v):=by
     cases ej:σ[j]? with
     | none=>rw[ej]at e2';cases e2'
     | some z=>rw[ej]at e2';cases z with
      | none=>cases e2'
      | some z=>cases e2';rfl
    obtain⟨m,hn,hl⟩:=I.loc;obtain⟨u,r,l⟩:=hl j x v c1 ej (.inr (.inl c2));refine⟨u,r,?_⟩;rcases l with⟨k,_⟩ | ⟨_,c,hc',hcell'⟩
    .have:X.env.scope.names.lookup x=some .local:=k;rw[c2]at this;cases this
    .exact .inr ⟨.inl c3,c,c4.trans hc',let⟨o,ho,hd⟩:=hcell';⟨o,hk _ _ ho,hd⟩⟩
 .obtain⟨v,o,ho,hd⟩:=hcell x c e;exact⟨v,o,hk _ _ ho,hd⟩
 .have hp':p∈X.pn++pins:=by simpa [cxC] using hp
  obtain⟨e,n,ne,nf,d⟩:=I.pin p hp';refine⟨hk _ _ e,n,lt3 _ _ e,fun hf=>?_,d⟩;rcases A_.mp (I.stkSub p.1 hf)with z | z
  .exact ne z
  .exact nf z
 .unfold Ma;rw[AA];exact S.caps.len
theorem Inv.unblock{σ':St}{H':Hp}{s':Shared}{h':Heap}(I:Inv X pins σ H3 s3)(hex:∀b∈ex,Bp X pins H3 b)(J:Inv (cxC X scope cl N' pins ex s3 H3) [] σ' H' s')(hb:Heap.SameBut s3.heap.objs.size s'.heap h') :
  Inv X pins σ H' { s' with heap:=h' }:=by
 have hfr:H' s3.heap.objs.size=none:=J.free;refine I.call' (ch:=ex) J.os ⟨fun b o e n h1 h2=>?_,fun b o e n h1 h2=>?_,fun b o e n h2=>?_,fun b o e h2=>?_,J.base.tups,J.base.frzs,J.base.tbls⟩ (fun b ob e=>?_) J.bare fun b hbx=>?_
 .exact(hb.2 b (AX (AL e))).trans (J.base.keep b o e n h1 h2)
 .obtain⟨sl,q⟩:=J.base.slot b o e n h1 h2;exact⟨sl,(hb.2 b (AX (AL e))).trans q⟩
 .exact J.base.free b o e n h2
 .obtain⟨o',q⟩:=J.base.there b o e h2;exact⟨o',(hb.2 b (AX (AL e))).trans q⟩
 .refine(J.hok b ob e).stay (fun c w' hc q=>(hb.2 c ?_).trans q) (fun _ q=>q) fun _ _ q=>q;rintro rfl;rcases hc with z | z
  .rw[<-z,hfr]at e;cases e
  .rw[hfr]at z;cases z
 .obtain⟨_,f1,_,f3,f4,f5⟩:=hex b hbx;exact⟨f3,f1,f4,f5⟩
end
def Cz(e:Expr)(d:Nat)(iter tg:Expr)(ifs:List Expr)(emit:Sem Fin->Sem Fin)(it acc:Value)(env:Env):Sem Fin:=do
 standAt iter.pos
 match <-pyNext it with
 | none=>pure (.done .next)
 | some v =>
  letOwnedTupleGo tg it v
  assign tg env v
  let mut ok:=true
  for c in ifs do
   if ok then ok <-isTrue c env (eval c env)
  if ok then emit (again (.compLoop e d it acc env))else again (.compLoop e d it acc env)
def emL(elt:Expr)(acc:Value)(env:Env)(k:Sem Fin):Sem Fin:=(do let _ <-call (.builtin "list.append") [acc,<-eval elt env]:Sem Unit) >>= fun _=>k
def emD(a b:Expr)(D:Addr)(env:Env)(k:Sem Fin):Sem Fin:=(do
   let kv <-eval a env
   let vv <-holding [kv] (eval b env)
   standAt { a.pos with endLine:=b.pos.endLine,endCol:=b.pos.endCol }
   holding [kv,vv] (dictSet D kv vv):Sem Unit) >>= fun _=>k
def emS(elt:Expr)(acc:Value)(env:Env)(k:Sem Fin):Sem Fin:=(do let v <-eval elt env;standAt elt.pos;let _ <-call (.builtin "set.add") [acc,v]:Sem Unit) >>= fun _=>k
def emN(e iter2:Expr)(d:Nat)(acc:Value)(env:Env)(k:Sem Fin):Sem Fin:=do
    let x <-eval iter2 env
    standAt iter2.pos
    let x <-foldedSetIterable iter2 env x
    let _ <-runOwn (.compStart e d (<-holding [x] (pyIter x)) acc env) env
    k
theorem i7(elt tg iter:Expr)(ifs:List Expr)(scope:Scope)(pos:Pos)(it acc:Value)(env:Env) :
  compTurn (.ListComp elt [⟨tg,iter,ifs,0⟩] scope pos) 0 it acc env=Cz (.ListComp elt [⟨tg,iter,ifs,0⟩] scope pos) 0 iter tg ifs (emL elt acc env) it acc env:=rfl
theorem Ou(k v tg iter:Expr)(ifs:List Expr)(scope:Scope)(pos:Pos)(it:Value)(D:Addr)(env:Env) :
  compTurn (.DictComp k v [⟨tg,iter,ifs,0⟩] scope pos) 0 it (.ref D) env=Cz (.DictComp k v [⟨tg,iter,ifs,0⟩] scope pos) 0 iter tg ifs (emD k v D env) it (.ref D) env:=rfl
theorem Of(elt tg iter tg2 iter2:Expr)(ifs ifs2:List Expr)(scope:Scope)(pos:Pos)(it acc:Value)(env:Env) :
  compTurn (.SetComp elt [⟨tg,iter,ifs,0⟩,⟨tg2,iter2,ifs2,0⟩] scope pos) 1 it acc env=Cz (.SetComp elt [⟨tg,iter,ifs,0⟩,⟨tg2,iter2,ifs2,0⟩] scope pos) 1 iter2 tg2 ifs2 (emS elt acc env) it acc env:=rfl
theorem On(elt tg iter tg2 iter2:Expr)(ifs ifs2:List Expr)(scope:Scope)(pos:Pos)(it acc:Value)(env:Env) :
  compTurn (.SetComp elt [⟨tg,iter,ifs,0⟩,⟨tg2,iter2,ifs2,0⟩] scope pos) 0 it acc env=Cz (.SetComp elt [⟨tg,iter,ifs,0⟩,⟨tg2,iter2,ifs2,0⟩] scope pos) 0 iter tg ifs
   (emN (.SetComp elt [⟨tg,iter,ifs,0⟩,⟨tg2,iter2,ifs2,0⟩] scope pos) iter2 1 acc env) it acc env:=rfl
abbrev TEm:=St->Hp->(St->Hp->Prop)->Prop
def PEm(X:Cx)(emit:Sem Fin->Sem Fin)(t:TEm):Prop :=
 ∀(pins:List (Addr×Obj)) (s:Shared) (σ:St) (H:Hp) (Q:St->Hp->Prop) (k:Sem Fin) (F:Fin->Shared->Prop) (E:Value->Shared->Prop),Inv X pins σ H s->t σ H Q ->
  (∀s' σ' H',Inv X pins σ' H' s'->Q σ' H'->wpAny (model X.prog X.w) X.A k F E s')->wpAny (model X.prog X.w) X.A (emit k) F E s
def PTs(X:Cx)(ifs:List Expr)(t:TT):Prop :=
 ∀(pins:List (Addr×Obj)) (s:Shared) (σ:St) (H:Hp) (Q:Bool->Hp->Prop),Inv X pins σ H s->t σ H Q ->
  wpAny (model X.prog X.w) X.A (forIn ifs true fun c r=>if r=true then do let ok <-isTrue c X.env (eval c X.env);pure (ForInStep.yield ok)else pure (ForInStep.yield r)) (TP X pins σ Q) X.xe s
def S9:TT:=fun _ H Q=>Q true H
theorem C3{X:Cx}:PTs X [] S9:=fun _ _ _ H _ I h=>wpAny_tests_nil ⟨H,I,h⟩
theorem O8{X:Cx}{c:Expr}{t:TT}(h:PT X c t):PTs X [c] t:=fun pins s σ H Q I q=>wpAny_tests_one (h pins s σ H Q I q)
def V0(g:TG)(tc:TT)(em:TEm)(J:It)(σ:St)(H:Hp)(Q:St->Hp->Prop):Prop :=
 ∃W:Nat->Nat->St->Hp->Prop,(∃m,W 0 m σ H)/\∀i m σ H,W i m σ H->(J.stop i H/\Q σ H)\/(J.go i H/\∀x H',J.yld i H x H'->g x σ H' fun σ2 H2=>tc σ2 H2 fun b H3 =>
  if b=true then em σ2 H3 fun σ3 H4=>∃m',m' < m/\W (i+1) m' σ3 H4 else ∃m',m' < m/\W (i+1) m' σ2 H3)
section
variable{X:Cx}{e tg iter:Expr}{d:Nat}{ifs:List Expr}{emit:Sem Fin->Sem Fin}{it:Addr}{acc:Value}{g:TG}{tc:TT}{em:TEm}{J:It}{fp:List Addr}{tn:Nat->Heap->Prop}{R:Result->Shared->Prop}
theorem Q6(hun:X.A.under (.compLoop e d (.ref it) acc X.env)=X.A)(hden:(model X.prog X.w).den (.compLoop e d (.ref it) acc X.env) =(compTurn e d (.ref it) acc X.env).onRaise (fun x=>do noteFrame x X.env;theTreesLotGoes x))(hc:X.calm=true)(hxe:X.xe=fun _ _=>False)(hct:compTurn e d (.ref it) acc X.env=Cz e d iter tg ifs emit (.ref it) acc X.env)(hg:PG X tg g)(ht:PTs X ifs tc)(hem:PEm X emit em)
  (T:Turn X.prog X.w X.K tg J fp it tn) {pins:List (Addr×Obj)} {s:Shared} {σ:St} {H:Hp} {Q:St->Hp->Prop} (I:Inv X pins σ H s) (st:tn 0 s.heap) (hf:∀b∈fp,Bp X pins H b) (h:V0 g tc em J σ H Q)
  (hR:∀s' σ' H',Inv X pins σ' H' s'->Q σ' H'->R (.ok .next) s'):codeAny (model X.prog X.w) X.A (.compLoop e d (.ref it) acc X.env) R s:=by
 obtain⟨W,⟨m0,w0⟩,turn⟩:=h;have stat:∀{H':Hp},(∀b∈fp,H' b=none)->∀b∈fp,Bp X pins H' b:=fun hn b hb=>⟨hn b hb,(hf b hb).2⟩;have no:∀{α:Type} {m:Sem α} {P:α->Shared->Prop} {E:Value->Shared->Prop} {s:Shared},wpAny (model X.prog X.w) X.A m P X.xe s->wpAny (model X.prog X.w) X.A m P E s:=fun q=>by
  rw[hxe]at q;exact CD q (fun _ _ z=>z) fun _ _ z=>z.elim
 refine codeAny_loop rfl (fun n s'=>∃i σ' H',Inv X pins σ' H' s'/\tn i s'.heap/\(∀b∈fp,H' b=none)/\W i n σ' H') (fun n s3 hI=>?_) m0 ⟨0,σ,H,I,st,fun b hb=>(hf b hb).1,w0⟩;obtain⟨i,σ3,H3,I3,st3,fr3,w3⟩:=hI;rw[hun,hden];refine wpAny_noted ?_;rw[hct];unfold Cz;refine AB (FN (AB ?_));rcases turn i n σ3 H3 w3 with⟨stop,qn⟩ | ⟨go,step⟩
 .refine CD (T.done X rfl rfl rfl hc i pins s3 σ3 H3 _ I3 (stat fr3) st3 stop) (fun r s4 ⟨hr,I4⟩=>?_) fun _ _ z=>z;subst hr;exact AD (hR s4 σ3 H3 I4 qn)
 .refine CD (T.item X rfl rfl rfl hc i pins s3 σ3 H3 _ I3 (stat fr3) st3 go) (fun r s4 ⟨u,hr,h4⟩=>?_) fun _ _ z=>z;subst hr;refine AB (CD h4 (fun _ s5 ⟨x,H5,I5,r5,y5,st5,fr5⟩=>?_) fun _ _ z=>z);have I5':=I5.pinned (stat fr5) (T.obj _ _ st5);have again:∀{σ7:St} {H7:Hp} {s7:Shared},Inv X (pins++Hn fp s5.heap) σ7 H7 s7->(∃m',m' < n/\W (i+1) m' σ7 H7)->∃m,m<n/\∃i σ' H',Inv X pins σ' H' s7/\tn i s7.heap/\(∀b∈fp,H' b=none)/\W i m σ' H':=fun{σ7 H7 s7} I7 n7=>by
   obtain⟨m',hm,w7⟩:=n7;refine⟨m',hm,i+1,σ7,H7,I7.unpinned,T.keep _ _ _ st5 fun b hb o e=>(I7.pin (b,o) (BT _ (BT _ (U3 hb e)))).1,fun b hb=>?_,w7⟩;obtain⟨o,e,d⟩:=T.obj _ _ st5 b hb;exact(I7.pin (b,o) (BT _ (BT _ (U3 hb e)))).2.1
  refine AB (CD (no (hg _ s5 σ3 H5 x u _ I5' r5 (step x H5 y5))) (fun _ s6 ⟨σ6,H6,I6,q6⟩=>?_) fun _ _ z=>z);refine AB (CD (no (ht _ s6 σ6 H6 _ I6 q6)) (fun ok s7 ⟨H7,I7,q7⟩=>?_) fun _ _ z=>z);cases ok with
  | false=>exact AD ⟨rfl,again I7 q7⟩
  | true =>
   exact hem _ s7 σ6 H7 _ _ _ _ I7 q7 fun s8 σ8 H8 I8 q8=>AD ⟨rfl,again I8 q8⟩
theorem U6(hun:X.A.under (.compStart e d (.ref it) acc X.env)=X.A)(hden:(model X.prog X.w).den (.compStart e d (.ref it) acc X.env) =(compStart e d (.ref it) acc X.env).onRaise (fun x=>do noteFrame x X.env;standAt theWindowsPlace)){gs:List Comprehension}(hgs:clausesOf e=gs)(hd:gs[d]?=some ⟨tg,iter,ifs,0⟩){s:Shared}(T:Turn X.prog X.w X.K tg J fp it tn)(st:tn 0 s.heap)
  (h:codeAny (model X.prog X.w) X.A (.compLoop e d (.ref it) acc X.env) R s):codeAny (model X.prog X.w) X.A (.compStart e d (.ref it) acc X.env) R s:=by
 refine codeAny_of_tree ?_;rw[hun,hden];refine wpAny_notedAt ?_;unfold compStart;rw[hgs,hd];show wpAny _ X.A (ask >>= _) _ _ s;refine AB (GO (wpAny_ite ?_));have h1:=T.self X.A 0 s (fun it' s'=>codeAny (model X.prog X.w) X.A (.compLoop e d it' acc X.env) R s') (notedBy (model X.prog X.w) X.A X.env fun x s'=>R (.error x) s') st h;split
 .first
   | exact AB (AD (AD (And.intro rfl h)))
   | exact AD (And.intro rfl h)
 .first
   | exact AB (EX (AB (FN (AB (CD h1 (fun it' s' h'=>AD (And.intro rfl h')) fun _ _ x=>x)))))
   | (refine AB (EX ?_);show wpAny _ _ (standAt iter.pos >>= _) _ _ s;exact AB (FN (AB (CD h1 (fun it' s' h'=>AD (And.intro rfl h')) fun _ _ x=>x))))
end
section
variable{X:Cx}{tg iter:Expr}{ifs:List Expr}{g:TG}{tc:TT}{em:TEm}{scope:Scope}{cl:List (Str×Addr)}{N':List Str}{cap:List (Option Nat)}{pos:Pos}{wi:TI}
def Bx(wi:TI)(o:Addr->HO)(cap:List (Option Nat))(lp:Addr->It->St->Hp->(St->Hp->Prop)->Prop):TE:=fun σ H Q=>wi σ H fun J H1=>∀D,H1 D=none->lp D J (Ma cap σ) (upd H1 D (o D)) fun _ H2=>Q (.ref D) H2
theorem Dh{e:Expr}{gs:List Comprehension}{newAcc:Sem Value}{p2:Pos}(hcl:clausesOf e =⟨tg,iter,ifs,0⟩::gs)(o:Addr->HO)(hs:∀x,foldedSetIterable iter X.env x=pure x)(S:CScope X scope cl N' cap)(hc:X.calm=true)(hi:PI X tg iter wi)
  {lp:Addr->It->St->Hp->(St->Hp->Prop)->Prop}
  (hnew:∀(pins:List (Addr×Obj)) (s:Shared) (σ:St) (H:Hp) (Q:Value->Shared->Prop) (E:Value->Shared->Prop),Inv X pins σ H s->(∀s',Inv X pins σ (upd H s.heap.objs.size (o s.heap.objs.size)) s'->(∀b ob,s.heap.get? b=some ob->s'.heap.get? b=some ob)->Q (.ref s.heap.objs.size) s')->wpAny (model X.prog X.w) X.A newAcc Q E s)
  (hlp:∀(pins:List (Addr×Obj)) (ex:List Addr) (s3:Shared) (H3:Hp) (D it:Addr) (fp:List Addr) (tn:Nat->Heap->Prop) (J:It) (σ:St) (s:Shared) (H:Hp) (Q:St->Hp->Prop) (R:Result->Shared->Prop),
   Turn X.prog X.w X.K tg J fp it tn->Inv (cxC X scope cl N' pins ex s3 H3) [] σ H s->tn 0 s.heap->(∀b∈fp,Bp (cxC X scope cl N' pins ex s3 H3) [] H b)->lp D J σ H Q ->
   (∀s' σ' H',Inv (cxC X scope cl N' pins ex s3 H3) [] σ' H' s'->Q σ' H'->R (.ok .next) s') ->
   codeAny (model X.prog X.w) X.A (.compLoop e 0 (.ref it) (.ref D) (compEnvC scope cl s3.heap.objs.size X.env)) R s)
  (hun:∀it D env,X.A.under (.compStart e 0 (.ref it) (.ref D) env)=X.A) (hden:∀it D env,(model X.prog X.w).den (.compStart e 0 (.ref it) (.ref D) env) =(compStart e 0 (.ref it) (.ref D) env).onRaise (fun x=>do noteFrame x env;standAt theWindowsPlace))
  (hev:∀E Q s,wpAny (model X.prog X.w) X.A (comprehension e scope X.env p2 newAcc false (eval iter X.env)) Q E s->wpAny (model X.prog X.w) X.A (eval e X.env) Q E s) :
  PE X e (Bx wi o cap lp):=by
 intro pins s σ H Q I h;refine hev _ _ _ (GY (use:=none) hcl hs S.clos S.kind S.loc (thn (hi pins s σ H _ I h) fun v s1 h1=>thn h1 fun itv s2 h2=>?_));obtain⟨it,fp,tn,J,H2,eit,I2,T,st2,f2,R2⟩:=h2;subst eit;refine hnew pins s2 σ H2 _ _ I2 fun s3 I3 k3=>?_;have hD:H2 s2.heap.objs.size=none:=I2.hok.fresh (Nat.le_refl _);have fok:∀b∈fp,Bp X pins (upd H2 s2.heap.objs.size (o s2.heap.objs.size)) b/\∃ob,s3.heap.get? b=some ob:=fun b hb=>by
  obtain⟨ob,e,_⟩:=T.obj _ _ st2 b hb;obtain⟨f0,fr⟩:=f2 b hb;exact⟨⟨by rw[B6 (AX (AL e))];exact f0,fr⟩,ob,k3 b ob e⟩
 refine wpAny_newFunctionEnv S.nocell (by intro y hy;simp at hy) (fun h1 hns hsb=>?_) S.kind;have hk:∀b ob,s3.heap.get? b=some ob->h1.get? b=some ob:=fun b ob e=>(hsb.2 b (AX (AL e))).trans (AC _ e);have I4:Inv (cxC X scope cl N' pins fp s3 (upd H2 s2.heap.objs.size (o s2.heap.objs.size))) [] (Ma cap σ) (upd H2 s2.heap.objs.size (o s2.heap.objs.size)) { s3 with heap:=h1,toks:=s3.toks +([]:List (Str×Value)).length } :=
  I3.block S hc fok hns hk
 have st4:tn 0 h1:=T.keep 0 _ _ st2 fun b hb ob e=>hk b ob (k3 b ob e);refine U6 (X:=cxC X scope cl N' pins fp s3 (upd H2 s2.heap.objs.size (o s2.heap.objs.size))) (gs:=⟨tg,iter,ifs,0⟩::gs) (e:=e) (d:=0) (tg:=tg) (iter:=iter) (ifs:=ifs) (hun _ _ _) (hden _ _ _) hcl rfl T st4 ?_;refine hlp pins fp s3 _ s2.heap.objs.size it fp tn J (Ma cap σ) _ _ _ _ T I4 st4 (fun b hb=>?_) (R2 _ hD) fun s' σ' H' I' q'=>?_
 .obtain⟨⟨f0,f1,f2',f3,f4,f5⟩,ob,eo⟩:=fok b hb;refine⟨f0,AX (AL eo),fun hf=>?_,.inl hb,fun x c e=>f4 x c (S.cin.get e),fun p hp=>f5 p (by simpa [cxC] using hp)⟩;rcases A_.mp (I3.stkSub b hf)with z | z
  .exact f1 z
  .exact f2' z
 .obtain⟨m,hn,_⟩:=I'.loc;exact⟨m,hn,fun h' hb=>⟨.ref _,H',I3.unblock (fun b hb=>(fok b hb).1) I' hb,rfl,q'⟩⟩
end
section
variable{X:Cx}{tg iter elt:Expr}{ifs:List Expr}{g:TG}{tc:TT}{te:TE}{scope:Scope}{cl:List (Str×Addr)}{N':List Str}{cap:List (Option Nat)}{pos:Pos}{wi:TI}
def R0(D:Addr)(te:TE):TEm:=fun σ H Q=>te σ H fun y H1=>∃ys,H1 D=some (.lst ys)/\ys.length<sizeLine/\Q σ (upd H1 D (.lst (ys ++ [y])))
theorem Cc{α:Type}{X:Cx}(hxe:X.xe=fun _ _=>False){m:Sem α}{P:α->Shared->Prop}{E:Value->Shared->Prop}{s:Shared}(q:wpAny (model X.prog X.w) X.A m P X.xe s):wpAny (model X.prog X.w) X.A m P E s:=by
 rw[hxe]at q;exact CD q (fun _ _ z=>z) fun _ _ z=>z.elim
theorem Dr{D:Addr}(hxe:X.xe=fun _ _=>False)(he:PE X elt te):PEm X (emL elt (.ref D) X.env) (R0 D te):=by
 intro pins s σ H Q k F E I h hk;unfold emL;refine AB (AB (CD (Cc hxe (he pins s σ H _ I h)) (fun u s1 ⟨y,H1,I1,r1,ys,e1,z1,q1⟩=>?_) fun _ _ z=>z));refine AB (CD (Cc hxe (J8 pins s1 σ H1 (.ref D) [y] (.ref D) [u] (fun v H2=>v = .non/\Q σ H2) I1 rfl (.cons r1 .nil) ⟨D,ys,y,rfl,rfl,e1,z1,rfl,q1⟩)) (fun v s2 ⟨y2,H2,I2,r2,_,q2⟩=>?_) fun _ _ z=>z);exact AD (hk s2 σ H2 I2 q2)
theorem J7(S:CScope X scope cl N' cap)(hc:X.calm=true)(hi:PI X tg iter wi)
  (hb:∀(pins:List (Addr×Obj)) (ex:List Addr) (s3:Shared) (H3:Hp),PG (cxC X scope cl N' pins ex s3 H3) tg g/\PTs (cxC X scope cl N' pins ex s3 H3) ifs tc/\PE (cxC X scope cl N' pins ex s3 H3) elt te)
  (hs:∀x,foldedSetIterable iter X.env x=pure x:=by intro _;rfl) :
  PE X (.ListComp elt [⟨tg,iter,ifs,0⟩] scope pos) (Bx wi (fun _=>.lst []) cap fun D J σ H Q=>V0 g tc (R0 D te) J σ H Q):=by
 refine Dh (newAcc:=newList []) (p2:=firstIterPos [⟨tg,iter,ifs,0⟩] pos) rfl (fun _=>.lst []) hs S hc hi (fun pins s σ H Q E I h=>?_) (fun pins ex s3 H3 D it fp tn J σ s H Q R T I st hf h hR=>?_) (fun _ _ _=>rfl) (fun _ _ _=>rfl) (fun E Q s h=>h)
 .refine GC ?_;exact h _ (I.lnew (t':=s.toks) (its:=[]) .nil (CC _)) fun b ob e=>AC _ e
 .obtain⟨b1,b2,b3⟩:=hb pins ex s3 H3;exact Q6 (X:=cxC X scope cl N' pins ex s3 H3) rfl rfl hc rfl (i7 elt tg iter ifs scope pos _ _ _) b1 b2 (Dr rfl b3) T I st hf h hR
def Jg(D:Addr)(tk tv:TE):TEm:=fun σ H Q=>tk σ H fun y H1=>tv σ H1 fun v H2=>∃kvs k,H2 D=some (.dK kvs)/\y=kV k/\kvs.length<sizeLine/\Q σ (upd H2 D (.dK (An kvs k v)))
theorem Uz{D:Addr}{a b:Expr}{ta tb:TE}(hxe:X.xe=fun _ _=>False)(ha:PE X a ta)(hb:PE X b tb):PEm X (emD a b D X.env) (Jg D ta tb):=by
 intro pins s σ H Q k F E I h hk;unfold emD;refine AB (AB (CD (Cc hxe (ha pins s σ H _ I h)) (fun u s1 ⟨y,H1,I1,r1,q1⟩=>?_) fun _ _ z=>z));refine AB (CF (CD (Cc hxe (hb pins s1 σ H1 _ I1 q1)) (fun r s2 ⟨v,H2,I2,rv,kvs,kk,e,ey,l,q2⟩=>?_) fun _ _ z=>z));refine AB (FN (CF ?_));subst ey;obtain⟨z,hd,vs,rel,dd⟩:=Rw I2.hok e;have hz:vs.length<=sizeLine:=by rw[<-rel.length];exact z
 have hl:(An kvs kk v).length<=sizeLine:=by have:=V6 kvs kk v;omega
 refine wpAny_dictSet_pairs (hsz:=hz) (Gw r1) dd fun h' dd' hs=>?_;have he:∃q,h'.get? D=some q:=let⟨q,_,_,hq,_⟩:=dd';⟨q,hq⟩;exact hk _ σ _ (Ub (t':=s2.toks+1) I2 (by rw[e];exact True.intro) hs he (Mw hl hd (rel.put kk rv) dd')) q2
theorem En{a b:Expr}{ta tb:TE}(S:CScope X scope cl N' cap)(hc:X.calm=true)(hi:PI X tg iter wi)
  (hb:∀(pins:List (Addr×Obj)) (ex:List Addr) (s3:Shared) (H3:Hp),PG (cxC X scope cl N' pins ex s3 H3) tg g/\PTs (cxC X scope cl N' pins ex s3 H3) ifs tc/\PE (cxC X scope cl N' pins ex s3 H3) a ta/\PE (cxC X scope cl N' pins ex s3 H3) b tb)
  (hs:∀x,foldedSetIterable iter X.env x=pure x:=by intro _;rfl) :
  PE X (.DictComp a b [⟨tg,iter,ifs,0⟩] scope pos) (Bx wi (fun _=>.dK []) cap fun D J σ H Q=>V0 g tc (Jg D ta tb) J σ H Q):=by
 refine Dh (newAcc:=newDict) (p2:=firstIterPos [⟨tg,iter,ifs,0⟩] pos) rfl (fun _=>.dK []) hs S hc hi (fun pins s σ H Q E I h=>?_) (fun pins ex s3 H3 D it fp tn J σ s H Q R T I st hf h hR=>?_) (fun _ _ _=>rfl) (fun _ _ _=>rfl) (fun E Q s h=>h)
 .refine CY ?_;exact h _ (I.laid (a:=s.heap.objs.size) (o:=.dK []) (t':=s.toks) (fun _ _ q=>AC _ q) (Nat.le_refl _) (Lf s.heap I.big)) fun b ob e=>AC _ e
 .obtain⟨b1,b2,b3,b4⟩:=hb pins ex s3 H3;exact Q6 (X:=cxC X scope cl N' pins ex s3 H3) rfl rfl hc rfl (Ou a b tg iter ifs scope pos _ _ _) b1 b2 (Uz rfl b3 b4) T I st hf h hR
end
instance:LawfulBEq Key where
 rfl {a}:=by cases a with
  | inl i=>show(i == i)=true;simp
  | inr x=>show(x == x)=true;simp
 eq_of_beq {a b} h:=by
  cases a with
  | inl i=>cases b with
   | inl j=>exact congrArg Sum.inl (eq_of_beq (show(i == j)=true from h))
   | inr j=>exact absurd h (by intro z;cases z)
  | inr i=>cases b with
   | inl j=>exact absurd h (by intro z;cases z)
   | inr j=>exact congrArg Sum.inr (eq_of_beq (show(i == j)=true from h))
def Oy(P:Program)(w:World)(a:Addr)(l:List Key):HO:=.ext fun h=>h.SetOf (C0 P w) a (fun k=>decide (k∈l)) l.length
section
variable{X:Cx}{pins:List (Addr×Obj)}{σ:St}{H:Hp}{s:Shared}{a:Addr}{l:List Key}
theorem zDi{P:Program}{w:World}{H:Hp}{h:Heap}(z:h.SetOf (C0 P w) a (fun k=>decide (k∈l)) l.length):ObjOk P w H h a (Oy P w a l) :=
 ⟨z,let⟨o,_,_,_,e,_⟩:=z;⟨o,e⟩,fun h1 h2 ⟨o,es,ep,t,e,r⟩ k=>⟨o,es,ep,t,k o e,r⟩⟩
theorem Inv.set(I:Inv X pins σ H s)(e:H a=some (Oy X.prog X.w a l)):s.heap.SetOf (C0 X.prog X.w) a (fun k=>decide (k∈l)) l.length:=by
 obtain⟨z,_⟩:=(show ObjOk X.prog X.w H s.heap a (Oy X.prog X.w a l)from I.hok a _ e);exact z
theorem Lj{k:Key}{u:Value}(r:RelV (kV k) u):u.scannable=true:=by
 cases k with
 | inl i=>obtain⟨t,rfl⟩:=r;rfl
 | inr x=>obtain⟨t,rfl⟩:=r;rfl
def zFm(l:List Key)(k:Key):List Key:=if k∈l then l else l ++ [k]
theorem Kd{P:Program}{w:World}{h:Heap}{S S':Key->Bool}{n n':Nat}(z:h.SetOf (C0 P w) a S n)(e:∀k,S' k=S k)(en:n'=n):h.SetOf (C0 P w) a S' n':=by
 have:S'=S:=funext e;subst this;subst en;exact z
theorem Qr:G6 X (.type "set") (fun xs H Q=>xs = []/\∀p,H p=none->Q (.ref p) (upd H p (Oy X.prog X.w p []))):=by
 intro pins s σ H xs us Q I r h;obtain⟨rfl,q⟩:=h;cases r;refine call_set_0 fun led=>⟨.ref s.heap.objs.size,_,I.laid (t':=s.toks) (fun b o e=>AC _ e) (Nat.le_refl _) (zDi ?_),rfl,q _ (I.hok.fresh (Nat.le_refl _))⟩;exact(setObjOf_fresh led).setOf (BC _ rfl) (by decide)
def zDe(P:Program)(w:World):V->List V->Hp->VK->Prop:=fun x vs H Q=>∃a l k,x = .ref a/\vs = [kV k]/\H a=some (Oy P w a l)/\l.length+1<4096/\Q .non (upd H a (Oy P w a (zFm l k)))
theorem zDh:MtM X "set.add" (zDe X.prog X.w):=by
 intro pins s σ H x vs v us Q I rx rv h;obtain⟨a,l,k,rfl,rfl,hH,hz,q⟩:=h;cases rx;obtain⟨u,rfl,ru⟩:=rv.one;refine call_set_add (Gw ru) (Lj ru) (I.set hH) hz fun h' hs z=>?_;refine⟨.non,_,I.write (x:=a) (e:=a) (t':=s.toks+1) (by rw[hH];exact True.intro) (.inl rfl) (fun b q hb e=>(hs.2 b hb).trans e) (let⟨o,_,_,_,e,_⟩:=z;⟨o,e⟩) (zDi (Kd z (fun k'=>?_) ?_)),rfl,q⟩
 .unfold zFm;by_cases e:k∈l
  .rw[AR e];by_cases ek:k'=k
   .subst ek;simp[e]
   .simp[ek]
  .rw[AM e];simp
 .unfold zFm;by_cases e:k∈l
  .rw[AR e];simp[e]
  .rw[AM e];simp[e]
def zHh(P:Program)(w:World)(neg:Bool):R2:=fun x y H Q=>∃a l k,y = .ref a/\x=kV k/\H a=some (Oy P w a l)/\Q (.bl (if neg then !decide (k∈l)else decide (k∈l))) H
theorem Uf:OpR X (compareOp .In) (zHh X.prog X.w false):=by
 intro pins s σ H x y v u Q I rx ry h;obtain⟨a,l,k,rfl,rfl,hH,q⟩:=h;cases ry;exact wpAny_inSet_of (Gw rx) (Lj rx) (I.set hH) ⟨.bl (decide (k∈l)),H,I.tok _,rfl,q⟩
end
section
variable{X:Cx}{tg iter elt tg2 iter2:Expr}{g g2:TG}{tc tc2:TT}{te:TE}{ifs ifs2:List Expr}{scope:Scope}{cl:List (Str×Addr)}{N':List Str}{cap:List (Option Nat)}{pos:Pos}{wi wi2:TI}
def zFo(wi:TI)(lp:It->St->Hp->(St->Hp->Prop)->Prop):TEm:=fun σ H Q=>wi σ H fun J H1=>lp J σ H1 Q
end
def Its(x:Str):It:=⟨fun i _=>i<x.cps.size,fun i H v H'=>H'=H/\∃c,x.cps[i]?=some c/\v = .str ⟨#[c]⟩,fun i _=>i=x.cps.size⟩
theorem Km{P:Program}{w:World}{K:PySem.W.Frag}{tg:Expr}(it:Addr)(x:Str)(t:Tok)(ty:String)(hty:["enumerate", "zip", "dict_itemiterator", "dict_reverseitemiterator", "odict_iterator", "itertools.zip_longest", "itertools.pairwise"].contains ty=false)
  (W:∀A':Around,A'.handled=none->Walks P w A' it [it] [it] x.cps.size (SignAt x) (fun i h=>h.IsStrIter it ty x t i))
  (hself:∀(A:Around) (i:Nat) (s:Shared) (Q:Value->Shared->Prop) (E:Value->Shared->Prop),s.heap.IsStrIter it ty x t i->Q (.ref it) s->wpAny (model P w) A (pyIter (.ref it)) Q E s):Turn P w K tg (Its x) [it] it (fun i h=>h.IsStrIter it ty x t i) where
 mem:=by simp
 obj:=fun i h st b hb=>by
  have e:b=it:=by simpa using hb
  subst e;obtain⟨o,e,c,d⟩:=st;exact⟨o,e,fun v z=>by rw[d]at z;cases z⟩
 keep:=fun i h h' st k=>let⟨o,e,r⟩:=st;⟨o,k it (by simp) o e,r⟩
 item:=by
  intro X hP hw hK hc i pins s σ H E I hf st hg;subst hP hw hK;obtain⟨f0,f1,f2,f3,f4,f5⟩:=hf it (by simp);refine(W X.A (I.ok.hd hc)).item i s _ _ hg st fun v h' tk hv st' k=>?_;obtain⟨c,u,ec,ev⟩:=hv;have I1:Inv X pins σ H { s with heap:=h',toks:=tk }:=I.turned (fun b o hb e=>k b o (by simpa using hb) e) f0 f1 f3 f4 f5;obtain⟨o,e,c',d⟩:=id st';exact⟨v,rfl,Ni (s:={ s with heap:=h',toks:=tk }) e c' d hty ⟨.str ⟨#[c]⟩,H,I1,⟨u,ev⟩,⟨rfl,c,ec,rfl⟩,st',fun b hb=>(hf b hb).1⟩⟩
 done:=by
  intro X hP hw hK hc i pins s σ H E I hf st hg;subst hP hw hK;obtain⟨f0,f1,f2,f3,f4,f5⟩:=hf it (by simp);have hg':i=x.cps.size:=hg;subst hg';exact(W X.A (I.ok.hd hc)).done s _ _ st fun h' tk k=>⟨rfl,I.turned (fun b o hb e=>k b o (by simpa using hb) e) f0 f1 f3 f4 f5⟩
 self:=fun A i s Q E st h=>hself A i s Q E st h
section
variable{X:Cx}{tg:Expr}
def zHz(te:TE):TI:=fun σ H R=>te σ H fun x H1=>∃z,x = .str z/\R (Its z) H1
theorem zEq{l:Expr}{tl:TE}(hl:PE X l tl):PI X tg l (zHz tl):=by
 intro pins s σ H R I h;refine thn (hl pins s σ H _ I h) fun v s1 ⟨x,H1,I1,r1,q1⟩=>?_;obtain⟨z,e,q⟩:=q1;subst e;obtain⟨t,rfl⟩:=r1;have fin:∀(o:Obj) (ty:String),o.cls = .type ty->o.data = .fields #[.str z t,.int (0:Nat) 0]->o.isFreed=false->Turn X.prog X.w X.K tg (Its z) [s1.heap.objs.size] s1.heap.objs.size (fun i h=>h.IsStrIter s1.heap.objs.size ty z t i) ->
   PIE X pins σ tg R (.ref s1.heap.objs.size) { s1 with heap:=s1.heap.push o }:=fun o ty c d hf T=>by
  refine⟨s1.heap.objs.size,[s1.heap.objs.size],_,_,H1,rfl,I1.kept (t':=s1.toks) fun b o e=>AC _ e,T,⟨o,BC _ hf,c,d⟩,fun b hb=>?_,q⟩;have e:b=s1.heap.objs.size:=by simpa using hb
  subst e;exact I1.fpOk (Nat.le_refl _) (I1.hok.fresh (Nat.le_refl _))
 cases ha:z.cps.all (· < 128)
 .exact wpAny_pyIter_wide ha (fin _ _ rfl rfl rfl (Km _ z t "str_iterator" (by decide) (fun A' hA=>Walks.strWide hA _ z t) fun A i s Q E st h=>wpAny_pyIter_striter_wide st h))
 .exact wpAny_pyIter_ascii ha (fin _ _ rfl rfl rfl (Km _ z t "str_ascii_iterator" (by decide) (fun A' hA=>Walks.strAscii hA _ z t) fun A i s Q E st h=>wpAny_pyIter_striter_ascii st h))
end
section
variable{X:Cx}
theorem Uw(hc:X.calm=true):G6 X (.builtin "all") (fun xs H Q=>∃(p:Addr) (bs:List Bool),xs = [.ref p]/\SqL X.K H p (bs.map V.bl)/\Q (.bl (bs.all id)) H):=by
 intro pins s σ H xs us Q I r h;obtain⟨p,bs,rfl,hq,q⟩:=h;obtain⟨u,rfl,ru⟩:=R4 r;cases ru;obtain⟨its,rv,pl,hz⟩:=I.list hq;refine call_all_walk (GF pl.isList ?_);have hne:p≠s.heap.objs.size:=by
  obtain⟨o,n,e,_⟩:=pl;exact AX (AL e)
 refine⟨s.heap.objs.size,_,_,_,_,_,fun i=>bs.getD i true,rfl,Walks.list (A:=X.A.in1) (show X.A.in1.handled=none from I.ok.hd hc) _ p hne its.toArray,⟨⟨_,BC _ rfl,rfl,rfl⟩,?_⟩,fun i v s' Q' E' hv q'=>?_,fun h' tk k=>?_⟩
 .obtain⟨o,n,e,c,d,e2⟩:=pl;exact⟨o,AC _ e,c,n,e2⟩
 .have hb:(bs.map V.bl)[i]?=some (V.bl (bs.getD i true))/\RelV (V.bl (bs.getD i true)) v:=by
   have hv':its[i]?=some v:=by simpa using hv
   have hi:i<its.length:=(AG.mp hv').1;have hl:=rv.length;rw[AA]at hl;have e:(bs.map V.bl)[i]?=some (V.bl (bs.getD i true)):=by
    rw[AI,AH (by omega)];simp[BZ,AH (show i<bs.length by omega)]
   obtain⟨u,hu,ru⟩:=rv.get e;rw[hv']at hu;cases hu;exact⟨e,ru⟩
  cases hb.2;exact CU q'
 .have hl:=rv.length;rw[AA]at hl;have e:(List.range its.toArray.size).all (fun i=>bs.getD i true)=bs.all id:=by
   rw[AW,<-hl];rw[CV,BU,BU];constructor
   .intro z b hb;obtain⟨i,hi,rfl⟩:=FI.mp hb;have:=z i (B_.mpr hi);simpa [BZ,AH hi] using this
   .intro z i hi;have hi':=B_.mp hi;have:=z bs[i] (FV hi');simpa [BZ,AH hi'] using this
  rw[e];exact⟨.bl (bs.all id),H,I.kept fun b o eb=>k b o (by
   intro hb;have:b=s.heap.objs.size:=by simpa using hb
   exact absurd (AL eb) (by rw[this];exact CQ _)) (AC _ eb),rfl,q⟩
theorem j9:∀{ss:List Str} {us:List Value},Vals (ss.map V.str) us->StrsAre us ss
 | [],_,.nil=>.nil
 | _::_,_,.cons ⟨t,e⟩ r=>by subst e;exact .cons _ _ (j9 r)
def leS(a b:Str):Prop:=¬b.cps.toList<a.cps.toList
theorem l9:G6 X (.builtin "sorted") (fun xs H Q=>∃(p:Addr) (ss:List Str),xs = [.ref p]/\SqL X.K H p (ss.map V.str)/\∀(l:Addr) (ss':List Str),H l=none->ss'.Perm ss->ss'.Pairwise leS->Q (.ref l) (upd H l (.lst (ss'.map V.str)))):=by
 intro pins s σ H xs us Q I r h;obtain⟨p,ss,rfl,hq,q⟩:=h;obtain⟨u,rfl,ru⟩:=R4 r;cases ru;obtain⟨its,rv,pl,hz⟩:=I.list hq;have hS:=j9 rv;have hl:=rv.length;refine TS.sorted_gen (collect_list (vs:=its) pl.isList ?_ (by omega));refine⟨rfl,by omega,strKind,oneType',fun s2 _=>TS.keys_strs hS,fun out h' e ho k hg=>?_⟩;have hsz:((s.heap.push (seqObj "list" #[] 0)).update s.heap.objs.size (Obj.mapSeq (· ++ its.toArray))).objs.size=s.heap.objs.size+1:=by rw[EC,size_push']
 obtain⟨hp,hs⟩:=ho;have hm:∀v∈out.toList,∃x t,v = .str x t:=fun v hv=>hS.all v (hp.mem_iff.mp hv);have hv:Vals ((out.toList.map strOf).map V.str) out.toList:=by
  have:∀us:List Value,(∀v∈us,∃x t,v = .str x t)->Vals ((us.map strOf).map V.str) us:=by
   intro us
   induction us with
   | nil=>exact fun _=>.nil
   | cons v r ih =>
    intro h;obtain⟨x,t,rfl⟩:=h v (BE ..);exact .cons ⟨t,rfl⟩ (ih fun u hu=>h u (AU _ hu))
  exact this _ hm
 have hperm:(out.toList.map strOf).Perm ss:=by
  have:=hp.map strOf
  rwa [hS.strs]at this
 have hpw:(out.toList.map strOf).Pairwise leS:=by
  rw[BW];refine(DY.mp hs).imp fun{u v} ⟨hu,hv',q⟩=>?_;obtain⟨x,t,rfl⟩:=hm u hu;obtain⟨y,t',rfl⟩:=hm v hv';have q':decide (y.cps.toList<x.cps.toList)=false:=q;exact of_decide_eq_false q'
 have hk0:∀b o,s.heap.get? b=some o->h'.get? b=some o:=fun b o eb=>k b o (by
  rw[GT _ _ _ _ (AX (AL eb))];exact AC _ eb)
 have hn:H (s.heap.objs.size+1)=none:=I.hok.fresh (DE _);have hg':h'.get? (s.heap.objs.size+1)=some (seqObj "list" out e):=by rw[<-hsz];exact hg
 refine⟨.ref (s.heap.objs.size+1),upd H (s.heap.objs.size+1) (.lst ((out.toList.map strOf).map V.str)),?_,by show Value.ref _=_;rw[<-hsz],q _ _ hn hperm hpw⟩;refine I.laid (t':=s.toks) hk0 (DE _) ⟨?_,out.toList,e,hv,by simpa using hg'⟩;rw[AA,AA,hp.length_eq];omega
end
theorem U1{α β:Type}(f:α->β){l m:List β}(h:l.Perm m):∀ps:List α,m=ps.map f->∃ps':List α,ps'.Perm ps/\l=ps'.map f:=by
 induction h with
 | nil=>intro ps e;exact⟨ps,.refl _,e⟩
 | cons x _ ih =>
  intro ps e;cases ps with
  | nil=>cases e
  | cons p ps =>
   rw[BA]at e;obtain⟨rfl,e2⟩:=HX e;obtain⟨ps',h1,h2⟩:=ih ps e2;exact⟨p::ps',.cons _ h1,by rw[BA,h2]⟩
 | swap x y l =>
  intro ps e
  match ps,e with
  | p::q::ps,e =>
   rw[BA,BA]at e;obtain⟨rfl,e2⟩:=HX e;obtain⟨rfl,e3⟩:=HX e2;exact⟨q::p::ps,.swap _ _ _,by rw[BA,BA,e3]⟩
 | trans _ _ ih1 ih2 =>
  intro ps e;obtain⟨ps1,h1,h2⟩:=ih2 ps e;obtain⟨ps2,h3,h4⟩:=ih1 ps1 h2;exact⟨ps2,h3.trans h1,h4⟩
abbrev PA2:=Addr×Str×Str
def Ow(q:PA2):List Nat×List Nat:=(q.2.1.cps.toList,q.2.2.cps.toList)
def leP(q r:PA2):Prop:=TS.pairLt (Ow r) (Ow q)=false
def G9(H:Hp)(q:PA2):Prop:=H q.1=some (.tup [.str q.2.1,.str q.2.2])
theorem Bh:∀{ps:List PA2} {us:List Value},Vals (ps.map fun q=>V.ref q.1) us->us=ps.map fun q=>Value.ref q.1
 | [],_,.nil=>rfl
 | _::_,_,.cons r t=>by rw[BA,Bh t];cases r;rfl
theorem Gu:∀(ps:List PA2),Vals (ps.map fun q=>V.ref q.1) (ps.map fun q=>Value.ref q.1)
 | []=>.nil
 | _::ps=>.cons rfl (Gu ps)
section
variable{X:Cx}
theorem Inv.pairAt{pins:List (Addr×Obj)}{σ:St}{H:Hp}{s:Shared}{q:PA2}(I:Inv X pins σ H s)(h:G9 H q):TS.PairAt s.heap (.ref q.1) q.2.1 q.2.2:=by
 obtain⟨its,rv,⟨o,e,c,n,d⟩,_⟩:=I.tuple (SqT.of h);obtain⟨u1,u2,rfl,⟨t,rfl⟩,⟨t',rfl⟩⟩:=rv.two;exact⟨q.1,o,n,t,t',rfl,e,c,d⟩
theorem Gr:G6 X (.builtin "sorted") (fun xs H Q=>∃(p:Addr) (ps:List PA2),xs = [.ref p]/\SqL X.K H p (ps.map fun q=>V.ref q.1)/\(∀q∈ps,G9 H q) /\
  ∀(l:Addr) (ps':List PA2),H l=none->ps'.Perm ps->ps'.Pairwise leP->Q (.ref l) (upd H l (.lst (ps'.map fun q=>V.ref q.1)))):=by
 intro pins s σ H xs us Q I r h;obtain⟨p,ps,rfl,hq,hpi,q⟩:=h;obtain⟨u,rfl,ru⟩:=R4 r;cases ru;obtain⟨its,rv,pl,hz⟩:=I.list hq;have ei:=Bh rv;have hl:=rv.length;refine TS.sorted_gen (collect_list (vs:=its) pl.isList ?_ (by omega));have hsz:((s.heap.push (seqObj "list" #[] 0)).update s.heap.objs.size (Obj.mapSeq (· ++ its.toArray))).objs.size=s.heap.objs.size+1:=by rw[EC,size_push']
 have hk1:∀b o,s.heap.get? b=some o->((s.heap.push (seqObj "list" #[] 0)).update s.heap.objs.size (Obj.mapSeq (· ++ its.toArray))).get? b=some o:=fun b o eb=>by
  rw[GT _ _ _ _ (AX (AL eb))];exact AC _ eb
 have hpa:∀q∈ps,TS.PairAt s.heap (.ref q.1) q.2.1 q.2.2:=fun q hq=>I.pairAt (hpi q hq);refine⟨rfl,by omega,TS.pairKind s.heap,tuples' true,fun s2 hE=>TS.keys_pairs (fun v hv=>?_) (fun b o eb=>?_),fun out h' e ho k hg=>?_⟩
 .rw[ei]at hv;obtain⟨q,hq,rfl⟩:=AE.mp hv;exact⟨_,_,hpa q hq⟩
 .have hne:b≠((s.heap.push (seqObj "list" #[] 0)).update s.heap.objs.size (Obj.mapSeq (· ++ its.toArray))).objs.size:=by
   rw[hsz];exact AX (DD (AL eb))
  exact⟨hne,hE b o hne (hk1 b o eb)⟩
 .obtain⟨hp,hs⟩:=ho;rw[ei]at hp;obtain⟨ps',h1,h2⟩:=U1 (fun q:PA2=>Value.ref q.1) hp ps rfl;have hpw:ps'.Pairwise leP:=by
   rw[h2,BW]at hs;refine(DY.mp hs).imp fun{a b} ⟨ha,hb,z⟩=>?_;have ka:=(hpa a (h1.mem_iff.mp ha)).key;have kb:=(hpa b (h1.mem_iff.mp hb)).key;have z':TS.pairLt ((TS.pairOf s.heap (.ref b.1)).getD ([],[])) ((TS.pairOf s.heap (.ref a.1)).getD ([],[]))=false:=z;rw[ka,kb]at z';exact z'
  have hn:H (s.heap.objs.size+1)=none:=I.hok.fresh (DE _);have hg':h'.get? (s.heap.objs.size+1)=some (seqObj "list" out e):=by rw[<-hsz];exact hg
  refine⟨.ref (s.heap.objs.size+1),upd H (s.heap.objs.size+1) (.lst (ps'.map fun q=>V.ref q.1)),?_,by show Value.ref _=_;rw[<-hsz],q _ _ hn h1 hpw⟩;refine I.laid (t':=s.toks) (fun b o eb=>k b o (hk1 b o eb)) (DE _) ⟨?_,out.toList,e,by rw[h2];exact Gu ps',by simpa using hg'⟩;rw[AA,h1.length_eq];rw[AA]at hz;exact hz
end
theorem Inv.turnLaid{X:Cx}{pins:List (Addr×Obj)}{σ:St}{H:Hp}{s:Shared}{h':Heap}{t':Nat}{fp:List Addr}{T:Addr}{o:HO}(I:Inv X pins σ H s)(k:∀b ob,b∉fp->s.heap.get? b=some ob->h'.get? b=some ob)
  (hf:∀b∈fp,Bp X pins H b) (hfo:∀b∈fp,∃ob,s.heap.get? b=some ob) (hT:s.heap.objs.size<=T) (new:ObjOk X.prog X.w (upd H T o) h' T o):Inv X pins σ (upd H T o) { s with heap:=h',toks:=t' }:=by
 have hn:=I.hok.fresh hT;have nT:∀b ob,s.heap.get? b=some ob->b≠T:=fun b ob e=>AX (BJ (AL e) hT);have nf:∀b u,H b=some u->b∉fp:=fun b u e hb=>by rw[(hf b hb).1]at e;cases e
 refine I.step (g':=s.gens) (d':=s.drawn) (ch:=fp) (fun b hb=>let⟨_,f1,_,f3,f4,f5⟩:=hf b hb;⟨f3,f1,f4,f5⟩) (fun b ob _ _ hc e _=>k b ob hc e) (fun b ob _ _ hc e _=>⟨ob.slots,k b ob hc e⟩) (fun b ob _ e n=>by rw[B6 (nT b ob e)];exact n)
  (fun b ob hc e=>⟨ob,k b ob hc e⟩) (fun b xs e=>by rw[B6 (B0 e hn)];exact e) (fun b u xs e=>by rw[B6 (B0 e hn)];exact e) (fun b ps e=>⟨#[],by rw[B6 (B0 e hn),e];simp⟩) (fun m hm=>?_) (fun b u e=>?_) I.bare
 .obtain⟨ob,es,ep,ho,r⟩:=hm;exact⟨ob,es,ep,k _ ob (fun hb=>(hf _ hb).2.1 rfl) ho,r⟩
 .by_cases hb:b=T
  .subst hb;rw[A9]at e;cases e;exact new
  .rw[B6 hb]at e;refine(I.hok b u e).stay (fun c v hc q=>k c v ?_ q) (fun c q=>by rw[B6 (B0 q hn)];exact q) fun c xs q=>by rw[B6 (B0 q hn)];exact q
   rcases hc with z | z
   .rw[z];exact nf b u e
   .exact nf c _ z
def Ite(K:PySem.W.Frag)(a:Addr):It :=
 ⟨fun i H=>∃xs x,SqL K H a xs/\xs[i]?=some x,fun i H v H'=>∃T x,v = .ref T/\H T=none/\H'=upd H T (.tup [.int i,x])/\∀xs,SqL K H a xs->xs[i]?=some x,fun i H=>∃xs,SqL K H a xs/\xs.length=i⟩
theorem So{P:Program}{w:World}{K:PySem.W.Frag}{elts:List Expr}{kk:Nat}{tp:Pos}(a it e:Addr)(hei:e≠it):Turn P w K (.Tuple elts kk tp) (Ite K a) [e,it] e (fun i h=>(∃old,IsEnum h e it i old)/\h.IsListIter it a i) where
 mem:=by simp
 obj:=fun i h st b hb=>by
  obtain⟨⟨old,h1⟩,o,h2,c,d⟩:=st;rcases A_.mp hb with rfl | hb
  .exact⟨_,h1,fun v z=>by cases z⟩
  .rw[AF.mp hb];exact⟨o,h2,fun v z=>by rw[d]at z;cases z⟩
 keep:=fun i h h' st k=>⟨let⟨old,h1⟩:=st.1;⟨old,k e (by simp) _ h1⟩,st.2.at fun o x=>k it (by simp) o x⟩
 item:=by
  intro X hP hw hK hc i pins s σ H E I hf st hg;subst hP hw hK;obtain⟨xs,x,hq,hx⟩:=hg;obtain⟨its,rv,p,hz⟩:=I.list hq;obtain⟨u,hu,ru⟩:=rv.get hx;obtain⟨f0,f1,f2,f3,f4,f5⟩:=hf e (by simp);obtain⟨g0,g1,g2,g3,g4,g5⟩:=hf it (by simp);have hae:a≠e:=fun z=>by
   obtain⟨old,h1⟩:=st.1;obtain⟨o,n,e1,c,_⟩:=p;rw[z,h1]at e1;cases e1;exact absurd c (by show ¬Value.type "enumerate" = Value.type "list";decide)
  have hai:a≠it:=fun z=>by
   obtain⟨o2,h2,c2,d2⟩:=st.2;obtain⟨o,n,e1,c,_⟩:=p;rw[z,h2]at e1;cases e1;rw[c2]at c;exact absurd c (by decide)
  have hi:i<its.toArray.size:=by
   rw[AW];exact(AG.mp hu).1
  have W:=WalksT.enumerate (prog:=X.prog) (w:=X.w) (A:=X.A) (I.ok.hd hc) e it a hei hae hai its.toArray;refine W.item i s _ _ hi ⟨st.1,st.2,p.isList⟩ fun T vals h' tk hv hT ht hm k=>?_;obtain⟨t,x',hx',rfl⟩:=hv;have:x'=u:=by
   have:its.toArray[i]?=some u:=by simpa using hu
   rw[this]at hx';exact(BH hx').symm
  subst this;refine⟨.ref T,rfl,W.go elts kk tp i T _ _ _ hm fun h2 st2 k2=>?_⟩;have hTn:H T=none:=I.hok.fresh hT;have hTe:T≠e:=fun z=>W.apart i T h' hm (by simp[z]);have hTi:T≠it:=fun z=>W.apart i T h' hm (by simp[z]);have kk2:∀b o,b≠e->b≠it->s.heap.get? b=some o->h2.get? b=some o:=fun b o b1 b2 eb=>k2 b o (by simp[b1,b2]) (k b o (by simp[b1,b2]) eb);have hT2:h2.IsTuple T #[.int i t,x']:=by
   obtain⟨o,e1,r⟩:=ht;exact⟨o,k2 T o (by simp[hTe,hTi]) e1,r⟩
  refine⟨.ref T,upd H T (.tup [.int i,x]),I.turnLaid (fp:=[e,it]) (fun b o hb eb=>kk2 b o (fun z=>hb (by simp[z])) (fun z=>hb (by simp[z])) eb) hf (fun b hb=>?_) hT ⟨?_,[.int i t,x'],.cons ⟨t,rfl⟩ (.cons ru .nil),hT2⟩,rfl,⟨T,x,rfl,hTn,rfl,fun ys hy=>by rw[I.list_inj hy hq];exact hx⟩,⟨st2.1,st2.2.1⟩,fun b hb=>?_⟩
  .rcases A_.mp hb with rfl | hb
   .obtain⟨old,h1⟩:=st.1;exact⟨_,h1⟩
   .rw[AF.mp hb];obtain⟨o,h1,_⟩:=st.2;exact⟨o,h1⟩
  .show 2<=sizeLine;decide
  .rcases A_.mp hb with rfl | hb
   .rw[B6 (Ne.symm hTe)];exact f0
   .rw[AF.mp hb,B6 (Ne.symm hTi)];exact g0
 done:=by
  intro X hP hw hK hc i pins s σ H E I hf st hg;subst hP hw hK;obtain⟨xs,hq,hx⟩:=hg;obtain⟨its,rv,p,hz⟩:=I.list hq;obtain⟨f0,f1,f2,f3,f4,f5⟩:=hf e (by simp);obtain⟨g0,g1,g2,g3,g4,g5⟩:=hf it (by simp);have hae:a≠e:=fun z=>by
   obtain⟨old,h1⟩:=st.1;obtain⟨o,n,e1,c,_⟩:=p;rw[z,h1]at e1;cases e1;exact absurd c (by show ¬Value.type "enumerate" = Value.type "list";decide)
  have hai:a≠it:=fun z=>by
   obtain⟨o2,h2,c2,d2⟩:=st.2;obtain⟨o,n,e1,c,_⟩:=p;rw[z,h2]at e1;cases e1;rw[c2]at c;exact absurd c (by decide)
  have W:=WalksT.enumerate (prog:=X.prog) (w:=X.w) (A:=X.A) (I.ok.hd hc) e it a hei hae hai its.toArray;have hl:=rv.length;have hi:i=its.toArray.size:=by rw[AW];omega
  rw[hi]at st;refine W.done s _ _ ⟨st.1,st.2,p.isList⟩ fun h' tk k=>⟨rfl,?_⟩;have I1:=I.step (h':=h') (H':=H) (t':=tk) (g':=s.gens) (d':=s.drawn) (ch:=[e,it]) (fun b hb=>let⟨_,f1,_,f3,f4,f5⟩:=hf b hb;⟨f3,f1,f4,f5⟩) (fun b ob _ _ hc e _=>k b ob hc e) (fun b ob _ _ hc e _=>⟨ob.slots,k b ob hc e⟩) (fun _ _ _ _ n=>n)
   (fun b ob hc e=>⟨ob,k b ob hc e⟩) (fun _ _ e=>e) (fun _ _ _ e=>e) (fun b ps e=>⟨#[],by rw[e];simp⟩) (fun m hm=>?_) (fun b u eb=>?_) I.bare
  .exact I1
  .obtain⟨ob,es,ep,ho,r⟩:=hm;exact⟨ob,es,ep,k _ ob (fun hb=>(hf _ hb).2.1 rfl) ho,r⟩
  .have nf:∀b u,H b=some u->b∉[e,it]:=fun b u e hb=>by rw[(hf b hb).1]at e;cases e
   refine(I.hok b u eb).stay (fun c v hc q=>k c v ?_ q) (fun _ q=>q) fun _ _ q=>q;rcases hc with z | z
   .rw[z];exact nf b u eb
   .exact nf c _ z
 self:=fun A i s Q E st h=>by
  obtain⟨old,he⟩:=st.1;exact wpAny_pyIter_enum he h
section
variable{X:Cx}{elts:List Expr}{kk:Nat}{tp:Pos}
def zCb(K:PySem.W.Frag)(ta:TA):TI:=fun σ H R=>ta σ H fun vs H1=>∃a xs,vs = [.ref a]/\SqL K H1 a xs/\R (Ite K a) H1
theorem Zh{a:Expr}{ta:TA}{p pos:Pos}(hg:Gl X "enumerate")(hm:X.mg "enumerate" = none)(hv:bootBuiltins "enumerate" = some (.type "enumerate"))(ha:PA X [a] ta)(hs:starEach [a] X.env = [(false,eval a X.env)]:=by rfl):PI X (.Tuple elts kk tp) (.Call (.Name "enumerate" p) [a] [] pos) (zCb X.K ta):=by
 intro pins s σ H R I h;refine Call_ (Cd I hg hm hv (PyProof.Rows.callWith_type1 (thn (ha pos pins s σ H _ I h) fun us s1 ⟨vs,H1,I1,r1,q1⟩=>?_) hs rfl));obtain⟨l,xs,e,hq,q⟩:=q1;subst e;obtain⟨u,rfl,ru⟩:=R4 r1;cases ru;obtain⟨its,rv,pl,hz⟩:=I1.list hq;refine call_enumerate_list pl.isList fun h' he hit hsz k=>wpAny_pyIter_enum he ?_;have I2:Inv X pins σ H1 { s1 with heap:=h' }:=I1.kept (t':=s1.toks) k;refine⟨s1.heap.objs.size+1,[s1.heap.objs.size+1,s1.heap.objs.size],_,_,H1,rfl,I2,So l s1.heap.objs.size (s1.heap.objs.size+1) (Nat.succ_ne_self _),⟨⟨_,he⟩,hit⟩,fun b hb=>?_,q⟩;rcases A_.mp hb with z | hb
 .rw[z];exact I1.fpOk (DE _) (I1.hok.fresh (DE _))
 .rw[AF.mp hb];exact I1.fpOk (Nat.le_refl _) (I1.hok.fresh (Nat.le_refl _))
end
end L2
namespace ST
open PySem
def stp(mask i:Nat):Nat:=(5*i+1) %(mask+1)
def itr(mask:Nat):Nat->Nat->Nat
 | 0,i=>i
 | t+1,i=>itr mask t (stp mask i)
def orb(mask:Nat):Nat->Nat->List Nat
 | 0,_=>[]
 | n+1,i=>i::orb mask n (stp mask i)
theorem Kc(mask a b i:Nat):itr mask (a+b) i=itr mask b (itr mask a i):=by
 induction a generalizing i with
 | zero=>rw[D_];rfl
 | succ a ih=>rw[Nat.succ_add];exact ih (stp mask i)
theorem Pu{mask j:Nat}:∀{n i:Nat},j∈orb mask n i->∃t,t<n/\itr mask t i=j
 | 0,_,h=>by simp[orb]at h
 | n+1,i,h=>by
  rcases A_.mp h with rfl | h
  .exact⟨0,by omega,rfl⟩
  .obtain⟨t,h1,h2⟩:=Pu h;exact⟨t+1,by omega,h2⟩
def Msk(mask:Nat):Prop:=mask=7\/mask=31\/mask=127\/mask=511
def full(mask:Nat):Bool:=(List.range (mask+1)).all (fun j=>(orb mask (mask+1) 0).contains j)&&itr mask (mask+1) 0 == 0
theorem zGj:full 7=true:=by decide +kernel
theorem zDp:full 31=true:=by decide +kernel
theorem zBt:full 127=true:=by decide +kernel
theorem zBr:full 511=true:=by decide +kernel
theorem Msk.full{mask:Nat}(h:Msk mask):full mask=true:=by
 rcases h with rfl | rfl | rfl | rfl
 .exact zGj
 .exact zDp
 .exact zBt
 .exact zBr
theorem cyc{mask:Nat}(h:Msk mask){i j:Nat}(hi:i<=mask)(hj:j<=mask):∃t,t<=mask/\itr mask t i=j:=by
 have f:=h.full;unfold ST.full at f;rw[CK,BU]at f;obtain⟨f1,f2⟩:=f;have f2:itr mask (mask+1) 0=0:=by simpa using f2
 have at_:∀k,k<=mask->∃t,t<mask+1/\itr mask t 0=k:=fun k hk=>Pu (by simpa using f1 k (B_.mpr (by omega)));obtain⟨a,ha,ea⟩:=at_ i hi;obtain⟨b,hb,eb⟩:=at_ j hj;by_cases hab:a<=b
 .refine⟨b-a,by omega,?_⟩;rw[<-ea,<-Kc,show a +(b-a)=b by omega,eb]
 .refine⟨mask+1-a+b,by omega,?_⟩;rw[<-ea,<-Kc,show a +(mask+1-a+b) =(mask+1)+b by omega,Kc,f2,eb]
def lps(mask:Nat):Nat->Nat×Nat->Nat×Nat
 | 0,x=>x
 | t+1,x=>lps mask t (SetTable.leap mask x.1 x.2)
theorem Zx(mask a b:Nat)(x:Nat×Nat):lps mask (a+b) x=lps mask b (lps mask a x):=by
 induction a generalizing x with
 | zero=>rw[D_];rfl
 | succ a ih=>rw[Nat.succ_add];exact ih _
theorem Me(mask:Nat):∀(t:Nat) (x:Nat×Nat),(lps mask t x).2=x.2 / 32^t
 | 0,x=>by simp[lps]
 | t+1,x=>by
  show(lps mask t (SetTable.leap mask x.1 x.2)).2=_;rw[Me mask t];show x.2 / 32 / 32^t=_;rw[Nat.div_div_eq_div_mul,Nat.pow_succ,Nat.mul_comm]
theorem Yo(mask:Nat):∀(t:Nat) (x:Nat×Nat),x.1<=mask->(lps mask t x).1<=mask
 | 0,_,h=>h
 | t+1,x,_=>Yo mask t _ (Nat.lt_succ_iff.mp (Nat.mod_lt _ (Nat.succ_pos _)))
theorem Mf(mask:Nat):∀(t i:Nat),lps mask t (i,0) =(itr mask t i,0)
 | 0,_=>rfl
 | t+1,i=>by
  show lps mask t ((i*5+1+0 / 32) %(mask+1),0 / 32)=_;rw[Nat.zero_div,Nat.add_zero,Mf mask t,Nat.mul_comm];rfl
theorem Rx{mask:Nat}(h:Msk mask){i j p:Nat}(hi:i<=mask)(hj:j<=mask)(hp:p<2^64):∃t,t<=mask+13/\(lps mask t (i,p)).1=j:=by
 have e2:(lps mask 13 (i,p)).2=0:=by
  rw[Me];exact Nat.div_eq_of_lt (BJ hp (by decide))
 obtain⟨t,ht,et⟩:=cyc h (Yo mask 13 (i,p) hi) hj;refine⟨13+t,by omega,?_⟩;rw[Zx];have:lps mask 13 (i,p) =((lps mask 13 (i,p)).1,0):=Prod.ext rfl e2;rw[this,Mf];exact et
def adv(t:SetTable):Nat->SetTable.Probe->SetTable.Probe
 | 0,p=>p
 | n+1,p=>adv t n (t.advance p)
theorem Pz(t:SetTable)(a b:Nat)(p:SetTable.Probe):adv t (a+b) p=adv t b (adv t a p):=by
 induction a generalizing p with
 | zero=>rw[D_];rfl
 | succ a ih=>rw[Nat.succ_add];exact ih _
theorem Ry(t:SetTable):∀(m:Nat) (p:SetTable.Probe),p.more=m->∃p',adv t (m+1) p=p'/\p'.i =(SetTable.leap t.mask p.i p.perturb).1/\p'.perturb =(SetTable.leap t.mask p.i p.perturb).2/\p'.j=p'.i/\p'.more=SetTable.runEnd t.mask p'.i-p'.i/\p'.dummy=p.dummy
 | 0,p,h=>by
  have ea:t.advance p ={ p with j:=(SetTable.leap t.mask p.i p.perturb).1,more:=SetTable.runEnd t.mask (SetTable.leap t.mask p.i p.perturb).1-(SetTable.leap t.mask p.i p.perturb).1,i:=(SetTable.leap t.mask p.i p.perturb).1,perturb:=(SetTable.leap t.mask p.i p.perturb).2 }:=by
   unfold SetTable.advance;rw[AM (by omega)]
  refine⟨t.advance p,rfl,?_⟩;rw[ea];exact⟨rfl,rfl,rfl,rfl,rfl⟩
 | m+1,p,h=>by
  have ea:t.advance p ={ p with j:=p.j+1,more:=p.more-1 }:=by unfold SetTable.advance;rw[AR (by omega)]
  obtain⟨p',h1,h2⟩:=Ry t m (t.advance p) (by rw[ea];show p.more-1=m;omega);rw[ea]at h2;exact⟨p',h1,h2⟩
theorem zCf(mask i:Nat):SetTable.runEnd mask i-i<=9:=by unfold SetTable.runEnd;split<;>omega
theorem Qj(t:SetTable):∀(n:Nat) (p:SetTable.Probe),p.j=p.i->p.more=SetTable.runEnd t.mask p.i-p.i->∃k,k<=10*n/\(adv t k p).j =(lps t.mask n (p.i,p.perturb)).1
 | 0,p,h1,_=>⟨0,by omega,h1⟩
 | n+1,p,h1,h2=>by
  obtain⟨p',e,a1,a2,a3,a4,_⟩:=Ry t p.more p rfl;obtain⟨k,hk,ek⟩:=Qj t n p' a3 a4;have:=zCf t.mask p.i;refine⟨p.more+1+k,by omega,?_⟩;rw[Pz,e,ek,a1,a2];rfl
theorem Gg(t:SetTable):∀(n:Nat) (p:SetTable.Probe),(adv t n p).dummy=p.dummy
 | 0,_=>rfl
 | n+1,p=>by
  show(adv t n (t.advance p)).dummy=_;rw[Gg t n];unfold SetTable.advance;split<;>rfl
theorem Sv{t:SetTable}(hm:Msk t.mask)(h:Int){j:Nat}(hj:j<=t.mask):∃n,n<10*SetTable.turns t.mask/\(adv t n (t.probeStart h)).j=j:=by
 have hb:SetTable.bits h<2^64:=by
  unfold SetTable.bits;have h1:0<=h %(2^64:Int):=GB _ (by decide);have h2:h %(2^64:Int)<2^64:=FD _ (by decide);omega
 have hi:SetTable.bits h %(t.mask+1)<=t.mask:=Nat.lt_succ_iff.mp (Nat.mod_lt _ (Nat.succ_pos _));obtain⟨n,hn,en⟩:=Rx hm hi hj hb;obtain⟨k,hk,ek⟩:=Qj t n (t.probeStart h) rfl rfl;refine⟨k,by unfold SetTable.turns;omega,ek.trans en⟩
theorem h8{t:SetTable}(hd:t.dummies = #[])(j:Nat):t.slot j = .empty\/∃i,t.slot j = .live i/\t.place[i]?=some j:=by
 unfold SetTable.slot;dsimp only;by_cases h:(t.place[SetTable.below t.place j]? == some j)=true
 .rw[AR h];exact .inr ⟨_,rfl,by simpa using h⟩
 .rw[AM h];have:SetTable.has t.dummies j=false:=by
   rw[hd];unfold SetTable.has;simp
  rw[this];exact .inl rfl
theorem Nw{t:SetTable}(hd:t.dummies = #[])(hs:t.place.size<=t.mask):∃j,j<=t.mask/\t.slot j = .empty:=by
 by_cases h:∃j,j<=t.mask/\t.slot j = .empty
 .exact h
 .exfalso;have all:∀j∈List.range (t.mask+1),j∈t.place.toList:=fun j hj=>by
   have hj':j<=t.mask:=by have:=B_.mp hj;omega
   rcases h8 hd j with e | ⟨i,_,e⟩
   .exact absurd ⟨j,hj',e⟩ h
   .exact AV (by rw[BQ];exact e)
  have:=(GP (n:=t.mask+1)).length_le_of_subset all;rw[CA,AS]at this;omega
theorem Ye{t:SetTable}(hd:t.dummies = #[])(hashAt:Nat->Int)(h:Int)(p:SetTable.Probe)(hpd:p.dummy=none):∀(k m n fuel:Nat),m+k=n->t.slot (adv t n p).j = .empty->k<fuel ->
  (∃j,SetTable.probe.go t hashAt h fuel (adv t m p)=some (.empty j none)/\t.slot j = .empty) \/
   ∃l i,m<=l/\l<n/\t.slot (adv t l p).j = .live i/\hashAt i=h/\SetTable.probe.go t hashAt h fuel (adv t m p)=some (.candidate (adv t l p).j i (adv t (l+1) p))
 | k,m,n,0,_,_,hf=>absurd hf (HF _)
 | k,m,n,fuel+1,e,he,hf=>by
  have hdm:(adv t m p).dummy=none:=(Gg t m p).trans hpd;have nx:adv t (m+1) p=t.advance (adv t m p):=Pz t m 1 p;rcases h8 hd (adv t m p).j with es | ⟨i,es,ep⟩
  .refine .inl ⟨(adv t m p).j,?_,es⟩;unfold SetTable.probe.go;rw[es,hdm]
  .have hk:k≠0:=by
    rintro rfl;have:m=n:=by omega
    subst this;rw[he]at es;cases es
   by_cases hh:hashAt i=h
   .refine .inr ⟨m,i,Nat.le_refl _,by omega,es,hh,?_⟩;unfold SetTable.probe.go;rw[es];dsimp only;rw[AR (by simpa using hh),nx]
   .have eg:SetTable.probe.go t hashAt h (fuel+1) (adv t m p)=SetTable.probe.go t hashAt h fuel (adv t (m+1) p):=by
     conv=>lhs;unfold SetTable.probe.go
     rw[es];dsimp only;rw[AM (by simpa using hh),nx]
    rcases Ye hd hashAt h p hpd (k-1) (m+1) n fuel (by omega) he (by omega)with⟨j,h1,h2⟩ | ⟨l,i',h1,h2,h3,h4,h5⟩
    .exact .inl ⟨j,eg.trans h1,h2⟩
    .exact .inr ⟨l,i',by omega,h2,h3,h4,eg.trans h5⟩
theorem Dw{α β:Type}{f g:α->Option β}:∀{l:List α},(∀x∈l,f x=g x)->l.filterMap f=l.filterMap g
 | [],_=>rfl
 | a::r,h=>by
  have h1:=h a (BE ..);have h2:=Dw (l:=r) fun x hx=>h x (AU _ hx);rw[EY,EY,h1,h2]
theorem Ya{α:Type}{f g:Nat->Option α}{j:Nat}{k:α}(hg:g j=some k)(hf:f j=none):∀{l:List Nat},l.Nodup->j∈l->(∀i,i≠j->g i=f i)->(l.filterMap g).Perm (k::l.filterMap f)
 | [],_,h,_=>by simp at h
 | i::r,nd,h,he=>by
  obtain⟨n1,n2⟩:=DG.mp nd;by_cases e:i=j
  .subst e;have er:r.filterMap g=r.filterMap f:=Dw fun x hx=>he x fun z=>n1 (z▸hx);rw[ER hg,GZ hf,er]
  .have hr:=Ya hg hf n2 ((A_.mp h).resolve_left fun z=>e z.symm) he;cases ef:f i with
   | none=>rw[GZ ((he i e).trans ef),GZ ef];exact hr
   | some b =>
    rw[ER ((he i e).trans ef),ER ef];exact(List.Perm.cons b hr).trans (List.Perm.swap _ _ _)
def ocs(mask:Nat)(ow:Array (Option Nat)):List Nat:=(List.range (mask+1)).filterMap fun j=>ow.getD j none
structure LI(mask:Nat)(ow:Array (Option Nat))(k:Nat):Prop where
 sz:ow.size=mask+1
 pm:(ocs mask ow).Perm (List.range k)
theorem Tw{mask:Nat}{ow:Array (Option Nat)}{j:Nat}(hj:ow[j]?=some none):∀(t fuel i p:Nat),(lps mask t (i,p)).1=j->t<fuel->∃j',SetTable.layClean.free mask ow fuel i p=some j'/\ow[j']?=some none
 | t,0,_,_,_,h=>absurd h (HF _)
 | t,fuel+1,i,p,e,h=>by
  unfold SetTable.layClean.free;cases q:(List.range (SetTable.runEnd mask i+1-i)).find? fun k=>(ow.getD (i+k) (some 0)).isNone with
  | some k =>
   refine⟨i+k,rfl,?_⟩;have:=List.find?_some q;rw[CP]at this;cases g:ow[i+k]? with
   | none=>rw[g]at this;simp at this
   | some z=>rw[g]at this;simp at this;rw[this]
  | none =>
   dsimp only;cases t with
   | zero =>
    exfalso;have e':i=j:=e;subst e';have hr:0∈List.range (SetTable.runEnd mask i+1-i):=B_.mpr (by unfold SetTable.runEnd;split<;>omega);have:=HG.mp q 0 hr;rw[CP,Nat.add_zero,hj]at this;simp at this
   | succ t=>exact Tw hj t fuel _ _ e (by omega)
theorem LI.room{mask:Nat}{ow:Array (Option Nat)}{k:Nat}(h:LI mask ow k)(hk:k<=mask):∃j,j<=mask/\ow[j]?=some none:=by
 by_cases q:∃j,j<=mask/\ow[j]?=some none
 .exact q
 .exfalso;have all:∀j∈List.range (mask+1),∃v,ow.getD j none=some v:=fun j hj=>by
   have hj':j<ow.size:=by rw[h.sz];exact B_.mp hj
   cases e:ow[j]? with
   | none=>rw[Array.getElem?_eq_none_iff]at e;omega
   | some v =>
    cases v with
    | none=>exact absurd ⟨j,by have:=B_.mp hj;omega,e⟩ q
    | some v=>exact⟨v,by rw[CP,e];rfl⟩
  have hl:∀l:List Nat,(∀j∈l,∃v,ow.getD j none=some v)->(l.filterMap fun j=>ow.getD j none).length=l.length:=by
   intro l
   induction l with
   | nil=>intro _;rfl
   | cons j r ih =>
    intro ha;obtain⟨v,hv⟩:=ha j (BE ..);rw[ER (f:=fun j=>ow.getD j none) hv,BR,BR,ih fun x hx=>ha x (AU _ hx)]
  have:=h.pm.length_eq;unfold ocs at this;rw[hl _ all,CA,CA]at this;omega
theorem LI.put{mask:Nat}{ow:Array (Option Nat)}{k j:Nat}(h:LI mask ow k)(hj:ow[j]?=some none):LI mask (ow.setIfInBounds j (some k)) (k+1):=by
 have hlt:j<ow.size:=by
  obtain⟨h1,_⟩:=DJ.mp hj;exact h1
 refine⟨by rw[GV];exact h.sz,?_⟩;have p:=Ya (f:=fun j=>ow.getD j none) (g:=fun i=>(ow.setIfInBounds j (some k)).getD i none) (j:=j) (k:=k) (by rw[CP,Array.getElem?_setIfInBounds_self_of_lt hlt];rfl) (by rw[CP,hj];rfl)
  (l:=List.range (mask+1)) GP (B_.mpr (by rw[<-h.sz];exact hlt)) fun i hi=>by
   rw[CP,Array.getElem?_setIfInBounds_ne (Ne.symm hi),<-CP]
 have e:List.range (k+1)=List.range k ++ [k]:=EI;refine p.trans ?_;rw[e];exact(List.Perm.cons k h.pm).trans (C_ (l₁:=[k]))
theorem zAm(h:Int):SetTable.bits h<2^64:=by
 unfold SetTable.bits;have h1:0<=h %(2^64:Int):=GB _ (by decide);have h2:h %(2^64:Int)<2^64:=FD _ (by decide);omega
theorem Xy{mask:Nat}(hm:Msk mask):∀(hs:List Int) (ow:Array (Option Nat)) (k:Nat),LI mask ow k->k+hs.length<=mask->∃ow',(hs.foldl (init:=some (ow,k)) fun acc h=>do
   let(owner,k) <-acc
   let j <-SetTable.layClean.free mask owner (SetTable.turns mask) (SetTable.bits h %(mask+1)) (SetTable.bits h)
   pure (owner.setIfInBounds j (some k),k+1))=some (ow',k+hs.length)/\LI mask ow' (k+hs.length)
 | [],ow,k,h,_=>⟨ow,rfl,h⟩
 | x::r,ow,k,h,hk=>by
  rw[BR]at hk;obtain⟨j,hj,ej⟩:=h.room (by omega);obtain⟨t,ht,et⟩:=Rx hm (i:=SetTable.bits x %(mask+1)) (j:=j) (Nat.lt_succ_iff.mp (Nat.mod_lt _ (Nat.succ_pos _))) hj (zAm x);obtain⟨j',h1,h2⟩:=Tw ej t (SetTable.turns mask) _ _ et (by unfold SetTable.turns;omega);obtain⟨ow',h3,h4⟩:=Xy hm r (ow.setIfInBounds j' (some k)) (k+1) (h.put h2) (by omega);refine⟨ow',?_,by rw[BR,show k +(r.length+1)=k+1+r.length by omega];exact h4⟩;rw[List.foldl_cons];show List.foldl _ ((SetTable.layClean.free mask ow (SetTable.turns mask) (SetTable.bits x %(mask+1)) (SetTable.bits x)).bind fun j=>some (ow.setIfInBounds j (some k),k+1)) r=_;rw[h1];show List.foldl _ (some (ow.setIfInBounds j' (some k),k+1)) r=_;rw[BR,show k +(r.length+1)=k+1+r.length by omega];exact h3
theorem Yx{mask:Nat}(hm:Msk mask)(finger moves:Nat)(led plain:Bool)(hs:Array Int)(hn:hs.size<=mask) :
  ∃place order,SetTable.laid mask finger moves led plain hs=some ({ mask,place,dummies:=#[],finger,led,moves,plain },order)/\place.size=hs.size/\order.toList.Perm (List.range hs.size):=by
 have h0:LI mask (Array.replicate (mask+1) none) 0:=by
  refine⟨Array.size_replicate,?_⟩;have:ocs mask (Array.replicate (mask+1) none) = []:=by
   unfold ocs;rw[List.filterMap_eq_nil_iff];intro j hj;rw[CP,Array.getElem?_replicate];split<;>rfl
  rw[this];exact FS _
 obtain⟨ow,h1,h2⟩:=Xy hm hs.toList _ 0 h0 (by rw[AS];omega);rw[D_,AS]at h1 h2;have hc:SetTable.layClean mask hs=some ow:=by
  unfold SetTable.layClean;rw[<-Array.foldl_toList,h1];rfl
 have e2:((List.range (mask+1)).filterMap fun j=>(ow.getD j none).map (j,·)).map (·.2)=ocs mask ow:=by
  unfold ocs;rw[List.map_filterMap];refine Dw fun j _=>?_;cases ow.getD j none<;>rfl
 refine⟨(((List.range (mask+1)).filterMap fun j=>(ow.getD j none).map (j,·)).map (·.1)).toArray,(((List.range (mask+1)).filterMap fun j=>(ow.getD j none).map (j,·)).map (·.2)).toArray,?_,?_,?_⟩
 .unfold SetTable.laid;rw[hc];rfl
 .rw[AW,AA,<-AA (f:=(·.2)),e2,h2.pm.length_eq,CA]
 .show(((List.range (mask+1)).filterMap fun j=>(ow.getD j none).map (j,·)).map (·.2)).Perm _;rw[e2];exact h2.pm
theorem Wc{es:Array (Int×Value)}{order:Array Nat}(h:order.toList.Perm (List.range es.size)):(order.filterMap (es[·]?)).toList.Perm es.toList:=by
 rw[Array.toList_filterMap];refine(h.filterMap _).trans (List.Perm.of_eq ?_);refine FK fun t=>?_;have:(List.range es.size).filterMap (fun x=>es[x]?)=es.toList:=by
  have:∀(l:List (Int×Value)),(List.range l.length).filterMap (fun x=>l[x]?)=l:=by
   intro l
   induction l with
   | nil=>rfl
   | cons a r ih =>
    rw[BR,List.range_succ_eq_map,ER (by rfl:(a::r)[0]?=some a),List.filterMap_map];congr 1
  have q:=this es.toList;rw[AS]at q;simpa using q
 rw[this]
section
variable{prog:Program}{w:World}{K:Type}[DecidableEq K]{knd:KeyKind prog w K}{A:Around}{E:Value->Shared->Prop}{s:Shared}
structure Tab(t:SetTable)(n:Nat):Prop where
 dm:t.dummies = #[]
 pl:t.place.size=n
 mm:Msk t.mask
 rm:n*5<t.mask*3
theorem Tab.fits{t:SetTable}{n:Nat}(h:Tab t n):t.fits n=true:=by
 have:=h.rm;have:=h.pl;unfold SetTable.fits SetTable.fill;rw[h.dm];simp;omega
theorem Tab.odd{t:SetTable}{n:Nat}(h:Tab t n):t.gaveWay=false:=by
 unfold SetTable.gaveWay;rcases h.mm with e | e | e | e<;>rw[e]<;>rfl
def Els(knd:KeyKind prog w K)(es:Array (Int×Value))(ks:List (List K×Addr)):Prop:=es.toList.Perm (ks.map fun q=>((tupleKind knd).hash q.1,Value.ref q.2))
def TSet(knd:KeyKind prog w K)(h:Heap)(a:Addr)(ks:List (List K×Addr)):Prop:=∃o es ep t,h.get? a=some o/\o.ExactSet/\o.data = .set es ep t/\Els knd es ks/\Tab t es.size
theorem Els.get{es:Array (Int×Value)}{ks:List (List K×Addr)}(h:Els knd es ks){i:Nat}{e:Int×Value}(he:es[i]?=some e):∃k p,(k,p)∈ks/\e =((tupleKind knd).hash k,.ref p):=by
 have:e∈es.toList:=AV (by rw[BQ];exact he);obtain⟨q,hq,rfl⟩:=AE.mp (h.mem_iff.mp this);exact⟨q.1,q.2,hq,rfl⟩
theorem Bj{β:Type}{c:β}{f:Value->β->Sem (ForInStep β)}:∀{l:List Value},(∀y∈l,f y c=pure (.yield c))->forIn l c f=pure c
 | [],_=>List.forIn_nil
 | a::r,h=>by
  rw[List.forIn_cons,h a (BE ..),pure_bind];exact Bj fun y hy=>h y (AU _ hy)
theorem Fq{ks:List K}{vs:List Value}(h:ItemsAre knd ks vs):∀v∈vs,∃x,knd.is x v=true:=by
 induction h with
 | nil=>intro v hv;simp at hv
 | cons h1 _ ih =>
  intro v hv;rcases A_.mp hv with rfl | hv
  .exact⟨_,h1⟩
  .exact ih v hv
def Flat(knd:KeyKind prog w K):Prop:=∀v,(∃x,knd.is x v=true)->carriedByValue v=true
theorem Flat.no{v:Value}(hF:Flat knd)(h:∃x,knd.is x v=true)(d:Nat):ofAClassStatement d v=pure false:=by
 have:=hF v h;cases v<;>first
  | (cases d<;>rfl)
  | (exact absurd this (by intro z;cases z))
theorem Yn{k:List K}{p:Addr}{Q:Bool->Shared->Prop}(hF:Flat knd)(hk:(tupleKind knd).is s.heap k p)(h:Q false s):wpAny (model prog w) A (ofAClassStatement 8 (.ref p)) Q E s:=by
 obtain⟨o,items,n,ho,hc,hd,hi⟩:=hk;have hT:s.TypeIs (.ref p) "tuple":=⟨o,ho,hc⟩;unfold ofAClassStatement;refine AB (HM hT ?_);dsimp only;rw[AR (by rfl)];refine AB (AD ?_);simp only[EO,BD,CL];refine AB (wpAny_seqItems ho hd ?_);dsimp only;rw[<-Array.forIn_toList,Bj fun y hy=>by rw[hF.no (Fq hi y hy)];rfl];exact AB (AD (AD h))
theorem zEm{kx:List K}{px:Addr}{Q:Bool->Shared->Prop}(hF:Flat knd)(hx:(tupleKind knd).is s.heap kx px)(h:Q false s){l:List Value}(hl:∀v∈l,∃k p,v = .ref p/\(tupleKind knd).is s.heap k p) :
  wpAny (model prog w) A (searchCouldBeSeen (.ref px) l) Q E s:=by
 unfold searchCouldBeSeen;refine AB (wpAny_forIn_list _ (fun rest c s'=>s'=s/\c =(none,())/\∀v∈rest,v∈l) _ ?_ ?_ l _ ⟨rfl,rfl,fun _ h=>h⟩)
 .rintro v rest c s' ⟨rfl,rfl,hr⟩;obtain⟨k,p,rfl,hk⟩:=hl v (hr v (BE ..));dsimp only;have hc:carriedByValue (Value.ref px)=false:=rfl;rw[hc,DN,Bool.or_false];split
  .exact AD ⟨rfl,rfl,fun u hu=>hr u (AU _ hu)⟩
  .refine AB ((tupleKind knd).quiet hx ?_);simp only[EO,BD,CL];refine AB ((tupleKind knd).quiet hk ?_);simp only[EO,BD,CL];refine AB (Yn hF hx ?_);simp only[BD,CL];refine AB (Yn hF hk ?_);simp only[BD,CL];exact AD ⟨rfl,rfl,fun u hu=>hr u (AU _ hu)⟩
 .rintro c s' ⟨rfl,rfl,_⟩;exact AD h
theorem Xg(t:SetTable):t.sameMemory t.moves t.mask=some true:=by
 unfold SetTable.sameMemory;simp
theorem Kb{a:Addr}{o:Obj}{es:Array (Int×Value)}{ep:Nat}{t:SetTable}{ks:List (List K×Addr)}{kx:List K}{px:Addr}{adding:Bool}{Q:SetFound->Shared->Prop}{n:Nat}
  (hr:(tupleKind knd).room A) (hF:Flat knd) (ho:s.heap.get? a=some o) (hd:o.data = .set es ep t) (hE:Els knd es ks) (hT:Tab t es.size)
  (hks:∀q∈ks,(tupleKind knd).is s.heap q.1 q.2) (hx:(tupleKind knd).is s.heap kx px) (hne:∀q∈ks,q.1≠kx) (hn:n<10*SetTable.turns t.mask)
  (he:t.slot (adv t n (t.probeStart ((tupleKind knd).hash kx))).j = .empty) (h:∀j,t.slot j = .empty->Q (.free j false) s) :
  ∀(k m fuel:Nat) (stand:Option SetTable.Probe),stand.getD (t.probeStart ((tupleKind knd).hash kx))=adv t m (t.probeStart ((tupleKind knd).hash kx))->m+k=n->k<fuel ->
   wpAny (model prog w) A (setSearchFrom a (.ref px) ((tupleKind knd).hash kx) adding fuel stand) Q E s:=by
 intro k
 induction k using Nat.strongRecOn with
 | _ k ih =>
  intro m fuel stand hst hmk hf;cases fuel with
  | zero=>omega
  | succ fuel =>
   unfold setSearchFrom;refine AB (CH ho hd hT.fits ?_);dsimp only;rw[hT.odd];simp only[BD,CL];rw[hst];unfold SetTable.probe;rcases Ye hT.dm _ ((tupleKind knd).hash kx) (t.probeStart ((tupleKind knd).hash kx)) rfl k m n (10*SetTable.turns t.mask) hmk he (by omega)with⟨j,e1,e2⟩ | ⟨l,i,h1,h2,e1,e2,e3⟩
   .rw[e1];dsimp only;exact AD (h j e2)
   .rw[e3];dsimp only;obtain⟨i',hi',hpl⟩:∃i',t.slot (adv t l (t.probeStart ((tupleKind knd).hash kx))).j = .live i'/\t.place[i']?=some (adv t l (t.probeStart ((tupleKind knd).hash kx))).j:=by
     rcases h8 hT.dm (adv t l (t.probeStart ((tupleKind knd).hash kx))).j with z | z
     .rw[z]at e1;cases e1
     .exact z
    rw[e1]at hi';cases hi';have hlt:i<es.size:=by
     have:=(DJ.mp hpl).1;rw[hT.pl]at this;exact this
    obtain⟨ent,hent⟩:∃ent,es[i]?=some ent:=⟨es[i],DJ.mpr ⟨hlt,rfl⟩⟩;obtain⟨k',p',hm',rfl⟩:=hE.get hent;have hseen:∀v∈(es.filter (·.1 ==(tupleKind knd).hash kx)).toList.map (·.2),∃k p,v = .ref p/\(tupleKind knd).is s.heap k p:=by
     intro v hv;obtain⟨z,hz,rfl⟩:=AE.mp hv;have hz':z∈es.toList:=by
      rw[Array.toList_filter]at hz;exact(BF.mp hz).1
     obtain⟨q,hq,rfl⟩:=AE.mp (hE.mem_iff.mp hz');exact⟨q.1,q.2,rfl,hks q hq⟩
    have rest:wpAny (model prog w) A (do
      let some (_,y):=es[i]? | unsupported "internal:set-entry"
      let equal <-holding [y] (eqBool y (.ref px))
      let(es',_,t') <-setState a
      if adding&&equal then return .there none
      let some same:=t'.sameMemory t.moves t.mask | unsupported "set.changed-during-lookup:is-the-new-block-at-the-old-address"
      let still <-match(if same then t'.slot (adv t l (t.probeStart ((tupleKind knd).hash kx))).j else .empty)with
       | .live i'=>match es'[i']? with
        | some (_,y')=>do pure (if <-isSame y' y then some i' else none)
        | none=>pure none
       | _=>pure none
      match still with
      | none=>rule "set.search.anew";setSearchFrom a (.ref px) ((tupleKind knd).hash kx) adding fuel none
      | some i'=>if equal then return .there (some i')else setSearchFrom a (.ref px) ((tupleKind knd).hash kx) adding fuel (some (adv t (l+1) (t.probeStart ((tupleKind knd).hash kx))))) Q E s:=by
     rw[hent];dsimp only;refine AB (CF ((tupleKind knd).eqBool hr (hks _ hm') hx ?_));rw[AQ (hne _ hm')];refine AB (CH ho hd hT.fits ?_);dsimp only;rw[Xg,GI];simp only[BD,CL,EN];rw[e1];dsimp only;rw[hent];dsimp only;refine AB (wpAny_isSame_ref_self (AB (AD ?_)));simp only[EN];exact ih (n-(l+1)) (by omega) (l+1) fuel _ rfl (by omega) (by omega)
    cases hled:t.led with
    | true =>
     simp only[EO,BD,CL];exact rest
    | false =>
     simp only[HN,EN];refine AB (zEm hF hx ?_ hseen);simp only[BD,CL];exact rest
theorem y9{a:Addr}{o:Obj}{es:Array (Int×Value)}{ep:Nat}{t:SetTable}{ks:List (List K×Addr)}{kx:List K}{px:Addr}{adding:Bool}{Q:SetFound->Shared->Prop}
  (hr:(tupleKind knd).room A) (hF:Flat knd) (ho:s.heap.get? a=some o) (hd:o.data = .set es ep t) (hE:Els knd es ks) (hT:Tab t es.size)
  (hks:∀q∈ks,(tupleKind knd).is s.heap q.1 q.2) (hx:(tupleKind knd).is s.heap kx px) (hne:∀q∈ks,q.1≠kx) (h:∀j,t.slot j = .empty->Q (.free j false) s) :
  wpAny (model prog w) A (setSearch a (.ref px) ((tupleKind knd).hash kx) adding) Q E s:=by
 obtain⟨j,hj,hs⟩:=Nw hT.dm (by rw[hT.pl];have:=hT.rm;omega);obtain⟨n,hn,e⟩:=Sv hT.mm ((tupleKind knd).hash kx) hj;unfold setSearch;refine Kb hr hF ho hd hE hT hks hx hne hn (by rw[e];exact hs) h n 0 100000 none rfl (by omega) ?_;have:SetTable.turns t.mask<=526:=by
  unfold SetTable.turns;rcases hT.mm with e | e | e | e<;>omega
 omega
theorem TSet.typeIs{a:Addr}{ks:List (List K×Addr)}(h:TSet knd s.heap a ks):s.TypeIs (.ref a) "set":=let⟨o,_,_,_,ho,hc,_⟩:=h;⟨o,ho,hc.1⟩
theorem Ue{px:Addr}{es:Array (Int×Value)}:byScan (.ref px) es=false:=rfl
theorem Ru{a:Addr}{ks:List (List K×Addr)}{kx:List K}{px:Addr}{Q:Option Nat->Shared->Prop}(hr:(tupleKind knd).room A)(hF:Flat knd)(hS:TSet knd s.heap a ks)
  (hks:∀q∈ks,(tupleKind knd).is s.heap q.1 q.2) (hx:(tupleKind knd).is s.heap kx px) (hne:∀q∈ks,q.1≠kx) (h:Q none s):wpAny (model prog w) A (setFind a (.ref px) ((tupleKind knd).hash kx)) Q E s:=by
 obtain⟨o,es,ep,t,ho,_,hd,hE,hT⟩:=hS;unfold setFind setFindIn;refine AB (CH ho hd hT.fits ?_);dsimp only;rw[Ue];simp only[BD,CL];refine AB (y9 hr hF ho hd hE hT hks hx hne fun j _=>?_);dsimp only;exact AD h
theorem in_free{neg:Bool}{a:Addr}{ks:List (List K×Addr)}{kx:List K}{px:Addr}{Q:Value->Shared->Prop}(hr:A.units+1<cLine)(hF:Flat knd)(hS:TSet knd s.heap a ks)
  (hks:∀q∈ks,(tupleKind knd).is s.heap q.1 q.2) (hx:(tupleKind knd).is s.heap kx px) (hne:∀q∈ks,q.1≠kx) (h:Q (.bool false) { s with toks:=s.toks +(tupleKind knd).draws kx }) :
  wpAny (model prog w) A (compareOp .In (.ref px) (.ref a)) Q E s:=by
 show wpAny _ _ (do return .bool (<-contains (.ref a) (.ref px))) Q E s;refine AB ?_;unfold contains
 try with_reducible refine CF ?_
 refine AB (wpAny_specialOf hS.typeIs F.slot_set_contains.lookup ?_);show wpAny _ _ (if(some (Value.builtin "set.__contains__") == some Value.none)=true then _ else _) _ E s;rw[AM (by rw[beq_builtin_none];exact BG)];refine AB (wpAny_callSpecialUnlessNone?_slot (name:=Str.ofString "__contains__") hS.typeIs F.slot_set_contains
  (DW F.slot_set_contains hS.typeIs entry_set_contains ?_ (F.args_set_contains_2 _ _)))
 unfold Builtin.«frozenset.__contains__» Builtin.Frozenset.oneOther;simp only[List.isEmpty_nil,bind_assoc];unfold Builtin.Frozenset.addrOf Builtin.Frozenset.withSetAsKey setContains;refine AB (AD ?_)
 try dsimp only
 refine AB (AD ?_)
 try dsimp only
 refine AB (wpAny_tryCatch ?_);refine CF ?_;refine AB ((tupleKind knd).pyHash ?hroom hx ?_)
 case hroom=>exact hr
 refine AB (Ru (s:={ s with toks:=s.toks +(tupleKind knd).draws kx }) ?hroom hF hS hks hx hne ?_)
 case hroom=>exact hr
 refine AD ?_;show wpAny _ _ (ret (Value.bool false)) _ _ _;exact AD ⟨_,rfl,CU (AD h)⟩
def Scan(knd:KeyKind prog w K):Prop:=∀v,(∃x,knd.is x v=true)->v.scannable=true
theorem hbv{kx:List K}{px:Addr}{Q:Bool->Shared->Prop}(hB:Scan knd)(hx:(tupleKind knd).is s.heap kx px)(h:∀b,Q b s):wpAny (model prog w) A (hashByValue 8 (.ref px)) Q E s:=by
 obtain⟨o,items,n,ho,hc,hd,hi⟩:=hx;have hT:s.TypeIs (.ref px) "tuple":=⟨o,ho,hc⟩;unfold hashByValue;refine AB (wpAny_specialOf hT F.slot_tuple_hash.lookup ?_);dsimp only;refine AB (wpAny_seqItems ho hd ?_);dsimp only[Option.getD_some];rw[<-Array.forIn_toList];refine AB (CD (wpAny_forIn_list _ (fun rest c s'=>s'=s/\c =(none,())/\∀v∈rest,v∈items.toList) (fun c s'=>s'=s/\(c =(none,())\/c =(some false,()))) ?_ ?_ _ _ ⟨rfl,rfl,fun _ z=>z⟩) ?_ fun _ _ q=>q)
 .rintro v rest c s' ⟨rfl,rfl,hr⟩;rw[hashByValue_scannable _ (hB v (Fq hi v (hr v (BE ..))))];refine AB (AD ?_);cases plainKind v with
  | true =>
   simp only[EO,BD,CL];exact AD ⟨rfl,rfl,fun u hu=>hr u (AU _ hu)⟩
  | false =>
   simp only[HN,EN];exact AD ⟨rfl,.inr rfl⟩
 .rintro c s' ⟨rfl,rfl,_⟩;exact⟨rfl,.inl rfl⟩
 .rintro c s' ⟨rfl,rfl | rfl⟩
  .exact AD (h _)
  .exact AD (h _)
theorem Y5{α:Type}(xs:Array α)(p:Nat)(x:α)(hp:p<=xs.size):(SetTable.insertAt xs p x).size=xs.size+1:=by
 unfold SetTable.insertAt;rw[Array.size_append,Array.size_push,FZ,FZ];omega
theorem Et{α:Type}(xs:Array α)(p:Nat)(x:α)(hp:p<=xs.size):(SetTable.insertAt xs p x).toList.Perm (xs.toList ++ [x]):=by
 unfold SetTable.insertAt;rw[BV,DL,EU,EU];simp only[EJ,ET,Nat.sub_zero];have e:List.take (xs.size-p) (List.drop p xs.toList)=List.drop p xs.toList:=by
  rw[CI];rw[DH,AS];omega
 rw[e];have e2:xs.toList=xs.toList.take p++xs.toList.drop p:=(BX ..).symm
 conv=>rhs;rw[e2]
 rw[BI,BI];exact DA _ C_
theorem V9(xs:Array Nat)(j:Nat):∀(f lo hi:Nat),lo<=hi->SetTable.below.go xs j f lo hi<=hi
 | 0,lo,hi,h=>h
 | f+1,lo,hi,h=>by
  unfold SetTable.below.go;split
  .rename_i h';dsimp only;split
   .exact V9 xs j f _ _ (by omega)
   .exact Nat.le_trans (V9 xs j f _ _ (by omega)) (by omega)
  .exact h
theorem Vf(xs:Array Nat)(j:Nat):SetTable.below xs j<=xs.size:=V9 xs j _ _ _ (CC _)
theorem zEd{t:SetTable}(hd:t.dummies = #[])(j:Nat):t.put j =({ t with place:=SetTable.insertAt t.place (SetTable.below t.place j) j },SetTable.below t.place j):=by
 unfold SetTable.put;have:SetTable.has t.dummies j=false:=by
  rw[hd];unfold SetTable.has;simp
 rw[this];rfl
theorem zIn:SetTable.sizeAbove 20=32:=by decide
theorem zIo:SetTable.sizeAbove 76=128:=by decide
theorem zGu:SetTable.sizeAbove 308=512:=by decide
theorem Wq{f:Array (Int×Value)->Option (SetTable×Array Nat)->Sem (Array (Int×Value)×SetTable)}(hf:∀es laid,f es laid =(do
  let some (t,order):=laid | unsupported "internal:set-table-without-room"
  let es':=order.filterMap (es[·]?)
  if es'.size != es.size then unsupported "internal:set-table-lost-an-element"
  pure (es',t)))
  {a:Addr} {o:Obj} {es:Array (Int×Value)} {ep:Nat} {t:SetTable} {n m:Nat} {Q:Unit->Shared->Prop} (ho:s.heap.get? a=some o) (hd:o.data = .set es ep t) (hdm:t.dummies = #[]) (hfit:t.fits es.size=true)
  (hm:SetTable.sizeAbove n=m+1) (hmm:Msk m) (hsz:es.size*5<m*3)
  (h:∀(es':Array (Int×Value)) (t':SetTable),es'.toList.Perm es.toList->Tab t' es'.size->Q () { s with heap:=s.heap.update a (Obj.putSet es' t') }) :
  wpAny (model prog w) A (do
   let(es,_,t) <-setState a
   if SetTable.sizeAbove n>sizeLine then unsupported "set:memory"
   let(es,t) <-f es (t.relaid (es.map (·.1)) n)
   storeSet a es t) Q E s:=by
 refine AB (CH ho hd hfit ?_);dsimp only;have hm512:m<=511:=by rcases hmm with e | e | e | e<;>omega
 rw[hm,AM (by rw[sizeLine_eq];omega)];rw[hf];have hs:(es.map (·.1)).size<=m:=by rw[FT];omega
 obtain⟨place,order,e1,e2,e3⟩:=Yx hmm t.finger (t.movedTo (SetTable.sizeAbove n-1)) t.led t.plain (es.map (·.1)) hs;have e0:t.relaid (es.map (·.1)) n=some ({ mask:=m,place,dummies:=#[],finger:=t.finger,led:=t.led,moves:=t.movedTo (SetTable.sizeAbove n-1),plain:=t.plain },order):=by
  unfold SetTable.relaid;rw[hm];rw[hm]at e1;exact e1
 rw[e0];dsimp only;have hp:(order.filterMap (es[·]?)).toList.Perm es.toList:=Wc (by rw[FT]at e3;exact e3);have hz:(order.filterMap (es[·]?)).size=es.size:=by rw[<-AS,hp.length_eq,AS]
 rw[AM (by rw[hz];simp)];refine AB (AD ?_);dsimp only;refine HP ho hd (h _ _ hp ⟨rfl,?_,hmm,?_⟩) (by rw[hz,sizeLine_eq];omega)
 .rw[hz,e2,FT]
 .rw[hz];exact hsz
theorem Ds{h:Heap}{a:Addr}{o:Obj}{es:Array (Int×Value)}{ep:Nat}{t:SetTable}(ho:h.get? a=some o)(hd:o.data = .set es ep t)(es':Array (Int×Value))(t':SetTable) :
  (h.update a (Obj.putSet es' t')).get? a=some { o with data:=.set es' (ep+1) t' }:=by
 have:=DF (Obj.putSet es' t') ho (by rw[putSet_of es' t' hd];rfl);rw[putSet_of es' t' hd]at this;exact this
theorem Ov{a:Addr}{ks:List (List K×Addr)}{kx:List K}{px:Addr}{Q:Bool->Shared->Prop}(hr:(tupleKind knd).room A)(hF:Flat knd)(hB:Scan knd)(hS:TSet knd s.heap a ks)
  (hks:∀q∈ks,(tupleKind knd).is s.heap q.1 q.2) (hx:(tupleKind knd).is s.heap kx px) (hne:∀q∈ks,q.1≠kx) (hl:ks.length+1<=300)
  (h:∀h',Heap.SameBut a s.heap h'->TSet knd h' a (ks ++ [(kx,px)])->Q true { s with heap:=h' }) :
  wpAny (model prog w) A (setAddHashed a (.ref px) ((tupleKind knd).hash kx)) Q E s:=by
 obtain⟨o,es,ep,t,ho,hex,hd,hE,hT⟩:=hS;have hsz:es.size=ks.length:=by
  have:=hE.length_eq;rw[AS,AA]at this;exact this
 unfold setAddHashed setAddHashedIn;refine CF ?_;refine AB (CH ho hd hT.fits ?_);dsimp only;rw[Ue];simp only[BD,CL];refine AB (y9 hr hF ho hd hE hT hks hx hne fun j hj=>?_);dsimp only;refine AB (CH ho hd hT.fits ?_);dsimp only;rw[zEd hT.dm];dsimp only;have hb:=Vf t.place j;have hb':SetTable.below t.place j<=es.size:=by rw[hT.pl]at hb;exact hb
 have hrm:=hT.rm;have hmm:=hT.mm;have hsz1:=Y5 es (SetTable.below t.place j) ((tupleKind knd).hash kx,Value.ref px) hb';have hpm:=Et es (SetTable.below t.place j) ((tupleKind knd).hash kx,Value.ref px) hb';have hE1:∀es':Array (Int×Value),es'.toList.Perm (SetTable.insertAt es (SetTable.below t.place j) ((tupleKind knd).hash kx,Value.ref px)).toList->Els knd es' (ks ++ [(kx,px)]):=fun es' hp=>by
  unfold Els;rw[AK];exact hp.trans (hpm.trans (hE.append_right _))
 have key:∀t1:SetTable,t1.dummies = #[]->t1.mask=t.mask->t1.place.size=es.size+1->wpAny (model prog w) A (do
   storeSet a (SetTable.insertAt es (SetTable.below t.place j) ((tupleKind knd).hash kx,Value.ref px)) t1
   if(!false&&t1.tooFull)=true then do
    setRelay a (SetTable.grown (es.size+1))
    pure true
   else pure true) Q E s:=by
  intro t1 d1 m1 p1;refine AB (HP ho hd ?_ (by rw[hsz1,sizeLine_eq];omega));have ho1:=Ds ho hd (SetTable.insertAt es (SetTable.below t.place j) ((tupleKind knd).hash kx,Value.ref px)) t1;have sb1:=EH s.heap a (Obj.putSet (SetTable.insertAt es (SetTable.below t.place j) ((tupleKind knd).hash kx,Value.ref px)) t1);have htf:t1.tooFull=decide ((es.size+1)*5 ≥ t.mask*3):=by
   unfold SetTable.tooFull SetTable.fill;rw[d1,m1,p1];rfl
  rw[htf,HN,G_];by_cases hfull:(es.size+1)*5 ≥ t.mask*3
  .rw[AJ hfull,AR rfl];have hcase:∃m,SetTable.sizeAbove (SetTable.grown (es.size+1))=m+1/\Msk m/\(es.size+1)*5<m*3:=by
    have hg:SetTable.grown (es.size+1) =(es.size+1)*4:=by
     unfold SetTable.grown;rw[AM (by omega)]
    rw[hg];rcases hmm with e | e | e | e
    .have:es.size+1=5:=by omega
     rw[this];exact⟨31,zIn,.inr (.inl rfl),by decide⟩
    .have:es.size+1=19:=by omega
     rw[this];exact⟨127,zIo,.inr (.inr (.inl rfl)),by decide⟩
    .have:es.size+1=77:=by omega
     rw[this];exact⟨511,zGu,.inr (.inr (.inr rfl)),by decide⟩
    .omega
   obtain⟨m,c1,c2,c3⟩:=hcase;refine AB ?_;unfold setRelay;refine Wq (fun _ _=>rfl) (s:={ s with heap:=_ }) ho1 rfl d1 ?_ c1 c2 (by rw[hsz1];exact c3) fun es' t' hp ht=>?_
   .unfold SetTable.fits SetTable.fill;rw[hsz1,p1,d1,m1];have h300:es.size+1+0<=t.mask:=by rcases hmm with e | e | e | e<;>omega
    simp;omega
   .refine AD (h _ (sb1.trans (EH _ a _)) ?_);exact⟨_,es',_,t',Ds ho1 rfl es' t',hex,rfl,hE1 es' hp,ht⟩
  .rw[AQ hfull,AM (by decide)];refine AD (h _ sb1 ⟨_,_,_,t1,ho1,hex,rfl,hE1 _ (.refl _),⟨d1,?_,?_,?_⟩⟩)
   .rw[p1,hsz1]
   .rw[m1];exact hmm
   .rw[m1,hsz1];omega
 have hps:(SetTable.insertAt t.place (SetTable.below t.place j) j).size=es.size+1:=by rw[Y5 _ _ _ hb,hT.pl]
 cases hpl:t.plain with
 | true =>
  simp only[EN];refine AB (hbv hB hx fun b=>?_);cases b with
  | true =>
   simp only[EN];exact key _ hT.dm rfl hps
  | false =>
   simp only[BD,CL];exact key _ hT.dm rfl hps
 | false =>
  simp only[BD,CL];refine AB (AD ?_);simp only[EN];exact key _ hT.dm rfl hps
theorem call_add{a:Addr}{ks:List (List K×Addr)}{kx:List K}{px:Addr}{Q:Value->Shared->Prop}(hr:A.units+1<cLine)(hF:Flat knd)(hB:Scan knd)(hS:TSet knd s.heap a ks)
  (hks:∀q∈ks,(tupleKind knd).is s.heap q.1 q.2) (hx:(tupleKind knd).is s.heap kx px) (hne:∀q∈ks,q.1≠kx) (hl:ks.length+1<=300)
  (h:∀h',Heap.SameBut a s.heap h'->TSet knd h' a (ks ++ [(kx,px)])->Q .none { s with heap:=h',toks:=s.toks +(tupleKind knd).draws kx }) :
  wpAny (model prog w) A (call (.builtin "set.add") [.ref a,.ref px]) Q E s:=by
 refine DW F.slot_set_add hS.typeIs F.entry_set_add ?_ (F.args_set_add_2 _ _);unfold Builtin.«set.add» Builtin.Frozenset.oneOther;simp only[List.isEmpty_nil,bind_assoc];unfold Builtin.Frozenset.addrOf setAdd;refine AB (AD ?_)
 try dsimp only
 refine AB (AD ?_)
 try dsimp only
 refine AB ?_;refine CF ?_;refine AB ((tupleKind knd).pyHash ?hroom hx ?_)
 case hroom=>exact hr
 refine Ov (s:={ s with toks:=s.toks +(tupleKind knd).draws kx }) ?hroom hF hB hS hks hx hne hl fun h' hsb hS'=>?_
 case hroom=>exact hr
 show wpAny _ _ (ret Value.none) _ _ _;exact AD ⟨_,rfl,h h' hsb hS'⟩
end
theorem Lx:Manifest.owners.lookup (String.ofList ['r','o','t','a','r','e','t','i','_','t','e','s'].reverse)=some Manifest.sig_set_iterator:=by kernel_rfl
theorem slot_si_next:Slot "set_iterator" "__next__" "set_iterator.__next__" :=
 .of (owner := "set_iterator") (n := "__next__") (by rw[typeLookup_type,builtinLookup_eq_fast];kernel_rfl) (by decide +kernel) (by decide +kernel) (by decide +kernel) (by first | exact .inl (by decide +kernel) | exact .inr (by decide +kernel)) (by rw[isSubtype_type];kernel_rfl)
theorem Z9:entryFor table "set_iterator.__next__" = some Builtin.«set_iterator.__next__»:=entryFor_of_tree (by kernel_rfl)
theorem o8(a:Value):argsOk "set_iterator.__next__" ⟨[a],[]⟩:=by
 unfold argsOk;rw[signature?_of (id := "set_iterator.__next__") (n:=['_','_','t','x','e','n','_','_']) (o:=['r','o','t','a','r','e','t','i','_','t','e','s']) (by kernel_rfl) Lx];kernel_rfl
theorem p9:Slot "set_iterator" "__iter__" "set_iterator.__iter__" :=
 .of (owner := "set_iterator") (n := "__iter__") (by rw[typeLookup_type,builtinLookup_eq_fast];kernel_rfl) (by decide +kernel) (by decide +kernel) (by decide +kernel) (by first | exact .inl (by decide +kernel) | exact .inr (by decide +kernel)) (by rw[isSubtype_type];kernel_rfl)
theorem Fd(a:Value):argsOk "set_iterator.__iter__" ⟨[a],[]⟩:=by
 unfold argsOk;rw[signature?_of (id := "set_iterator.__iter__") (n:=['_','_','r','e','t','i','_','_']) (o:=['r','o','t','a','r','e','t','i','_','t','e','s']) (by kernel_rfl) Lx];kernel_rfl
theorem Dy:entryFor table "set_iterator.__iter__" = some Builtin.«dict_keyiterator.__iter__» :=
 entryFor_alias (id' := "dict_keyiterator.__iter__") (by kernel_rfl) (by first | rfl | decide +kernel | (unfold String.splitOn;simp +decide [String.splitOnAux])) (by decide +kernel) (by kernel_rfl)
theorem Fz:entryFor table "set.__iter__" = some Builtin.«frozenset.__iter__» :=
 entryFor_alias (id' := "frozenset.__iter__") (by kernel_rfl) rfl (by decide +kernel) (by kernel_rfl)
theorem zGx:typeLookup (.type "set") "__len__" = pure (some (.builtin "set.__len__")):=by rw[typeLookup_type,builtinLookup_eq_fast];kernel_rfl
section
variable{prog:Program}{w:World}{A:Around}{E:Value->Shared->Prop}{s:Shared}
theorem Te{n:Nat}{Q:Nat->Shared->Prop}(hn:n≠0)(h:∀i d,i<n->Q i { s with drawn:=d }):wpAny (model prog w) A (choose .order n) Q E s:=fun Γ p hΓ=>by
 unfold choose;rw[Sem.wp_choose];exact⟨hn,h _ _ (Nat.mod_lt _ (Nat.pos_of_ne_zero hn))⟩
theorem erase_perm{α:Type}:∀{l:List α} {i:Nat} {x:α},l[i]?=some x->(x::l.eraseIdx i).Perm l
 | [],i,x,h=>by simp at h
 | y::l,0,x,h=>by
  have:y=x:=by simpa using h
  subst this;exact .refl _
 | y::l,i+1,x,h=>by
  have h':l[i]?=some x:=by simpa using h
  exact(List.Perm.swap y x _).trans ((erase_perm h').cons y)
theorem Fa{α:Type}{l:List α}{i:Nat}{x:α}(h:l[i]?=some x):(l.eraseIdx i).length+1=l.length:=(erase_perm h).length_eq
theorem Sf{α:Type}:∀(n:Nat) (l:List α) (s:Shared) (Q:List α->Shared->Prop),l.length=n->(∀l' d,l'.Perm l->Q l' { s with drawn:=d })->wpAny (model prog w) A (drawOrder n l) Q E s
 | 0,l,s,Q,hl,h=>by
  unfold drawOrder;obtain rfl:=List.length_eq_zero_iff.mp hl;exact AD (h [] s.drawn (.refl _))
 | n+1,[],s,Q,hl,h=>by simp at hl
 | n+1,x::xs,s,Q,hl,h=>by
  unfold drawOrder;refine AB (Te (by simp) fun i d hi=>?_);have e:(x::xs)[i]?=some ((x::xs)[i]):=AH hi;rw[e];dsimp only;have hp:=erase_perm e;refine AB (Sf n _ _ _ (by have:=Fa e;omega) fun l' d' hp'=>?_);exact AD (h _ d' ((hp'.cons _).trans hp))
theorem Ra{α:Type}(nx:Nat->Nat):∀(f k:Nat) (left:List α) (out:Array α),left.length=f->(pickOrder.go nx f k left out).toList.Perm (out.toList++left)
 | 0,k,left,out,h=>by
  obtain rfl:=List.length_eq_zero_iff.mp h;unfold pickOrder.go;simp
 | f+1,k,left,out,h=>by
  have hlt:nx k % left.length<left.length:=Nat.mod_lt _ (by omega);have e:left[nx k % left.length]?=some left[nx k % left.length]:=AH hlt;unfold pickOrder.go;rw[e];dsimp only;have hp:=erase_perm e;refine(Ra nx f (k+1) _ _ (by have:=Fa e;omega)).trans ?_;rw[DL,BI];exact hp.append_left _
theorem y8{α:Type}(nx:Nat->Nat)(xs:Array α):(pickOrder nx xs).toList.Perm xs.toList:=by
 unfold pickOrder;have:=Ra nx xs.size 0 xs.toList #[] (AS ..);simpa using this
structure SAt(w:World)(h:Heap)(a:Addr)(o:Obj)(es:Array (Int×Value))(ep:Nat)(t:SetTable):Prop where
 ho:h.get? a=some o
 ex:o.ExactSet
 hd:o.data = .set es ep t
 ft:t.fits es.size=true
 led:t.led=!(w.params.followText "set-order")
 pln:t.plain=true->es.size=0
 few:es.size<4096
def sIt(first:Value)(i n ep:Nat)(a:Addr):Obj:={ cls:=.type "set_iterator",data:=.fields #[first,rawInt i,.ref a,rawInt n,rawInt ep] }
theorem O7{Q:Bool->Shared->Prop}(h:Q (w.params.followText "set-order") s):wpAny (model prog w) A setsByText Q E s:=by
 unfold setsByText;exact AB (GO (AD h))
variable{a it:Addr}{o:Obj}{es:Array (Int×Value)}{ep:Nat}{t:SetTable}
theorem y3{i sl:Nat}{r:Option (Value×Nat)}{Q:Option Value->Shared->Prop}(hh:A.handled=none)(S:SAt w s.heap a o es ep t)(hne:it≠a)(hi:s.heap.get? it=some (sIt (rawInt sl) i es.size ep a))
  (hin:∀(Q':Option (Value×Nat)->Shared->Prop) (A':Around) (E':Value->Shared->Prop),Q' r s->wpAny (model prog w) A' (setNext a sl i ep) Q' E' s)
  (hQ1:∀x nx h',r=some (x,nx)->h'.get? it=some (sIt (rawInt nx) (i+1) es.size ep a)->Heap.SameBut it s.heap h'->Q (some x) { s with heap:=h' })
  (hQ0:r=none->∀h',Heap.ExtBut it s.heap h'->Q none { s with heap:=h' }):wpAny (model prog w) A (pyNext (.ref it)) Q E s:=by
 have hT:s.TypeIs (.ref it) "set_iterator":=⟨_,hi,rfl⟩;unfold pyNext;refine AB (wpAny_attempt (HI (name:=Str.ofString "__next__") hT slot_si_next (DW slot_si_next hT Z9 ?_ (o8 _))));unfold Builtin.«set_iterator.__next__»;refine AB (GJ (a:=(Value.ref it,[])) rfl ?_);dsimp only;refine AB (wpAny_fieldsOf hi rfl ?_);dsimp only[rawInt];refine AB (wpAny_setEntries_of S.ho S.hd S.ft ?_);rw[AM (by simp)];simp only[EW];refine AB (hin _ _ _ ?_);cases r with
 | some p =>
  obtain⟨x,nx⟩:=p;dsimp only;refine AB (GK hi rfl (by simp) ?_);have h1:=DF (Obj.mapFields (·.setIfInBounds 0 (rawInt (nx:Nat)))) hi rfl;refine AB (GK h1 rfl (by simp) ?_);have h2:=DF (Obj.mapFields (·.setIfInBounds 1 (rawInt ((i:Int)+1)))) h1 rfl;refine AD ⟨x,rfl,AD (hQ1 x nx _ rfl ?_ ((EH ..).trans (EH ..)))⟩;exact h2
 | none =>
  dsimp only;refine AB (GK hi rfl (by simp) ?_);refine AB ?_;simp only[newExc,newTuple];refine AB (CY ?_ (by size_fits));refine AB (m:=firstArgMember _ _) (GJ (a:=Value.none) (by first | rfl | (simp only[firstArgMember];rfl)) ?_);refine CY ?_ (by size_fits);simp only[raiseNew];refine AB (wpAny_handled ?_)
  first | rw[show A.in1.handled=none from hh] | rw[hh]
  refine AB (AD (wpAny_throw ?_));refine AB (wpAny_isInstance (T := "StopIteration") (b:=true) ⟨_,BC _ rfl,rfl⟩ isSubtype_stop ?_);exact AD (hQ0 rfl _ ((HV (HV (fun b o hb e=>(CO _ _ (Ne.symm hb)).trans e) _)) _))
end
def zDg(ps:List Nat):Obj:={ cls:=.type "tuple",data:=.seq (ps.map fun(i:Nat)=>rawInt i).toArray }
section
variable{prog:Program}{w:World}{A:Around}{E:Value->Shared->Prop}{s:Shared}{a it T:Addr}{o:Obj}{es:Array (Int×Value)}{ep:Nat}{t:SetTable}
theorem Mn{i:Nat}{ps:List Nat}{Q:Option Value->Shared->Prop}(hh:A.handled=none)(S:SAt w s.heap a o es ep t)(hi:s.heap.get? it=some (sIt (.ref T) i es.size ep a))(hT:s.heap.get? T=some (zDg ps))
  (hQ1:∀p x h',ps[i]?=some p->es[p]?=some x->h'.get? it=some (sIt (.ref T) (i+1) es.size ep a)->Heap.SameBut it s.heap h'->Q (some x.2) { s with heap:=h' }) (hps:∀p∈ps,p<es.size)
  (hQ0:ps.length<=i->∀h',Heap.ExtBut it s.heap h'->Q none { s with heap:=h' }):wpAny (model prog w) A (pyNext (.ref it)) Q E s:=by
 have hTy:s.TypeIs (.ref it) "set_iterator":=⟨_,hi,rfl⟩;unfold pyNext;refine AB (wpAny_attempt (HI (name:=Str.ofString "__next__") hTy slot_si_next (DW slot_si_next hTy Z9 ?_ (o8 _))));unfold Builtin.«set_iterator.__next__»;refine AB (GJ (a:=(Value.ref it,[])) rfl ?_);dsimp only;refine AB (wpAny_fieldsOf hi rfl ?_);dsimp only[rawInt];refine AB (wpAny_setEntries_of S.ho S.hd S.ft ?_);rw[AM (by simp)];simp only[EW];refine AB (wpAny_seqItems hT rfl ?_);dsimp only;cases e:ps[i]? with
 | some p =>
  have e':(ps.map fun(i:Nat)=>Value.int (i:Int) 0).toArray[i]?=some (.int (p:Int) 0):=by
   rw[List.getElem?_toArray,AI,e];rfl
  have e'':(ps.map fun(i:Nat)=>rawInt i).toArray[i]?=some (.int (p:Int) 0):=e';rw[e''];have hp:p<es.size:=hps p (AV e);obtain⟨x,hx⟩:∃x,es[p]?=some x:=⟨es[p],DJ.mpr ⟨hp,rfl⟩⟩;dsimp only;simp only[EW];unfold setNextDrawn;refine AB (AB (CH S.ho S.hd S.ft ?_));dsimp only;rw[AM (by simp),hx];dsimp only;refine AD ?_;refine AB (GK hi rfl (by simp) ?_);have h2:=DF (Obj.mapFields (·.setIfInBounds 1 (rawInt ((i:Int)+1)))) hi rfl;exact AD ⟨x.2,rfl,AD (hQ1 p x _ e hx h2 (EH ..))⟩
 | none =>
  have e'':(ps.map fun(i:Nat)=>rawInt i).toArray[i]?=none:=by
   rw[List.getElem?_toArray,AI,e];rfl
  rw[e''];dsimp only;refine AB (GK hi rfl (by simp) ?_);have h1:=DF (Obj.mapFields (·.setIfInBounds 0 (rawInt 0))) hi rfl;refine AB (GK h1 rfl (by simp) ?_);refine AB ?_;simp only[newExc,newTuple];refine AB (CY ?_ (by size_fits));refine AB (m:=firstArgMember _ _) (GJ (a:=Value.none) (by first | rfl | (simp only[firstArgMember];rfl)) ?_);refine CY ?_ (by size_fits);simp only[raiseNew];refine AB (wpAny_handled ?_);rw[show A.in1.handled=none from hh];refine AB (AD (wpAny_throw ?_));refine AB (wpAny_isInstance (T := "StopIteration") (b:=true) ⟨_,BC _ rfl,rfl⟩ isSubtype_stop ?_);refine AD (hQ0 (List.getElem?_eq_none_iff.mp e) _ (HV (HV (fun b ob hb eb=>?_) _) _));exact(CO _ _ (Ne.symm hb)).trans ((CO _ _ (Ne.symm hb)).trans eb)
def zHk(w:World)(a T:Addr)(es:Array (Int×Value))(ep:Nat)(t:SetTable)(order:List Value)(i:Nat)(h:Heap)(first:Value):Prop :=
 (w.params.followText "set-order" = true/\first=rawInt (0:Nat)/\order =(pickOrder (w.params.setOrder a ep) es).toList.map (·.2)) \/
 (w.params.followText "set-order" = false/\∃ps:List Nat,first = .ref T/\h.get? T=some (zDg ps)/\ps.Perm (List.range es.size)/\order=ps.filterMap fun p=>es[p]?.map (·.2)) \/
 (w.params.followText "set-order" = false/\es.size<=1/\order=es.toList.map (·.2)/\∃sl:Nat,first=rawInt sl/\(i=0->sl=0)/\(i=1->∃j,t.place = #[j]/\sl=j+1))
def SSt(w:World)(a it T:Addr)(o:Obj)(es:Array (Int×Value))(ep:Nat)(t:SetTable)(order:List Value)(i:Nat)(h:Heap):Prop :=
 SAt w h a o es ep t/\∃first,h.get? it=some (sIt first i es.size ep a)/\zHk w a T es ep t order i h first
theorem SAt.at{h h':Heap}(S:SAt w h a o es ep t)(e:h'.get? a=some o):SAt w h' a o es ep t:=⟨e,S.ex,S.hd,S.ft,S.led,S.pln,S.few⟩
theorem zDj(j:Nat):SetTable.below #[j] 0=0:=by simp[SetTable.below,SetTable.below.go]
theorem zCw(j:Nat):SetTable.below #[j] (j+1)=1:=by simp[SetTable.below,SetTable.below.go]
theorem Wa(S:SAt w s.heap a o es ep t):t.place.size=es.size:=by
 have:=S.ft;unfold SetTable.fits at this;rw[CK]at this;simpa using this.1
theorem Pi(hh:A.handled=none){order:List Value}(hia:it≠a)(hiT:it≠T):Walks prog w A it [it,a,T] [it] es.size (fun i v=>order[i]?=some v) (SSt w a it T o es ep t order) where
 sub:=fun b hb=>by simp at hb;simp[hb]
 frame:=fun i h h' ⟨S,first,hi,hm⟩ k=>by
  refine⟨S.at (k a (by simp) _ S.ho),first,k it (by simp) _ hi,?_⟩;rcases hm with z | ⟨z1,ps,z2,z3,z4,z5⟩ | z
  .exact .inl z
  .exact .inr (.inl ⟨z1,ps,z2,k T (by simp) _ z3,z4,z5⟩)
  .exact .inr (.inr z)
 item:=fun i s Q E hlt ⟨S,first,hi,hm⟩ hQ=>by
  have keep:∀h',Heap.SameBut it s.heap h'->∀b ob,b∉[it]->s.heap.get? b=some ob->h'.get? b=some ob:=fun h' hs b ob hb e=>(hs.2 b (by simpa using hb)).trans e;rcases hm with⟨z1,rfl,z3⟩ | ⟨z1,ps,rfl,z3,z4,z5⟩ | ⟨z1,z2,z3,sl,rfl,z5,z6⟩
  .have hpk:=y8 (w.params.setOrder a ep) es;have hlen:(pickOrder (w.params.setOrder a ep) es).size=es.size:=by rw[<-AS,hpk.length_eq,AS]
   obtain⟨x,hx⟩:∃x,(pickOrder (w.params.setOrder a ep) es)[i]?=some x:=⟨_,DJ.mpr ⟨by rw[hlen];exact hlt,rfl⟩⟩;refine y3 (r:=some (x.2,0)) hh S hia hi (fun Q' A' E' q=>?_) (fun y nx h' e1 e2 hs=>?_) (fun e=>nomatch e)
   .unfold setNext setWalk;refine AB (CH S.ho S.hd S.ft ?_);dsimp only;refine AB (O7 ?_);rw[z1,AR rfl,AM (by simp)];refine AB (AB (CH S.ho S.hd S.ft ?_));dsimp only;refine AB (O7 ?_);rw[z1,AR rfl];refine AB (GO (AD (AD ?_)));show Q' (((pickOrder (w.params.setOrder a ep) es)[i]?).map fun e=>(e.2,0)) s;rw[hx];exact q
   .cases e1;have:=hQ x.2 h' s.toks (by rw[z3,AI,BQ,hx];rfl) ⟨S.at ((hs.2 a (Ne.symm hia)).trans S.ho),_,e2,.inl ⟨z1,rfl,z3⟩⟩ (keep h' hs);exact this
  .refine Mn hh S hi z3 (fun p x h' e1 e2 e3 hs=>?_) (fun p hp=>B_.mp (z4.mem_iff.mp hp)) (fun hle=>?_)
   .have hall:∀q∈ps,(es[q]?.map (·.2)).isSome=true:=fun q hq=>by
     have:q<es.size:=B_.mp (z4.mem_iff.mp hq);rw[DJ.mpr ⟨this,rfl⟩];rfl
    refine hQ x.2 h' s.toks ?_ ⟨S.at ((hs.2 a (Ne.symm hia)).trans S.ho),_,e3,.inr (.inl ⟨z1,ps,rfl,(hs.2 T (Ne.symm hiT)).trans z3,z4,z5⟩)⟩ (keep h' hs);have gen:∀(l:List Nat) (i p:Nat),(∀q∈l,(es[q]?.map (·.2)).isSome=true)->l[i]?=some p->(l.filterMap fun p=>es[p]?.map (·.2))[i]?=es[p]?.map (·.2):=by
     intro l
     induction l with
     | nil=>intro i p _ e;simp at e
     | cons q r ih =>
      intro i p hl e;obtain⟨v,hv⟩:=EQ.mp (hl q (BE ..));rw[EY,hv];dsimp only;cases i with
      | zero =>
       have:q=p:=by simpa using e
       subst this;simpa using hv.symm
      | succ i=>simpa using ih i p (fun q hq=>hl q (AU _ hq)) (by simpa using e)
    rw[z5,gen ps i p hall e1,e2];rfl
   .have:=z4.length_eq;rw[CA]at this;omega
  .have h0:i=0:=by omega
   have h1:es.size=1:=by omega
   obtain⟨j,hj⟩:∃j,t.place = #[j]:=Array.size_eq_one_iff.mp ((Wa S).trans h1);obtain⟨x,hx⟩:∃x,es = #[x]:=Array.size_eq_one_iff.mp h1;have hs0:=z5 h0;subst hs0;have hx0:es[0]?=some x:=by rw[hx];rfl
   refine y3 (r:=some (x.2,j+1)) hh S hia hi (fun Q' A' E' q=>?_) (fun y nx h' e1 e2 hs=>?_) (fun e=>nomatch e)
   .unfold setNext;refine AB (CH S.ho S.hd S.ft ?_);dsimp only;refine AB (O7 ?_);rw[z1,AM (by decide)];show wpAny _ _ (if(!t.plain&&decide (es.size>1))=true then _ else _) _ _ _;rw[AM (by rw[h1];simp)];show wpAny _ _ (do (if(!t.led&&!es.isEmpty)=true then unsupported "set:maker-not-led" else pure ());_) _ _ _;rw[S.led,z1,AM (by simp)];refine AB (AD ?_);rw[hj,zDj,hx0];exact AD q
   .cases e1;refine hQ x.2 h' s.toks (by rw[z3,h0,hx];rfl) ⟨S.at ((hs.2 a (Ne.symm hia)).trans S.ho),_,e2,.inr (.inr ⟨z1,z2,z3,j+1,rfl,fun e=>by omega,fun _=>⟨j,hj,rfl⟩⟩)⟩ (keep h' hs)
 done:=fun s Q E ⟨S,first,hi,hm⟩ hQ=>by
  have keep:∀h',Heap.ExtBut it s.heap h'->∀b ob,b∉[it]->s.heap.get? b=some ob->h'.get? b=some ob:=fun h' hs b ob hb e=>hs b ob (by simpa using hb) e;rcases hm with⟨z1,rfl,z3⟩ | ⟨z1,ps,rfl,z3,z4,z5⟩ | ⟨z1,z2,z3,sl,rfl,z5,z6⟩
  .have hpk:=y8 (w.params.setOrder a ep) es;have hlen:(pickOrder (w.params.setOrder a ep) es).size=es.size:=by rw[<-AS,hpk.length_eq,AS]
   refine y3 (r:=none) hh S hia hi (fun Q' A' E' q=>?_) (fun y nx h' e1=>nomatch e1) (fun _ h' hs=>hQ h' s.toks (keep h' hs));unfold setNext setWalk;refine AB (CH S.ho S.hd S.ft ?_);dsimp only;refine AB (O7 ?_);rw[z1,AR rfl,AM (by simp)];refine AB (AB (CH S.ho S.hd S.ft ?_));dsimp only;refine AB (O7 ?_);rw[z1,AR rfl];refine AB (GO (AD (AD ?_)));show Q' (((pickOrder (w.params.setOrder a ep) es)[es.size]?).map fun e=>(e.2,0)) s;rw[F_ (by rw[hlen];exact Nat.le_refl _)];exact q
  .have hl:=z4.length_eq;rw[CA]at hl;refine Mn hh S hi z3 (fun p x h' e1 e2 e3 hs=>?_) (fun p hp=>B_.mp (z4.mem_iff.mp hp)) (fun _ h' hs=>hQ h' s.toks (keep h' hs));have:=(AG.mp e1).1;omega
  .refine y3 (r:=none) hh S hia hi (fun Q' A' E' q=>?_) (fun y nx h' e1=>nomatch e1) (fun _ h' hs=>hQ h' s.toks (keep h' hs));unfold setNext;refine AB (CH S.ho S.hd S.ft ?_);dsimp only;refine AB (O7 ?_);rw[z1,AM (by decide)];show wpAny _ _ (if(!t.plain&&decide (es.size>1))=true then _ else _) _ _ _;rw[AM (by simp;intro _;omega)];show wpAny _ _ (do (if(!t.led&&!es.isEmpty)=true then unsupported "set:maker-not-led" else pure ());_) _ _ _;rw[S.led,z1,AM (by simp)];refine AB (AD ?_);have hnone:es[SetTable.below t.place sl]?=none:=by
    by_cases h0:es.size=0
    .exact F_ (by rw[h0];exact CC _)
    .obtain⟨j,hj,rfl⟩:=z6 (by omega);rw[hj,zCw];exact F_ (by omega)
   rw[hnone];exact AD q
 self:=fun i s Q E ⟨S,first,hi,hm⟩ h=>by
  have hT:s.TypeIs (.ref it) "set_iterator":=⟨_,hi,rfl⟩;refine wpAny_pyIter_slot hT p9 (DW p9 hT Dy ?_ (Fd _));show wpAny _ _ (ret (.ref it)) _ _ s;exact AD ⟨_,rfl, "set_iterator",_,hT,slot_si_next.lookup,h⟩
theorem Vz{Q:Value->Shared->Prop}(S:SAt w s.heap a o es ep t)
  (h:∀(it T:Addr) (order:List Value) (h':Heap) (d:Drawn),it≠a->it≠T->(T=a\/s.heap.objs.size<=T)->s.heap.objs.size<=it->(∀b ob,s.heap.get? b=some ob->h'.get? b=some ob)->order.Perm (es.toList.map (·.2))->SSt w a it T o es ep t order 0 h'->(∀b∈[it,a,T],b<h'.objs.size) ->
   (∀A':Around,A'.handled=none->Walks prog w A' it [it,a,T] [it] es.size (fun i v=>order[i]?=some v) (SSt w a it T o es ep t order))->Q (.ref it) { s with heap:=h',drawn:=d }):wpAny (model prog w) A (pyIter (.ref a)) Q E s:=by
 have hT:s.TypeIs (.ref a) "set":=⟨_,S.ho,S.ex.1⟩;have ha:=AL S.ho;refine wpAny_pyIter_slot hT F.slot_set_iter (DW F.slot_set_iter hT Fz ?_ (F.args_set_iter_1 _));unfold Builtin.«frozenset.__iter__» Builtin.Frozenset.slot0 Builtin.Frozenset.sizeOf;refine AB (AB (GJ (a:=(Value.ref a,[])) rfl ?_));dsimp only;refine GJ (a:=a) rfl ?_;refine AB (AB (wpAny_setEntries_of S.ho S.hd S.ft (AD ?_)));have fin:∀(first:Value) (T:Addr) (order:List Value) (h1:Heap) (d:Drawn),(∀b ob,s.heap.get? b=some ob->h1.get? b=some ob)->s.heap.objs.size<=h1.objs.size->order.Perm (es.toList.map (·.2))->T<h1.objs.size->(T=a\/s.heap.objs.size<=T) ->
   (∀h2:Heap,(∀b ob,h1.get? b=some ob->h2.get? b=some ob)->zHk w a T es ep t order 0 h2 first) ->
   wpAny (model prog w) A.in1 (do let e <-setEpoch a;let x <-newFields "set_iterator" [first,rawInt 0,.ref a,rawInt (es.size:Nat),rawInt (e:Nat)];ret x) (fun r s'=>∃v,r=Fin.done (Flow.ret v)/\∃T' r,s'.TypeIs v T'/\typeLookup (Value.type T') (Str.ofString "__next__")=pure (some r)/\Q v s') E { s with heap:=h1,drawn:=d }:=by
  intro first T order h1 d k hsz hp hTl hTa hm
  refine AB (wpAny_setEpoch_of (s:={ s with heap:=h1,drawn:=d }) (k a o S.ho) S.hd S.ft ?_);refine AB (CY ?_);have hg:(h1.push (sIt first 0 es.size ep a)).get? h1.objs.size=some (sIt first 0 es.size ep a):=BC _ rfl;have k2:∀b ob,h1.get? b=some ob->(h1.push (sIt first 0 es.size ep a)).get? b=some ob:=fun b ob e=>AC _ e;have hia:h1.objs.size≠a:=fun e=>absurd (BJ ha hsz) (by rw[<-e];exact CQ _);have hiT:h1.objs.size≠T:=fun e=>absurd hTl (by rw[<-e];exact CQ _);refine AD ⟨.ref h1.objs.size,rfl, "set_iterator",_,⟨_,hg,rfl⟩,slot_si_next.lookup,?_⟩;refine h h1.objs.size T order (h1.push (sIt first 0 es.size ep a)) d hia hiT hTa hsz (fun b ob e=>k2 b ob (k b ob e)) hp ⟨S.at (k2 a o (k a o S.ho)),first,hg,hm _ k2⟩ (fun b hb=>?_) fun A' hh=>Pi hh hia hiT;rw[DZ];simp only[A_,BP,or_false]at hb;rcases hb with rfl | rfl | rfl
  .exact EM _
  .exact DD (BJ ha hsz)
  .exact DD hTl
 unfold setDrawn;refine AB (AB (CH S.ho S.hd S.ft ?_));dsimp only;refine AB (O7 (AD ?_));cases hb:w.params.followText "set-order" with
 | true =>
  show wpAny _ _ (if(!true &&(!t.plain&&decide (es.size>1)))=true then _ else _) _ _ _;rw[EO,DN,AM (by decide)];refine AB (AD ?_);exact fin _ a _ s.heap s.drawn (fun _ _ e=>e) (Nat.le_refl _) ((y8 _ es).map _) ha (.inl rfl) fun h2 _=>.inl ⟨hb,rfl,rfl⟩
 | false =>
  show wpAny _ _ (if(!false &&(!t.plain&&decide (es.size>1)))=true then _ else _) _ _ _;by_cases hdr:(!t.plain&&decide (es.size>1))=true
  .rw[HN,G_,AR hdr];refine AB (Sf es.size (List.range es.size) s _ (CA ..) fun ps d hp=>AB ?_);unfold newTuple;refine CY ?_ ?_
   .have hg:(s.heap.push (zDg ps)).get? s.heap.objs.size=some (zDg ps):=BC _ rfl;refine fin _ s.heap.objs.size (ps.filterMap fun p=>es[p]?.map (·.2)) (s.heap.push (zDg ps)) d (fun b ob e=>AC _ e) (by rw[DZ];exact DE _) ?_ (by rw[DZ];exact EM _) (.inr (Nat.le_refl _)) fun h2 k2=>.inr (.inl ⟨hb,ps,rfl,k2 _ _ hg,hp,rfl⟩);refine(hp.filterMap _).trans (List.Perm.of_eq ?_);have:=filterMap_getElem?_range es;rw[<-this,List.map_filterMap]
   .have h1:=hp.length_eq;have h2:=S.few;rw[CA]at h1;show(List.map _ ps).toArray.size<=sizeLine;rw[AW,AA,sizeLine_eq];omega
  .rw[HN,G_,AM hdr];refine AB (AD ?_);have hle:es.size<=1:=by
    by_cases hp:t.plain=true
    .have:=S.pln hp;omega
    .have hp':t.plain=false:=by simpa using hp
     rw[hp']at hdr;simp at hdr;omega
   exact fin _ a _ s.heap s.drawn (fun _ _ e=>e) (Nat.le_refl _) (.refl _) ha (.inl rfl) fun h2 _=>.inr (.inr ⟨hb,hle,rfl,0,rfl,fun _=>rfl,fun e=>absurd e (by decide)⟩)
end
section
variable{prog:Program}{w:World}{A:Around}{E:Value->Shared->Prop}{s:Shared}{a:Addr}{o:Obj}{es:Array (Int×Value)}{ep:Nat}{t:SetTable}
theorem Wj{order:List Value}{acc:Array Value}(h:ItemsOf (fun i v=>order[i]?=some v) acc order.length):acc.toList=order:=by
 refine FK fun i=>?_;rw[BQ];by_cases hi:i<acc.size
 .have e:acc[i]?=some acc[i]:=DJ.mpr ⟨hi,rfl⟩;rw[e,h.2 i _ e]
 .rw[F_ (by omega),EK (by have:=h.1;omega)]
theorem collect_set{Q:List Value->Shared->Prop}(hh:A.handled=none)(S:SAt w s.heap a o es ep t)
  (hQ:∀s' acc,(∀b ob,s.heap.get? b=some ob->s'.heap.get? b=some ob)->s'.gens=s.gens->s'.os=s.os->s.heap.objs.size<s'.heap.objs.size->acc.Perm (es.toList.map (·.2))->Q acc s'):wpAny (model prog w) A (collect (.ref a)) Q E s:=by
 have ha:=AL S.ho;unfold collect;refine AB (wpAny_runValue (EA F.entry_proto_collect ?_));rw[Around.under_plainId F.plain_proto_collect _];show wpAny _ A.in1 (newList [] >>= fun l=>again (.builtin "list.__iadd__" ⟨[l,.ref a],[]⟩)) _ _ s;refine AB (CY ?_);refine AD ⟨plainId_quiet F.plain_list_iadd _,EA F.entry_list_iadd ?_⟩;rw[Around.under_plainId F.plain_list_iadd _];show wpAny _ A.in1 (Builtin.List.listExtendWith (.ref s.heap.objs.size) (.ref a) (.ref s.heap.objs.size)) _ _ _;unfold Builtin.List.listExtendWith;have hne:s.heap.objs.size≠a:=fun e=>absurd ha (by rw[<-e];exact CQ _);generalize hH:s.heap.push { cls:=.type "list",data:=.seq ([]:List Value).toArray }=H;have kH:∀b ob,s.heap.get? b=some ob->H.get? b=some ob:=fun b ob e=>by rw[<-hH];exact AC _ e
 have hHs:H.objs.size=s.heap.objs.size+1:=by rw[<-hH,DZ]
 have hS:H.get? s.heap.objs.size=some { cls:=.type "list",data:=.seq ([]:List Value).toArray }:=by rw[<-hH];exact BC _ rfl
 have hT:Shared.TypeIs { s with heap:=H } (.ref a) "set":=⟨o,kH a o S.ho,S.ex.1⟩;refine AB (HM hT ?_);have h1:Builtin.List.listSameRef (.ref s.heap.objs.size) (.ref a)=false:=by simp[Builtin.List.listSameRef,hne]
 have h2:(Value.type "set" == Value.type "list")=false:=by decide
 have h3:(Value.type "set" == Value.type "tuple")=false:=by decide
 simp only[h1,h2,h3,Bool.or_false,BD,CL];refine AB (Vz (s:={ s with heap:=H }) (S.at (kH a o S.ho)) fun it T order h' d hia hiT hTa hsz k hp st hlt W=>?_);have hT':Shared.TypeIs { s with heap:=h',drawn:=d } (.ref a) "set":=⟨o,k a o (kH a o S.ho),S.ex.1⟩;refine AB (CF ?_);unfold Builtin.List.listLengthHint;refine AB (wpAny_specialOf hT' zGx ?_);wp_delta;refine AB (wpAny_isInstance hT' (b:=true) (by rw[isSubtype_type];kernel_rfl) ?_);show wpAny _ A.in1 (typeOf (Value.ref a) >>= _) _ _ _;refine AB (HM hT' ?_);refine AD ?_;rw[AR (by decide)];refine AB (EX ?_);have hS1:h'.get? s.heap.objs.size=some { cls:=.type "list",data:=.seq ([]:List Value).toArray }:=k _ _ hS;refine AB ?_;show wpAny _ A.in1 (updateSeq s.heap.objs.size (·.push .none) >>= fun _=>updateSeq s.heap.objs.size (·.pop)) _ _ _;refine AB (wpAny_updateSeq hS1 rfl ?_);have hS2:=DF (Obj.mapSeq (·.push Value.none)) hS1 rfl;refine wpAny_updateSeq hS2 rfl ?_;have hS3:=DF (Obj.mapSeq (·.pop)) hS2 rfl;have oth:∀b ob,b≠s.heap.objs.size->h'.get? b=some ob->((h'.update s.heap.objs.size (Obj.mapSeq (·.push Value.none))).update s.heap.objs.size (Obj.mapSeq (·.pop))).get? b=some ob :=
  fun b ob hb e=>(CO _ _ (Ne.symm hb)).trans ((CO _ _ (Ne.symm hb)).trans e)
 have hSf:s.heap.objs.size∉[it,a,T]:=by
  have e1:s.heap.objs.size≠it:=fun e=>absurd hsz (by
   show ¬H.objs.size<=it;rw[hHs,<-e];exact Nat.not_succ_le_self _)
  have e2:s.heap.objs.size≠T:=fun e=>by
   rcases hTa with z | z
   .exact hne (e.trans z)
   .exact absurd z (by
     show ¬H.objs.size<=T;rw[hHs,<-e];exact Nat.not_succ_le_self _)
  simp only[A_,BP,or_false,not_or];exact⟨e1,hne,e2⟩
 have hle:es.size=order.length:=by
  have:=hp.length_eq;rw[AA,AS]at this;exact this.symm
 have hfew:=S.few;refine AD ⟨plainId_quiet F.plain_extend_loop _,codeAny_extend_loopS (W A.in1 hh).toS (by rw[sizeLine_eq];omega) _ hSf _ es.size 0 _ _ _ rfl (CC _)
  ((W A.in1 hh).frame 0 h' _ st fun b hb ob e=>oth b ob (fun z=>hSf (z▸hb)) e) hS3 (ItemsOf.nil _) fun s' acc' c' hm hS' hacc=>?_⟩
 show wpAny _ A (load s.heap.objs.size >>= _) _ _ s';refine AB (wpAny_load hS' ?_);rw[hle]at hacc;refine AD (hQ s' acc'.toList (fun b ob e=>hm.heap b ob (fun hb=>?_) (oth b ob (fun z=>?_) (k b ob (kH b ob e)))) hm.gens hm.os (AL hS') (by rw[Wj hacc];exact hp))
 .have hbl:=AL e;rcases A_.mp hb with z | z
  .exact absurd hbl (by rw[z];exact CQ _)
  .rw[AF.mp z]at hbl;have:H.objs.size<=it:=hsz;rw[hHs]at this;exact absurd (BJ hbl (EF this)) (CQ _)
 .exact absurd (AL e) (by rw[z];exact CQ _)
end
end ST
namespace ST
open PySem L2
theorem zBz(t:SetTable)(n:Nat):(t.orStandIn n).led=t.led:=by
 unfold SetTable.orStandIn;split<;>rfl
theorem zAt(t:SetTable)(es:Array (Int×Value))(h:Int)(x:Value):(layNew t es h x).2.1.led=t.led:=by
 unfold layNew;split
 .rename_i sl wd e;show((t.put sl).1.orStandIn _).led=_;rw[zBz];rfl
 .rfl
theorem Ng{t t':SetTable}{hs:Array Int}{n:Nat}{ord:Array Nat}(h:t.relaid hs n=some (t',ord)):t'.led=t.led/\t'.plain=t.plain:=by
 unfold SetTable.relaid SetTable.laid at h;cases e:SetTable.layClean (SetTable.sizeAbove n-1) hs with
 | none=>rw[e]at h;cases h
 | some ow =>
  rw[e]at h;cases h;exact⟨rfl,rfl⟩
theorem Ua(t:SetTable)(es:Array (Int×Value))(n:Nat)(hp:t.plain=false):(relayAll t es n).2.1.led=t.led/\(relayAll t es n).2.1.plain=false:=by
 unfold relayAll;split
 .rename_i t' ord e;obtain⟨e1,e2⟩:=Ng e;dsimp only;split
  .exact⟨e1,e2.trans hp⟩
  .exact⟨rfl,rfl⟩
 .exact⟨rfl,rfl⟩
def zIp:Value->Str
 | .str x _=>x
 | _=>Str.empty
section
variable{prog:Program}{w:World}{A:Around}{E:Value->Shared->Prop}{s:Shared}{a:Addr}
structure TxtEs(w:World)(es:Array (Int×Value))(ss:List Str):Prop where
 el:∀e∈es.toList,∃x tk,e =(hashStr w x,Value.str x tk)
 pm:(es.toList.map fun e=>zIp e.2).Perm ss
 nd:ss.Nodup
def WS(w:World)(h:Heap)(a:Addr)(ss:List Str):Prop:=∃o es ep t,SAt w h a o es ep t/\TxtEs w es ss
theorem TxtEs.elems{es:Array (Int×Value)}{ss:List Str}(h:TxtEs w es ss):ElemsOf (C0 prog w) es.toList:=fun e he=>by
 obtain⟨x,tk,rfl⟩:=h.el e he;exact⟨⟨.inr x,X1 x tk,rfl⟩,rfl⟩
theorem TxtEs.mem{es:Array (Int×Value)}{ss:List Str}(h:TxtEs w es ss)(x:Str):x∈ss↔∃e∈es.toList,(C0 prog w).is (.inr x) e.2=true:=by
 rw[<-h.pm.mem_iff];constructor
 .intro hm;obtain⟨e,he,rfl⟩:=AE.mp hm;obtain⟨y,tk,rfl⟩:=h.el e he;exact⟨_,he,X1 y tk⟩
 .rintro⟨e,he,hk⟩;obtain⟨y,tk,rfl⟩:=h.el e he;have:y=x:=by
   rcases E6 (show Dq (.inr x) (.str y tk)=true from hk)with⟨i,t,e1,e2⟩ | ⟨z,t,e1,e2⟩
   .cases e2
   .cases e1;cases e2;rfl
  subst this;exact AE.mpr ⟨_,he,rfl⟩
theorem TxtEs.len{es:Array (Int×Value)}{ss:List Str}(h:TxtEs w es ss):es.size=ss.length:=by
 have:=h.pm.length_eq;rw[AA,AS]at this;exact this
theorem add_txt{ss:List Str}{x:Str}{tk:Tok}{Q:Bool->Shared->Prop}(S:WS w s.heap a ss)(hl:ss.length+1<4096)
  (h:∀h' b,Heap.SameBut a s.heap h'->WS w h' a (if x∈ss then ss else ss ++ [x])->Q b { s with heap:=h' }) :
  wpAny (model prog w) A (setAddHashed a (.str x tk) (hashStr w x)) Q E s:=by
 obtain⟨o,es,ep,t,S,T⟩:=id S;have hkey:(C0 prog w).is (.inr x) (.str x tk)=true:=X1 x tk;have hsz:=T.len;unfold setAddHashed setAddHashedIn;refine CF (AB (CH S.ho S.hd S.ft ?_));dsimp only;rw[byScan_of (knd:=C0 prog w) rfl S.few T.elems,AR rfl];unfold setAddByScan;refine AB (AB (EX ?_));refine AB (wpAny_setScan_of hkey S.ho S.hd S.ft T.elems ?_);cases hr:List.findIdx? (fun e=>(C0 prog w).is (.inr x) e.2) es.toList with
 | some j =>
  dsimp only;obtain⟨hj,hpj,_⟩:=List.findIdx?_eq_some_iff_getElem.mp hr;have hx:x∈ss:=(T.mem (prog:=prog) x).mpr ⟨es.toList[j],FV hj,hpj⟩;refine AD (AD ?_);have:=h s.heap false (Heap.SameBut.refl a s.heap) (by rw[AR hx];exact⟨o,es,ep,t,S,T⟩);exact this
 | none =>
  dsimp only;have hx:¬x∈ss:=fun hx=>by
   obtain⟨e,he,hp⟩:=(T.mem (prog:=prog) x).mp hx;have:=List.findIdx?_eq_none_iff.mp hr e he;rw[hp]at this;exact Bool.noConfusion this
  have hgw:∀(b:Bool) {s1:Shared} {Q':Unit->Shared->Prop},Q' () s1->wpAny (model prog w) A (match b with | true=>rule "set.scan.the-table-gave-way" | false=>pure ()) Q' E s1 :=
   fun b s1 Q' hq=>by cases b<;>first | exact AD hq | exact EX hq
  have hperm:=layNew_perm t es (hashStr w x) (.str x tk);have hfits:=layNew_fits t es (hashStr w x) (.str x tk);have hled:=zAt t es (hashStr w x) (.str x tk);show wpAny _ _ (match layNew t es (hashStr w x) (.str x tk)with | (es,t,wasDummy,gave)=>_) _ _ _;generalize layNew t es (hashStr w x) (.str x tk)=L at hperm hfits hled⊢;obtain⟨es1,t1,wasDummy,gave⟩:=L;dsimp only at hperm hfits hled⊢;rw[DL]at hperm;have hT1:∀es2:Array (Int×Value),es2.toList.Perm es1.toList->TxtEs w es2 (ss ++ [x]):=fun es2 hp2=>by
   refine⟨fun e he=>?_,?_,?_⟩
   .rcases AO.mp (hperm.mem_iff.mp (hp2.mem_iff.mp he))with z | z
    .exact T.el e z
    .exact⟨x,tk,AF.mp z⟩
   .refine((hp2.trans hperm).map _).trans ?_;rw[AK];exact T.pm.append (.refl _)
   .rw[DT];refine⟨T.nd,by simp,fun y hy z hz=>?_⟩;rw[AF.mp hz];rintro rfl;exact hx hy
  have hsz1:es1.size=ss.length+1:=by
   have:=(hT1 es1 (.refl _)).len;rw[BB]at this;exact this
  refine AB (hgw _ ?_);have key:∀t2:SetTable,t2.led=t.led->t2.plain=false->t2.fits es1.size=true->wpAny (model prog w) A (do
    storeSet a es1 t2
    if(!wasDummy&&t2.tooFull)=true then do
      (match(relayAll t2 es1 (SetTable.grown es1.size)).2.2 with | true=>rule "set.scan.the-table-gave-way" | false=>pure ())
      storeSet a (relayAll t2 es1 (SetTable.grown es1.size)).1 (relayAll t2 es1 (SetTable.grown es1.size)).2.1
      pure (some true)
     else pure (some true)) (fun r s'=>wpAny (model prog w) A (match r with | some added=>pure added | none=>setAddHashedIn a (.str x tk) (hashStr w x) 99999) Q E s') E s:=by
   intro t2 l2 p2 f2;refine AB (HP S.ho S.hd ?_ (by rw[hsz1,sizeLine_eq];omega));have ho1:=Ds S.ho S.hd es1 t2;have sb1:=EH s.heap a (Obj.putSet es1 t2);split
   .have hp:=relayAll_perm t2 es1 (SetTable.grown es1.size);have hf:=relayAll_fits t2 es1 (SetTable.grown es1.size);obtain⟨hl3,hp3⟩:=Ua t2 es1 (SetTable.grown es1.size) p2;have hz2:(relayAll t2 es1 (SetTable.grown es1.size)).1.size=es1.size:=by rw[<-AS,hp.length_eq,AS]
    refine AB (hgw _ ?_);refine AB (HP ho1 rfl ?_ (by rw[hz2,hsz1,sizeLine_eq];omega));refine AD (AD (h _ true (sb1.trans (EH _ a _)) ?_));rw[AM hx];exact⟨_,_,_,_,⟨Ds ho1 rfl _ _,S.ex,rfl,hf,hl3.trans (l2.trans S.led),(fun z=>by rw[hp3]at z;cases z),by rw[hz2,hsz1];omega⟩,hT1 _ hp⟩
   .refine AD (AD (h _ true sb1 ?_));rw[AM hx];exact⟨_,es1,_,t2,⟨ho1,S.ex,rfl,f2,l2.trans S.led,(fun z=>by rw[p2]at z;cases z),by rw[hsz1];omega⟩,hT1 _ (.refl _)⟩
  cases hpl:t1.plain with
  | true =>
   rw[AR rfl,hashByValue_scannable 8 (x:=Value.str x tk) rfl];refine AB (AD ?_);exact key { t1 with plain:=false } hled rfl (SetTable.fits_plain_off hfits)
  | false =>
   rw[AM (by decide)];refine AB (AD ?_);exact key t1 hled hpl hfits
end
end ST
namespace L2
open PySem PySem.Spec PyProof.Rows
def Ex(w:World)(a:Addr)(ss:List Str):HO:=.ext fun h=>ST.WS w h a ss
section
variable{X:Cx}{pins:List (Addr×Obj)}{σ:St}{H:Hp}{s:Shared}{a:Addr}{ss:List Str}
theorem Yg{P:Program}{w:World}{H:Hp}{h:Heap}(z:ST.WS w h a ss):ObjOk P w H h a (Ex w a ss) :=
 ⟨z,let⟨o,_,_,_,S,_⟩:=z;⟨o,S.ho⟩,fun h1 h2 ⟨o,es,ep,t,S,r⟩ k=>⟨o,es,ep,t,S.at (k o S.ho),r⟩⟩
theorem Inv.setw(I:Inv X pins σ H s)(e:H a=some (Ex X.w a ss)):ST.WS X.w s.heap a ss:=by
 obtain⟨z,_⟩:=(show ObjOk X.prog X.w H s.heap a (Ex X.w a ss)from I.hok a _ e);exact z
def Xf(l:List Str)(x:Str):List Str:=if x∈l then l else l ++ [x]
def zFt(w:World):V->List V->Hp->VK->Prop:=fun x vs H Q=>∃a l k,x = .ref a/\vs = [.str k]/\H a=some (Ex w a l)/\l.length+1<4096/\Q .non (upd H a (Ex w a (Xf l k)))
theorem WS.typeIs{ss:List Str}(z:ST.WS X.w s.heap a ss):s.TypeIs (.ref a) "set":=let⟨o,_,_,_,S,_⟩:=z;⟨o,S.ho,S.ex.1⟩
theorem Zz:MtM X "set.add" (zFt X.w):=by
 intro pins s σ H x vs v us Q I rx rv h;obtain⟨a,l,k,rfl,rfl,hH,hz,q⟩:=h;cases rx;obtain⟨u,rfl,⟨tk,rfl⟩⟩:=rv.one;have z:=I.setw hH;refine DW F.slot_set_add (WS.typeIs z) F.entry_set_add ?_ (F.args_set_add_2 _ _);unfold Builtin.«set.add» Builtin.Frozenset.oneOther;simp only[List.isEmpty_nil,bind_assoc];unfold Builtin.Frozenset.addrOf setAdd;refine AB (AD ?_)
 try dsimp only
 refine AB (AD ?_)
 try dsimp only
 refine AB ?_;refine CF ?_;refine AB (wpAny_pyHash_str ?_);refine ST.add_txt (s:={ s with toks:=s.toks+1 }) z hz fun h' b hsb z'=>?_;show wpAny _ _ (ret Value.none) _ _ _;refine AD ⟨_,rfl,.non,_,I.write (x:=a) (e:=a) (t':=s.toks+1) (by rw[hH];exact True.intro) (.inl rfl) (fun b q hb e=>(hsb.2 b hb).trans e) (let⟨o,_,_,_,S,_⟩:=z';⟨o,S.ho⟩) (Yg z'),rfl,q⟩
theorem Wg{Q:Value->Shared->Prop}{A:Around}{E:Value->Shared->Prop}{prog:Program}{w:World}
  (h:ST.WS w (s.heap.push { cls:=.type "set",dict:=none,data:=.set #[] 0 (.fresh 0 0 (!(w.params.followText "set-order"))) }) s.heap.objs.size [] ->
   Q (.ref s.heap.objs.size) { s with heap:=s.heap.push { cls:=.type "set",dict:=none,data:=.set #[] 0 (.fresh 0 0 (!(w.params.followText "set-order"))) } }):wpAny (model prog w) A (newSet (.type "set")) Q E s:=by
 unfold newSet setsByText;refine AB (AB (GO (AD ?_)));dsimp only;simp only[newObj];refine AB (wpAny_alloc (AD (h ⟨_,#[],0,_,⟨BC _ rfl,⟨rfl,rfl,rfl⟩,rfl,by rfl,rfl,fun _=>rfl,by decide⟩,⟨fun e he=>by simp at he,by simp,GL⟩⟩)))
end
section
variable{X:Cx}{tg iter elt tg2 iter2:Expr}{g g2:TG}{tc tc2:TT}{te:TE}{ifs ifs2:List Expr}{scope:Scope}{cl:List (Str×Addr)}{N':List Str}{cap:List (Option Nat)}{pos:Pos}{wi wi2:TI}
def Gp(w:World)(D:Addr)(te:TE):TEm:=fun σ H Q=>te σ H fun y H1=>∃l k,y = .str k/\H1 D=some (Ex w D l)/\l.length+1<4096/\Q σ (upd H1 D (Ex w D (Xf l k)))
theorem Wr{D:Addr}(hxe:X.xe=fun _ _=>False)(he:PE X elt te):PEm X (emS elt (.ref D) X.env) (Gp X.w D te):=by
 intro pins s σ H Q k F E I h hk;unfold emS;refine AB (AB (CD (Cc hxe (he pins s σ H _ I h)) (fun u s1 ⟨y,H1,I1,r1,l,kk,e1,e2,z1,q1⟩=>?_) fun _ _ z=>z));subst e1;refine AB (FN (AB (CD (Cc hxe (Zz pins s1 σ H1 (.ref D) [.str kk] (.ref D) [u] (fun v H2=>v = .non/\Q σ H2) I1 rfl (.cons r1 .nil) ⟨D,l,kk,rfl,rfl,e2,z1,rfl,q1⟩)) (fun v s2 ⟨y2,H2,I2,r2,_,q2⟩=>?_) fun _ _ z=>z)));exact AD (hk s2 σ H2 I2 q2)
theorem zAz{D:Addr}(hc:X.calm=true)(hxe:X.xe=fun _ _=>False)(hi:PI X tg2 iter2 wi2)(hg:PG X tg2 g2)(ht:PTs X ifs2 tc2)(he:PE X elt te)(hs:∀x,foldedSetIterable iter2 X.env x=pure x) :
  PEm X (emN (.SetComp elt [⟨tg,iter,ifs,0⟩,⟨tg2,iter2,ifs2,0⟩] scope pos) iter2 1 (.ref D) X.env) (zFo wi2 fun J σ H Q=>V0 g2 tc2 (Gp X.w D te) J σ H Q):=by
 intro pins s σ H Q k F E I h hk;unfold emN;have h0:=hi pins s σ H _ I h;rw[hxe]at h0;refine AB (CD h0 (fun v s1 h1=>?_) fun _ _ z=>z.elim);refine AB (FN (AB (GJ (hs v) (AB (CF (CD h1 (fun itv s2 h2=>?_) fun _ _ z=>z.elim))))));obtain⟨it,fp,tn,J,H2,eit,I2,T,st2,f2,R2⟩:=h2;subst eit;refine AB (wpAny_runOwn ?_);refine U6 (X:=X) (e:=.SetComp elt [⟨tg,iter,ifs,0⟩,⟨tg2,iter2,ifs2,0⟩] scope pos) (d:=1) (tg:=tg2) (iter:=iter2) (ifs:=ifs2) rfl rfl (gs:=[⟨tg,iter,ifs,0⟩,⟨tg2,iter2,ifs2,0⟩]) rfl rfl T st2 ?_;exact Q6 (X:=X) rfl rfl hc hxe (Of elt tg iter tg2 iter2 ifs ifs2 scope pos _ _ _) hg ht (Wr hxe he) T I2 st2 f2 R2 fun s' σ' H' I' q'=>hk s' σ' H' I' q'
theorem zAj(S:CScope X scope cl N' cap)(hc:X.calm=true)(hi:PI X tg iter wi)
  (hb:∀(pins:List (Addr×Obj)) (ex:List Addr) (s3:Shared) (H3:Hp),PG (cxC X scope cl N' pins ex s3 H3) tg g/\PTs (cxC X scope cl N' pins ex s3 H3) ifs tc/\PI (cxC X scope cl N' pins ex s3 H3) tg2 iter2 wi2 /\
   PG (cxC X scope cl N' pins ex s3 H3) tg2 g2/\PTs (cxC X scope cl N' pins ex s3 H3) ifs2 tc2/\PE (cxC X scope cl N' pins ex s3 H3) elt te)
  (hs:∀x,foldedSetIterable iter X.env x=pure x:=by intro _;rfl) (hs2:∀env x,foldedSetIterable iter2 env x=pure x:=by intro _ _;rfl) :
  PE X (.SetComp elt [⟨tg,iter,ifs,0⟩,⟨tg2,iter2,ifs2,0⟩] scope pos) (Bx wi (fun D=>Ex X.w D []) cap fun D J σ H Q=>V0 g tc (zFo wi2 fun J σ H Q=>V0 g2 tc2 (Gp X.w D te) J σ H Q) J σ H Q):=by
 refine Dh (newAcc:=newSet (.type "set")) (p2:=firstIterPos [⟨tg,iter,ifs,0⟩,⟨tg2,iter2,ifs2,0⟩] pos) rfl (fun D=>Ex X.w D []) hs S hc hi (fun pins s σ H Q E I h=>?_) (fun pins ex s3 H3 D it fp tn J σ s H Q R T I st hf h hR=>?_) (fun _ _ _=>rfl) (fun _ _ _=>rfl) (fun E Q s h=>h)
 .refine Wg fun z=>h _ (I.laid (t':=s.toks) (fun b o e=>AC _ e) (Nat.le_refl _) (Yg z)) fun b ob e=>AC _ e
 .obtain⟨b1,b2,b3,b4,b5,b6⟩:=hb pins ex s3 H3;exact Q6 (X:=cxC X scope cl N' pins ex s3 H3) rfl rfl hc rfl (On elt tg iter tg2 iter2 ifs ifs2 scope pos _ _ _) b1 b2 (zAz (X:=cxC X scope cl N' pins ex s3 H3) hc rfl b3 b4 b5 b6 (hs2 _)) T I st hf h hR
end
theorem Inv.drawn{X:Cx}{pins:List (Addr×Obj)}{σ:St}{H:Hp}{s:Shared}(I:Inv X pins σ H s)(d:Drawn):Inv X pins σ H { s with drawn:=d } :=
 ⟨I.ok,I.os,I.bare,I.base,I.loc,I.cell,I.free,I.freeC,I.pin,I.hok,I.len⟩
section
variable{X:Cx}
theorem Fb(hc:X.calm=true):G6 X (.builtin "sorted") (fun xs H Q=>∃(p:Addr) (ss:List Str),xs = [.ref p]/\H p=some (Ex X.w p ss)/\∀(l:Addr) (ss':List Str),H l=none->ss'.Perm ss->ss'.Pairwise leS->Q (.ref l) (upd H l (.lst (ss'.map V.str)))):=by
 intro pins s σ H xs us Q I r h;obtain⟨p,ss,rfl,hq,q⟩:=h;obtain⟨u,rfl,ru⟩:=R4 r;cases ru;obtain⟨o,es,ep,t,S,T⟩:=I.setw hq;refine TS.sorted_gen (ST.collect_set (show X.A.in1.handled=none from I.ok.hd hc) S fun s1 its k1 g1 o1 tk1 hpi=>?_);have hS:∀v∈its,∃x tk,v=Value.str x tk:=fun v hv=>by
  obtain⟨e,he,rfl⟩:=AE.mp (hpi.mem_iff.mp hv);obtain⟨x,tk,rfl⟩:=T.el e he;exact⟨x,tk,rfl⟩
 have hstr:StrsAre its (its.map strOf):=by
  have:∀l:List Value,(∀v∈l,∃x tk,v=Value.str x tk)->StrsAre l (l.map strOf):=by
   intro l
   induction l with
   | nil=>exact fun _=>.nil
   | cons v r ih =>
    intro h;obtain⟨x,tk,rfl⟩:=h v (BE ..);exact .cons _ _ (ih fun u hu=>h u (AU _ hu))
  exact this its hS
 have hlen:its.length=es.size:=by rw[hpi.length_eq,AA,AS]
 have hfew:=S.few;have hss:(its.map strOf).Perm ss:=by
  refine(hpi.map strOf).trans ?_;rw[AY];refine List.Perm.trans (List.Perm.of_eq ?_) T.pm;refine FQ fun e he=>?_;obtain⟨x,tk,rfl⟩:=T.el e he;rfl
 refine⟨o1,by rw[sizeLine_eq];omega,strKind,oneType',fun s2 _=>TS.keys_strs hstr,fun out h' e ho k hg=>?_⟩;obtain⟨hp,hs⟩:=ho;have hm:∀v∈out.toList,∃x t,v = .str x t:=fun v hv=>hS v (hp.mem_iff.mp hv);have hv:Vals ((out.toList.map strOf).map V.str) out.toList:=by
  have:∀us:List Value,(∀v∈us,∃x t,v = .str x t)->Vals ((us.map strOf).map V.str) us:=by
   intro us
   induction us with
   | nil=>exact fun _=>.nil
   | cons v r ih =>
    intro h;obtain⟨x,t,rfl⟩:=h v (BE ..);exact .cons ⟨t,rfl⟩ (ih fun u hu=>h u (AU _ hu))
  exact this _ hm
 have hperm:(out.toList.map strOf).Perm ss:=(hp.map strOf).trans hss;have hpw:(out.toList.map strOf).Pairwise leS:=by
  rw[BW];refine(DY.mp hs).imp fun{u v} ⟨hu,hv',q⟩=>?_;obtain⟨x,t,rfl⟩:=hm u hu;obtain⟨y,t',rfl⟩:=hm v hv';have q':decide (y.cps.toList<x.cps.toList)=false:=q;exact of_decide_eq_false q'
 have k0:∀b o,s.heap.get? b=some o->h'.get? b=some o:=fun b o eb=>k b o (k1 b o eb);have hge:s.heap.objs.size<=s1.heap.objs.size:=E_ tk1;have hn:H s1.heap.objs.size=none:=I.hok.fresh hge;obtain⟨h1,g',d',t',o'⟩:=s1;have eo:o'=s.os:=o1;have eg:g'=s.gens:=g1;subst eo;subst eg;refine⟨.ref h1.objs.size,upd H h1.objs.size (.lst ((out.toList.map strOf).map V.str)),?_,rfl,q _ _ hn hperm hpw⟩;exact(I.laid (a:=h1.objs.size) (o:=.lst ((out.toList.map strOf).map V.str)) (t':=t') k0 hge ⟨by rw[AA,AA,hp.length_eq,sizeLine_eq];omega,out.toList,e,hv,by simpa using hg⟩).drawn d'
end
def Ox(P:Program)(w:World)(a:Addr)(ks:List (List Key×Addr)):HO:=.ext fun h=>ST.TSet (C0 P w) h a ks
def Kn(H:Hp)(ks:List (List Key×Addr)):Prop:=∀q∈ks,H q.2=some (.tup (q.1.map kV))
section
variable{X:Cx}{pins:List (Addr×Obj)}{σ:St}{H:Hp}{s:Shared}{a:Addr}{ks:List (List Key×Addr)}
theorem Ml(P:Program)(w:World):ST.Flat (C0 P w):=fun v ⟨x,h⟩=>(C0 P w).byValue x v h
theorem Up(P:Program)(w:World):ST.Scan (C0 P w):=fun v ⟨x,h⟩=>by
 rcases E6 (show Dq x v=true from h)with⟨i,t,_,rfl⟩ | ⟨y,t,_,rfl⟩<;>rfl
theorem Yj{P:Program}{w:World}{H:Hp}{h:Heap}(z:ST.TSet (C0 P w) h a ks):ObjOk P w H h a (Ox P w a ks) :=
 ⟨z,let⟨o,_,_,_,e,_⟩:=z;⟨o,e⟩,fun h1 h2 ⟨o,es,ep,t,e,r⟩ k=>⟨o,es,ep,t,k o e,r⟩⟩
theorem Inv.sett(I:Inv X pins σ H s)(e:H a=some (Ox X.prog X.w a ks)):ST.TSet (C0 X.prog X.w) s.heap a ks:=by
 obtain⟨z,_⟩:=(show ObjOk X.prog X.w H s.heap a (Ox X.prog X.w a ks)from I.hok a _ e);exact z
theorem Nb:G6 X (.type "set") (fun xs H Q=>xs = []/\∀p,H p=none->Q (.ref p) (upd H p (Ox X.prog X.w p []))):=by
 intro pins s σ H xs us Q I r h;obtain⟨rfl,q⟩:=h;cases r;refine call_set_0 fun led=>⟨.ref s.heap.objs.size,_,I.laid (t':=s.toks) (fun b o e=>AC _ e) (Nat.le_refl _) (Yj ?_),rfl,q _ (I.hok.fresh (Nat.le_refl _))⟩;exact⟨_,#[],0,_,BC _ rfl,⟨rfl,rfl,rfl⟩,rfl,.refl _,⟨rfl,rfl,.inl rfl,by show 0*5<7*3;decide⟩⟩
def zHs(P:Program)(w:World):R2:=fun x y H Q=>∃a p ks k,y = .ref a/\x = .ref p/\H a=some (Ox P w a ks)/\H p=some (.tup (k.map kV))/\Kn H ks/\(∀q∈ks,q.1≠k)/\Q (.bl false) H
theorem Om(hu:X.A.units+1<cLine):OpR X (compareOp .In) (zHs X.prog X.w):=by
 intro pins s σ H x y v u Q I rx ry h;obtain⟨a,p,ks,k,rfl,rfl,hH,hp,ht,hn,q⟩:=h;cases ry;cases rx;exact ST.in_free (neg:=false) hu (Ml _ _) (I.sett hH) (fun z hz=>l7 I.hok (ht z hz)) (l7 I.hok hp) hn ⟨.bl false,H,I.tok _,rfl,q⟩
def zEk(P:Program)(w:World):V->List V->Hp->VK->Prop:=fun x vs H Q=>∃a p ks k,x = .ref a/\vs = [.ref p]/\H a=some (Ox P w a ks)/\H p=some (.tup (k.map kV))/\Kn H ks/\(∀q∈ks,q.1≠k)/\ks.length+1<=300/\Q .non (upd H a (Ox P w a (ks ++ [(k,p)])))
theorem zAy(hu:X.A.units+1<cLine):MtM X "set.add" (zEk X.prog X.w):=by
 intro pins s σ H x vs v us Q I rx rv h;obtain⟨a,p,ks,k,rfl,rfl,hH,hp,ht,hn,hl,q⟩:=h;cases rx;obtain⟨u,rfl,ru⟩:=rv.one;cases ru;refine ST.call_add hu (Ml _ _) (Up _ _) (I.sett hH) (fun z hz=>l7 I.hok (ht z hz)) (l7 I.hok hp) hn hl fun h' hs z=>?_;exact⟨.non,_,I.write (x:=a) (e:=a) (by rw[hH];exact True.intro) (.inl rfl) (fun b q hb e=>(hs.2 b hb).trans e) (let⟨o,_,_,_,e,_⟩:=z;⟨o,e⟩) (Yj z),rfl,q⟩
end
section
variable{X:Cx}{tg:Expr}
def zFl(K:PySem.W.Frag)(tl:TE):TI:=fun σ H R=>tl σ H fun x H1=>∃a,x = .ref a/\(((∃xs,SqL K H1 a xs)/\R (Itl K a) H1)\/((∃xs,SqT K H1 a xs)/\R (Itt K a) H1))
theorem zEv{l:Expr}{tl:TE}(hl:PE X l tl):PI X tg l (zFl X.K tl):=by
 intro pins s σ H R I h;refine thn (hl pins s σ H _ I h) fun v s1 ⟨x,H1,I1,r1,q1⟩=>?_;obtain⟨a,e,q1⟩:=q1;subst e;cases r1;have fin:∀b,b∈[s1.heap.objs.size]->Bp X pins H1 b:=fun b hb=>by
  have e:b=s1.heap.objs.size:=by simpa using hb
  subst e;exact I1.fpOk (Nat.le_refl _) (I1.hok.fresh (Nat.le_refl _))
 rcases q1 with⟨⟨xs,hq⟩,q⟩ | ⟨⟨xs,hq⟩,q⟩
 .obtain⟨its,rv,p,hz⟩:=I1.list hq;refine GF p.isList ?_;exact⟨s1.heap.objs.size,[s1.heap.objs.size],_,_,H1,rfl,I1.kept (t':=s1.toks) fun b o e=>AC _ e,Fw a _,⟨_,BC _ rfl,rfl,rfl⟩,fin,q⟩
 .obtain⟨its,rv,p,hz⟩:=I1.tuple hq;refine wpAny_pyIter_tuple (show s1.heap.IsTuple a its.toArray from p) ?_;exact⟨s1.heap.objs.size,[s1.heap.objs.size],_,_,H1,rfl,I1.kept (t':=s1.toks) fun b o e=>AC _ e,Nq a _,⟨_,BC _ rfl,rfl,rfl⟩,fin,q⟩
end
section
variable{X:Cx}
theorem Tv:G6 X (.builtin "isinstance") (fun xs H Q=>∃x n t b,xs = [x,.ty n]/\TyOf X.K H x t/\PySem.W.kitOne X.K t (.type n)=some b/\Q (.bl b) H):=by
 intro pins s σ H xs us Q I r h;obtain⟨x,n,t,b,rfl,ht,he,q⟩:=h;obtain⟨u,v,rfl,ru,rv⟩:=r.two;cases rv;exact Sh I ru ht he fun tk=>⟨.bl b,H,I.tok _,rfl,q⟩
end
mutual
def Rp(K:PySem.W.Frag)(H:Hp):PyData->V->Prop
 | .none,v=>v = .non
 | .bool b,v=>v = .bl b
 | .int i,v=>v = .int i
 | .str x,v=>v = .str x
 | .list ds,v=>∃a xs,v = .ref a/\SqL K H a xs/\Rps K H ds xs
 | .tuple ds,v=>∃a xs,v = .ref a/\SqT K H a xs/\Rps K H ds xs
 | .dict _,_=>False
def Rps(K:PySem.W.Frag)(H:Hp):List PyData->List V->Prop
 | [],vs=>vs = []
 | d::ds,vs=>∃v r,vs=v::r/\Rp K H d v/\Rps K H ds r
end
section
variable{X:Cx}{pins:List (Addr×Obj)}{σ:St}{H:Hp}{s:Shared}
mutual
theorem Inv.reads(I:Inv X pins σ H s):∀(d:PyData) (v:V) (u:Value),Rp X.K H d v->RelV v u->∃as,Reads s.heap u d as
 | .none,v,u,h,r=>by
  cases(show v = .non by simpa [Rp] using h);cases r;exact⟨_,.none⟩
 | .bool b,v,u,h,r=>by
  cases(show v = .bl b by simpa [Rp] using h);cases r;exact⟨_,.bool b⟩
 | .int i,v,u,h,r=>by
  cases(show v = .int i by simpa [Rp] using h);obtain⟨t,rfl⟩:=r;exact⟨_,.int i t⟩
 | .str x,v,u,h,r=>by
  cases(show v = .str x by simpa [Rp] using h);obtain⟨t,rfl⟩:=r;exact⟨_,.str x t⟩
 | .list ds,v,u,h,r=>by
  obtain⟨a,xs,e,hq,hs⟩:=(show ∃a xs,v=V.ref a/\SqL X.K H a xs/\Rps X.K H ds xs by simpa [Rp] using h);subst e;cases r;obtain⟨its,rv,⟨o,n,e,hc,hd,hda⟩,_⟩:=I.list hq;obtain⟨as,z⟩:=I.readsAll ds xs its hs rv;exact⟨_,.list e hc hda (by simpa using z)⟩
 | .tuple ds,v,u,h,r=>by
  obtain⟨a,xs,e,hq,hs⟩:=(show ∃a xs,v=V.ref a/\SqT X.K H a xs/\Rps X.K H ds xs by simpa [Rp] using h);subst e;cases r;obtain⟨its,rv,⟨o,e,hc,n,hda⟩,_⟩:=I.tuple hq;obtain⟨as,z⟩:=I.readsAll ds xs its hs rv;exact⟨_,.tuple e hc hda (by simpa using z)⟩
 | .dict _,v,u,h,r=>by simp[Rp]at h
theorem Inv.readsAll(I:Inv X pins σ H s):∀(ds:List PyData) (vs:List V) (us:List Value),Rps X.K H ds vs->Vals vs us->∃as,ReadsAll s.heap us ds as
 | [],vs,us,h,r=>by
  cases(show vs = [] by simpa [Rps] using h);cases r;exact⟨_,.nil⟩
 | d::ds,vs,us,h,r=>by
  obtain⟨v,vr,e,h1,h2⟩:=(show ∃v r,vs=v::r/\Rp X.K H d v/\Rps X.K H ds r by simpa [Rps] using h);subst e;cases r with
  | cons r1 r2 =>
   obtain⟨as,z⟩:=I.reads d v _ h1 r1;obtain⟨bs,z'⟩:=I.readsAll ds vr _ h2 r2;exact⟨_,.cons z z'⟩
end
def Pl(d:PyData):Prop:=d.canLay0=true/\d.depth<=50
def zHd(K:PySem.W.Frag):R2:=fun x y H Q=>∃d e,Rp K H d x/\Rp K H e y/\Pl d/\Pl e/\Q (.bl (PyData.eqv d e)) H
def zGh(K:PySem.W.Frag):R2:=fun x y H Q=>∃d e,Rp K H d x/\Rp K H e y/\Pl d/\Pl e/\Q (.bl (!PyData.eqv d e)) H
theorem zDb(hu:X.A.units+64<cLine):OpR X (compareOp .Eq) (zHd X.K):=by
 intro pins s σ H x y v u Q I rx ry h;obtain⟨d,e,h1,h2,p1,p2,q⟩:=h;obtain⟨as,z1⟩:=I.reads d x v h1 rx;obtain⟨bs,z2⟩:=I.reads e y u h2 ry;exact PySem.SeqAt.compareEq_reads z1 z2 p1.1 p2.1 (by have:=p1.2;have:=p2.2;omega) ⟨.bl (PyData.eqv d e),H,I,rfl,q⟩
theorem zCt(hu:X.A.units+64<cLine):OpR X (compareOp .NotEq) (zGh X.K):=by
 intro pins s σ H x y v u Q I rx ry h;obtain⟨d,e,h1,h2,p1,p2,q⟩:=h;obtain⟨as,z1⟩:=I.reads d x v h1 rx;obtain⟨bs,z2⟩:=I.reads e y u h2 ry;exact PySem.SeqAt.compareNe_reads z1 z2 p1.1 p2.1 (by have:=p1.2;have:=p2.2;omega) ⟨.bl (!PyData.eqv d e),H,I,rfl,q⟩
def zFy(K:PySem.W.Frag)(neg:Bool):R2:=fun x y H Q=>∃d ds,Rp K H d x/\(Rp K H (.list ds) y\/Rp K H (.tuple ds) y)/\Pl d/\PyData.canLayAll0 ds=true/\Q (.bl (if neg then !(ds.any fun z=>PyData.eqv z d)else ds.any fun z=>PyData.eqv z d)) H
theorem Tc(hu:X.A.units+64<cLine):OpR X (compareOp .NotIn) (zFy X.K true):=by
 intro pins s σ H x y v u Q I rx ry h;obtain⟨d,ds,h1,h2,p1,p2,q⟩:=h;obtain⟨as,z1⟩:=I.reads d x v h1 rx;have hu':X.A.units+1+min (PyData.depthAll ds) d.depth<cLine:=by have:=p1.2;omega
 rcases h2 with h2 | h2
 .obtain⟨bs,z2⟩:=I.reads (.list ds) y u h2 ry;exact PySem.SeqAt.notIn_list_reads z2 z1 p2 p1.1 hu' ⟨.bl _,H,I,rfl,q⟩
 .obtain⟨bs,z2⟩:=I.reads (.tuple ds) y u h2 ry;exact PySem.SeqAt.notIn_tuple_reads z2 z1 p2 p1.1 hu' ⟨.bl _,H,I,rfl,q⟩
end
section
variable{X:Cx}
theorem Vals.insert{xs:List V}{us:List Value}{x:V}{u:Value}(h:Vals xs us)(r:RelV x u)(k:Nat):Vals (xs.take k++x::xs.drop k) (us.take k++u::us.drop k):=(h.take k).append (.cons r (h.drop k))
def zAq:V->List V->Hp->VK->Prop:=fun x vs H Q=>∃l xs i k y,x = .ref l/\vs = [.int i,y]/\i =((k:Nat):Int)/\H l=some (.lst xs)/\k<=xs.length/\xs.length<sizeLine/\Q .non (upd H l (.lst (xs.take k++y::xs.drop k)))
theorem zGb{k:Nat}{i:Int}(e:i =(k:Int))(h:k<=sizeLine):¬(!Builtin.List.listFitsIndex i)=true:=by
 rw[sizeLine_eq]at h;have h1:-(2^63:Int)<=i:=by omega
 have h2:i<2^63:=by omega
 have:=fitsIndex_both h1 h2;simpa using this
theorem Qe:MtM X "list.insert" zAq:=by
 intro pins s σ H x vs v us Q I rx rv h;obtain⟨l,xs,i,k,y,rfl,rfl,hi,hH,hk,hz,q⟩:=h;cases rx;obtain⟨u1,u2,rfl,⟨t,rfl⟩,ru⟩:=rv.two;obtain⟨z,its,n,r,hl,e⟩:=I.lstM hH;have h0:k<=sizeLine:=by omega
 have h1:=zGb hi h0;have h2:its.toArray.size<=sizeLine:=by rw[AW];omega
 have hM:=@PySem.AutoListH.list_insert_list_int_val_1 l its.toArray n i t u2 h1 h2;refine call_meets F.slot_list_insert ⟨_,e,rfl⟩ F.entry_list_insert (F.args_list_insert_3 _ _ _) hM ⟨e,?_⟩;refine⟨.non,_,I.lset (its':=its.take k++u2::its.drop k) hH e ?_ (r.insert ru k) ?_,rfl,q⟩
 .have hmin:min k its.length=k:=by omega
  have hn:¬((k:Int)<0):=by omega
  subst hi;have hneg:¬((k:Int)+0<0):=by omega
  have e3:List.take (its.length-k) (List.drop k its)=List.drop k its:=CI (by simp);simp[hmin,hn,e3]
 .rw[BB,BR,AN,DH];omega
def Xu:V->List V->Hp->VK->Prop:=fun x vs H Q=>∃z y ps,x = .str z/\vs = [.str y]/\(decide (z.length<y.length)||decide (Builtin.Str.strKind z<Builtin.Str.strKind y))=false/\(y.length == 0)=false /\
 (Builtin.Str.occurrences z y 0 z.length (z.length+1)).isEmpty=false/\z.length<=4000/\Builtin.Str.partsBetween z (Builtin.Str.occurrences z y 0 z.length (z.length+1)) y.length=ps/\ps.length<=4000/\∀l,H l=none->Q (.ref l) (upd H l (.lst (ps.map V.str)))
theorem Go:∀(ps:List Str) (tk:Nat),Vals (ps.map V.str) (strsFrom tk ps)
 | [],_=>.nil
 | _::r,tk=>.cons ⟨tk,rfl⟩ (Go r (tk+1))
theorem Wm:MtM X "str.split" Xu:=by
 intro pins s σ H x vs v us Q I rx rv h;obtain⟨z,y,ps,rfl,rfl,h1,h2,h3,h4,rfl,h6,q⟩:=h;obtain⟨t,rfl⟩:=rx;obtain⟨u,rfl,⟨tk,rfl⟩⟩:=rv.one;have hz:z.length<=sizeLine:=by rw[sizeLine_eq];omega
 have hp:(Builtin.Str.partsBetween z (Builtin.Str.occurrences z y 0 z.length (z.length+1)) y.length).length<=sizeLine:=by rw[sizeLine_eq];omega
 refine call_meets F.slot_str_split (typeIs_str _ _ _) F.entry_str_split (F.args_str_split_2 _ _) (PySem.meets_str_split_sep z y t tk h1 h2 h3 hz hp) ?_;exact⟨.ref s.heap.objs.size,_,I.lnew (Go _ _) (by rw[AA];exact hp),rfl,q _ I.fresh⟩
end
end L2
namespace L2
open PySem PySem.Spec PyProof.Rows
structure Fn(K:PySem.W.Frag)(mg:Str->Option Value)(x:Str)(st:Stmt)(ps:List Str) where
 f:Addr
 fd:FuncData
 F:Fun K x x st f fd
 b:Binds K fd ps []
 m:mg x=some (.ref f)
structure Mt(K:PySem.W.Frag)(C:Addr)(m qual:Str)(st:Stmt)(ps:List Str) where
 f:Addr
 fd:FuncData
 F:Fun K m qual st f fd
 b:Binds K fd ps []
 m:Meth K C m f
section
variable{X:Cx}
theorem C7{x:Str}{st:Stmt}{ps:List Str}{k:Nat}{sp:Sp}{e:Expr}{es:List Expr}{t:TA}{p pos:Pos}(D:Fn X.K X.mg x st ps)(G:FnOk X.prog X.w X.K X.mg X.base CX0 k D.f D.fd ps sp)(hr:Room k X.A)(ha:PA X (e::es) t)
  (hg:Gl X x:=by rfl) (hdb:(x ==("__debug__":Str))=false:=by decide) (hs:starEach (e::es) X.env =(false,eval e X.env)::starEach es X.env:=by rfl) (hpl:(backTo pos (starEach es X.env)).any (·.1)=false:=by rfl) :
  PE X (.Call (.Name x p) (e::es) [] pos) (zBl sp [] E0 t):=zBo G hr hg D.m D.F.kp D.b .nil K0 ha hdb hs hpl
def Tb(P:Program)(w:World)(x:V)(H:Hp):Prop:=∃p,x = .ref p/\((∃l,H p=some (Oy P w p l))\/(∃l,H p=some (Ex w p l))\/∃ks,H p=some (Ox P w p ks))
theorem zEa{pins:List (Addr×Obj)}{σ:St}{H:Hp}{s:Shared}{x:V}{v:Value}(I:Inv X pins σ H s)(r:RelV x v)(ty:Tb X.prog X.w x H):s.TypeIs v "set"/\∀a,v = .ref a->∃ob,s.heap.get? a=some ob/\ob.dict=none:=by
 obtain⟨p,rfl,h⟩:=ty;cases r;have z:∃o,s.heap.get? p=some o/\o.ExactSet:=by
  rcases h with⟨l,h⟩ | ⟨l,h⟩ | ⟨l,h⟩
  .obtain⟨o,_,_,_,e,ex,_⟩:=I.set h;exact⟨o,e,ex⟩
  .obtain⟨o,_,_,_,S,_⟩:=I.setw h;exact⟨o,S.ho,S.ex⟩
  .obtain⟨o,_,_,_,e,ex,_⟩:=I.sett h;exact⟨o,e,ex⟩
 obtain⟨o,e,ex⟩:=z;refine⟨⟨o,e,ex.1⟩,fun a e2=>?_⟩;cases e2;exact⟨o,e,ex.2.1⟩
def zHx(P:Program)(w:World)(r:V->List V->Hp->VK->Prop)(to:TE)(t:TA):TE:=fun σ H Q=>to σ H fun x H1=>Tb P w x H1/\t σ H1 fun xs H2=>r x xs H2 Q
theorem zAg{o e:Expr}{to:TE}{t:TA}{apos cpos:Pos}{r:V->List V->Hp->VK->Prop}(hm:MtM X "set.add" r)(ho:PE X o to)(ha:PA X [e] t)
  (hbase:attributeBase o "add" X.env (eval o X.env)=eval o X.env:=by rfl)
  (hfew:((backTo cpos (starEach [e] X.env)).all (fun x=>!x.1) &&(backToKw cpos (keywordEach [] X.env)).all (fun x=>x.1.isSome)
   && decide ([e].length +([]:List Keyword).length +(if([]:List Keyword).isEmpty then 0 else 1)<30))=true:=by rfl)
  (hline:(apos.endLine == cpos.line)=true:=by rfl) (hs:starEach [e] X.env = [(false,eval e X.env)]:=by rfl) :
  PE X (.Call (.Attribute o "add" apos) [e] [] cpos) (zHx X.prog X.w r to t):=by
 intro pins s σ H Q I h;refine wpAny_Call_method_late hbase hfew hline rfl (thn (ho pins s σ H _ I h) fun v s1 ⟨x,H1,I1,r1,ty,q1⟩=>?_);obtain⟨h1,h2⟩:=zEa I1 r1 ty;refine⟨"set", "set.add",F.plainAttrs_set,F.slot_set_add,F.type_set_add,h1,h2,?_⟩;have hA:=ha cpos pins s1 σ H1 _ I1 q1;rw[hs]at hA⊢;refine Calls.callWith_builtin rfl (Calls.evalArgs_plain ?_);exact thn hA fun us s2 ⟨vs,H2,I2,r2,q2⟩=>hm pins s2 σ H2 x vs v us Q I2 r1 r2 q2
theorem zDn{x:Str}{i:Int}{pos:Pos}(h:∃t,X.mg x=some (.int i t))(hg:Gl X x:=by rfl)(hd:(x ==("__debug__":Str))=false:=by decide):PE X (.Name x pos) (tC (.int i)):=by
 obtain⟨t,e⟩:=h;exact Ir hg e ⟨t,rfl⟩ hd
theorem zFn{x y:Str}{pos:Pos}(h:∃t,X.mg x=some (.str y t))(hg:Gl X x:=by rfl)(hd:(x ==("__debug__":Str))=false:=by decide):PE X (.Name x pos) (tC (.str y)):=by
 obtain⟨t,e⟩:=h;exact Ir hg e ⟨t,rfl⟩ hd
theorem Jl{x:Str}{n:String}{pos:Pos}(hm:X.mg x=none)(hv:bootBuiltins x=some (.type n))(hg:Gl X x:=by rfl)(hn:x≠ "__name__":=by decide)(hd:(x ==("__debug__":Str))=false:=by decide):PE X (.Name x pos) (tC (.ty n)) :=
 Zy hg hm hv rfl hn hd
theorem E5{x:Str}{id:String}{r:List V->Hp->VK->Prop}{e:Expr}{es:List Expr}{t:TA}{p pos:Pos}(hc:G6 X (.builtin id) r)(hm:X.mg x=none)(hv:bootBuiltins x=some (.builtin id))(ha:PA X (e::es) t)(hg:Gl X x:=by rfl)(hn:x≠ "__name__":=by decide)(hdb:(x ==("__debug__":Str))=false:=by decide)
  (hs:starEach (e::es) X.env =(false,eval e X.env)::starEach es X.env:=by rfl) (hpl:(backTo pos (starEach es X.env)).any (·.1)=false:=by rfl):PE X (.Call (.Name x p) (e::es) [] pos) (tCB r t):=Wv hc hg hm hv ha hn hdb hs hpl
theorem Oh{x:Str}{T:String}{r:List V->Hp->VK->Prop}{e:Expr}{es:List Expr}{t:TA}{p pos:Pos}(hc:G6 X (.type T) r)(hm:X.mg x=none)(hv:bootBuiltins x=some (.type T))(ha:PA X (e::es) t)(hg:Gl X x:=by rfl)(hn:x≠ "__name__":=by decide)(hdb:(x ==("__debug__":Str))=false:=by decide)
  (hs:starEach (e::es) X.env =(false,eval e X.env)::starEach es X.env:=by rfl) (hpl:(backTo pos (starEach es X.env)).any (·.1)=false:=by rfl):PE X (.Call (.Name x p) (e::es) [] pos) (tCB r t):=Ro hc hg hm hv ha hn hdb hs hpl
theorem E7{scope:Scope}{cl:List (Str×Addr)}{N':List Str}{cap:List (Option Nat)}(caps:Caps X scope cl N' cap)(cin:ClIn X cl)(clos:closureFor scope X.env=pure cl:=by rfl)(kind:scope.kind = .function:=by rfl)(nocell:∀y∈scope.names,y.2≠ .cell:=by decide +kernel)
  (loc:∀y∈scope.names,y.2 = .local->scope.names.lookup y.1=some .local:=by decide +kernel) (has:((relabel scope X.env).names.all fun y=>!(y.2 == .cell||y.2 == .free)||(cl.lookup y.1).isSome)=true:=by rfl):CScope X scope cl N' cap:=⟨kind,nocell,loc,clos,cin,has,caps⟩
theorem pgC{scope:Scope}{cl:List (Str×Addr)}{N':List Str}{pins:List (Addr×Obj)}{ex:List Addr}{s3:Shared}{H3:Hp}{x:Str}{pos:Pos}(i:Nat)(hN:N'.Nodup:=by decide +kernel)(hi:N'[i]?=some x:=by rfl)(hx:Loc (cxC X scope cl N' pins ex s3 H3).env.scope x:=by exact Or.inl rfl)
  (hf:(cxC X scope cl N' pins ex s3 H3).env.scope.names.lookup x=some .local:=by rfl):PG (cxC X scope cl N' pins ex s3 H3) (.Name x pos) (J5 i):=J2 (X:=cxC X scope cl N' pins ex s3 H3) hN hi hx (.inr hf)
end
theorem o7:bootBuiltins "len" = some (.builtin "len"):=by decide +kernel
theorem Gc:bootBuiltins "enumerate" = some (.type "enumerate"):=by decide +kernel
theorem zDv:bootBuiltins "min" = some (.builtin "min"):=by decide +kernel
theorem Yv:bootBuiltins "abs" = some (.builtin "abs"):=by decide +kernel
theorem I9:bootBuiltins "sorted" = some (.builtin "sorted"):=by decide +kernel
theorem Yl:bootBuiltins "int" = some (.type "int"):=by decide +kernel
theorem zEp:bootBuiltins "str" = some (.type "str"):=by decide +kernel
theorem zAi:bootBuiltins "bool" = some (.type "bool"):=by decide +kernel
theorem Dz:bootBuiltins "list" = some (.type "list"):=by decide +kernel
theorem Ei:bootBuiltins "tuple" = some (.type "tuple"):=by decide +kernel
theorem Yf:bootBuiltins "set" = some (.type "set"):=by decide +kernel
theorem J4:bootBuiltins "isinstance" = some (.builtin "isinstance"):=by decide +kernel
theorem Q7:bootBuiltins "all" = some (.builtin "all"):=by decide +kernel
def KeepAt(a:Addr)(H0 H:Hp):Prop:=∀o,H0 a=some o->H a=some o
def Sm(D:List Addr)(H H':Hp):Prop:=∀b o,H b=some o->b∉D->H' b=some o
theorem Same.at{H0 H:Hp}(h:Same H0 H)(a:Addr):KeepAt a H0 H:=fun o e=>h a o e
theorem Same.new{H:Hp}{p:Addr}{o:HO}(h:H p=none):Same H (upd H p o):=fun b u e=>by rw[B6 (B0 e h)];exact e
theorem Same.upd{H0 H:Hp}{p:Addr}{o:HO}(s:Same H0 H)(h:H0 p=none):Same H0 (upd H p o):=fun b u e=>by rw[B6 (B0 e h)];exact s b u e
theorem Same.sm{D:List Addr}{H H':Hp}(h:Same H H'):Sm D H H':=fun b o e _=>h b o e
theorem Sm.refl(D:List Addr)(H:Hp):Sm D H H:=fun _ _ e _=>e
theorem Sm.trans{D:List Addr}{H H1 H2:Hp}(a:Sm D H H1)(b:Sm D H1 H2):Sm D H H2:=fun c o h n=>b c o (a c o h n) n
theorem Sm.new{D:List Addr}{H H1:Hp}{p:Addr}{o:HO}(a:Sm D H H1)(h:H1 p=none):Sm D H (L2.upd H1 p o):=fun b u e n=>by
 have:=a b u e n;rw[B6 (B0 this h)];exact this
theorem Sm.upd{D:List Addr}{H H1:Hp}{p:Addr}{o:HO}(a:Sm D H H1)(h:p∈D):Sm D H (L2.upd H1 p o):=fun b u e n=>by
 rw[B6 (show b≠p from fun z=>n (by rw[z];exact h))];exact a b u e n
theorem Sm.updN{D:List Addr}{H H1:Hp}{p:Addr}{o:HO}(a:Sm D H H1)(h:H p=none):Sm D H (L2.upd H1 p o):=fun b u e n=>by rw[B6 (B0 e h)];exact a b u e n
theorem Sm.at{D:List Addr}{H H':Hp}(h:Sm D H H'){a:Addr}(n:a∉D):KeepAt a H H':=fun o e=>h a o e n
theorem Sm.none{D:List Addr}{H H':Hp}(h:Sm D H H'){a:Addr}(n:a∉D)(e:H' a=Option.none):H a=Option.none:=by
 cases q:H a with
 | none=>rfl
 | some o=>rw[h a o q n]at e;cases e
theorem KeepAt.seqL{K:PySem.W.Frag}{H H':Hp}{a:Addr}{xs:List V}(e:KeepAt a H H')(h:SqL K H a xs):SqL K H' a xs:=by
 rcases h with(h | ⟨o,h⟩) | h
 .exact .inl (.inl (e _ h))
 .exact .inl (.inr ⟨o,e _ h⟩)
 .exact .inr h
theorem KeepAt.seqT{K:PySem.W.Frag}{H H':Hp}{a:Addr}{xs:List V}(e:KeepAt a H H')(h:SqT K H a xs):SqT K H' a xs:=by
 rcases h with(h | ⟨o,h⟩) | h
 .exact .inl (.inl (e _ h))
 .exact .inl (.inr ⟨o,e _ h⟩)
 .exact .inr h
def Sqs(K:PySem.W.Frag)(H:Hp)(a:Addr)(xs:List V):Prop:=SqL K H a xs\/SqT K H a xs
theorem KeepAt.seq{K:PySem.W.Frag}{H H':Hp}{a:Addr}{xs:List V}(e:KeepAt a H H')(h:Sqs K H a xs):Sqs K H' a xs:=h.imp e.seqL e.seqT
structure AsSeq(J:It)(xs:List V)(a:Addr)(H0:Hp):Prop where
 go:∀H i,KeepAt a H0 H->i<xs.length->J.go i H
 stop:∀H,KeepAt a H0 H->J.stop xs.length H
 yld:∀H i x H',KeepAt a H0 H->i<xs.length->J.yld i H x H'->H'=H/\xs[i]?=some x
theorem asL{K:PySem.W.Frag}{H0:Hp}{a:Addr}{xs:List V}(h:SqL K H0 a xs):AsSeq (Itl K a) xs a H0 :=
 ⟨fun H i k hi=>⟨xs,xs[i],k.seqL h,AH hi⟩,fun H k=>⟨xs,k.seqL h,Nat.le_refl _⟩,fun H i x H' k hi ⟨e,y⟩=>⟨e,y xs (k.seqL h)⟩⟩
theorem asT{K:PySem.W.Frag}{H0:Hp}{a:Addr}{xs:List V}(h:SqT K H0 a xs):AsSeq (Itt K a) xs a H0 :=
 ⟨fun H i k hi=>⟨xs,xs[i],k.seqT h,AH hi⟩,fun H k=>⟨xs,k.seqT h,Nat.le_refl _⟩,fun H i x H' k hi ⟨e,y⟩=>⟨e,y xs (k.seqT h)⟩⟩
theorem zDo{K:PySem.W.Frag}{H:Hp}{σ:St}{a:Addr}{xs:List V}{R:It->Hp->Prop}{i:Nat}(hv:σ[i]?=some (some (.ref a)))(h:Sqs K H a xs)(r:∀J,AsSeq J xs a H->R J H):zFl K (Bo i) σ H R:=by
 refine⟨_,hv,a,rfl,?_⟩;rcases h with h | h
 .exact .inl ⟨⟨xs,h⟩,r _ (asL h)⟩
 .exact .inr ⟨⟨xs,h⟩,r _ (asT h)⟩
theorem R9{K:PySem.W.Frag}{o:Addr->HO}{cap:List (Option Nat)}{lp:Addr->It->St->Hp->(St->Hp->Prop)->Prop}{σ:St}{H:Hp}{Q:VK}{a:Addr}{xs:List V}{i:Nat}(hv:σ[i]?=some (some (.ref a)))(h:Sqs K H a xs)
  (r:∀J,AsSeq J xs a H->∀D,H D=none->lp D J (Ma cap σ) (upd H D (o D)) fun _ H2=>Q (.ref D) H2):Bx (zFl K (Bo i)) o cap lp σ H Q:=zDo hv h r
theorem zAh{J:It}{n:Nat}{g:TG}{tb:TS}{D:Ends}{σ:St}{H:Hp}(Pv:Nat->St->Hp->Prop)(h0:Pv 0 σ H)(hgo:∀i σ H,i<n->Pv i σ H->J.go i H)(hst:∀σ H,Pv n σ H->J.stop n H)
  (hs:∀i σ H x H',i<n->Pv i σ H->J.yld i H x H'->g x σ H' fun σ2 H2=>tb { D with nx:=Pv (i+1),ct:=Pv (i+1),bk:=D.nx } σ2 H2) (hd:∀σ H,Pv n σ H->D.nx σ H) :
  ∃W:Nat->Nat->St->Hp->Prop,(∃m,W 0 m σ H)/\∀i m σ H,W i m σ H ->
   (J.stop i H/\D.nx σ H)\/(J.go i H/\∃N:St->Hp->Prop,(∀σ' H',N σ' H'->∃m',m' < m/\W (i+1) m' σ' H')/\∀x H',J.yld i H x H'->g x σ H' fun σ2 H2=>tb { D with nx:=N,ct:=N,bk:=D.nx } σ2 H2):=by
 refine⟨fun i m σ H=>m=n-i/\i<=n/\Pv i σ H,⟨n,by simp,CC _,h0⟩,?_⟩;rintro i m σ H ⟨rfl,hi,p⟩;by_cases hlt:i<n
 .exact .inr ⟨hgo i σ H hlt p,Pv (i+1),fun σ' H' p'=>⟨n-(i+1),by omega,rfl,hlt,p'⟩,fun x H' y=>hs i σ H x H' hlt p y⟩
 .have e:i=n:=by omega
  subst e;exact .inl ⟨hst σ H p,hd σ H p⟩
theorem zCd{J:It}{xs:List V}{a:Addr}{H0:Hp}(as:AsSeq J xs a H0){g:TG}{tb:TS}{D:Ends}{σ:St}{H:Hp}(Pv:Nat->St->Hp->Prop)(h0:Pv 0 σ H)(hk:∀i σ H,i<=xs.length->Pv i σ H->KeepAt a H0 H)
  (hs:∀i σ H x,xs[i]?=some x->Pv i σ H->g x σ H fun σ2 H2=>tb { D with nx:=Pv (i+1),ct:=Pv (i+1),bk:=D.nx } σ2 H2) (hd:∀σ H,Pv xs.length σ H->D.nx σ H) :
  ∃W:Nat->Nat->St->Hp->Prop,(∃m,W 0 m σ H)/\∀i m σ H,W i m σ H ->
   (J.stop i H/\D.nx σ H)\/(J.go i H/\∃N:St->Hp->Prop,(∀σ' H',N σ' H'->∃m',m' < m/\W (i+1) m' σ' H')/\∀x H',J.yld i H x H'->g x σ H' fun σ2 H2=>tb { D with nx:=N,ct:=N,bk:=D.nx } σ2 H2) :=
 zAh (n:=xs.length) Pv h0 (fun i σ H hi p=>as.go H i (hk i σ H (E_ hi) p) hi) (fun σ H p=>as.stop H (hk _ σ H (Nat.le_refl _) p)) (fun i σ H x H' hi p y=>by
  obtain⟨rfl,e⟩:=as.yld H i x H' (hk i σ H (E_ hi) p) hi y;exact hs i σ _ x e p) hd
theorem Cf{J:It}{n:Nat}{g:TG}{tc:TT}{em:TEm}{σ:St}{H:Hp}{Q:St->Hp->Prop}(Pv:Nat->St->Hp->Prop)(h0:Pv 0 σ H)(hgo:∀i σ H,i<n->Pv i σ H->J.go i H)(hst:∀σ H,Pv n σ H->J.stop n H)
  (hs:∀i σ H x H' (N:St->Hp->Prop),i<n->Pv i σ H->J.yld i H x H'->(∀σ' H',Pv (i+1) σ' H'->N σ' H')->g x σ H' fun σ2 H2=>tc σ2 H2 fun b H3=>if b=true then em σ2 H3 N else N σ2 H3)
  (hd:∀σ H,Pv n σ H->Q σ H):V0 g tc em J σ H Q:=by
 refine⟨fun i m σ H=>m=n-i/\i<=n/\Pv i σ H,⟨n,by simp,CC _,h0⟩,?_⟩;rintro i m σ H ⟨rfl,hi,p⟩;by_cases hlt:i<n
 .exact .inr ⟨hgo i σ H hlt p,fun x H' y=>hs i σ H x H' _ hlt p y fun σ3 H4 p'=>⟨n-(i+1),by omega,rfl,hlt,p'⟩⟩
 .have e:i=n:=by omega
  subst e;exact .inl ⟨hst σ H p,hd σ H p⟩
theorem G0{J:It}{xs:List V}{a:Addr}{H0:Hp}(as:AsSeq J xs a H0){g:TG}{tc:TT}{em:TEm}{σ:St}{H:Hp}{Q:St->Hp->Prop}(Pv:Nat->St->Hp->Prop)(h0:Pv 0 σ H)(hk:∀i σ H,i<=xs.length->Pv i σ H->KeepAt a H0 H)
  (hs:∀i σ H x (N:St->Hp->Prop),xs[i]?=some x->Pv i σ H->(∀σ' H',Pv (i+1) σ' H'->N σ' H')->g x σ H fun σ2 H2=>tc σ2 H2 fun b H3=>if b=true then em σ2 H3 N else N σ2 H3)
  (hd:∀σ H,Pv xs.length σ H->Q σ H):V0 g tc em J σ H Q :=
 Cf (n:=xs.length) Pv h0 (fun i σ H hi p=>as.go H i (hk i σ H (E_ hi) p) hi) (fun σ H p=>as.stop H (hk _ σ H (Nat.le_refl _) p)) (fun i σ H x H' N hi p y hN=>by
  obtain⟨rfl,e⟩:=as.yld H i x H' (hk i σ H (E_ hi) p) hi y;exact hs i σ _ x N e p hN) hd
theorem M9{em:TEm}{N:St->Hp->Prop}{σ:St}{H:Hp}{i:Nat}{x:V}(h:em (σ.set i (some x)) H N):J5 i x σ H fun σ2 H2=>S9 σ2 H2 fun b H3=>if b=true then em σ2 H3 N else N σ2 H3:=by
 show if true=true then em (σ.set i (some x)) H N else N (σ.set i (some x)) H
 rw[AR rfl];exact h
theorem Zg{em:TEm}{N:St->Hp->Prop}{σ:St}{H:Hp}(h:em σ H N):S9 σ H fun b H3=>if b=true then em σ H3 N else N σ H3:=by
 show if true=true then em σ H N else N σ H
 rw[AR rfl];exact h
section
variable{X:Cx}(K:PySem.W.Frag)(P:Program)(w:World){tg:Expr}
theorem piL{l:Expr}{tl:TE}(hl:PE X l tl)(hK:X.K=K:=by rfl):PI X tg l (zCg K tl):=by subst hK;exact zBs hl
theorem piS{l:Expr}{tl:TE}(hl:PE X l tl)(hK:X.K=K:=by rfl):PI X tg l (zFl K tl):=by subst hK;exact zEv hl
theorem piE{elts:List Expr}{kk:Nat}{tp:Pos}{a:Expr}{ta:TA}{p pos:Pos}(hm:X.mg "enumerate" = none)(ha:PA X [a] ta)(hg:Gl X "enumerate":=by rfl)(hs:starEach [a] X.env = [(false,eval a X.env)]:=by rfl)(hK:X.K=K:=by rfl) :
  PI X (.Tuple elts kk tp) (.Call (.Name "enumerate" p) [a] [] pos) (zCb K ta):=by subst hK;exact Zh hg hm Gc ha hs
theorem zHr{a:Expr}{ta:TA}{p pos:Pos}(hm:X.mg "range" = none)(ha:PA X [a] ta)(hg:Gl X "range":=by rfl)(hs:starEach [a] X.env = [(false,eval a X.env)]:=by rfl):PI X tg (.Call (.Name "range" p) [a] [] pos) (zEh ta):=Rr hg hm ha hs
theorem pgT{es:List Expr}{k:Nat}{t:TGs}{n:Nat}{pos:Pos}(h:PGs X es t)(hc:X.calm=true:=by rfl)(hn:(assignEach es X.env).length=n:=by rfl)(hst:(assignEach es X.env).findIdx? (·.1)=none:=by rfl)(hK:X.K=K:=by rfl):PG X (.Tuple es k pos) (zFu K n t):=by subst hK;exact zCh hc h hn hst
theorem peF{e:Expr}{ta:TE}{f:Str}{pos:Pos}(he:PE X e ta)(hb:attributeBase e f X.env (eval e X.env)=eval e X.env:=by rfl)(hK:X.K=K:=by rfl):PE X (.Attribute e f pos) (zHp K ta f):=by subst hK;exact zFg he hb
theorem psF{o value:Expr}{ta tv:TE}{f:Str}{pos pos':Pos}(ha:PE X o ta)(hv:PE X value tv)(hs:swapsWith value (some (.Attribute o f pos')) pos.line X.env=pure false:=by rfl)(hK:X.K=K:=by rfl):PS X (.Assign [.Attribute o f pos'] value pos) (zHt K ta tv f):=by subst hK;exact zDr ha hv hs
theorem Ad(hK:X.K=K:=by rfl):G6 X (.builtin "len") (fun xs H Q=>∃p ys,xs = [.ref p]/\(SqL K H p ys\/SqT K H p ys)/\Q (.int ys.length) H):=by subst hK;exact Fm
theorem Jn(hK:X.K=K:=by rfl):G6 X (.type "list") (fun xs H Q=>∃p ys,xs = [.ref p]/\(SqL K H p ys\/SqT K H p ys)/\∀l,H l=none->Q (.ref l) (upd H l (.lst ys))):=by subst hK;exact Ge
theorem Q9(hc:X.calm=true:=by rfl)(hK:X.K=K:=by rfl):G6 X (.builtin "all") (fun xs H Q=>∃(p:Addr) (bs:List Bool),xs = [.ref p]/\SqL K H p (bs.map V.bl)/\Q (.bl (bs.all id)) H):=by subst hK;exact Uw hc
theorem X3(hK:X.K=K:=by rfl):G6 X (.builtin "sorted") (fun xs H Q=>∃(p:Addr) (ss:List Str),xs = [.ref p]/\SqL K H p (ss.map V.str)/\∀(l:Addr) (ss':List Str),H l=none->ss'.Perm ss->ss'.Pairwise leS->Q (.ref l) (upd H l (.lst (ss'.map V.str)))):=by subst hK;exact l9
theorem Ks(hK:X.K=K:=by rfl):G6 X (.builtin "sorted") (fun xs H Q=>∃(p:Addr) (ps:List PA2),xs = [.ref p]/\SqL K H p (ps.map fun q=>V.ref q.1)/\(∀q∈ps,G9 H q)/\∀(l:Addr) (ps':List PA2),H l=none->ps'.Perm ps->ps'.Pairwise leP->Q (.ref l) (upd H l (.lst (ps'.map fun q=>V.ref q.1)))):=by subst hK;exact Gr
theorem Mh(hc:X.calm=true:=by rfl)(hw:X.w=w:=by rfl):G6 X (.builtin "sorted") (fun xs H Q=>∃(p:Addr) (ss:List Str),xs = [.ref p]/\H p=some (Ex w p ss)/\∀(l:Addr) (ss':List Str),H l=none->ss'.Perm ss->ss'.Pairwise leS->Q (.ref l) (upd H l (.lst (ss'.map V.str)))):=by subst hw;exact Fb hc
theorem Ao(hK:X.K=K:=by rfl):G6 X (.builtin "isinstance") (fun xs H Q=>∃x n t b,xs = [x,.ty n]/\TyOf K H x t/\PySem.W.kitOne K t (.type n)=some b/\Q (.bl b) H):=by subst hK;exact Tv
theorem zAx(hP:X.prog=P:=by rfl)(hw:X.w=w:=by rfl):G6 X (.type "set") (fun xs H Q=>xs = []/\∀p,H p=none->Q (.ref p) (upd H p (Oy P w p []))):=by subst hP;subst hw;exact Qr
theorem Xh(hP:X.prog=P:=by rfl)(hw:X.w=w:=by rfl):G6 X (.type "set") (fun xs H Q=>xs = []/\∀p,H p=none->Q (.ref p) (upd H p (Ox P w p []))):=by subst hP;subst hw;exact Nb
theorem w5(hu:X.A.units+64<cLine)(hK:X.K=K:=by rfl):OpR X (compareOp .NotIn) (zFy K true):=by subst hK;exact Tc hu
theorem zCc(hu:X.A.units+64<cLine)(hK:X.K=K:=by rfl):OpR X (compareOp .Eq) (zHd K):=by subst hK;exact zDb hu
theorem Vu(hu:X.A.units+64<cLine)(hK:X.K=K:=by rfl):OpR X (compareOp .NotEq) (zGh K):=by subst hK;exact zCt hu
theorem By(hK:X.K=K:=by rfl):OpR X (compareOp .In) (rIn K false):=by subst hK;exact Pd
theorem y0(hK:X.K=K:=by rfl):OpR X (compareOp .NotIn) (rIn K true):=by subst hK;exact Fk
theorem zGw(hP:X.prog=P:=by rfl)(hw:X.w=w:=by rfl):OpR X (compareOp .In) (zHh P w false):=by subst hP;subst hw;exact Uf
theorem zGe(hu:X.A.units+1<cLine)(hP:X.prog=P:=by rfl)(hw:X.w=w:=by rfl):OpR X (compareOp .In) (zHs P w):=by subst hP;subst hw;exact Om hu
theorem zDk(hP:X.prog=P:=by rfl)(hw:X.w=w:=by rfl):MtM X "set.add" (zDe P w):=by subst hP;subst hw;exact zDh
theorem zCp(hu:X.A.units+1<cLine)(hP:X.prog=P:=by rfl)(hw:X.w=w:=by rfl):MtM X "set.add" (zEk P w):=by subst hP;subst hw;exact zAy hu
theorem Xm{o e:Expr}{to:TE}{t:TA}{apos cpos:Pos}{r:V->List V->Hp->VK->Prop}(hm:MtM X "set.add" r)(ho:PE X o to)(ha:PA X [e] t)
  (hbase:attributeBase o "add" X.env (eval o X.env)=eval o X.env:=by rfl)
  (hfew:((backTo cpos (starEach [e] X.env)).all (fun x=>!x.1) &&(backToKw cpos (keywordEach [] X.env)).all (fun x=>x.1.isSome)
   && decide ([e].length +([]:List Keyword).length +(if([]:List Keyword).isEmpty then 0 else 1)<30))=true:=by rfl)
  (hline:(apos.endLine == cpos.line)=true:=by rfl) (hs:starEach [e] X.env = [(false,eval e X.env)]:=by rfl) (hP:X.prog=P:=by rfl) (hw:X.w=w:=by rfl) :
  PE X (.Call (.Attribute o "add" apos) [e] [] cpos) (zHx P w r to t):=by subst hP;subst hw;exact zAg hm ho ha hbase hfew hline hs
theorem ixL(hK:X.K=K:=by rfl):IxR X (zHw K):=by subst hK;exact zBd
theorem ixT(hK:X.K=K:=by rfl):IxR X (zHq K):=by subst hK;exact zDa
theorem slL(hK:X.K=K:=by rfl):SlR X (zHm K):=by subst hK;exact Zn
theorem ptV{a:Expr}{ta:TE}(ha:PE X a ta)(he:∀whole,isTrue a X.env whole =(do let v <-whole;standAt a.pos;holding [v] (truthy v)):=by intro _;rfl)(hK:X.K=K:=by rfl):PT X a (fun σ H Q=>ta σ H fun x H'=>∃k,zFr K x H' k/\Q k H'):=by subst hK;exact Xb ha he
theorem Nl{T id:String}{name:Str}{o e:Expr}{es:List Expr}{to:TE}{t:TA}{apos cpos:Pos}{r:V->List V->Hp->VK->Prop}(pa:PlainAttrs T)(slot:Slot T name id)(hty:typeOf (.builtin id)=pure (.type "method_descriptor"))(hm:MtM X id r)(ho:PE X o to)(ha:PA X (e::es) t)
  (hbase:attributeBase o name X.env (eval o X.env)=eval o X.env:=by rfl)
  (hfew:((backTo cpos (starEach (e::es) X.env)).all (fun x=>!x.1) &&(backToKw cpos (keywordEach [] X.env)).all (fun x=>x.1.isSome)
   && decide ((e::es).length +([]:List Keyword).length +(if([]:List Keyword).isEmpty then 0 else 1)<30))=true:=by rfl)
  (hline:(apos.endLine == cpos.line)=true:=by rfl) (hs:starEach (e::es) X.env =(false,eval e X.env)::starEach es X.env:=by rfl) (hplain:(backTo cpos (starEach es X.env)).any (·.1)=false:=by rfl) (hK:X.K=K:=by rfl) :
  PE X (.Call (.Attribute o name apos) (e::es) [] cpos) (tBM K T r to t):=by subst hK;exact zGp pa slot hty hm ho ha hbase hfew hline hs hplain
end
section
variable{X:Cx}{tg iter elt tg2 iter2:Expr}{g g2:TG}{tc tc2:TT}{te:TE}{ifs ifs2:List Expr}{scope:Scope}{cl:List (Str×Addr)}{N':List Str}{cap:List (Option Nat)}{pos:Pos}{wi wi2:TI}
theorem zEf(w:World)(S:CScope X scope cl N' cap)(hi:PI X tg iter wi)
  (hb:∀(pins:List (Addr×Obj)) (ex:List Addr) (s3:Shared) (H3:Hp),PG (cxC X scope cl N' pins ex s3 H3) tg g/\PTs (cxC X scope cl N' pins ex s3 H3) ifs tc/\PI (cxC X scope cl N' pins ex s3 H3) tg2 iter2 wi2 /\
   PG (cxC X scope cl N' pins ex s3 H3) tg2 g2/\PTs (cxC X scope cl N' pins ex s3 H3) ifs2 tc2/\PE (cxC X scope cl N' pins ex s3 H3) elt te)
  (hc:X.calm=true:=by rfl) (hs:∀x,foldedSetIterable iter X.env x=pure x:=by intro _;rfl) (hs2:∀env x,foldedSetIterable iter2 env x=pure x:=by intro _ _;rfl) (hw:X.w=w:=by rfl) :
  PE X (.SetComp elt [⟨tg,iter,ifs,0⟩,⟨tg2,iter2,ifs2,0⟩] scope pos) (Bx wi (fun D=>Ex w D []) cap fun D J σ H Q=>V0 g tc (zFo wi2 fun J σ H Q=>V0 g2 tc2 (Gp w D te) J σ H Q) J σ H Q):=by
 subst hw;exact zAj S hc hi hb hs hs2
end
section
variable{prog:Program}{w:World}{A:Around}{E:Value->Shared->Prop}{s:Shared}
theorem Im{t:Addr}{vs:List Value}{Q:List Value->Shared->Prop}(ht:IsTup s.heap t vs.toArray)(hsz:vs.length<=sizeLine)(h:∀h',(∀b u,s.heap.get? b=some u->h'.get? b=some u)->s.heap.objs.size<=h'.objs.size->Q vs { s with heap:=h' }):wpAny (model prog w) A (collect (.ref t)) Q E s:=by
 obtain⟨o,ho,hc,n,hd⟩:=ht;unfold collect;refine AB (wpAny_runValue (EA F.entry_proto_collect ?_));rw[show A.under _=A.in1 from Around.under_plainId F.plain_proto_collect _];show wpAny _ A.in1 (newList [] >>= fun l=>again (.builtin "list.__iadd__" ⟨[l,.ref t],[]⟩)) _ _ s;refine AB (CY (AD ⟨plainId_quiet F.plain_list_iadd _,EA F.entry_list_iadd ?_⟩));rw[show A.under _=A.in1 from Around.under_plainId F.plain_list_iadd _];show wpAny _ A.in1 (Builtin.List.listExtendWith (.ref s.heap.objs.size) (.ref t) (.ref s.heap.objs.size)) _ _ _;have g1:(s.heap.push { cls:=.type "list",data:=.seq ([]:List Value).toArray }).get? s.heap.objs.size=some { cls:=.type "list",data:=.seq #[] 0 }:=BC _ rfl;have g2:=DF (Obj.mapSeq (· ++ vs.toArray)) g1 rfl;have fin:wpAny (model prog w) A (match Value.ref s.heap.objs.size with
   | Value.ref a=>do
    match(<-load a).data with
     | Data.seq xs _=>pure xs.toList
     | _=>unsupported "internal:collect"
   | _=>unsupported "internal:collect") Q E { s with heap:=(s.heap.push { cls:=.type "list",data:=.seq ([]:List Value).toArray }).update s.heap.objs.size (Obj.mapSeq (· ++ vs.toArray)) }:=by
  show wpAny _ A (load s.heap.objs.size >>= _) _ _ _;refine AB (wpAny_load g2 (AD ?_));show Q ((#[]:Array Value)++vs.toArray).toList _;rw[show((#[]:Array Value)++vs.toArray).toList=vs from by simp];exact h _ (fun b u hb=>(CO _ _ (GN (AL hb))).trans (AC _ hb)) (by rw[EC,DZ];omega)
 refine CD (wpAny_extend_seq (A:=A) (hsz:=by rw[AW];exact hsz) (R:=fun r s'=>r = .ok (.ret (.ref s.heap.objs.size))/\s' ={ s with heap:=(s.heap.push { cls:=.type "list",data:=.seq ([]:List Value).toArray }).update s.heap.objs.size (Obj.mapSeq (· ++ vs.toArray)) })
  (s:={ s with heap:=s.heap.push { cls:=.type "list",data:=.seq ([]:List Value).toArray } }) _ t _ 0 (.inr rfl) g1 (AC _ ho) hc hd ⟨rfl,rfl⟩) (fun f s' z=>?_) (fun e s' z=>absurd z.1 (by simp))
 match f,z with
 | .done f,⟨e1,e2⟩=>subst e2;cases e1;exact fin
 | .again c,z=>exact⟨z.1,codeAny_mono z.2 fun r s2 hr=>by obtain⟨rfl,rfl⟩:=hr;exact fin⟩
end
section
variable{X:Cx}
theorem Ho:G6 X (.builtin "sorted") (fun xs H Q=>∃(p:Addr) (ss:List Str),xs = [.ref p]/\Sqs X.K H p (ss.map V.str)/\∀(l:Addr) (ss':List Str),H l=none->ss'.Perm ss->ss'.Pairwise leS->Q (.ref l) (upd H l (.lst (ss'.map V.str)))):=by
 intro pins s σ H xs us Q I r h;obtain⟨p,ss,rfl,hq,q⟩:=h;rcases hq with hq | hq
 .exact l9 pins s σ H _ us Q I r ⟨p,ss,rfl,hq,q⟩
 obtain⟨u,rfl,ru⟩:=R4 r;cases ru;obtain⟨its,rv,⟨o,ho,hc,n,hd⟩,hz⟩:=I.tuple hq;have hS:=j9 rv;have hl:=rv.length;refine TS.sorted_gen (Im ⟨o,ho,hc,n,hd⟩ (by omega) fun h0 k0 hsz=>?_);refine⟨rfl,by omega,strKind,oneType',fun s2 _=>TS.keys_strs hS,fun out h' e ho k hg=>?_⟩;obtain⟨hp,hs⟩:=ho;have hm:∀v∈out.toList,∃x t,v = .str x t:=fun v hv=>hS.all v (hp.mem_iff.mp hv);have hv:Vals ((out.toList.map strOf).map V.str) out.toList:=by
  have:∀us:List Value,(∀v∈us,∃x t,v = .str x t)->Vals ((us.map strOf).map V.str) us:=by
   intro us
   induction us with
   | nil=>exact fun _=>.nil
   | cons v r ih =>
    intro h;obtain⟨x,t,rfl⟩:=h v (BE ..);exact .cons ⟨t,rfl⟩ (ih fun u hu=>h u (AU _ hu))
  exact this _ hm
 have hperm:(out.toList.map strOf).Perm ss:=by
  have:=hp.map strOf
  rwa [hS.strs]at this
 have hpw:(out.toList.map strOf).Pairwise leS:=by
  rw[BW];refine(DY.mp hs).imp fun{u v} ⟨hu,hv',q⟩=>?_;obtain⟨x,t,rfl⟩:=hm u hu;obtain⟨y,t',rfl⟩:=hm v hv';have q':decide (y.cps.toList<x.cps.toList)=false:=q;exact of_decide_eq_false q'
 have hk0:∀b o,s.heap.get? b=some o->h'.get? b=some o:=fun b o eb=>k b o (k0 b o eb);refine⟨.ref h0.objs.size,upd H h0.objs.size (.lst ((out.toList.map strOf).map V.str)),?_,rfl,q _ _ (I.hok.fresh hsz) hperm hpw⟩;refine I.laid (t':=s.toks) hk0 hsz ⟨?_,out.toList,e,hv,by simpa using hg⟩;rw[AA,AA,hp.length_eq];omega
theorem Oc{pins:List (Addr×Obj)}{σ:St}{H:Hp}{s:Shared}{A:Around}{E:Value->Shared->Prop}{Q:Value->Shared->Prop}{b:Bool}{x:V}{u t:Value}{tp:Addr}{its:List Value}(I:Inv X pins σ H s)(rx:RelV x u)(ty:TyOf X.K H x t)(htp:IsTup s.heap tp its.toArray)(e:PySem.W.kitAny X.K t its=some b)(hv:(∃y,x = .str y)\/(∃a xs,x = .ref a/\(H a=some (.lst xs)\/H a=some (.tup xs))))(h:∀tk,Q (.bool b) { s with toks:=tk }) :
  wpAny (model X.prog X.w) A (call (.builtin "isinstance") [u,.ref tp]) Q E s:=by
 obtain⟨⟨oc,od,odt,osl⟩,ho,hc,n,hd⟩:=htp;cases hc;cases hd;rcases hv with⟨y,rfl⟩ | ⟨a,xs,rfl,ea | ea⟩
 .cases ty;obtain⟨t,q⟩:=(show ∃t,u=Value.str y t from rx);cases q;exact PySem.W.kia_tup PySem.W.kitx_str I.kIn True.intro ho e (fun z=>nomatch z) h
 .cases(show u=Value.ref a from rx);have hty:t = .type "list":=by cases ty with
   | lst=>rfl
   | frz=>rfl
   | tup ea'=>rw[ea]at ea';cases ea'
   | dK ea'=>rw[ea]at ea';cases ea'
   | dT ea'=>rw[ea]at ea';cases ea'
   | ins ea'=>rw[ea]at ea';cases ea'
  subst hty;obtain⟨_,_,n,_,h1⟩:=(show ObjOk X.prog X.w H s.heap a (.lst xs)from I.hok a _ ea);exact PySem.W.kia_tup PySem.W.kitx_list I.kIn ⟨_,h1,rfl⟩ ho e (fun z=>nomatch z) h
 .cases(show u=Value.ref a from rx);have hty:t = .type "tuple":=by cases ty with
   | tup=>rfl
   | frz ea'=>rw[ea]at ea';cases ea'
   | lst ea'=>rw[ea]at ea';cases ea'
   | dK ea'=>rw[ea]at ea';cases ea'
   | dT ea'=>rw[ea]at ea';cases ea'
   | ins ea'=>rw[ea]at ea';cases ea'
  subst hty;obtain⟨_,_,_,p⟩:=(show ObjOk X.prog X.w H s.heap a (.tup xs)from I.hok a _ ea);obtain⟨o,h1,h2,_⟩:=p;exact PySem.W.kia_tup PySem.W.kitx_tuple I.kIn ⟨o,h1,h2⟩ ho e (fun z=>nomatch z) h
def zAo(K:PySem.W.Frag):List V->Hp->VK->Prop:=fun xs H Q=>∃(x:V) (p:Addr) (ns:List String) (t:Value) (b:Bool),xs = [x,.ref p]/\H p=some (.tup (ns.map V.ty))/\TyOf K H x t/\((∃y,x = .str y)\/(∃a xs,x = .ref a/\(H a=some (.lst xs)\/H a=some (.tup xs))))/\PySem.W.kitAny K t (ns.map Value.type)=some b/\Q (.bl b) H
theorem Jd:∀{ns:List String} {us:List Value},Vals (ns.map V.ty) us->us=ns.map Value.type
 | [],_,.nil=>rfl
 | _::_,_,.cons r t=>by rw[BA,Jd t];cases r;rfl
theorem Oi:G6 X (.builtin "isinstance") (zAo X.K):=by
 intro pins s σ H xs us Q I r h;obtain⟨x,p,ns,t,b,rfl,hp,ht,hv,he,q⟩:=h;obtain⟨u,v,rfl,ru,rv⟩:=r.two;cases rv;obtain⟨its,rv,pl,hz⟩:=I.tuple (SqT.of hp);rw[Jd rv]at pl;exact Oc I ru ht pl he hv fun tk=>⟨.bl b,H,I.tok _,rfl,q⟩
variable(K:PySem.W.Frag)
theorem Wh(hK:X.K=K:=by rfl):G6 X (.builtin "sorted") (fun xs H Q=>∃(p:Addr) (ss:List Str),xs = [.ref p]/\Sqs K H p (ss.map V.str)/\∀(l:Addr) (ss':List Str),H l=none->ss'.Perm ss->ss'.Pairwise leS->Q (.ref l) (upd H l (.lst (ss'.map V.str)))):=by subst hK;exact Ho
theorem Wk(hK:X.K=K:=by rfl):G6 X (.builtin "isinstance") (zAo K):=by subst hK;exact Oi
end
section
variable{X:Cx}{tg iter elt:Expr}{ifs:List Expr}{scope:Scope}{cl:List (Str×Addr)}{N':List Str}{cap:List (Option Nat)}{wi:TI}{pos:Pos}
theorem Oz{e:Expr}{gs:List Comprehension}{newAcc:Sem Value}{p2:Pos}{use:Option (Value->Sem Unit)}{Qv:Value->Shared->Prop}(hcl:clausesOf e =⟨tg,iter,ifs,0⟩::gs)(o:Addr->HO)(hs:∀x,foldedSetIterable iter X.env x=pure x)(S:CScope X scope cl N' cap)(hc:X.calm=true)(hi:PI X tg iter wi)
  {lp:Addr->It->St->Hp->(St->Hp->Prop)->Prop}
  (hnew:∀(pins:List (Addr×Obj)) (s:Shared) (σ:St) (H:Hp) (Q:Value->Shared->Prop) (E:Value->Shared->Prop),Inv X pins σ H s->(∀s',Inv X pins σ (upd H s.heap.objs.size (o s.heap.objs.size)) s'->(∀b ob,s.heap.get? b=some ob->s'.heap.get? b=some ob)->Q (.ref s.heap.objs.size) s')->wpAny (model X.prog X.w) X.A newAcc Q E s)
  (hlp:∀(pins:List (Addr×Obj)) (ex:List Addr) (s3:Shared) (H3:Hp) (D it:Addr) (fp:List Addr) (tn:Nat->Heap->Prop) (J:It) (σ:St) (s:Shared) (H:Hp) (Q:St->Hp->Prop) (R:Result->Shared->Prop),
   Turn X.prog X.w X.K tg J fp it tn->Inv (cxC X scope cl N' pins ex s3 H3) [] σ H s->tn 0 s.heap->(∀b∈fp,Bp (cxC X scope cl N' pins ex s3 H3) [] H b)->lp D J σ H Q ->
   (∀s' σ' H',Inv (cxC X scope cl N' pins ex s3 H3) [] σ' H' s'->Q σ' H'->R (.ok .next) s') ->
   codeAny (model X.prog X.w) X.A (.compLoop e 0 (.ref it) (.ref D) (compEnvC scope cl s3.heap.objs.size X.env)) R s)
  (hun:∀it D env,X.A.under (.compStart e 0 (.ref it) (.ref D) env)=X.A) (hden:∀it D env,(model X.prog X.w).den (.compStart e 0 (.ref it) (.ref D) env) =(compStart e 0 (.ref it) (.ref D) env).onRaise (fun x=>do noteFrame x env;standAt theWindowsPlace))
  {pins:List (Addr×Obj)} {s:Shared} {σ:St} {H:Hp} {Q:V->Hp->Prop} (I:Inv X pins σ H s) (h:Bx wi o cap lp σ H Q)
  (hend:∀(D:Addr) (fp:List Addr) (H2:Hp) (s3 s':Shared) (σ':St) (H':Hp),Inv X pins σ H2 s3->(∀b∈fp,Bp X pins H2 b)->Inv (cxC X scope cl N' pins fp s3 H2) [] σ' H' s'->Q (.ref D) H'->compPost (model X.prog X.w) X.A X.xe use Qv (.ref D) s3.heap.objs.size (.ok .next) s') :
  wpAny (model X.prog X.w) X.A (comprehension e scope X.env p2 newAcc false (eval iter X.env) use) Qv X.xe s:=by
 refine GY hcl hs S.clos S.kind S.loc (thn (hi pins s σ H _ I h) fun v s1 h1=>thn h1 fun itv s2 h2=>?_);obtain⟨it,fp,tn,J,H2,eit,I2,T,st2,f2,R2⟩:=h2;subst eit;refine hnew pins s2 σ H2 _ _ I2 fun s3 I3 k3=>?_;have hD:H2 s2.heap.objs.size=none:=I2.hok.fresh (Nat.le_refl _);have fok:∀b∈fp,Bp X pins (upd H2 s2.heap.objs.size (o s2.heap.objs.size)) b/\∃ob,s3.heap.get? b=some ob:=fun b hb=>by
  obtain⟨ob,e,_⟩:=T.obj _ _ st2 b hb;obtain⟨f0,fr⟩:=f2 b hb;exact⟨⟨by rw[B6 (AX (AL e))];exact f0,fr⟩,ob,k3 b ob e⟩
 refine wpAny_newFunctionEnv S.nocell (by intro y hy;simp at hy) (fun h1 hns hsb=>?_) S.kind;have hk:∀b ob,s3.heap.get? b=some ob->h1.get? b=some ob:=fun b ob e=>(hsb.2 b (AX (AL e))).trans (AC _ e);have I4:Inv (cxC X scope cl N' pins fp s3 (upd H2 s2.heap.objs.size (o s2.heap.objs.size))) [] (Ma cap σ) (upd H2 s2.heap.objs.size (o s2.heap.objs.size)) { s3 with heap:=h1,toks:=s3.toks +([]:List (Str×Value)).length } :=
  I3.block S hc fok hns hk
 have st4:tn 0 h1:=T.keep 0 _ _ st2 fun b hb ob e=>hk b ob (k3 b ob e);refine U6 (X:=cxC X scope cl N' pins fp s3 (upd H2 s2.heap.objs.size (o s2.heap.objs.size))) (gs:=⟨tg,iter,ifs,0⟩::gs) (e:=e) (d:=0) (tg:=tg) (iter:=iter) (ifs:=ifs) (hun _ _ _) (hden _ _ _) hcl rfl T st4 ?_;refine hlp pins fp s3 _ s2.heap.objs.size it fp tn J (Ma cap σ) _ _ _ _ T I4 st4 (fun b hb=>?_) (R2 _ hD) fun s' σ' H' I' q'=>?_
 .obtain⟨⟨f0,f1,f2',f3,f4,f5⟩,ob,eo⟩:=fok b hb;refine⟨f0,AX (AL eo),fun hf=>?_,.inl hb,fun x c e=>f4 x c (S.cin.get e),fun p hp=>f5 p (by simpa [cxC] using hp)⟩;rcases A_.mp (I3.stkSub b hf)with z | z
  .exact f1 z
  .exact f2' z
 .exact hend _ fp _ s3 s' σ' H' I3 (fun b hb=>(fok b hb).1) I' q'
theorem De{i:Nat}{x:Str}{pos' cpos:Pos}{g:TG}{tc:TT}{te:TE}(hN:X.N.Nodup)(hi:X.N[i]?=some x)(hx:Loc X.env.scope x)(S:CScope X scope cl N' cap)(hc:X.calm=true)(hI:PI X tg iter wi)
  (hb:∀(pins:List (Addr×Obj)) (ex:List Addr) (s3:Shared) (H3:Hp),PG (cxC X scope cl N' pins ex s3 H3) tg g/\PTs (cxC X scope cl N' pins ex s3 H3) ifs tc/\PE (cxC X scope cl N' pins ex s3 H3) elt te)
  (hs:∀x,foldedSetIterable iter X.env x=pure x:=by intro _;rfl)
  (hsw:swapsWith (.ListComp elt [⟨tg,iter,ifs,0⟩] scope cpos) (some (.Name x pos')) pos.line X.env=pure true:=by rfl)
  (hf:X.fn x=true\/X.env.scope.names.lookup x=some .local:=by first | exact .inl rfl | exact .inr rfl | assumption) :
  PS X (.Assign [.Name x pos'] (.ListComp elt [⟨tg,iter,ifs,0⟩] scope cpos) pos) (Ul (Bx wi (fun _=>.lst []) cap fun D J σ H Q=>V0 g tc (R0 D te) J σ H Q) (J5 i)):=by
 intro pins s σ H D I h;rw[exec_Assign];refine AB (FN (AB (GJ hsw (wpAny_ite_true rfl (AB (AB ?_))))));refine Oz (newAcc:=newList []) (p2:=firstIterPos [⟨tg,iter,ifs,0⟩] cpos) rfl (fun _=>.lst []) hs S hc hI (fun pins s σ H Q E I h=>?_) (fun pins ex s3 H3 D it fp tn J σ s H Q R T I st hf h hR=>?_) (fun _ _ _=>rfl) (fun _ _ _=>rfl) I h fun E fp H2 s3 s' σ' H' I3 fok I' q=>?_
 .refine GC ?_;exact h _ (I.lnew (t':=s.toks) (its:=[]) .nil (CC _)) fun b ob e=>AC _ e
 .obtain⟨b1,b2,b3⟩:=hb pins ex s3 H3;exact Q6 (X:=cxC X scope cl N' pins ex s3 H3) rfl rfl hc rfl (i7 elt tg iter ifs scope cpos _ _ _) b1 b2 (Dr rfl b3) T I st hf h hR
 .have IX:Inv X pins σ H' s':=I3.unblock fok I' ⟨rfl,fun _ _=>rfl⟩;have fC:Bp X pins H' s3.heap.objs.size:=I3.fpOk (Nat.le_refl _) I'.free;obtain⟨m,hn,_⟩:=I'.loc;show wpAny _ _ (assign (.Name x pos') X.env (.ref E)) _ _ _;refine wpAny_assign_Name (Hw (v:=.ref E) IX hN hi hx rfl (fun s2 I2 ⟨a,hsb,ha⟩=>?_) hf);have nC:s3.heap.objs.size≠a:=by
   rcases ha with rfl | ha
   .exact fC.2.1
   .exact(fC.2.2.2.2.1 _ _ ha).symm
  refine⟨m,?_,fun h' hsb'=>AD (AD ?_)⟩
  .obtain⟨ob,es,ep,e1,r⟩:=hn;exact⟨ob,es,ep,(hsb.2 _ nC).trans e1,r⟩
  refine⟨_,H',?_,q⟩;have k:∀b ob,b∉[s3.heap.objs.size]->s2.heap.get? b=some ob->h'.get? b=some ob:=fun b ob hb e=>(hsb'.2 b fun z=>hb (AF.mpr z)).trans e;refine I2.step (h':=h') (H':=H') (t':=s2.toks) (g':=s2.gens) (d':=s2.drawn) (ch:=[s3.heap.objs.size]) (fun b hb=>by rw[AF.mp hb];exact⟨fC.2.2.2.1,fC.2.1,fC.2.2.2.2⟩) (fun b ob _ _ hc e _=>k b ob hc e) (fun b ob _ _ hc e _=>⟨ob.slots,k b ob hc e⟩) (fun _ _ _ _ n=>n)
   (fun b ob hc e=>⟨ob,k b ob hc e⟩) (fun _ _ e=>e) (fun _ _ _ e=>e) (fun b ps e=>⟨#[],by rw[e];simp⟩) (fun m hm=>?_) (fun b u eb=>?_) I2.bare
  .obtain⟨ob,es,ep,ho,r⟩:=hm;exact⟨ob,es,ep,k _ ob (fun hb=>fC.2.1 (AF.mp hb).symm) ho,r⟩
  .have nf:∀b u,H' b=some u->b∉[s3.heap.objs.size]:=fun b u e hb=>by rw[AF.mp hb,fC.1]at e;cases e
   refine(I2.hok b u eb).stay (fun c v hc q=>k c v ?_ q) (fun _ q=>q) fun _ _ q=>q;rcases hc with z | z
   .rw[z];exact nf b u eb
   .exact nf c _ z
end
section
variable{X:Cx}
theorem zGk{x:Str}{C:Addr}{pos:Pos}(h:X.mg x=some (.ref C))(hg:Gl X x:=by rfl)(hd:(x ==("__debug__":Str))=false:=by decide):PE X (.Name x pos) (tC (.ref C)):=Ir hg h rfl hd
theorem We(hc:X.calm=true):G6 X (.builtin "any") (fun xs H Q=>∃(p:Addr) (bs:List Bool),xs = [.ref p]/\SqL X.K H p (bs.map V.bl)/\Q (.bl (bs.any id)) H):=by
 intro pins s σ H xs us Q I r h;obtain⟨p,bs,rfl,hq,q⟩:=h;obtain⟨u,rfl,ru⟩:=R4 r;cases ru;obtain⟨its,rv,pl,hz⟩:=I.list hq;refine call_any_walk (GF pl.isList ?_);have hne:p≠s.heap.objs.size:=by
  obtain⟨o,n,e,_⟩:=pl;exact AX (AL e)
 refine⟨s.heap.objs.size,_,_,_,_,_,fun i=>bs.getD i false,rfl,Walks.list (A:=X.A.in1) (show X.A.in1.handled=none from I.ok.hd hc) _ p hne its.toArray,⟨⟨_,BC _ rfl,rfl,rfl⟩,?_⟩,fun i v s' Q' E' hv q'=>?_,fun h' tk k=>?_⟩
 .obtain⟨o,n,e,c,d,e2⟩:=pl;exact⟨o,AC _ e,c,n,e2⟩
 .have hb:(bs.map V.bl)[i]?=some (V.bl (bs.getD i false))/\RelV (V.bl (bs.getD i false)) v:=by
   have hv':its[i]?=some v:=by simpa using hv
   have hi:i<its.length:=(AG.mp hv').1;have hl:=rv.length;rw[AA]at hl;have e:(bs.map V.bl)[i]?=some (V.bl (bs.getD i false)):=by
    rw[AI,AH (by omega)];simp[BZ,AH (show i<bs.length by omega)]
   obtain⟨u,hu,ru⟩:=rv.get e;rw[hv']at hu;cases hu;exact⟨e,ru⟩
  cases hb.2;exact CU q'
 .have hl:=rv.length;rw[AA]at hl;have e:(List.range its.toArray.size).any (fun i=>bs.getD i false)=bs.any id:=by
   rw[AW,<-hl,CV,DQ,DQ];constructor
   .rintro⟨i,hi,z⟩;have hi':=B_.mp hi;refine⟨bs[i],FV hi',?_⟩;simpa [BZ,AH hi'] using z
   .rintro⟨b,hb,z⟩;obtain⟨i,hi,rfl⟩:=FI.mp hb;refine⟨i,B_.mpr hi,?_⟩;simpa [BZ,AH hi] using z
  rw[e];exact⟨.bl (bs.any id),H,I.kept fun b o eb=>k b o (by
   intro hb;have:b=s.heap.objs.size:=by simpa using hb
   exact absurd (AL eb) (by rw[this];exact CQ _)) (AC _ eb),rfl,q⟩
theorem Qm:bootBuiltins "any" = some (.builtin "any"):=by decide +kernel
variable(K:PySem.W.Frag)
theorem Ts(hc:X.calm=true:=by rfl)(hK:X.K=K:=by rfl):G6 X (.builtin "any") (fun xs H Q=>∃(p:Addr) (bs:List Bool),xs = [.ref p]/\SqL K H p (bs.map V.bl)/\Q (.bl (bs.any id)) H):=by subst hK;exact We hc
end
def w8(kvs more:List (Key×V)):List (Key×V):=more.foldl (fun a kv=>An a kv.1 kv.2) kvs
theorem KV.mrg:∀{more:List (Key×V)} {vs':List (Key×Value)} {kvs:List (Key×V)} {vs:List (Key×Value)},KV kvs vs->KV more vs'->KV (w8 kvs more) (merged vs vs')
 | [],[],_,_,r,_=>r
 | [],_::_,_,_,_,r'=>by cases r'
 | _::_,[],_,_,_,r'=>by cases r'
 | (k,y)::m,(k',u)::n,kvs,vs,r,r'=>by
  cases r' with
  | cons h t =>
   obtain⟨e,ry⟩:=h;have e:k=k':=e;subst e;show KV (w8 (An kvs k y) m) (merged (stored vs k u) n);exact KV.mrg (r.put k ry) t
theorem S0(kvs more:List (Key×V)):(w8 kvs more).length<=kvs.length+more.length:=by
 induction more generalizing kvs with
 | nil=>exact Nat.le_refl _
 | cons a r ih =>
  have h1:=ih (An kvs a.1 a.2);have h2:=V6 kvs a.1 a.2;show(w8 (An kvs a.1 a.2) r).length<=kvs.length +(r.length+1);omega
section
variable{X:Cx}
theorem zAa:G6 X (.type "dict") (fun xs H Q=>∃p kvs,xs = [.ref p]/\H p=some (.dK kvs)/\∀l,H l=none->Q (.ref l) (upd H l (.dK kvs))):=by
 intro pins s σ H xs us Q I r h;obtain⟨p,kvs,rfl,hp,q⟩:=h;obtain⟨u,rfl,ru⟩:=R4 r;cases ru;obtain⟨z,hd,vs,rel,dd⟩:=Rw I.hok hp;refine kt_call_dict hd dd (by rw[<-rel.length];exact z) fun h' dd' hs=>?_;refine⟨.ref s.heap.objs.size,upd H s.heap.objs.size (.dK kvs),I.laid (t':=s.toks) (fun b o eb=>?_) (Nat.le_refl _) (Mw z (beq_eq_false_iff_ne.mpr (GN I.big)) rel dd'),rfl,q _ I.fresh⟩;rw[hs.2 b (AX (AL eb))];exact AC _ eb
theorem zGl{pins:List (Addr×Obj)}{σ:St}{H:Hp}{s:Shared}{a o:Addr}{kvs more:List (Key×V)}{A:Around}{E:Value->Shared->Prop}{Q:Value->Shared->Prop}(I:Inv X pins σ H s)(ea:H a=some (.dK kvs))(eo:H o=some (.dK more))(ne:a≠o)(hl:kvs.length+more.length<=sizeLine)
  (h:∀s',Inv X pins σ (upd H a (.dK (w8 kvs more))) s'->Q .none s'):wpAny (model X.prog X.w) A (call (.builtin "dict.update") [.ref a,.ref o]) Q E s:=by
 obtain⟨z,hd,vs,rel,dd⟩:=Rw I.hok ea;obtain⟨z',hd',vs',rel',dd'⟩:=Rw I.hok eo;refine call_meetsIn PySem.F.slot_dict_update dd.typeIs PySem.F.entry_dict_update (PySem.F.args_dict_update_2 _ _) (meets_dict_update (C0 X.prog X.w) a o ne hd') ⟨vs,vs',dd,dd',by rw[<-rel.length,<-rel'.length];exact hl,fun h' d1 _ hs=>?_⟩;have he:∃q,h'.get? a=some q:=let⟨q,_,_,hq,_⟩:=d1;⟨q,hq⟩;exact h _ (Ub I (t':=s.toks) (by rw[ea];exact True.intro) hs he (Mw (Nat.le_trans (S0 ..) hl) hd (rel.mrg rel') d1))
def zFq(td ty:TE):TE:=fun σ H Q=>td σ H fun x H1=>∃a,x = .ref a/\IsD H1 a/\ty σ H1 fun y H2=>∃o kvs more,y = .ref o/\H2 a=some (.dK kvs)/\H2 o=some (.dK more)/\a≠o/\kvs.length+more.length<=sizeLine/\Q .non (upd H2 a (.dK (w8 kvs more)))
theorem Qa{o e:Expr}{apos cpos:Pos}{td ty:TE}(ho:PE X o td)(he:PE X e ty)(m:M1 X o "update" apos e cpos):PE X (.Call (.Attribute o "update" apos) [e] [] cpos) (zFq td ty):=by
 intro pins s σ H Q I h;refine wpAny_Call_method m.base m.few m.line PySem.F.plainAttrs_dict PySem.F.slot_dict_update PySem.F.type_dict_update (thn (ho pins s σ H _ I h) fun u s1 ⟨x,H1,I1,rx,a,ex,d,q1⟩=>?_);subst ex;obtain rfl:u=Value.ref a:=rx;obtain⟨t1,t2,_⟩:=Rh I1 d;refine⟨t1,t2,?_⟩;rw[m.trees];refine Calls.callWith_builtin rfl (Calls.evalArgs_plain (Calls.spliced_cons (thn (he pins s1 σ H1 _ I1 q1) fun iv s2 ⟨y,H2,I2,ry,o',kvs,more,ey,e1,e2,ne,hl,q2⟩=>Calls.spliced_nil ?_)));subst ey;obtain rfl:iv=Value.ref o':=ry;exact zGl I2 e1 e2 ne hl fun s3 I3=>⟨.non,_,I3,rfl,q2⟩
theorem Tu:bootBuiltins "dict" = some (.type "dict"):=by decide +kernel
end
theorem La:entryFor table "dict.update.loop" = some Builtin.«dict.update.loop»:=entryFor_of_tree (by kernel_rfl)
theorem w6:plainId "dict.update.loop" = true:=by decide +kernel
section
variable{prog:Program}{w:World}{A:Around}{E:Value->Shared->Prop}{s:Shared}
theorem Du{a:Addr}{xs:Array Value}{k:Nat}{sl:Array (Option Value)}{name:Str}{Q:Option Value->Shared->Prop}
  (hx:s.heap.get? a=some { cls:=.type "list",dict:=none,data:=.seq xs k,slots:=sl }) (hmiss:typeLookup (.type "list") name=pure none) (hname:(["__module__", "__name__", "__qualname__", "__doc__", "__annotations__"]:List Str).contains name=false) (hA:A.handled=none)
  (h:∀h' tk,(∀b ob,s.heap.get? b=some ob->h'.get? b=some ob)->Q none { s with heap:=h',toks:=tk }) (hsz:name.length+100<=sizeLine) :
  wpAny (model prog w) A (getAttr? (.ref a) name) Q E s:=by
 obtain⟨hp,g,d,tk,os⟩:=s;have hT:∀tk',(⟨hp,g,d,tk',os⟩:Shared).TypeIs (.ref a) "list":=fun _=>⟨_,hx,rfl⟩;have f1:=sub_AttributeError;have f3:=F.slot_list_getattribute.lookup;have f4:=F.slot_list_getattribute.bind (.ref a);have f5:=am_list_getattr_none;unfold getAttr? getAttrBy? getAttrBy
 repeat (any_goals (first | assumption | exact hT _ | ((with_reducible show wpAny _ _ (call (Value.builtin "list.__getattribute__") _ _) _ _ _);refine call_meets F.slot_list_getattribute (hT _) am_entry_list_getattribute (F.args_list_getattribute_2 _ _) (meets_getattribute_miss_list a xs k sl name _ hmiss hname hsz) ⟨hx,hA,fun h' tk' e hx'=>?_⟩) | wp_step))
 obtain⟨t',u',he⟩:=hx'.there;show wpAny _ _ (getattributeRaised _ _ _ _ _ _ _) _ _ _;unfold getattributeRaised
 repeat (any_goals (first | assumption | wp_step))
 exact h _ _ hx'.keeps
end
section
variable{prog:Program}{w:World}{A:Around}{R:Result->Shared->Prop}{I:Addr}{fp wr:List Addr}{G:Array GenState->Array GenState->Prop}{n:Nat}{P:Nat->Value->Prop}{St:Nat->Shared->Prop}{K:Type}[DecidableEq K]{knd:KeyKind prog w K}
theorem Qt(W:WalksS prog w A.in1 I fp wr G n P St)(D:Addr)(hDf:D∉fp)(h0:Heap)(more:List (K×Value))(hn:more.length=n)
  (hval:∀i v,P i v->∃t o k key u m,v = .ref t/\t∉D::wr/\h0.get? t=some o/\o.cls = .type "tuple"/\o.data = .seq #[key,u] m/\more[i]?=some (k,u)/\knd.is k key=true) :
  ∀(k i:Nat) (s:Shared) (kvs:List (K×Value)) (tk:Tok),n-i=k->i<=n->St i s->(∀b o,b∉D::wr->h0.get? b=some o->s.heap.get? b=some o)->s.heap.DictOf knd D kvs->kvs.length+k<=sizeLine ->
   (∀s',Moved (D::wr) G s s'->s'.heap.DictOf knd D (merged kvs (more.drop i))->R (.ok (.ret .none)) s') ->
   codeAny (model prog w) A (.builtin "dict.update.loop" ⟨[.ref D,.ref I,.int (i:Int) tk,.none],[]⟩) R s:=by
 have hDw:D∉wr:=fun h=>hDf (W.sub _ h);have hsub:∀b∈wr,b∈D::wr:=fun b hb=>AU _ hb;have dat:∀{h h':Heap} {kvs:List (K×Value)},h.DictOf knd D kvs->(∀o,h.get? D=some o->h'.get? D=some o)->h'.DictOf knd D kvs:=fun⟨o,es,ep,ho,r⟩ k=>⟨o,es,ep,k o ho,r⟩;intro k
 induction k with
 | zero =>
  intro i s kvs tk hk hi hst hh hS _ hR;have hin:i=n:=by omega
  subst hin;refine EA La ?_;rw[Around.under_plainId w6 _];refine AB (W.done s _ _ hst fun s' hm=>?_);have q:=hR s' (hm.mono hsub);rw[<-hn,List.drop_length]at q;show wpAny _ _ (Builtin.Dict.addKeywords D [] >>= _) _ _ _;exact AB (AD (AD (q (dat hS fun o=>hm.heap D o hDw))))
 | succ k ih =>
  intro i s kvs tk hk hi hst hh hS hz hR;refine EA La ?_;rw[Around.under_plainId w6 _];refine AB (W.item i s _ _ (by omega) hst fun v s' hP hst' hm=>?_);obtain⟨t,o,kk,key,u,m,rfl,htw,ht,hc,hd,hx,hkey⟩:=hval i v hP;have ht':s'.heap.get? t=some o:=hm.heap t o (fun z=>htw (hsub _ z)) (hh t o htw ht);refine AB (CF (AB (wpAny_tryCatch ?_)));unfold Builtin.Dict.pairItems;refine AB (HM (T := "tuple") ⟨o,ht',hc⟩ ?_);rw[AR (by decide)];refine AB (wpAny_seqItems ht' hd (AD ?_));show wpAny _ _ (holding [key,u] (dictSet D key u)) _ _ _;refine CF (wpAny_dictSet_pairs hkey (dat hS fun o=>hm.heap D o hDw) (fun h' d' hsb=>?_) (by omega));refine AD ⟨plainId_quiet w6 _,ih (i+1) _ (stored kvs kk u) _ (by omega) (by omega) (W.frame _ s' _ _ hst' (DE _) fun b hb o e=>?_) (fun b o hb e=>?_) d' (by
   have:=stored_length_le kvs kk u;omega) fun s'' hm'' hS''=>?_⟩
  .rw[hsb.2 b (fun h:b=D=>hDf (by rw[<-h];exact hb))];exact e
  .rw[hsb.2 b (fun h:b=D=>hb (by rw[h];exact BE))];exact hm.heap b o (fun z=>hb (hsub _ z)) (hh b o hb e)
  .refine hR s'' (Moved.trans W.gtrans ((hm.mono hsub).then_heap (DE _) fun b o hb e=>?_) hm'') ?_
   .rw[hsb.2 b (fun h:b=D=>hb (by rw[h];exact BE))];exact e
   .have hd:more.drop i =(kk,u)::more.drop (i+1):=by
     obtain⟨hi',ex⟩:=AG.mp hx;rw[<-ex];exact CG hi'
    rw[hd];exact hS''
end
section
variable{X:Cx}
theorem Cq:∀{as:List Addr} {its:List Value},Vals (as.map V.ref) its->its=as.map Value.ref
 | [],_,.nil=>rfl
 | _::_,_,.cons r t=>by rw[BA,Cq t];cases r;rfl
theorem Qn{pins:List (Addr×Obj)}{σ:St}{H:Hp}{s:Shared}(I:Inv X pins σ H s):∀ps:List (Addr×Key×V),(∀q∈ps,H q.1=some (.tup [kV q.2.1,q.2.2]))->∃more:List (Key×Value),KV (ps.map fun q=>q.2) more /\
  ∀(i:Nat) (q:Addr×Key×V),ps[i]?=some q->∃(o:Obj) (key u:Value) (m:Nat),s.heap.get? q.1=some o/\o.cls = .type "tuple"/\o.data = .seq #[key,u] m/\more[i]?=some (q.2.1,u)/\(C0 X.prog X.w).is q.2.1 key=true
 | [],_=>⟨[],.nil,fun i q h=>by simp at h⟩
 | p::ps,h=>by
  obtain⟨more,r,hm⟩:=Qn I ps fun q hq=>h q (AU _ hq);obtain⟨_,its,rv,o,h1,h2,n,h3⟩:=(show ObjOk X.prog X.w H s.heap p.1 (.tup [kV p.2.1,p.2.2])from I.hok _ _ (h p (BE ..)));obtain⟨key,u,rfl,rk,ru⟩:=rv.two;refine⟨(p.2.1,u)::more,.cons ⟨rfl,ru⟩ r,fun i q hq=>?_⟩;cases i with
  | zero=>cases hq;exact⟨o,key,u,n,h1,h2,by simpa using h3,rfl,Gw rk⟩
  | succ i=>exact hm i q hq
theorem Vg(hc:X.calm=true):G6 X (.type "dict") (fun xs H Q=>∃(p:Addr) (ps:List (Addr×Key×V)),xs = [.ref p]/\H p=some (.lst (ps.map fun q=>V.ref q.1))/\(∀q∈ps,H q.1=some (.tup [kV q.2.1,q.2.2]))/\ps.length<=1000/\∀l,H l=none->Q (.ref l) (upd H l (.dK (w8 [] (ps.map fun q=>q.2))))):=by
 intro pins s σ H xs us Q I r h;obtain⟨p,ps,rfl,hp,ht,hl,q⟩:=h;obtain⟨u,rfl,ru⟩:=R4 r;cases ru;obtain⟨its,nn,rv,ho,hz⟩:=I.lst hp;have ei:its =(ps.map fun q=>q.1).map Value.ref:=Cq (by rw[AY];exact rv);obtain⟨more,rm,hm⟩:=Qn I ps ht;have lm:more.length=ps.length:=by rw[<-rm.length,AA]
 have li:its.toArray.size=ps.length:=by rw[ei];simp
 have hps:p<s.heap.objs.size:=AL ho;refine callType_codes (Q₁:=fun obj s₁=>obj = .ref s.heap.objs.size/\s₁ ={ s with heap:=s.heap.push { cls:=.type "dict",data:=.dict #[] } }) PySem.F.kt_called_dict (PySem.F.kt_typeCall_dict_1 _) PySem.F.entry_dict_init (kt_code_dict_new _ ⟨rfl,rfl⟩) ?_;rintro obj s₁ ⟨rfl,rfl⟩;have hnew:(s.heap.push { cls:=.type "dict",data:=.dict #[] }).DictOf (C0 X.prog X.w) s.heap.objs.size []:=Heap.DictOf.new s.heap;have ho':(s.heap.push { cls:=.type "dict",data:=.dict #[] }).get? p=some { cls:=.type "list",data:=.seq its.toArray nn }:=AC _ ho;refine⟨hnew.typeIs,PySem.F.args_dict_init_2 _ _,?_⟩;unfold Builtin.«dict.__init__»;refine AB ?_;unfold Builtin.Dict.selfAndRest;refine AB (wpAny_notOrdered_dict hnew.typeIs ?_);show wpAny _ _ (pure (s.heap.objs.size,[Value.ref p])) _ _ _;refine AD ?_;show wpAny _ _ (Builtin.Dict.updateFrom "dict.__init__" s.heap.objs.size (.ref p) [] .none) _ _ _;unfold Builtin.Dict.updateFrom;refine AB (HM (T := "list") ⟨_,ho',rfl⟩ ?_);rw[AR (by decide)];have hh:X.A.in1.in1.handled=none:=I.ok.hd hc;refine AB (Du ho' (am_miss_of_fast (by decide +kernel)) (by decide +kernel) hh (fun h1 tk1 k1=>?_) (by decide +kernel));refine wpAny_ite_true rfl ?_;have hD1:h1.DictOf (C0 X.prog X.w) s.heap.objs.size []:=let⟨o,es,ep,ho,r⟩:=hnew;⟨o,es,ep,k1 _ _ ho,r⟩;have hp1:=k1 _ _ ho';have hDs:s.heap.objs.size<h1.objs.size:=let⟨_,_,_,ho,_⟩:=hD1;AL ho;have hps1:p≠h1.objs.size:=AX (Nat.lt_trans hps hDs);refine AB (EX (AB (GF (l:=p) (items:=its.toArray) ⟨_,hp1,rfl,nn,rfl⟩ (AD ⟨plainId_quiet w6 _,?_⟩))));have k2:∀b o,s.heap.get? b=some o->h1.get? b=some o:=fun b o e=>k1 b o (AC _ e);refine Qt (A:=X.A.in1) (knd:=C0 X.prog X.w) ((Walks.list (A:=X.A.in1.in1) hh h1.objs.size p hps1 its.toArray).toS) s.heap.objs.size ?_ h1 more (lm.trans li.symm) (fun i v hv=>?_) _ 0 _ [] _ rfl (CC _) ⟨⟨_,BC _ rfl,rfl,rfl⟩,⟨_,AC _ hp1,rfl,nn,rfl⟩⟩ (fun b o _ e=>AC _ e) (let⟨o,es,ep,ho,r⟩:=hD1;⟨o,es,ep,AC _ ho,r⟩) ?_ fun s' hmv hS'=>?_
 .simp only[A_,BP,or_false,not_or];exact⟨AX hDs,GN hps⟩
 .have hv:its.toArray[i]?=some v:=hv;rw[List.getElem?_toArray,ei,AY,AI]at hv;obtain⟨z,hz',rfl⟩:=BL.mp hv;obtain⟨o,key,u,m,e1,e2,e3,e4,e5⟩:=hm i z hz';have lt:=AL e1;refine⟨z.1,o,z.2.1,key,u,m,rfl,?_,k2 _ _ e1,e2,e3,e4,e5⟩;simp only[A_,BP,or_false,not_or];exact⟨AX lt,AX (Nat.lt_trans lt hDs)⟩
 .rw[li,sizeLine_eq];simp;omega
 .obtain⟨h',g',d',tk',os'⟩:=s';have eg:g'=s.gens:=hmv.gens;have ed:d'=s.drawn:=hmv.drawn;have eo:os'=s.os:=hmv.os;subst eg;subst ed;subst eo;refine⟨rfl,.ref s.heap.objs.size,upd H s.heap.objs.size (.dK (w8 [] (ps.map fun q=>q.2))),I.laid (fun b o eb=>?_) (Nat.le_refl _) (Mw ?_ (beq_eq_false_iff_ne.mpr (GN I.big)) (KV.mrg .nil rm) hS'),rfl,q _ I.fresh⟩
  .have lt:=AL eb;refine hmv.heap b o ?_ (AC _ (k2 b o eb));simp only[A_,BP,or_false,not_or];exact⟨AX lt,AX (Nat.lt_trans lt hDs)⟩
  .have:=S0 [] (ps.map fun q=>q.2);rw[AA]at this;rw[sizeLine_eq];simp at this;omega
end
section
variable{X:Cx}{pos:Pos}
variable(K:PySem.W.Frag)
theorem Xa(hc:X.calm=true:=by rfl):G6 X (.type "dict") (fun xs H Q=>∃(p:Addr) (ps:List (Addr×Key×V)),xs = [.ref p]/\H p=some (.lst (ps.map fun q=>V.ref q.1))/\(∀q∈ps,H q.1=some (.tup [kV q.2.1,q.2.2]))/\ps.length<=1000/\∀l,H l=none->Q (.ref l) (upd H l (.dK (w8 [] (ps.map fun q=>q.2))))):=Vg hc
end
theorem Lv:bootBuiltins "sum" = some (.builtin "sum"):=by decide +kernel
section
variable{X:Cx}
theorem Tk(hc:X.calm=true):G6 X (.builtin "sum") (fun xs H Q=>∃(p:Addr) (ns:List Int),xs = [.ref p]/\SqL X.K H p (ns.map V.int)/\Q (.int ns.sum) H):=by
 intro pins s σ H xs us Q I r h;obtain⟨p,ns,rfl,hq,q⟩:=h;obtain⟨u,rfl,ru⟩:=R4 r;cases ru;obtain⟨its,rv,pl,hz⟩:=I.list hq;have hi:=Oq rv;obtain⟨xs,ex⟩:=hi.allInts.items;refine sum_intListG (xs:=xs) (I.ok.hd hc) (by rw[<-ex];exact pl.isList) fun h' tk t' k=>⟨.int ns.sum,H,I.kept k,⟨t',?_⟩,q⟩;have e:numsOf its=ns:=hi.numsOf;have e2:numsOf (intItems xs).toList=numsOf its:=by rw[<-ex]
 rw[preSum_eq,CI (by simp),<-nums_intItems,e2,e]
theorem Si(K:PySem.W.Frag)(hK:X.K=K:=by rfl)(hc:X.calm=true:=by rfl):G6 X (.builtin "sum") (fun xs H Q=>∃(p:Addr) (ns:List Int),xs = [.ref p]/\SqL K H p (ns.map V.int)/\Q (.int ns.sum) H):=by subst hK;exact Tk hc
end
theorem Zt{α:Type}:∀{ps:List (Addr×α)} {us:List Value},Vals (ps.map fun q=>V.ref q.1) us->us=ps.map fun q=>Value.ref q.1
 | [],_,.nil=>rfl
 | _::_,_,.cons r t=>by rw[BA,Zt t];cases r;rfl
theorem zBh{α:Type}:∀(ps:List (Addr×α)),Vals (ps.map fun q=>V.ref q.1) (ps.map fun q=>Value.ref q.1)
 | []=>.nil
 | _::ps=>.cons rfl (zBh ps)
def Itd(d:Addr)(o:Obj)(kvs:List (Key×V)):It :=
 ⟨fun i H=>H d=some (.frz o (.dK kvs))/\i<kvs.length,fun i H x H'=>H'=H/\∃k v,kvs[i]?=some (k,v)/\x=kV k,fun i H=>H d=some (.frz o (.dK kvs))/\kvs.length<=i⟩
theorem KV.at{kvs:List (Key×V)}{vs:List (Key×Value)}(h:KV kvs vs):∀{i:Nat} {k:Key} {v:V},kvs[i]?=some (k,v)->∃u,vs[i]?=some (k,u):=by
 induction h with
 | nil=>intro i k v e;rw[List.getElem?_nil]at e;cases e
 | cons r _ ih =>
  intro i k v e;cases i with
  | zero =>
   rw[HJ]at e⊢;cases e;obtain⟨a,b⟩:=r;exact⟨_,by rw[show k=_ from a]⟩
  | succ i=>exact ih e
theorem Zb{k:Key}{u:Value}(h:Dq k u=true):RelV (kV k) u:=by
 cases k with
 | inl i=>obtain⟨t,rfl⟩:=Value.isInt_shape h;exact⟨t,rfl⟩
 | inr x=>obtain⟨t,rfl⟩:=Value.isStrOf_shape h;exact⟨t,rfl⟩
section
variable{X:Cx}{tg:Expr}
theorem Sx{P:Program}{w:World}{K:PySem.W.Frag}{d it:Addr}{o:Obj}{kvs:List (Key×V)}{es:Array DictEntry}{ep:Nat}(hd:o.data = .dict es ep):Turn P w K tg (Itd d o kvs) [it] it (fun i h=>h.IsKeyIter it d i kvs.length ep) where
 mem:=by simp
 obj:=fun i h st b hb=>by
  have e:b=it:=by simpa using hb
  subst e;obtain⟨o,e,c,d⟩:=st;exact⟨o,e,fun v z=>by rw[d]at z;cases z⟩
 keep:=fun i h h' st k=>by
  obtain⟨o,e,r⟩:=st;exact⟨o,k it (by simp) o e,r⟩
 item:=by
  intro X hP hw hK hc i pins s σ H E I hf st hg;subst hP hw hK;obtain⟨hq,hi⟩:=hg;obtain⟨f0,f1,f2,f3,f4,f5⟩:=hf it (by simp);obtain⟨ho,hz,hS,vs,r,ob,es',ep',e1,c1,d1,m1⟩:=(show ObjOk X.prog X.w H s.heap d (.frz o (.dK kvs))from I.hok d _ hq);rw[ho]at e1;cases e1;rw[hd]at d1;cases d1;have hx:kvs[i]?=some (kvs[i].1,kvs[i].2):=AH hi;obtain⟨u,hu⟩:=r.at hx;have hl:kvs.length=vs.length:=r.length;rw[hl]at st;refine wpAny_pyNext_dict_item (knd:=C0 X.prog X.w) st ⟨o,es,ho,c1,hd,m1⟩ hu fun key h' hkey st' sb=>?_;have I1:Inv X pins σ H { s with heap:=h' }:=I.turned (t':=s.toks) (fun b o hb e=>(sb.2 b hb).trans e) f0 f1 f3 f4 f5;obtain⟨oi,ei,ci,di⟩:=id st';rw[<-hl]at st';exact⟨key,rfl,Ni (s:={ s with heap:=h' }) ei ci di (by decide) ⟨kV kvs[i].1,H,I1,Zb hkey,⟨rfl,_,_,hx,rfl⟩,st',fun b hb=>(hf b hb).1⟩⟩
 done:=by
  intro X hP hw hK hc i pins s σ H E I hf st hg;subst hP hw hK;obtain⟨hq,hi⟩:=hg;obtain⟨f0,f1,f2,f3,f4,f5⟩:=hf it (by simp);obtain⟨ho,hz,hS,vs,r,ob,es',ep',e1,c1,d1,m1⟩:=(show ObjOk X.prog X.w H s.heap d (.frz o (.dK kvs))from I.hok d _ hq);rw[ho]at e1;cases e1;rw[hd]at d1;cases d1;have hl:kvs.length=vs.length:=r.length;rw[hl]at st hi;exact wpAny_pyNext_dict_end (knd:=C0 X.prog X.w) (I.ok.hd hc) st ⟨o,es,ho,c1,hd,m1⟩ (EK hi) fun h' eb=>⟨rfl,I.turned (t':=s.toks) (fun b o hb e=>eb b o hb e) f0 f1 f3 f4 f5⟩
 self:=fun _ _ _ _ _ st h=>wpAny_pyIter_keyiter st h
end
section
variable{X:Cx}(K:PySem.W.Frag)
theorem slT(hK:X.K=K:=by rfl):SlR X (zHa K):=by subst hK;exact zEr
end
end L2
namespace TS
open PySem PyProof.Rows
section
variable{prog:Program}{w:World}{A:Around}{E:Value->Shared->Prop}{s:Shared}{U:KeyKind}{kd:SortKind}
structure Keys2(prog:Program)(w:World)(a:Addr)(s:Shared)(U:KeyKind)(kd:SortKind)(vs:List Value):Prop where
 cmp:∀(A:Around) (s':Shared),A.units+4<cLine->Ext a s s'->Cmp prog w A s' U kd
 key:∀v∈vs,∃k,U.keyOf v=some k
 kind:2<=vs.length->∀(A:Around) (E:Value->Shared->Prop) (s':Shared) (Q:SortKind->Shared->Prop),Ext a s s'->Q kd s'->wpAny (model prog w) A (keyKind' vs.toArray) Q E s'
theorem Bt{a:Addr}{vs:List Value}{n:Nat}{P:Fin->Shared->Prop}(hu:A.units+4<cLine)(ho:s.heap.get? a=some (seqObj "list" vs.toArray n))(hz:vs.length<=sizeLine)(K:Keys2 prog w a s U kd vs)
  (h:∀out:Array Value,Out U vs out->P (.done (.ret .none)) { s with heap:=sortedHeap s.heap a vs out }) :
  wpAny (model prog w) A (Builtin.«list.sort» ⟨[.ref a],[]⟩) P E s:=by
 rw[list_sort_plain];have ha:a<s.heap.objs.size:=AL ho;have hsz:vs.toArray.size=vs.length:=by simp
 refine AB (listItems_at ho rfl ?_);refine AB (listUpdate_at ho rfl ?_ (by rw[hsz];exact hz) (by simp));obtain⟨e1,ho1⟩:∃e1,(s.heap.update a (Obj.mapSeq fun _=>#[])).get? a=some (seqObj "list" #[] e1):=⟨_,get?_update_seq ho (fun _=>#[])⟩;refine AB (seqEpoch_at ho1 rfl ?_);refine AB (wpAny_newTuple ?_ (by simpa using hz));refine AB (GC ?_);refine CF ?_;have ho6:(((s.heap.update a (Obj.mapSeq fun _=>#[])).push (seqObj "tuple" vs.toArray 0)).push (seqObj "list" #[] 0)).get? a=some (seqObj "list" #[] e1):=by
  rw[HL _ _ _ (by rw[size_push',EC];exact AX (DD ha)),HL _ _ _ (by rw[EC];exact AX ha)];exact ho1
 show wpAny (model prog w) A _ P E { s with heap:=((s.heap.update a (Obj.mapSeq fun _=>#[])).push (seqObj "tuple" vs.toArray 0)).push (seqObj "list" #[] 0) };dsimp only;have hE:Ext a s { s with heap:=((s.heap.update a (Obj.mapSeq fun _=>#[])).push (seqObj "tuple" vs.toArray 0)).push (seqObj "list" #[] 0) }:=fun b o hb e =>
  AC _ (AC _ ((CO s.heap _ (Ne.symm hb)).trans e))
 by_cases h2:vs.toArray.size<2
 .rw[AR h2,AR h2];refine AB (AD ?_);rw[StateT.run_pure];refine AB (AD ?_);dsimp only;refine AB (seqEpoch_at ho6 rfl ?_);refine AB (listUpdate_at ho6 rfl ?_ (by simp) (by rw[FT];show(pairsOf vs).size<=_;rw[pairsOf_size];omega));simp only[bne_self_eq_false,BD,CL];refine AD (h _ (Mm (U:=U) (xs:=pairsOf vs) (FS _) ?_));rw[pairsOf_toList];rw[hsz]at h2
  match vs,h2 with
  | [],_=>exact List.Pairwise.nil
  | [v],_=>exact DI _ _
  | _::_::_,h2=>simp at h2;omega
 .rw[AM h2,AM h2];refine AB (K.kind (by omega) A E _ _ hE ?_);refine AB (CD (Z0 (K.cmp A _ hu hE) (a₀:=pairsOf vs) (st:=SortSt.mk' kd (vs.toArray.zip vs.toArray) #[] 7 none)
   (Q:=fun _ st'=>St U kd (pairsOf vs) st'/\Sor U (arrOf st').toList)
   (fun p hp=>?_) ⟨FS _,rfl,rfl⟩ rfl fun st' a1 a2=>⟨a1,a2⟩) ?_ fun _ _ e=>e)
  .rw[pairsOf_toList]at hp;exact K.key _ (mem_zip_self hp).2
  rintro⟨⟨⟩,st'⟩ s' ⟨rfl,hp,hs⟩;dsimp only;refine AB (seqEpoch_at ho6 rfl ?_);refine AB (listUpdate_at ho6 rfl ?_ (by simp) (by rw[FT];show(arrOf st').size<=_;rw[hp.size,pairsOf_size];omega));rw[show failedOf st'=none from hp.failed];simp only[bne_self_eq_false,BD,CL];exact AD (h _ (Mm hp.perm hs))
theorem sorted_gen2{x:Value}{Q:Value->Shared->Prop}(hu:A.units+6<cLine)
  (hc:wpAny (model prog w) A.in1 (collect x) (fun vs s1=>s1.os=s.os/\vs.length<=sizeLine/\(∃(U:KeyKind) (kd:SortKind),(∀s2:Shared,Ext s1.heap.objs.size s1 s2->Keys2 prog w s1.heap.objs.size s2 U kd vs) /\
   ∀(out:Array Value) (h':Heap) (e:Nat),Out U vs out->(∀b o,s1.heap.get? b=some o->h'.get? b=some o)->h'.get? s1.heap.objs.size=some (seqObj "list" out e)->Q (.ref s1.heap.objs.size) { s1 with heap:=h' })) E s) :
  wpAny (model prog w) A (call (.builtin "sorted") [x]) Q E s:=by
 refine Calls.call_function_entry kind_sorted plain_sorted entry_sorted (args_sorted1 _) ?_;unfold Builtin.«sorted»;refine AB (m:=checkCount "sorted" 1 1 _) (AD ?_);refine AB (CD hc (fun vs s1 ⟨eos,hz,U,kd,K,q⟩=>?_) fun _ _ z=>z);refine AB (GC ?_);have hoL:(s1.heap.push (seqObj "list" vs.toArray 0)).get? s1.heap.objs.size=some (seqObj "list" vs.toArray 0):=BC _ rfl;show wpAny _ _ _ _ _ { s1 with heap:=s1.heap.push (seqObj "list" vs.toArray 0) };have hE:Ext s1.heap.objs.size s1 { s1 with heap:=s1.heap.push (seqObj "list" vs.toArray 0) }:=fun b o _ e=>AC _ e;refine AB (CF (DW slot_list_sort ⟨_,hoL,rfl⟩ entry_list_sort (Bt (s:={ s1 with heap:=s1.heap.push (seqObj "list" vs.toArray 0) }) (by simp only[Around.in1_units];omega) hoL hz (K _ hE) fun out ho=>⟨_,rfl,?_⟩) (args_list_sort _)));obtain⟨e,he⟩:=sortedHeap_at (h:=s1.heap.push (seqObj "list" vs.toArray 0)) (out:=out) hoL;refine AD ⟨_,rfl,q out _ e ho (fun b o eb=>?_) he⟩;have hlt:=AL eb;rw[sortedHeap_old (AX hlt) (by rw[size_push'];exact DD hlt)];exact AC _ eb
open PySem.SeqAt PySem.MeetsSeq PySem.MeetsSeq3
open AutoSeq1 (wpAny_loadPart')
theorem oneLt_lists{l b:Addr}{items items2:Array Value}{n n2:Nat}{r:Bool}{Q:Bool->Shared->Prop}(hu:A.units<cLine)(hl:s.heap.get? l=some (seqObj "list" items n))(hb:s.heap.get? b=some (seqObj "list" items2 n2))
  (hm:Meets (Builtin.«list.__lt__» ⟨[.ref l,.ref b],[]⟩) (fun A R s=>s.heap.get? l=some (seqObj "list" items n)/\s.heap.get? b=some (seqObj "list" items2 n2)/\R (.ok (.ret (.bool r))) s)) (h:Q r s) :
  wpAny (model prog w) A (oneLt' true (.ref l) (.ref b)) Q E s:=by
 rw[oneLt'_eq];simp only[EN];refine AB (wpAny_cRoomFor hu ?_);refine AB (wpAny_callSpecialIfBound?_slot (T := "list") ⟨_,hl,rfl⟩ F.slot_list_lt (call_meets F.slot_list_lt ⟨_,hl,rfl⟩ F.entry_list_lt (F.args_list_lt_2 _ _) hm ⟨hl,hb,?_⟩));exact CU h
end
end TS
namespace L2
open PySem PySem.Spec PyProof.Rows
def LAt(h:Heap)(p:Addr)(us:List Value):Prop:=∃n,h.get? p=some (seqObj "list" us.toArray n)
theorem Lm:∀{a b:List Str},a.map V.str=b.map V.str->a=b
 | [],[],_=>rfl
 | [],_::_,h=>(by cases h)
 | _::_,[],h=>(by cases h)
 | x::r,y::t,h=>by
  rw[BA,BA]at h;injection h with h1 h2;injection h1 with h1;rw[h1,Lm h2]
def own(scope:Scope)(cl:List (Str×Addr))(n:Nat):List (Str×Addr):=cellsFrom (n+1) scope.names cl
theorem O1:∀(names:List (Str×NameKind)) (n:Nat) (acc:List (Str×Addr)),cellsFrom n names acc=cellsFrom n names []++acc
 | [],_,_=>rfl
 | (y,k)::r,n,acc=>by
  unfold cellsFrom;split
  .rw[O1 r (n+1) ((y,n)::acc),O1 r (n+1) [(y,n)],BI];rfl
  .exact O1 r n acc
theorem Cp{α:Type}(x:Str):∀(l m:List (Str×α)),(l++m).lookup x =(l.lookup x).or (m.lookup x)
 | [],m=>rfl
 | (y,c)::r,m=>by
  rw[List.cons_append,HU,HU];cases x == y with
  | true=>rfl
  | false=>exact Cp x r m
theorem W8{scope:Scope}{cl:List (Str×Addr)}{n:Nat}{x:Str}{c:Addr}(h:(own scope cl n).lookup x=some c):(cellsFrom (n+1) scope.names []).lookup x=some c\/((cellsFrom (n+1) scope.names []).lookup x=none/\cl.lookup x=some c):=by
 unfold own at h;rw[O1,Cp]at h;cases e:(cellsFrom (n+1) scope.names []).lookup x with
 | some d=>rw[e]at h;exact .inl h
 | none=>rw[e]at h;exact .inr ⟨rfl,h⟩
def cxD(X:Cx)(scope:Scope)(cl:List (Str×Addr))(N':List Str)(pins:List (Addr×Obj))(ex:List Addr)(s3:Shared)(H3:Hp):Cx where
 prog:=X.prog
 w:=X.w
 K:=X.K
 mg:=X.mg
 base:=X.base
 A:=X.A
 N:=N'
 s₀:=s3
 H₀:=H3
 env:=compEnvC scope (own scope cl s3.heap.objs.size) s3.heap.objs.size X.env
 outer:=X.stack
 stack:=X.stack
 ex:=ex
 fn:=fun x=>scope.names.lookup x == some .cell
 calm:=X.calm
 pn:=X.pn++pins
 xe:=fun _ _=>False
structure DScope(X:Cx)(scope:Scope)(cl:List (Str×Addr))(N':List Str)(cap:List (Option Nat)):Prop where
 kind:scope.kind = .function
 loc:∀y∈scope.names,y.2 = .local->scope.names.lookup y.1=some .local
 clos:closureFor scope X.env=pure cl
 cin:ClIn X cl
 has:∀n,((relabel scope X.env).names.all fun y=>!(y.2 == .cell||y.2 == .free)||((own scope cl n).lookup y.1).isSome)=true
 caps:∀n,Caps X scope (own scope cl n) N' cap
section
variable{X:Cx}{scope:Scope}{cl:List (Str×Addr)}{N':List Str}{cap:List (Option Nat)}{pins:List (Addr×Obj)}{σ:St}{H3:Hp}{s3:Shared}{ex:List Addr}
theorem Inv.blockD(I:Inv X pins σ H3 s3)(S:DScope X scope cl N' cap)(hc:X.calm=true)(hex:∀b∈ex,Bp X pins H3 b/\∃o,s3.heap.get? b=some o){h1:Heap}{tk:Nat}
  (hns:h1.Ns s3.heap.objs.size (fun _=>none)) (hk:∀b o,s3.heap.get? b=some o->h1.get? b=some o) (ok:CellsOk h1 (s3.heap.objs.size+1) (cellsFrom (s3.heap.objs.size+1) scope.names [])) :
  Inv (cxD X scope cl N' pins ex s3 H3) [] (Ma cap σ) H3 { s3 with heap:=h1,toks:=tk }:=by
 have lt3:∀b o,s3.heap.get? b=some o->b≠s3.heap.objs.size:=fun b o e=>AX (AL e);have old:∀x c,cl.lookup x=some c->∃v,s3.heap.IsCell c v:=fun x c e=>I.cell x c (S.cin.get e);have new:∀{x c},(cellsFrom (s3.heap.objs.size+1) scope.names []).lookup x=some c->h1.IsCell c none/\s3.heap.objs.size+1<=c:=fun e=>ok.empty _ _ (PySem.mem_of_lookup e);have hfree:H3 s3.heap.objs.size=none:=I.hok.fresh (Nat.le_refl _);have olt:∀x c,cl.lookup x=some c->c<s3.heap.objs.size:=fun x c e=>let⟨_,h⟩:=old x c e;h.lt;refine⟨⟨I.ok.mod,?_,I.ok.glob,I.ok.blt,Nat.le_refl _,fun x y c e1 e2=>?_,fun x hx=>?_,fun x c h e=>?_,I.ok.hd,I.ok.frames,.inl rfl,fun b hb=>?_,I.bs,Nat.le_trans I.ok.bsz I.sz,fun b o e hb=>?_,fun b hb=>?_,I.stack,I.stkFree⟩,
  rfl,I.bare,Un.kept hk,⟨_,hns,fun i x v e1 e2 e3=>?_⟩,fun x c e=>?_,hfree,fun x c e=>?_,fun p hp=>?_,I.hok.kept hk,?_⟩
 .exact S.kind
 .rcases W8 e1 with a | ⟨_,a⟩<;>rcases W8 e2 with b | ⟨_,b⟩
  .exact name_of_addr ok.apart (PySem.mem_of_lookup a) (PySem.mem_of_lookup b)
  .exact absurd (BJ (olt _ _ b) (EF (new a).2)) (CQ _)
  .exact absurd (BJ (olt _ _ a) (EF (new b).2)) (CQ _)
  .exact I.ok.inj x y c (S.cin.get a) (S.cin.get b)
 .have q:∀k,(relabel scope X.env).names.lookup x=some k->(!(k == .cell||k == .free)||((own scope cl s3.heap.objs.size).lookup x).isSome)=true:=fun k e=>i5 (p:=fun _=>true) (q:=fun a k=>!(k == .cell||k == .free)||((own scope cl s3.heap.objs.size).lookup a).isSome) (S.has _) e;have hx':(relabel scope X.env).names.lookup x=some .cell\/(relabel scope X.env).names.lookup x=some .free:=hx;have:((own scope cl s3.heap.objs.size).lookup x).isSome=true:=by
   rcases hx' with e | e
   .exact q _ e
   .exact q _ e
  exact EQ.mp this
 .have h:scope.names.lookup x=some .cell:=beq_iff_eq.mp h;have q:=PySem.W.cellsFrom_some scope.names (s3.heap.objs.size+1) [] (.inl h);rcases W8 e with a | ⟨a,_⟩
  .exact EF (new a).2
  .rw[a]at q;cases q
 .obtain⟨⟨_,_,_,_,f4,_⟩,o,e⟩:=hex b hb;refine⟨lt3 b o e,fun x c ec=>?_⟩;rcases W8 ec with a | ⟨_,a⟩
  .exact GN (BJ (AL e) (EF (new a).2))
  .exact f4 x c (S.cin.get a)
 .obtain⟨⟨f0,f1,f2,f3,_⟩,_⟩:=hex b hb;rcases f3 with f3 | f3
  .exact I.ok.noex b o e f3
  .have:=(I.ok.bs b o e).1;exact absurd (BJ (AL this) f3) (CQ _)
 .intro hf;obtain⟨⟨_,f1,f2,_⟩,_⟩:=hex b hb;rcases A_.mp (I.stkSub b hf)with z | z
  .exact f1 z
  .exact f2 z
 .unfold Ma at e2;rw[AI]at e2;cases ec:cap[i]? with
  | none=>rw[ec]at e2;cases e2
  | some o =>
   rw[ec]at e2;cases o with
   | none=>cases e2
   | some j =>
    have e2':(σ[j]?).join=some v:=BH e2;obtain⟨c1,c2,c3,c4⟩:=(S.caps s3.heap.objs.size).get e1 ec;have ej:σ[j]?=some (some v):=by
     cases ej:σ[j]? with
     | none=>rw[ej]at e2';cases e2'
     | some z=>rw[ej]at e2';cases z with
      | none=>cases e2'
      | some z=>cases e2';rfl
    obtain⟨m,hn,hl⟩:=I.loc;obtain⟨u,r,l⟩:=hl j x v c1 ej (.inr (.inl c2));refine⟨u,r,?_⟩;rcases l with⟨k,_⟩ | ⟨_,c,hc',hcell'⟩
    .have:X.env.scope.names.lookup x=some .local:=k;rw[c2]at this;cases this
    .exact .inr ⟨.inl c3,c,c4.trans hc',let⟨o,ho,hd⟩:=hcell';⟨o,hk _ _ ho,hd⟩⟩
 .rcases W8 e with a | ⟨_,a⟩
  .exact⟨_,(new a).1⟩
  .obtain⟨v,o,ho,hd⟩:=old x c a;exact⟨v,o,hk _ _ ho,hd⟩
 .rcases W8 e with a | ⟨_,a⟩
  .exact I.hok.fresh (EF (new a).2)
  .exact I.freeC x c (S.cin.get a)
 .have hp':p∈X.pn++pins:=by simpa [cxD] using hp
  obtain⟨e,n,ne,nf,d⟩:=I.pin p hp';refine⟨hk _ _ e,n,lt3 _ _ e,fun hf=>?_,d⟩;rcases A_.mp (I.stkSub p.1 hf)with z | z
  .exact ne z
  .exact nf z
 .unfold Ma;rw[AA];exact(S.caps 0).len
theorem Inv.unblockD{σ':St}{H':Hp}{s':Shared}{h':Heap}(I:Inv X pins σ H3 s3)(hex:∀b∈ex,Bp X pins H3 b)(J:Inv (cxD X scope cl N' pins ex s3 H3) [] σ' H' s')(hb:Heap.SameBut s3.heap.objs.size s'.heap h') :
  Inv X pins σ H' { s' with heap:=h' }:=by
 have hfr:H' s3.heap.objs.size=none:=J.free;refine I.call' (ch:=ex) J.os ⟨fun b o e n h1 h2=>?_,fun b o e n h1 h2=>?_,fun b o e n h2=>?_,fun b o e h2=>?_,J.base.tups,J.base.frzs,J.base.tbls⟩ (fun b ob e=>?_) J.bare fun b hbx=>?_
 .exact(hb.2 b (AX (AL e))).trans (J.base.keep b o e n h1 h2)
 .obtain⟨sl,q⟩:=J.base.slot b o e n h1 h2;exact⟨sl,(hb.2 b (AX (AL e))).trans q⟩
 .exact J.base.free b o e n h2
 .obtain⟨o',q⟩:=J.base.there b o e h2;exact⟨o',(hb.2 b (AX (AL e))).trans q⟩
 .refine(J.hok b ob e).stay (fun c w' hc q=>(hb.2 c ?_).trans q) (fun _ q=>q) fun _ _ q=>q;rintro rfl;rcases hc with z | z
  .rw[<-z,hfr]at e;cases e
  .rw[hfr]at z;cases z
 .obtain⟨_,f1,_,f3,f4,f5⟩:=hex b hbx;exact⟨f3,f1,f4,f5⟩
end
theorem Nr{M:Model}{A:Around}{E:Value->Shared->Prop}{s:Shared}{scope:Scope}{globals:Addr}{cl:List (Str×Addr)}{qual:Str}{env:Env}{Q:Env->Shared->Prop}
  (hQ:∀b,Q (newEnv scope s.heap.objs.size globals (own scope cl s.heap.objs.size) qual none .none (some env) b) { s with heap:=pushCells (s.heap.push { cls:=.type "dict",data:=.dict #[] }) scope.names }) :
  wpAny M A (newFunctionEnv scope globals cl [] qual none .none (some env)) Q E s:=by
 simp only[newFunctionEnv,Option.isSome_some,EN];refine AB (wpAny_alloc ?_);refine AB (wpAny_layCells _ (fun name kind cells=>by cases hkc:kind == NameKind.cell<;>simp[hkc]) _ _ _ _ ?_);rw[show({ s with heap:=s.heap.push { cls:=.type "dict",data:=.dict #[] } }:Shared).heap.objs.size=s.heap.objs.size+1 from DZ ..];rw[List.forIn_nil];exact AB (AD (AD (hQ 0)))
section
variable{X:Cx}{tg iter:Expr}{ifs:List Expr}{g:TG}{tc:TT}{em:TEm}{scope:Scope}{cl:List (Str×Addr)}{N':List Str}{cap:List (Option Nat)}{pos:Pos}{wi:TI}
theorem Po{e:Expr}{gs:List Comprehension}{newAcc:Sem Value}{p2:Pos}(hcl:clausesOf e =⟨tg,iter,ifs,0⟩::gs)(o:Addr->HO)(hs:∀x,foldedSetIterable iter X.env x=pure x)(S:DScope X scope cl N' cap)(hc:X.calm=true)(hi:PI X tg iter wi)
  {lp:Addr->It->St->Hp->(St->Hp->Prop)->Prop}
  (hnew:∀(pins:List (Addr×Obj)) (s:Shared) (σ:St) (H:Hp) (Q:Value->Shared->Prop) (E:Value->Shared->Prop),Inv X pins σ H s->(∀s',Inv X pins σ (upd H s.heap.objs.size (o s.heap.objs.size)) s'->(∀b ob,s.heap.get? b=some ob->s'.heap.get? b=some ob)->Q (.ref s.heap.objs.size) s')->wpAny (model X.prog X.w) X.A newAcc Q E s)
  (hlp:∀(pins:List (Addr×Obj)) (ex:List Addr) (s3:Shared) (H3:Hp) (D it:Addr) (fp:List Addr) (tn:Nat->Heap->Prop) (J:It) (σ:St) (s:Shared) (H:Hp) (Q:St->Hp->Prop) (R:Result->Shared->Prop),
   Turn X.prog X.w X.K tg J fp it tn->Inv (cxD X scope cl N' pins ex s3 H3) [] σ H s->tn 0 s.heap->(∀b∈fp,Bp (cxD X scope cl N' pins ex s3 H3) [] H b)->lp D J σ H Q ->
   (∀s' σ' H',Inv (cxD X scope cl N' pins ex s3 H3) [] σ' H' s'->Q σ' H'->R (.ok .next) s') ->
   codeAny (model X.prog X.w) X.A (.compLoop e 0 (.ref it) (.ref D) (compEnvC scope (own scope cl s3.heap.objs.size) s3.heap.objs.size X.env)) R s)
  (hun:∀it D env,X.A.under (.compStart e 0 (.ref it) (.ref D) env)=X.A) (hden:∀it D env,(model X.prog X.w).den (.compStart e 0 (.ref it) (.ref D) env) =(compStart e 0 (.ref it) (.ref D) env).onRaise (fun x=>do noteFrame x env;standAt theWindowsPlace))
  (hev:∀E Q s,wpAny (model X.prog X.w) X.A (comprehension e scope X.env p2 newAcc false (eval iter X.env)) Q E s->wpAny (model X.prog X.w) X.A (eval e X.env) Q E s) :
  PE X e (Bx wi o cap lp):=by
 intro pins s σ H Q I h;refine hev _ _ _ (GY (use:=none) hcl hs S.clos S.kind S.loc (thn (hi pins s σ H _ I h) fun v s1 h1=>thn h1 fun itv s2 h2=>?_));obtain⟨it,fp,tn,J,H2,eit,I2,T,st2,f2,R2⟩:=h2;subst eit;refine hnew pins s2 σ H2 _ _ I2 fun s3 I3 k3=>?_;have hD:H2 s2.heap.objs.size=none:=I2.hok.fresh (Nat.le_refl _);have fok:∀b∈fp,Bp X pins (upd H2 s2.heap.objs.size (o s2.heap.objs.size)) b/\∃ob,s3.heap.get? b=some ob:=fun b hb=>by
  obtain⟨ob,e,_⟩:=T.obj _ _ st2 b hb;obtain⟨f0,fr⟩:=f2 b hb;exact⟨⟨by rw[B6 (AX (AL e))];exact f0,fr⟩,ob,k3 b ob e⟩
 refine Nr fun bb=>?_;have hk:∀b ob,s3.heap.get? b=some ob->(pushCells (s3.heap.push { cls:=.type "dict",data:=.dict #[] }) scope.names).get? b=some ob:=fun b ob e=>pushCells_keeps _ _ b ob (AC _ e);have hns:(pushCells (s3.heap.push { cls:=.type "dict",data:=.dict #[] }) scope.names).Ns s3.heap.objs.size (fun _=>none):=(Heap.Ns.new s3.heap (.type "dict")).keeps (pushCells_keeps _ _);have ok:=cellsFrom_ok scope.names (s3.heap.push { cls:=.type "dict",data:=.dict #[] }) (s3.heap.objs.size+1) [] ⟨fun _ _ hm=>(nomatch hm),List.Pairwise.nil⟩ (by rw[DZ];exact Nat.le_refl _);rw[DZ]at ok;generalize pushCells (s3.heap.push { cls:=.type "dict",data:=.dict #[] }) scope.names=h1 at hk hns ok⊢;have I4:Inv (cxD X scope cl N' pins fp s3 (upd H2 s2.heap.objs.size (o s2.heap.objs.size))) [] (Ma cap σ) (upd H2 s2.heap.objs.size (o s2.heap.objs.size)) { s3 with heap:=h1,toks:=s3.toks } :=
  I3.blockD S hc fok hns hk ok
 have st4:tn 0 h1:=T.keep 0 _ _ st2 fun b hb ob e=>hk b ob (k3 b ob e);refine U6 (X:=cxD X scope cl N' pins fp s3 (upd H2 s2.heap.objs.size (o s2.heap.objs.size))) (gs:=⟨tg,iter,ifs,0⟩::gs) (e:=e) (d:=0) (tg:=tg) (iter:=iter) (ifs:=ifs) (hun _ _ _) (hden _ _ _) hcl rfl T st4 ?_;refine hlp pins fp s3 _ s2.heap.objs.size it fp tn J (Ma cap σ) _ _ _ _ T I4 st4 (fun b hb=>?_) (R2 _ hD) fun s' σ' H' I' q'=>?_
 .obtain⟨⟨f0,f1,f2',f3,f4,f5⟩,ob,eo⟩:=fok b hb;refine⟨f0,AX (AL eo),fun hf=>?_,.inl hb,fun x c e=>?_,fun p hp=>f5 p (by simpa [cxD] using hp)⟩
  .rcases A_.mp (I3.stkSub b hf)with z | z
   .exact f1 z
   .exact f2' z
  .rcases W8 e with a | ⟨_,a⟩
   .exact GN (BJ (AL eo) (EF (ok.empty _ _ (PySem.mem_of_lookup a)).2))
   .exact f4 x c (S.cin.get a)
 .obtain⟨m,hn,_⟩:=I'.loc;exact⟨m,hn,fun h' hb=>⟨.ref _,H',I3.unblockD (fun b hb=>(fok b hb).1) I' hb,rfl,q'⟩⟩
theorem Xw{elt:Expr}{te:TE}(S:DScope X scope cl N' cap)(hc:X.calm=true)(hi:PI X tg iter wi)
  (hb:∀(pins:List (Addr×Obj)) (ex:List Addr) (s3:Shared) (H3:Hp),PG (cxD X scope cl N' pins ex s3 H3) tg g/\PTs (cxD X scope cl N' pins ex s3 H3) ifs tc/\PE (cxD X scope cl N' pins ex s3 H3) elt te)
  (hs:∀x,foldedSetIterable iter X.env x=pure x:=by intro _;rfl) :
  PE X (.ListComp elt [⟨tg,iter,ifs,0⟩] scope pos) (Bx wi (fun _=>.lst []) cap fun D J σ H Q=>V0 g tc (R0 D te) J σ H Q):=by
 refine Po (newAcc:=newList []) (p2:=firstIterPos [⟨tg,iter,ifs,0⟩] pos) rfl (fun _=>.lst []) hs S hc hi (fun pins s σ H Q E I h=>?_) (fun pins ex s3 H3 D it fp tn J σ s H Q R T I st hf h hR=>?_) (fun _ _ _=>rfl) (fun _ _ _=>rfl) (fun E Q s h=>h)
 .refine GC ?_;exact h _ (I.lnew (t':=s.toks) (its:=[]) .nil (CC _)) fun b ob e=>AC _ e
 .obtain⟨b1,b2,b3⟩:=hb pins ex s3 H3;exact Q6 (X:=cxD X scope cl N' pins ex s3 H3) rfl rfl hc rfl (i7 elt tg iter ifs scope pos _ _ _) b1 b2 (Dr rfl b3) T I st hf h hR
theorem zEg(caps:∀n,Caps X scope (own scope cl n) N' cap)(cin:ClIn X cl)(clos:closureFor scope X.env=pure cl:=by rfl)(kind:scope.kind = .function:=by rfl)
  (loc:∀y∈scope.names,y.2 = .local->scope.names.lookup y.1=some .local:=by decide +kernel) (has:∀n,((relabel scope X.env).names.all fun y=>!(y.2 == .cell||y.2 == .free)||((own scope cl n).lookup y.1).isSome)=true:=by intro _;rfl):DScope X scope cl N' cap:=⟨kind,loc,clos,cin,has,caps⟩
theorem pgD{pins:List (Addr×Obj)}{ex:List Addr}{s3:Shared}{H3:Hp}{x:Str}{pos:Pos}(i:Nat)(hN:N'.Nodup:=by decide +kernel)(hi:N'[i]?=some x:=by rfl)(hx:Loc (cxD X scope cl N' pins ex s3 H3).env.scope x:=by first | exact Or.inl rfl | exact Or.inr rfl)
  (hf:(cxD X scope cl N' pins ex s3 H3).fn x=true\/(cxD X scope cl N' pins ex s3 H3).env.scope.names.lookup x=some .local:=by first | exact Or.inr rfl | exact Or.inl rfl):PG (cxD X scope cl N' pins ex s3 H3) (.Name x pos) (J5 i):=J2 (X:=cxD X scope cl N' pins ex s3 H3) hN hi hx hf
end
def zCa(i:Nat)(f:Addr)(sp:Sp)(E:XK)(t:TA):TE:=fun σ H Q=>σ[i]?=some (some (.ref f))/\zBl sp [] E t σ H Q
section
variable{X:Cx}{CX:CXT}{k:Nat}{f:Addr}{fd:FuncData}{ps:List Str}{sp:Sp}{x:Str}{e:Expr}{es:List Expr}{t:TA}{p pos:Pos}{E:XK}{ds:List Value}
theorem Vt{i:Nat}(F:FnOk X.prog X.w X.K X.mg X.base CX k f fd ps sp)(hr:Room k X.A)(hk:PySem.W.keepIn X.K (.ref f)=true)(hb:Binds X.K fd ps [])(hx:p0 CX X E)
  (ha:PA X (e::es) t) (hN:X.N[i]?=some x:=by rfl) (hv:Vis X.env.scope x:=by first | exact Or.inl rfl | exact Or.inr (Or.inl rfl) | exact Or.inr (Or.inr rfl)) (hdb:(x ==("__debug__":Str))=false:=by decide) (hcd:(x ==("__classdict__":Str))=false:=by decide)
  (he:starEach (e::es) X.env =(false,eval e X.env)::starEach es X.env:=by rfl) (hpl:(backTo pos (starEach es X.env)).any (·.1)=false:=by rfl) :
  PE X (.Call (.Name x p) (e::es) [] pos) (zCa i f sp E t):=by
 intro pins s σ H Q I h;obtain⟨e1,h⟩:=h;refine FC (thn (Xp (i:=i) (pos:=p) hN hv hdb hcd pins s σ H (fun v H'=>v = .ref f/\H'=H) I ⟨_,e1,rfl,rfl⟩) fun u s1 ⟨v,H1,I1,r1,e2,e3⟩=>?_);subst e2 e3;cases r1;refine PySem.W.callWith_K (h₀:=X.base) I1.ok.mod.kin hk (thn (ha pos pins s1 σ H1 _ I1 h) fun us s2 ⟨vs,H2,I2,r,q⟩=>⟨I2.kIn,?_⟩) he hpl;exact Lq F hr hb .nil hx I2 r q
end
end L2
namespace TS
open PySem PyProof.Rows
def lexB:List (List Nat)->List (List Nat)->Bool
 | _,[]=>false
 | [],_::_=>true
 | x::a,y::b=>decide (x<y)||(decide (x=y)&&lexB a b)
theorem lexB_cons{x y:List Nat}{a b:List (List Nat)}:lexB (x::a) (y::b)=true↔x<y\/(x=y/\lexB a b=true):=by
 rw[lexB];simp
theorem Y9(a:List (List Nat)):lexB a []=false:=by cases a<;>rfl
theorem z8:∀a,lexB a a=false
 | []=>rfl
 | x::a=>by
  rw[BO];intro z;rcases lexB_cons.mp z with z | ⟨_,z⟩
  .exact FB _ z
  .rw[z8 a]at z;cases z
theorem Ck:∀a b c,lexB a b=true->lexB b c=true->lexB a c=true
 | _,[],_,h,_=>by rw[Y9]at h;cases h
 | _,_::_,[],_,h=>by rw[Y9]at h;cases h
 | [],_::_,_::_,_,_=>rfl
 | x::a,y::b,z::c,h1,h2=>by
  rw[lexB_cons]at *;rcases h1 with h1 | ⟨h1,h1'⟩
  .rcases h2 with h2 | ⟨h2,_⟩
   .exact .inl (GW h1 h2)
   .exact .inl (h2▸h1)
  .rcases h2 with h2 | ⟨h2,h2'⟩
   .exact .inl (h1▸h2)
   .exact .inr ⟨h1.trans h2,Ck a b c h1' h2'⟩
theorem Lz:∀a b c,lexB a c=true->lexB a b=true\/lexB b c=true
 | _,_,[],h=>by rw[Y9]at h;cases h
 | [],[],_::_,_=>.inr rfl
 | _::_,[],_::_,_=>.inr rfl
 | [],_::_,_::_,_=>.inl rfl
 | x::a,y::b,z::c,h=>by
  rw[lexB_cons]at h;simp only[lexB_cons];rcases tri x y with q | q | q
  .exact .inl (.inl q)
  .rcases h with h | ⟨h,h'⟩
   .exact .inr (.inl (q▸h))
   .rcases Lz a b c h' with r | r
    .exact .inl (.inr ⟨q,r⟩)
    .exact .inr (.inr ⟨q▸h,r⟩)
  .rcases h with h | ⟨h,_⟩
   .exact .inr (.inl (GW q h))
   .exact .inr (.inl (h▸q))
theorem Cl:∀a b,lexB a b=false->lexB b a=false->a=b
 | [],[],_,_=>rfl
 | [],_::_,h,_=>by cases h
 | _::_,[],_,h=>by cases h
 | x::a,y::b,h1,h2=>by
  rw[BO]at h1 h2;rcases tri x y with q | q | q
  .exact absurd (lexB_cons.mpr (.inl q)) h1
  .rw[q,Cl a b (BO.mpr fun z=>h1 (lexB_cons.mpr (.inr ⟨q,z⟩))) (BO.mpr fun z=>h2 (lexB_cons.mpr (.inr ⟨q.symm,z⟩)))]
  .exact absurd (lexB_cons.mpr (.inl q)) h2
def lexKey(tab:List (Addr×List (List Nat))):Value->Option (List (List Nat))
 | .ref a=>(tab.find? fun q=>decide (q.1=a)).map fun q=>q.2
 | _=>none
@[reducible] def lexKind(tab:List (Addr×List (List Nat))):PyProof.Rows.KeyKind where
 α:=List (List Nat)
 blt:=lexB
 irrefl:=z8
 trans:=Ck
 negTrans:=Lz
 total:=Cl
 keyOf:=lexKey tab
 dflt:=[]
theorem lexKey_mem{tab:List (Addr×List (List Nat))}{v:Value}{k:List (List Nat)}(h:lexKey tab v=some k):∃q∈tab,v = .ref q.1/\q.2=k:=by
 match v,h with
 | .ref a,h =>
  obtain⟨q,e,hk⟩:=BL.mp h;exact⟨q,List.mem_of_find?_eq_some e,by rw[AZ (List.find?_some (p:=fun q:Addr×List (List Nat)=>decide (q.1=a)) e)],hk⟩
theorem lexKey_some{tab:List (Addr×List (List Nat))}{q:Addr×List (List Nat)}(h:q∈tab):∃k,lexKey tab (.ref q.1)=some k:=by
 show ∃k,(tab.find? fun r=>decide (r.1=q.1)).map (fun r=>r.2)=some k;cases e:tab.find? fun r=>decide (r.1=q.1)with
 | none=>exact absurd (AJ rfl) (HG.mp e _ h)
 | some r=>exact⟨r.2,rfl⟩
open PySem.SeqAt PySem.MeetsSeq PySem.MeetsSeq3
open AutoSeq1 (wpAny_loadPart')
def Its(items:Array Value)(as:List Str):Prop:=items.size=as.length/\∀(j:Nat) (x:Str),as[j]?=some x->∃t,items[j]?=some (.str x t)
abbrev kyS(as:List Str):List (List Nat):=as.map fun x=>x.cps.toList
theorem Ki(l b:Addr)(items items2:Array Value)(n n2:Nat)(as bs:List Str)(ha:Its items as)(hb:Its items2 bs)(k:Nat) :
  ∀i:Nat,as.length-i=k->i<=as.length->i<=bs.length->Meets (Builtin.«list.__eq__.loop» ⟨[.ref l,.ref b,rawInt i,rawInt 0],[]⟩)
   (fun A R s=>s.heap.get? l=some (seqObj "list" items n)/\s.heap.get? b=some (seqObj "list" items2 n2)/\R (.ok (.ret (.bool (lexB (kyS (as.drop i)) (kyS (bs.drop i)))))) s):=by
 induction k with
 | zero =>
  intro i hk h1 h2 prog w A R s h;obtain⟨hp,g,d,tk,os⟩:=s;obtain⟨hl,hbb,h⟩:=h;wp_walk using BK hl,BK hbb;have hi1:items[((i:Nat):Int).toNat]?=none:=by have:=ha.1;simp;omega
  rw[hi1];have e:lexB (kyS (as.drop i)) (kyS (bs.drop i))=decide (items.size<items2.size):=by
   rw[ha.1,hb.1,EG (by omega)];by_cases c:i<bs.length
   .rw[AJ (by omega),CG c];rfl
   .rw[AQ (by omega),EG (by omega)];rfl
  rw[e]at h;wp_walk using BK hl,BK hbb;exact h
 | succ k ih =>
  intro i hk h1 h2 prog w A R s h;obtain⟨hp,g,d,tk,os⟩:=s;obtain⟨hl,hbb,h⟩:=h;wp_walk using BK hl,BK hbb;have hlt:i<as.length:=by omega
  obtain⟨t,et⟩:=ha.2 i as[i] (AH hlt);have hi1:items[((i:Nat):Int).toNat]?=some (.str as[i] t):=by simpa using et
  by_cases c:i<bs.length
  .obtain⟨u,eu⟩:=hb.2 i bs[i] (AH c);have hi2:items2[((i:Nat):Int).toNat]?=some (.str bs[i] u):=by simpa using eu
   have hc:((i:Int)+1) =((i+1:Nat):Int):=by push_cast;rfl
   rw[CG hlt,CG c]at h;have h:R (.ok (.ret (.bool (decide (as[i].cps.toList<bs[i].cps.toList)||(decide (as[i].cps.toList=bs[i].cps.toList)&&lexB (kyS (as.drop (i+1))) (kyS (bs.drop (i+1)))))))) _:=h;rw[hi1,hi2];refine AB (FU ?_);by_cases e:as[i]=bs[i]
   .rw[AJ e];rw[e,AQ (FB _),AJ rfl,GX,G_]at h;wp_walk;rw[hc];exact⟨plainId_quiet plain_eq_loop _,EA entry_eq_loop (by
     rw[Around.under_plainId plain_eq_loop _];exact ih (i+1) (by omega) (by omega) (by omega) prog w A R _ ⟨hl,hbb,h⟩)⟩
   .rw[AQ e];have ne:as[i].cps.toList≠bs[i].cps.toList:=fun z=>e (by
     have z':=HS.mp z;cases hx:as[i];cases hy:bs[i];rw[hx,hy]at z';exact congrArg Str.mk z')
    rw[AQ ne,DN,Bool.or_false]at h;wp_walk using BK hl,BK hbb;rw[hi1,hi2];show wpAny _ _ (richCompare CmpOp.Lt (.str as[i] t) (.str bs[i] u) >>= fun r=>ret r) _ _ _;refine AB (HQ (typeIs_str _ _ _) (typeIs_str _ _ _) slot_str_lt (call_str_lt ⟨(by intro z;cases z),AD h⟩) rfl)
  .have hi2:items2[((i:Nat):Int).toNat]?=none:=by have:=hb.1;simp;omega
   rw[hi1,hi2];have e:lexB (kyS (as.drop i)) (kyS (bs.drop i))=decide (items.size<items2.size):=by
    rw[ha.1,hb.1,EG (l:=bs) (by omega),AQ (by omega)];exact Y9 _
   rw[e]at h;wp_walk using BK hl,BK hbb;exact h
theorem list_lt_gen(l b:Addr)(items items2:Array Value)(n n2:Nat)(as bs:List Str)(ha:Its items as)(hb:Its items2 bs) :
  Meets (Builtin.«list.__lt__» ⟨[.ref l,.ref b],[]⟩)
   (fun A R s=>s.heap.get? l=some (seqObj "list" items n)/\s.heap.get? b=some (seqObj "list" items2 n2)/\R (.ok (.ret (.bool (lexB (kyS as) (kyS bs))))) s):=by
 intro prog w A R s h;obtain⟨hp,g,d,tk,os⟩:=s;obtain⟨hl,hbb,h⟩:=h;have f3:=AutoSeq1.sub_list_list;wp_walk using BK hl,BK hbb;exact⟨plainId_quiet plain_eq_loop _,EA entry_eq_loop (by
  rw[Around.under_plainId plain_eq_loop _];exact Ki l b items items2 n n2 as bs ha hb _ 0 rfl (CC _) (CC _) prog w A R _ ⟨hl,hbb,h⟩)⟩
end TS
namespace L2
open PySem PySem.Spec PyProof.Rows
theorem Xj{l:List Str}{us:List Value}(r:Vals (l.map V.str) us):TS.Its us.toArray l:=by
 induction l generalizing us with
 | nil =>
  cases r;exact⟨rfl,fun j x h=>by rw[List.getElem?_nil]at h;cases h⟩
 | cons y l ih =>
  cases r with
  | cons r1 r2 =>
   obtain⟨t0,rfl⟩:=r1;obtain⟨h1,h2⟩:=ih r2;refine⟨by simp only[AW,BR]at h1⊢;rw[h1],fun j x h=>?_⟩;cases j with
   | zero =>
    rw[HJ]at h;cases h;exact⟨t0,rfl⟩
   | succ j =>
    rw[List.getElem?_cons_succ]at h;obtain⟨t,e⟩:=h2 j x h;exact⟨t,by simpa using e⟩
def zBv(ts:List (Addr×List Str)):List (Addr×List (List Nat)):=ts.map fun q=>(q.1,TS.kyS q.2)
theorem Nf{P:Program}{w:World}{s:Shared}{a:Addr}{ts:List (Addr×List Str)}{h0:Heap}(hv:∀q∈ts,∃us,Vals (q.2.map V.str) us/\LAt h0 q.1 us)(hk:∀b o,h0.get? b=some o->b≠a/\s.heap.get? b=some o) :
  TS.Keys2 P w a s (TS.lexKind (zBv ts)) oneType' (ts.map fun q=>Value.ref q.1):=by
 refine⟨fun A s' hu hE=>⟨fun x y k l Q E hx hy q=>?_⟩,fun v hvm=>?_,fun h2 A E s' Q hE q=>?_⟩
 .obtain⟨_,m1,rfl,rfl⟩:=TS.lexKey_mem hx;obtain⟨_,m2,rfl,rfl⟩:=TS.lexKey_mem hy;obtain⟨x,mx,rfl⟩:=AE.mp m1;obtain⟨y,my,rfl⟩:=AE.mp m2;obtain⟨us,v1,n1,e1⟩:=hv x mx;obtain⟨vs,v2,n2,e2⟩:=hv y my;have e1':=hE _ _ (hk _ _ e1).1 (hk _ _ e1).2;have e2':=hE _ _ (hk _ _ e2).1 (hk _ _ e2).2;rw[keyLt'_oneType];exact TS.oneLt_lists (by omega) e1' e2' (TS.list_lt_gen _ _ _ _ _ _ _ _ (Xj v1) (Xj v2)) q
 .obtain⟨q,hq,rfl⟩:=AE.mp hvm;exact TS.lexKey_some (q:=(q.1,TS.kyS q.2)) (AE.mpr ⟨q,hq,rfl⟩)
 .refine PySem.W.kas_kind (T:=.type "list") h2 (fun v hvm=>?_) (by decide) (by decide) q;obtain⟨q,hq,rfl⟩:=AE.mp hvm;obtain⟨us,v1,n1,e1⟩:=hv q hq;exact(PySem.W.Looks.ld (hE _ _ (hk _ _ e1).1 (hk _ _ e1).2)).andThen .now
section
variable{X:Cx}
def Yq(K:PySem.W.Frag):List V->Hp->VK->Prop:=fun xs H Q=>∃(p:Addr) (ts:List (Addr×List Str)),xs = [.ref p]/\SqL K H p (ts.map fun q=>V.ref q.1)/\(∀q∈ts,H q.1=some (.lst (q.2.map V.str))) /\
  ∀(l:Addr) (ts':List (Addr×List Str)),H l=none->ts'.Perm ts->ts'.Pairwise (fun a b=>TS.lexB (TS.kyS b.2) (TS.kyS a.2)=false)->Q (.ref l) (upd H l (.lst (ts'.map fun q=>V.ref q.1)))
theorem Hv(hu:X.A.units+64<cLine):G6 X (.builtin "sorted") (Yq X.K):=by
 intro pins s σ H xs us Q I r h;obtain⟨p,ts,rfl,hq,hpi,q⟩:=h;obtain⟨u,rfl,ru⟩:=R4 r;cases ru;obtain⟨its,rv,pl,hz⟩:=I.list hq;have ei:=Zt rv;have hl:=rv.length;refine TS.sorted_gen2 (by omega) (collect_list (vs:=its) pl.isList ?_ (by omega));have hsz:((s.heap.push (seqObj "list" #[] 0)).update s.heap.objs.size (Obj.mapSeq (· ++ its.toArray))).objs.size=s.heap.objs.size+1:=by rw[EC,size_push']
 have hk1:∀b o,s.heap.get? b=some o->((s.heap.push (seqObj "list" #[] 0)).update s.heap.objs.size (Obj.mapSeq (· ++ its.toArray))).get? b=some o:=fun b o eb=>by
  rw[GT _ _ _ _ (AX (AL eb))];exact AC _ eb
 have hpa:∀q∈ts,∃us,Vals (q.2.map V.str) us/\LAt s.heap q.1 us:=fun q hq=>by
  obtain⟨z,its,n,rv,e⟩:=I.hok _ _ (hpi q hq);exact⟨its,rv,n,e⟩
 refine⟨rfl,by omega,TS.lexKind (zBv ts),oneType',fun s2 hE=>?_,fun out h' e ho k hg=>?_⟩
 .rw[ei];refine Nf hpa fun b o eb=>?_;rw[<-ei];have hne:b≠((s.heap.push (seqObj "list" #[] 0)).update s.heap.objs.size (Obj.mapSeq (· ++ its.toArray))).objs.size:=by
   rw[hsz];exact AX (DD (AL eb))
  exact⟨hne,hE b o hne (hk1 b o eb)⟩
 .obtain⟨hp,hs⟩:=ho;rw[ei]at hp;obtain⟨ts',h1,h2⟩:=U1 (fun q:Addr×List Str=>Value.ref q.1) hp ts rfl;have ky:∀q∈ts,TS.lexKey (zBv ts) (.ref q.1)=some (TS.kyS q.2):=fun q hq=>by
   obtain⟨k,e⟩:=TS.lexKey_some (tab:=zBv ts) (q:=(q.1,TS.kyS q.2)) (AE.mpr ⟨q,hq,rfl⟩);obtain⟨_,m,e1,e2⟩:=TS.lexKey_mem e;obtain⟨r,mr,rfl⟩:=AE.mp m;have e1:q.1=r.1:=Value.ref.inj e1;have e3:=(hpi q hq).symm.trans ((congrArg H e1).trans (hpi r mr));have e4:q.2=r.2:=Lm (HO.lst.inj (BH e3));rw[e,<-e2,e4]
  have hpw:ts'.Pairwise (fun a b=>TS.lexB (TS.kyS b.2) (TS.kyS a.2)=false):=by
   rw[h2,BW]at hs;refine(DY.mp hs).imp fun{a b} ⟨ha,hb,z⟩=>?_;have z':TS.lexB ((TS.lexKey (zBv ts) (.ref b.1)).getD []) ((TS.lexKey (zBv ts) (.ref a.1)).getD [])=false:=z;rw[ky a (h1.mem_iff.mp ha),ky b (h1.mem_iff.mp hb)]at z';exact z'
  have hn:H (s.heap.objs.size+1)=none:=I.hok.fresh (DE _);have hg':h'.get? (s.heap.objs.size+1)=some (seqObj "list" out e):=by rw[<-hsz];exact hg
  refine⟨.ref (s.heap.objs.size+1),upd H (s.heap.objs.size+1) (.lst (ts'.map fun q=>V.ref q.1)),?_,by show Value.ref _=_;rw[<-hsz],q _ _ hn h1 hpw⟩;refine I.laid (t':=s.toks) (fun b o eb=>k b o (hk1 b o eb)) (DE _) ⟨?_,out.toList,e,by rw[h2];exact zBh ts',by simpa using hg'⟩;rw[AA,h1.length_eq];rw[AA]at hz;exact hz
theorem Ve(K:PySem.W.Frag)(hu:X.A.units+64<cLine)(hK:X.K=K:=by rfl):G6 X (.builtin "sorted") (Yq K):=by subst hK;exact Hv hu
end
def Li(v d:Addr):HO:=.ext fun h=>h.IsValuesView v d
def Itv(d:Addr)(o:Obj)(kvs:List (Key×V)):It :=
 ⟨fun i H=>H d=some (.frz o (.dK kvs))/\i<kvs.length,fun i H x H'=>H'=H/\∃k,kvs[i]?=some (k,x),fun i H=>H d=some (.frz o (.dK kvs))/\kvs.length<=i⟩
theorem KV.atV{kvs:List (Key×V)}{vs:List (Key×Value)}(h:KV kvs vs):∀{i:Nat} {k:Key} {v:V},kvs[i]?=some (k,v)->∃u,vs[i]?=some (k,u)/\RelV v u:=by
 induction h with
 | nil=>intro i k v e;rw[List.getElem?_nil]at e;cases e
 | cons r _ ih =>
  intro i k v e;cases i with
  | zero =>
   rw[HJ]at e⊢;cases e;obtain⟨a,b⟩:=r;exact⟨_,by rw[show k=_ from a],b⟩
  | succ i=>exact ih e
section
variable{X:Cx}{tg:Expr}
def zGz(td:TE):TE:=fun σ H Q=>td σ H fun x H1=>∃a kvs,x = .ref a/\H1 a=some (.dK kvs)/\∀v,H1 v=none->Q (.ref v) (upd H1 v (Li v a))
theorem Rk{o:Expr}{apos cpos:Pos}{td:TE}(ho:PE X o td)(hbase:attributeBase o "values" X.env (eval o X.env)=eval o X.env:=by rfl)(hline:(apos.endLine == cpos.line)=true:=by rfl):PE X (.Call (.Attribute o "values" apos) [] [] cpos) (zGz td):=by
 intro pins s σ H Q I h;refine wpAny_Call_method0_late hbase hline (thn (ho pins s σ H _ I h) fun v s1 ⟨x,H1,I1,r1,a,kvs,ex,ea,q1⟩=>?_);subst ex;obtain rfl:v=Value.ref a:=r1;obtain⟨z,hd,vs,rel,dd⟩:=Rw I1.hok ea;obtain⟨t1,t2,_⟩:=Rh I1 (.inl ⟨kvs,.inl ea⟩);refine⟨"dict", "dict.values",PySem.F.plainAttrs_dict,PySem.F.slot_dict_values,PySem.F.type_dict_values,t1,t2,Calls.callWith_builtin rfl (PySem.evalArgs_none ?_)⟩;refine call_meetsIn PySem.F.slot_dict_values dd.typeIs PySem.F.entry_dict_values (PySem.F.args_dict_values_1 _) (meets_dict_values (C0 X.prog X.w) a hd) ⟨⟨vs,dd⟩,?_⟩;exact⟨.ref s1.heap.objs.size,upd H1 _ (Li _ a),I1.laid (t':=s1.toks) (fun b o eb=>AC _ eb) (Nat.le_refl _) ⟨⟨_,BC _ rfl,rfl,rfl⟩,⟨_,BC _ rfl⟩,fun h1 h2 ⟨o,e,r⟩ k=>⟨o,k o e,r⟩⟩,rfl,q1 _ I1.fresh⟩
theorem Pk{P:Program}{w:World}{K:PySem.W.Frag}{d it:Addr}{o:Obj}{kvs:List (Key×V)}{es:Array DictEntry}{ep:Nat}(hd:o.data = .dict es ep):Turn P w K tg (Itv d o kvs) [it] it (fun i h=>h.IsValIter it d i kvs.length ep) where
 mem:=by simp
 obj:=fun i h st b hb=>by
  have e:b=it:=by simpa using hb
  subst e;obtain⟨o,e,c,d⟩:=st;exact⟨o,e,fun v z=>by rw[d]at z;cases z⟩
 keep:=fun i h h' st k=>by
  obtain⟨o,e,r⟩:=st;exact⟨o,k it (by simp) o e,r⟩
 item:=by
  intro X hP hw hK hc i pins s σ H E I hf st hg;subst hP hw hK;obtain⟨hq,hi⟩:=hg;obtain⟨f0,f1,f2,f3,f4,f5⟩:=hf it (by simp);obtain⟨ho,hz,hS,vs,r,ob,es',ep',e1,c1,d1,m1⟩:=(show ObjOk X.prog X.w H s.heap d (.frz o (.dK kvs))from I.hok d _ hq);rw[ho]at e1;cases e1;rw[hd]at d1;cases d1;have hx:kvs[i]?=some (kvs[i].1,kvs[i].2):=AH hi;obtain⟨u,hu,ru⟩:=r.atV hx;have hl:kvs.length=vs.length:=r.length;rw[hl]at st;refine wpAny_pyNext_values_item (knd:=C0 X.prog X.w) st ⟨o,es,ho,c1,hd,m1⟩ hu fun h' st' sb=>?_;have I1:Inv X pins σ H { s with heap:=h' }:=I.turned (t':=s.toks) (fun b o hb e=>(sb.2 b hb).trans e) f0 f1 f3 f4 f5;obtain⟨oi,ei,ci,di⟩:=id st';rw[<-hl]at st';exact⟨u,rfl,Ni (s:={ s with heap:=h' }) ei ci di (by decide) ⟨kvs[i].2,H,I1,ru,⟨rfl,_,hx⟩,st',fun b hb=>(hf b hb).1⟩⟩
 done:=by
  intro X hP hw hK hc i pins s σ H E I hf st hg;subst hP hw hK;obtain⟨hq,hi⟩:=hg;obtain⟨f0,f1,f2,f3,f4,f5⟩:=hf it (by simp);obtain⟨ho,hz,hS,vs,r,ob,es',ep',e1,c1,d1,m1⟩:=(show ObjOk X.prog X.w H s.heap d (.frz o (.dK kvs))from I.hok d _ hq);rw[ho]at e1;cases e1;rw[hd]at d1;cases d1;have hl:kvs.length=vs.length:=r.length;rw[hl]at st hi;exact wpAny_pyNext_values_end (knd:=C0 X.prog X.w) (I.ok.hd hc) st ⟨o,es,ho,c1,hd,m1⟩ (EK hi) fun h' eb=>⟨rfl,I.turned (t':=s.toks) (fun b o hb e=>eb b o hb e) f0 f1 f3 f4 f5⟩
 self:=fun _ _ _ _ _ st h=>wpAny_pyIter_valiter st h
def zId(tl:TE):TI:=fun σ H R=>tl σ H fun x H1=>∃v d kvs,x = .ref v/\H1 v=some (Li v d)/\H1 d=some (.dK kvs)/\∀o,R (Itv d o kvs) (upd H1 d (.frz o (.dK kvs)))
theorem zCl{l:Expr}{tl:TE}(hl:PE X l tl):PI X tg l (zId tl):=by
 intro pins s σ H R I h;refine thn (hl pins s σ H _ I h) fun v s1 ⟨x,H1,I1,r1,q1⟩=>?_;obtain⟨vw,d,kvs,e,hv,hq,q⟩:=q1;subst e;cases r1;obtain⟨hview,_⟩:=(show ObjOk X.prog X.w H1 s1.heap vw (Li vw d)from I1.hok vw _ hv);obtain⟨hz,hS,vs,r,o,es,ep,ho,c1,d1,m1⟩:=(show ObjOk X.prog X.w H1 s1.heap d (.dK kvs)from I1.hok d _ hq);have I2:Inv X pins σ (upd H1 d (.frz o (.dK kvs))) { s1 with heap:=s1.heap,toks:=s1.toks }:=I1.write (t':=s1.toks) (by rw[hq];trivial) (.inl rfl) (fun b u _ e=>e) ⟨_,ho⟩ ⟨ho,hz,hS,vs,r,o,es,ep,ho,c1,d1,m1⟩;have hl:kvs.length=vs.length:=r.length;refine wpAny_pyIter_values (knd:=C0 X.prog X.w) (ep:=ep) hview ⟨o,es,ho,c1,d1,m1⟩ ?_;refine⟨s1.heap.objs.size,[s1.heap.objs.size],_,_,upd H1 d (.frz o (.dK kvs)),rfl,I2.kept (t':=s1.toks) fun b o e=>AC _ e,Pk d1,?_,fun b hb=>?_,q o⟩
 .rw[hl];exact⟨_,BC _ rfl,rfl,rfl⟩
 have e:b=s1.heap.objs.size:=by simpa using hb
 subst e;exact I2.fpOk (Nat.le_refl _) (I2.hok.fresh (Nat.le_refl _))
theorem Ba(ns:List Int):∀{n:Nat},n<=ns.length->preSum (fun i=>ns.getD i 0) n =(ns.take n).sum
 | 0,_=>rfl
 | n+1,h=>by
  have e:ns[n]?=some ns[n]:=AH (by omega);show preSum (fun i=>ns.getD i 0) n+ns.getD n 0=_;rw[Ba ns (by omega),List.take_succ,List.sum_append,BZ,e];simp
def zFp:List V->Hp->VK->Prop:=fun xs H Q=>∃(v d:Addr) (kvs:List (Key×V)) (ns:List Int),xs = [.ref v]/\H v=some (Li v d)/\H d=some (.dK kvs)/\(kvs.map fun q=>q.2)=ns.map V.int/\Q (.int ns.sum) H
theorem Zm(hc:X.calm=true:=by rfl):G6 X (.builtin "sum") zFp:=by
 intro pins s σ H xs us Q I r h;obtain⟨v,d,kvs,ns,rfl,hv,hq,hn,q⟩:=h;obtain⟨u,rfl,ru⟩:=R4 r;cases ru;obtain⟨hview,_⟩:=(show ObjOk X.prog X.w H s.heap v (Li v d)from I.hok v _ hv);obtain⟨hz,hS,vs,r,o,es,ep,ho,c1,d1,m1⟩:=(show ObjOk X.prog X.w H s.heap d (.dK kvs)from I.hok d _ hq);have hl:kvs.length=vs.length:=r.length;have hln:kvs.length=ns.length:=by have:=congrArg List.length hn;rw[AA,AA]at this;exact this
 refine call_sum_walkG (wpAny_pyIter_values (knd:=C0 X.prog X.w) (ep:=ep) hview ⟨o,es,ho,c1,d1,m1⟩ ?_);have hdI:d≠s.heap.objs.size:=AX (AL ho);refine⟨s.heap.objs.size,_,_,vs.length,_,_,fun i=>ns.getD i 0,rfl,Walks.dictValues (knd:=C0 X.prog X.w) (by simp only[Around.in1_handled];exact I.ok.hd hc) s.heap.objs.size d hdI vs ep,⟨⟨_,BC _ rfl,rfl,rfl⟩,o,es,AC _ ho,c1,d1,m1⟩,fun b hb=>?_,fun i u ⟨k,hk⟩=>?_,fun h' tk t' kp=>⟨.int ns.sum,H,I.kept (t':=tk) fun b o e=>kp b o (by simpa using AX (AL e)) (AC _ e),⟨t',?_⟩,q⟩⟩
 .rw[DZ];rcases A_.mp hb with rfl | hb
  .exact EM _
  .rw[AF.mp hb];exact DD (AL ho)
 .have hi:i<vs.length:=(AG.mp hk).1;have hx:kvs[i]?=some (kvs[i].1,kvs[i].2):=AH (by omega);obtain⟨u',hu,ru⟩:=r.atV hx;rw[hk]at hu;cases hu;have e:=congrArg (fun l=>l[i]?) hn;rw[AI,AI,hx,AH (by omega:i<ns.length)]at e;have e:kvs[i].2=V.int ns[i]:=BH e;rw[e]at ru;obtain⟨t,rfl⟩:=ru;exact⟨t,by show Value.int ns[i] t=Value.int (ns.getD i 0) t;rw[BZ,AH (by omega:i<ns.length)];rfl⟩
 .have:preSum (fun i=>ns.getD i 0) vs.length=ns.sum:=by
   rw[Ba _ (by omega),CI (by omega)]
  rw[this]
end
section
variable{X:Cx}
theorem zFx:PIp X .BitOr (ipI fun i j=>Builtin.bitOr i j):=by
 intro pins s σ H x y v u Q I r1 r2 h;obtain⟨i,j,e1,e2,q⟩:=h;subst e1;subst e2;obtain⟨t,rfl⟩:=r1;obtain⟨t',rfl⟩:=r2;exact ior_int ⟨.int _,H,I.tok _,⟨_,rfl⟩,q⟩
end
section
variable{X:Cx}{tg:Expr}
def zHe(tl:TE):TI:=fun σ H R=>tl σ H fun x H1=>∃d kvs,x = .ref d/\Rd H1 d (.dK kvs)/\∀o,R (Itd d o kvs) (upd H1 d (.frz o (.dK kvs)))
theorem Vj{H:Hp}{d:Addr}{o:HO}(h:H d=some o):upd H d o=H:=funext fun b=>by
 by_cases e:b=d
 .subst e;rw[A9,h]
 .rw[B6 e]
theorem Uk{l:Expr}{tl:TE}(hl:PE X l tl):PI X tg l (zHe tl):=by
 intro pins s σ H R I h;refine thn (hl pins s σ H _ I h) fun v s1 ⟨x,H1,I1,r1,q1⟩=>?_;obtain⟨d,kvs,e,hq,q⟩:=q1;subst e;cases r1;obtain⟨o,I2,hz,hS,vs,r,es,ep,ho,c1,d1,m1⟩:∃o,Inv X pins σ (upd H1 d (.frz o (.dK kvs))) { s1 with heap:=s1.heap,toks:=s1.toks }/\kvs.length<=sizeLine/\(d == sysModules)=false/\∃vs,KV kvs vs/\∃es ep,s1.heap.get? d=some o/\o.ExactDict/\o.data = .dict es ep/\(PySem.KeysOf (C0 X.prog X.w) es/\Pairs (C0 X.prog X.w) es.toList vs/\(vs.map (·.1)).Nodup):=by
  rcases hq with hq | ⟨o,hq⟩
  .obtain⟨hz,hS,vs,r,o,es,ep,ho,c1,d1,m1⟩:=(show ObjOk X.prog X.w H1 s1.heap d (.dK kvs)from I1.hok d _ hq);exact⟨o,I1.write (t':=s1.toks) (by rw[hq];trivial) (.inl rfl) (fun b u _ e=>e) ⟨_,ho⟩ ⟨ho,hz,hS,vs,r,o,es,ep,ho,c1,d1,m1⟩,hz,hS,vs,r,es,ep,ho,c1,d1,m1⟩
  .obtain⟨ho,hz,hS,vs,r,o',es,ep,ho',c1,d1,m1⟩:=(show ObjOk X.prog X.w H1 s1.heap d (.frz o (.dK kvs))from I1.hok d _ hq);rw[ho]at ho';cases ho';exact⟨o,by rw[Vj hq];exact I1,hz,hS,vs,r,es,ep,ho,c1,d1,m1⟩
 have hl:kvs.length=vs.length:=r.length;refine wpAny_pyIter_dict (knd:=C0 X.prog X.w) (ep:=ep) hS ⟨o,es,ho,c1,d1,m1⟩ ?_;refine⟨s1.heap.objs.size,[s1.heap.objs.size],_,_,upd H1 d (.frz o (.dK kvs)),rfl,I2.kept (t':=s1.toks) fun b o e=>AC _ e,Sx d1,?_,fun b hb=>?_,q o⟩
 .rw[hl];exact⟨_,BC _ rfl,rfl,rfl⟩
 have e:b=s1.heap.objs.size:=by simpa using hb
 subst e;exact I2.fpOk (Nat.le_refl _) (I2.hok.fresh (Nat.le_refl _))
end
end L2
namespace TS
open PySem PyProof.Rows
open PySem.SeqAt PySem.MeetsSeq PySem.MeetsSeq3
open AutoSeq1 (wpAny_loadPart')
theorem Pq{a b:Str}(e:a≠b):a.cps.toList≠b.cps.toList:=fun z=>e (by
 have z':=HS.mp z;cases a;cases b;exact congrArg Str.mk z')
set_option maxHeartbeats 2000000 in
theorem Pt(p q:Addr)(n n2:Nat)(dd dd2:Option Addr)(sl sl2:Array (Option Value))(x1 y1 x2 y2:Str)(t1 u1 t2 u2:Tok) :
  Meets (Builtin.«tuple.__lt__» ⟨[.ref p,.ref q],[]⟩)
   (fun A R s=>s.heap.get? p=some { cls:=.type "tuple",dict:=dd,data:=.seq #[.str x1 t1,.str y1 u1] n,slots:=sl }/\s.heap.get? q=some { cls:=.type "tuple",dict:=dd2,data:=.seq #[.str x2 t2,.str y2 u2] n2,slots:=sl2 } /\
    R (.ok (.ret (.bool (pairLt (x1.cps.toList,y1.cps.toList) (x2.cps.toList,y2.cps.toList))))) s):=by
 intro prog w A R s h;obtain⟨hp,g,d,tk,os⟩:=s;obtain⟨hl,hbb,h⟩:=h;have f3:=AutoSeq1.sub_tuple_tuple;wp_walk using BK hl,BK hbb;show wpAny _ _ (eqBool (.str x1 t1) (.str x2 t2)) _ _ _;refine FU ?_;by_cases e:x1=x2
 .rw[AJ e];wp_walk using BK hl,BK hbb;show wpAny _ _ (eqBool (.str y1 u1) (.str y2 u2)) _ _ _;refine FU ?_;by_cases e':y1=y2
  .rw[AJ e'];wp_walk using BK hl,BK hbb;have hz:pairLt (x1.cps.toList,y1.cps.toList) (x2.cps.toList,y2.cps.toList)=false:=by
    unfold pairLt;rw[e,e'];simp[FB]
   rw[hz]at h;exact h
  .rw[AQ e'];have hz:pairLt (x1.cps.toList,y1.cps.toList) (x2.cps.toList,y2.cps.toList)=decide (y1.cps.toList<y2.cps.toList):=by
    unfold pairLt;rw[e];simp[FB]
   rw[hz]at h;show wpAny _ _ (richCompare CmpOp.Lt (.str y1 u1) (.str y2 u2) >>= fun r=>ret r >>= fun r=>pure (ForInStep.done (some r,()))) _ _ _;refine AB (HQ (typeIs_str _ _ _) (typeIs_str _ _ _) slot_str_lt (call_str_lt ⟨(by intro z;cases z),?_⟩) rfl);exact AD (AD (AD h))
 .rw[AQ e];have hz:pairLt (x1.cps.toList,y1.cps.toList) (x2.cps.toList,y2.cps.toList)=decide (x1.cps.toList<x2.cps.toList):=by
   unfold pairLt;simp[Pq e]
  rw[hz]at h;show wpAny _ _ (richCompare CmpOp.Lt (.str x1 t1) (.str x2 t2) >>= fun r=>ret r >>= fun r=>pure (ForInStep.done (some r,()))) _ _ _;refine AB (HQ (typeIs_str _ _ _) (typeIs_str _ _ _) slot_str_lt (call_str_lt ⟨(by intro z;cases z),?_⟩) rfl);exact AD (AD (AD h))
section
variable{prog:Program}{w:World}{A:Around}{E:Value->Shared->Prop}{s:Shared}
theorem zAr{v v2:Value}{x1 y1 x2 y2:Str}{Q:Value->Shared->Prop}(hl:PairAt s.heap v x1 y1)(hb:PairAt s.heap v2 x2 y2)(hu:A.units<cLine)
  (h:Q (.bool (pairLt (x1.cps.toList,y1.cps.toList) (x2.cps.toList,y2.cps.toList))) s):wpAny (model prog w) A (richCompare .Lt v v2) Q E s:=by
 obtain⟨p,⟨cls,dd,data,sl⟩,n,t,u,rfl,ho,hc,hd⟩:=hl;obtain⟨p2,⟨cls2,dd2,data2,sl2⟩,n2,t2,u2,rfl,ho2,hc2,hd2⟩:=hb;simp only at hc hd hc2 hd2;subst hc hd hc2 hd2;exact richCompare_meets_room (op:=.Lt) ⟨_,ho,rfl⟩ ⟨_,ho2,rfl⟩ PySem.F.slot_tuple_lt PySem.F.entry_tuple_lt (PySem.F.args_tuple_lt_2 _ _) (Pt p p2 n n2 dd dd2 sl sl2 x1 y1 x2 y2 t u t2 u2)
  ⟨ho,ho2,show Value.bool _≠Value.notImplemented/\_ from⟨(fun x=>nomatch x),h⟩⟩ hu
theorem PairAt.tk{h:Heap}{p:Addr}{x y:Str}(z:PairAt h (.ref p) x y):IsTupleKey (strKind prog w) h [x,y] p:=by
 obtain⟨p,o,n,t,u,e,ho,hc,hd⟩:=z;cases e;exact⟨o,_,n,ho,hc,hd,.cons (show(x == x)=true by simp) (.cons (show(y == y)=true by simp) .nil)⟩
theorem zAl{v v2:Value}{x1 y1 x2 y2:Str}{Q:Bool->Shared->Prop}(hl:PairAt s.heap v x1 y1)(hb:PairAt s.heap v2 x2 y2)(hu:A.units<cLine)
  (h:Q (decide ((x1,y1) =(x2,y2))) s):wpAny (model prog w) A (eqBool v v2) Q E s:=by
 obtain⟨p,o,n,t,u,rfl,_⟩:=id hl;obtain⟨p2,o2,n2,t2,u2,rfl,_⟩:=id hb;refine wpAny_eqBool_tuple hu hl.tk hb.tk ?_;have e:decide ([x1,y1] = [x2,y2])=decide ((x1,y1) =(x2,y2)):=by simp
 rw[e];exact h
end
abbrev kyP(as:List (Str×Str)):List (List Nat):=as.flatMap fun q=>[q.1.cps.toList,q.2.cps.toList]
theorem Qp(p q:Str×Str)(as bs:List (Str×Str)):lexB (kyP (p::as)) (kyP (q::bs)) =(pairLt (p.1.cps.toList,p.2.cps.toList) (q.1.cps.toList,q.2.cps.toList)||(decide (p=q)&&lexB (kyP as) (kyP bs))):=by
 have e1:kyP (p::as)=p.1.cps.toList::p.2.cps.toList::kyP as:=rfl;have e2:kyP (q::bs)=q.1.cps.toList::q.2.cps.toList::kyP bs:=rfl;rw[e1,e2,lexB,lexB];unfold pairLt;obtain⟨a,b⟩:=p;obtain⟨c,d⟩:=q;by_cases h1:a=c
 .subst h1;by_cases h2:b=d
  .subst h2;simp[Bool.or_assoc]
  .simp[h2,Pq h2]
 .simp[h1,Pq h1]
def ItsP(h:Heap)(items:Array Value)(as:List (Str×Str)):Prop:=items.size=as.length/\∀(j:Nat) (q:Str×Str),as[j]?=some q->∃v,items[j]?=some v/\PairAt h v q.1 q.2
theorem Vi(l b:Addr)(items items2:Array Value)(n n2:Nat)(as bs:List (Str×Str))(k:Nat) :
  ∀i:Nat,as.length-i=k->i<=as.length->i<=bs.length->Meets (Builtin.«list.__eq__.loop» ⟨[.ref l,.ref b,rawInt i,rawInt 0],[]⟩)
   (fun A R s=>s.heap.get? l=some (seqObj "list" items n)/\s.heap.get? b=some (seqObj "list" items2 n2)/\A.units+1<cLine/\ItsP s.heap items as/\ItsP s.heap items2 bs/\R (.ok (.ret (.bool (lexB (kyP (as.drop i)) (kyP (bs.drop i)))))) s):=by
 induction k with
 | zero =>
  intro i hk h1 h2 prog w A R s h;obtain⟨hp,g,d,tk,os⟩:=s;obtain⟨hl,hbb,hu,ha,hb,h⟩:=h;wp_walk using BK hl,BK hbb;have hi1:items[((i:Nat):Int).toNat]?=none:=by have:=ha.1;simp;omega
  rw[hi1];have e:lexB (kyP (as.drop i)) (kyP (bs.drop i))=decide (items.size<items2.size):=by
   rw[ha.1,hb.1,EG (by omega)];by_cases c:i<bs.length
   .rw[AJ (by omega),CG c];rfl
   .rw[AQ (by omega),EG (by omega)];rfl
  rw[e]at h;wp_walk using BK hl,BK hbb;exact h
 | succ k ih =>
  intro i hk h1 h2 prog w A R s h;obtain⟨hp,g,d,tk,os⟩:=s;obtain⟨hl,hbb,hu,ha,hb,h⟩:=h;wp_walk using BK hl,BK hbb;have hlt:i<as.length:=by omega
  obtain⟨v,et,pa⟩:=ha.2 i as[i] (AH hlt);have hi1:items[((i:Nat):Int).toNat]?=some v:=by simpa using et
  by_cases c:i<bs.length
  .obtain⟨v2,eu,pb⟩:=hb.2 i bs[i] (AH c);have hi2:items2[((i:Nat):Int).toNat]?=some v2:=by simpa using eu
   have hc:((i:Int)+1) =((i+1:Nat):Int):=by push_cast;rfl
   rw[CG hlt,CG c,Qp]at h;rw[hi1,hi2];refine AB (zAl pa pb (show A.units+1<cLine from hu) ?_);by_cases e:as[i]=bs[i]
   .rw[AJ (show(as[i].1,as[i].2) =(bs[i].1,bs[i].2)from e)];have hz:pairLt (as[i].1.cps.toList,as[i].2.cps.toList) (bs[i].1.cps.toList,bs[i].2.cps.toList)=false:=by
     rw[e];unfold pairLt;simp[FB]
    rw[hz,AJ e,GX,G_]at h;wp_walk;rw[hc];exact⟨plainId_quiet plain_eq_loop _,EA entry_eq_loop (by
     rw[Around.under_plainId plain_eq_loop _];exact ih (i+1) (by omega) (by omega) (by omega) prog w A R _ ⟨hl,hbb,hu,ha,hb,h⟩)⟩
   .rw[AQ (show ¬(as[i].1,as[i].2) =(bs[i].1,bs[i].2)from e)];rw[AQ e,DN,Bool.or_false]at h;wp_walk using BK hl,BK hbb;rw[hi1,hi2];show wpAny _ _ (richCompare CmpOp.Lt v v2 >>= fun r=>ret r) _ _ _;exact AB (zAr pa pb (show A.units+1<cLine from hu) (AD h))
  .have hi2:items2[((i:Nat):Int).toNat]?=none:=by have:=hb.1;simp;omega
   rw[hi1,hi2];have e:lexB (kyP (as.drop i)) (kyP (bs.drop i))=decide (items.size<items2.size):=by
    rw[ha.1,hb.1,EG (l:=bs) (by omega),AQ (by omega)];exact Y9 _
   rw[e]at h;wp_walk using BK hl,BK hbb;exact h
theorem Xe(l b:Addr)(items items2:Array Value)(n n2:Nat)(as bs:List (Str×Str)) :
  Meets (Builtin.«list.__lt__» ⟨[.ref l,.ref b],[]⟩)
   (fun A R s=>s.heap.get? l=some (seqObj "list" items n)/\s.heap.get? b=some (seqObj "list" items2 n2)/\A.units+1<cLine/\ItsP s.heap items as/\ItsP s.heap items2 bs/\R (.ok (.ret (.bool (lexB (kyP as) (kyP bs))))) s):=by
 intro prog w A R s h;obtain⟨hp,g,d,tk,os⟩:=s;obtain⟨hl,hbb,h⟩:=h;have f3:=AutoSeq1.sub_list_list;wp_walk using BK hl,BK hbb;exact⟨plainId_quiet plain_eq_loop _,EA entry_eq_loop (by
  rw[Around.under_plainId plain_eq_loop _];exact Vi l b items items2 n n2 as bs _ 0 rfl (CC _) (CC _) prog w A R _ ⟨hl,hbb,h⟩)⟩
section
variable{prog:Program}{w:World}{A:Around}{E:Value->Shared->Prop}{s:Shared}
theorem oneLt_listsP{l b:Addr}{items items2:Array Value}{n n2:Nat}{as bs:List (Str×Str)}{Q:Bool->Shared->Prop}(hu:A.units+3<cLine)(hl:s.heap.get? l=some (seqObj "list" items n))(hb:s.heap.get? b=some (seqObj "list" items2 n2))
  (ha:ItsP s.heap items as) (hc:ItsP s.heap items2 bs) (h:Q (lexB (kyP as) (kyP bs)) s) :
  wpAny (model prog w) A (oneLt' true (.ref l) (.ref b)) Q E s:=by
 rw[oneLt'_eq];simp only[EN];refine AB (wpAny_cRoomFor (by omega) ?_);refine AB (wpAny_callSpecialIfBound?_slot (T := "list") ⟨_,hl,rfl⟩ F.slot_list_lt (call_meets F.slot_list_lt ⟨_,hl,rfl⟩ F.entry_list_lt (F.args_list_lt_2 _ _) (Xe l b items items2 n n2 as bs) ⟨hl,hb,?_,ha,hc,?_⟩))
 .show A.units+1<cLine;omega
 exact CU h
end
end TS
namespace L2
open PySem PySem.Spec PyProof.Rows
abbrev LP:=Addr×List PA2
abbrev nw(l:List PA2):List (Str×Str):=l.map fun q=>q.2
def zBx(ts:List LP):List (Addr×List (List Nat)):=ts.map fun q=>(q.1,TS.kyP (nw q.2))
theorem Qx{h:Heap}{l:List PA2}(hp:∀q∈l,TS.PairAt h (.ref q.1) q.2.1 q.2.2):TS.ItsP h (l.map fun q=>Value.ref q.1).toArray (nw l):=by
 refine⟨by simp,fun j q e=>?_⟩;rw[AI]at e;obtain⟨r,er,rfl⟩:=BL.mp e;exact⟨.ref r.1,by simp[er],hp r (AV er)⟩
def zGm(h:Heap)(q:LP):Prop:=LAt h q.1 (q.2.map fun r=>Value.ref r.1)/\∀r∈q.2,TS.PairAt h (.ref r.1) r.2.1 r.2.2
theorem PairAt.keeps{h h':Heap}{v:Value}{x y:Str}(z:TS.PairAt h v x y)(k:∀b o,h.get? b=some o->h'.get? b=some o):TS.PairAt h' v x y:=by
 obtain⟨p,o,n,t,u,e,ho,r⟩:=z;exact⟨p,o,n,t,u,e,k _ _ ho,r⟩
theorem Nc{P:Program}{w:World}{s:Shared}{a:Addr}{ts:List LP}{h0:Heap}(hv:∀q∈ts,zGm h0 q)(hk:∀b o,h0.get? b=some o->b≠a/\s.heap.get? b=some o) :
  TS.Keys2 P w a s (TS.lexKind (zBx ts)) oneType' (ts.map fun q=>Value.ref q.1):=by
 refine⟨fun A s' hu hE=>⟨fun x y k l Q E hx hy q=>?_⟩,fun v hvm=>?_,fun h2 A E s' Q hE q=>?_⟩
 .obtain⟨_,m1,rfl,rfl⟩:=TS.lexKey_mem hx;obtain⟨_,m2,rfl,rfl⟩:=TS.lexKey_mem hy;obtain⟨x,mx,rfl⟩:=AE.mp m1;obtain⟨y,my,rfl⟩:=AE.mp m2;have kp:∀b o,h0.get? b=some o->s'.heap.get? b=some o:=fun b o e=>hE _ _ (hk _ _ e).1 (hk _ _ e).2;obtain⟨⟨n1,e1⟩,v1⟩:=hv x mx;obtain⟨⟨n2,e2⟩,v2⟩:=hv y my;rw[keyLt'_oneType];exact TS.oneLt_listsP (by omega) (kp _ _ e1) (kp _ _ e2) (Qx fun q hq=>PairAt.keeps (v1 q hq) kp) (Qx fun q hq=>PairAt.keeps (v2 q hq) kp) q
 .obtain⟨q,hq,rfl⟩:=AE.mp hvm;exact TS.lexKey_some (q:=(q.1,TS.kyP (nw q.2))) (AE.mpr ⟨q,hq,rfl⟩)
 .refine PySem.W.kas_kind (T:=.type "list") h2 (fun v hvm=>?_) (by decide) (by decide) q;obtain⟨q,hq,rfl⟩:=AE.mp hvm;obtain⟨⟨n1,e1⟩,v1⟩:=hv q hq;exact(PySem.W.Looks.ld (hE _ _ (hk _ _ e1).1 (hk _ _ e1).2)).andThen .now
section
variable{X:Cx}
def LPIn(H:Hp)(q:LP):Prop:=H q.1=some (.lst (q.2.map fun r=>V.ref r.1))/\∀r∈q.2,G9 H r
theorem LPIn.same{H:Hp}{q r:LP}(hq:LPIn H q)(hr:LPIn H r)(e:q.1=r.1):nw q.2=nw r.2:=by
 have e3:=hq.1.symm.trans ((congrArg H e).trans hr.1);have e4:=HO.lst.inj (BH e3);have h1:=hq.2;have h2:=hr.2;obtain⟨a,l⟩:=q;obtain⟨b,m⟩:=r;clear hq hr e e3;simp only at e4 h1 h2⊢
 induction l generalizing m with
 | nil=>cases m with
  | nil=>rfl
  | cons _ _=>cases e4
 | cons x l ih=>cases m with
  | nil=>cases e4
  | cons y m =>
   rw[BA,BA]at e4;obtain⟨e5,e6⟩:=HX e4;have e5:x.1=y.1:=V.ref.inj e5;have e7:=(h1 x BE).symm.trans ((congrArg H e5).trans (h2 y BE));have e8:=HO.tup.inj (BH e7);simp only[List.cons.injEq,V.str.injEq,and_true]at e8;show x.2::nw l=y.2::nw m;rw[ih (fun r hr=>h1 r (AU _ hr)) m (fun r hr=>h2 r (AU _ hr)) e6,Prod.ext e8.1 e8.2]
theorem Inv.plAt{pins:List (Addr×Obj)}{σ:St}{H:Hp}{s:Shared}{q:LP}(I:Inv X pins σ H s)(h:LPIn H q):zGm s.heap q:=by
 obtain⟨z,its,n,rv,e⟩:=I.hok _ _ h.1;have ei:=Bh rv;subst ei;exact⟨⟨n,e⟩,fun r hr=>I.pairAt (h.2 r hr)⟩
def Pa(K:PySem.W.Frag):List V->Hp->VK->Prop:=fun xs H Q=>∃(p:Addr) (ts:List LP),xs = [.ref p]/\SqL K H p (ts.map fun q=>V.ref q.1)/\(∀q∈ts,LPIn H q) /\
  ∀(l:Addr) (ts':List LP),H l=none->ts'.Perm ts->ts'.Pairwise (fun a b=>TS.lexB (TS.kyP (nw b.2)) (TS.kyP (nw a.2))=false)->Q (.ref l) (upd H l (.lst (ts'.map fun q=>V.ref q.1)))
theorem El(hu:X.A.units+64<cLine):G6 X (.builtin "sorted") (Pa X.K):=by
 intro pins s σ H xs us Q I r h;obtain⟨p,ts,rfl,hq,hpi,q⟩:=h;obtain⟨u,rfl,ru⟩:=R4 r;cases ru;obtain⟨its,rv,pl,hz⟩:=I.list hq;have ei:=Zt rv;have hl:=rv.length;refine TS.sorted_gen2 (by omega) (collect_list (vs:=its) pl.isList ?_ (by omega));have hsz:((s.heap.push (seqObj "list" #[] 0)).update s.heap.objs.size (Obj.mapSeq (· ++ its.toArray))).objs.size=s.heap.objs.size+1:=by rw[EC,size_push']
 have hk1:∀b o,s.heap.get? b=some o->((s.heap.push (seqObj "list" #[] 0)).update s.heap.objs.size (Obj.mapSeq (· ++ its.toArray))).get? b=some o:=fun b o eb=>by
  rw[GT _ _ _ _ (AX (AL eb))];exact AC _ eb
 have hpa:∀q∈ts,zGm s.heap q:=fun q hq=>I.plAt (hpi q hq);refine⟨rfl,by omega,TS.lexKind (zBx ts),oneType',fun s2 hE=>?_,fun out h' e ho k hg=>?_⟩
 .rw[ei];refine Nc hpa fun b o eb=>?_;rw[<-ei];have hne:b≠((s.heap.push (seqObj "list" #[] 0)).update s.heap.objs.size (Obj.mapSeq (· ++ its.toArray))).objs.size:=by
   rw[hsz];exact AX (DD (AL eb))
  exact⟨hne,hE b o hne (hk1 b o eb)⟩
 .obtain⟨hp,hs⟩:=ho;rw[ei]at hp;obtain⟨ts',h1,h2⟩:=U1 (fun q:LP=>Value.ref q.1) hp ts rfl;have ky:∀q∈ts,TS.lexKey (zBx ts) (.ref q.1)=some (TS.kyP (nw q.2)):=fun q hq=>by
   obtain⟨k,e⟩:=TS.lexKey_some (tab:=zBx ts) (q:=(q.1,TS.kyP (nw q.2))) (AE.mpr ⟨q,hq,rfl⟩);obtain⟨_,m,e1,e2⟩:=TS.lexKey_mem e;obtain⟨r,mr,rfl⟩:=AE.mp m;have e1:q.1=r.1:=Value.ref.inj e1;rw[e,<-e2,(hpi q hq).same (hpi r mr) e1]
  have hpw:ts'.Pairwise (fun a b=>TS.lexB (TS.kyP (nw b.2)) (TS.kyP (nw a.2))=false):=by
   rw[h2,BW]at hs;refine(DY.mp hs).imp fun{a b} ⟨ha,hb,z⟩=>?_;have z':TS.lexB ((TS.lexKey (zBx ts) (.ref b.1)).getD []) ((TS.lexKey (zBx ts) (.ref a.1)).getD [])=false:=z;rw[ky a (h1.mem_iff.mp ha),ky b (h1.mem_iff.mp hb)]at z';exact z'
  have hn:H (s.heap.objs.size+1)=none:=I.hok.fresh (DE _);have hg':h'.get? (s.heap.objs.size+1)=some (seqObj "list" out e):=by rw[<-hsz];exact hg
  refine⟨.ref (s.heap.objs.size+1),upd H (s.heap.objs.size+1) (.lst (ts'.map fun q=>V.ref q.1)),?_,by show Value.ref _=_;rw[<-hsz],q _ _ hn h1 hpw⟩;refine I.laid (t':=s.toks) (fun b o eb=>k b o (hk1 b o eb)) (DE _) ⟨?_,out.toList,e,by rw[h2];exact zBh ts',by simpa using hg'⟩;rw[AA,h1.length_eq];rw[AA]at hz;exact hz
theorem Pp(K:PySem.W.Frag)(hu:X.A.units+64<cLine)(hK:X.K=K:=by rfl):G6 X (.builtin "sorted") (Pa K):=by subst hK;exact El hu
theorem Qu:OpR X (compareOp .IsNot) (fun x y H Q=>∃b c,x = .bl b/\y = .bl c/\Q (.bl (b != c)) H):=by
 intro pins s σ H x y v u Q I rx ry h;obtain⟨b,c,rfl,rfl,q⟩:=h;cases rx;cases ry;exact isnot_bool (E3 I q rfl)
end
end L2
namespace Sw
open PySem L2
def top(i:Nat):Stmt:=PySem.Challenge.pw_strikeweave_k82_whole_least_within_all.main.body.getD i (.Pass ⟨0,0,0,0⟩)
abbrev s_is_number:Stmt:=top 2
abbrev s_is_listed:Stmt:=top 3
abbrev s_is_row_of:Stmt:=top 4
abbrev s_rounds:Stmt:=top 6
abbrev s_rounds_beside:Stmt:=top 7
abbrev s_one_round:Stmt:=top 8
abbrev s_wordless:Stmt:=top 9
abbrev s_all_out:Stmt:=top 10
abbrev s_one_in:Stmt:=top 11
abbrev s_least:Stmt:=top 12
abbrev s_shows_least:Stmt:=top 13
abbrev s_are_rows:Stmt:=top 14
abbrev s_is_row:Stmt:=top 15
abbrev s_is_grounded:Stmt:=top 16
abbrev s_is_quiet:Stmt:=top 24
abbrev s_strikes_back:Stmt:=top 25
abbrev s_stands:Stmt:=top 26
abbrev s_kept_by:Stmt:=top 27
abbrev s_is_whole:Stmt:=top 28
abbrev s_struck_by_any:Stmt:=top 29
abbrev s_strikers_of_any:Stmt:=top 30
abbrev s_words_by:Stmt:=top 31
abbrev s_joined:Stmt:=top 35
abbrev s_first_bit:Stmt:=top 36
abbrev s_whole_sets:Stmt:=top 37
abbrev s_tellings:Stmt:=top 38
abbrev s_all_found:Stmt:=top 39
abbrev s_gather:Stmt:=top 40
abbrev s_settle_standing:Stmt:=top 41
abbrev s_settle_whole:Stmt:=top 42
abbrev s_is_name:Stmt:=top 47
abbrev s_check_names:Stmt:=top 48
abbrev s_check_strikes:Stmt:=top 49
abbrev s_is_strike:Stmt:=top 50
abbrev s_law_mix:Stmt:=top 52
abbrev s_law_left:Stmt:=top 53
abbrev s_law_pick:Stmt:=top 54
abbrev s_law_names:Stmt:=top 55
abbrev s_law_size:Stmt:=top 56
abbrev s_law_strikes:Stmt:=top 57
abbrev s_law_within:Stmt:=top 58
abbrev s_law_agrees:Stmt:=top 59
abbrev s_law:Stmt:=top 60
abbrev s_Marks___init__:Stmt:=K1 (top 34) 0
abbrev s_Marks_bits_in:Stmt:=K1 (top 34) 1
abbrev s_Marks_names_in:Stmt:=K1 (top 34) 2
abbrev s_Marks_first_name:Stmt:=K1 (top 34) 3
abbrev s_Marks_set_of:Stmt:=K1 (top 34) 4
abbrev s_Marks_struck_by:Stmt:=K1 (top 34) 5
abbrev s_Marks_strikers_at:Stmt:=K1 (top 34) 6
abbrev s_Marks_unstruck_by:Stmt:=K1 (top 34) 7
abbrev s_Marks_kept:Stmt:=K1 (top 34) 8
abbrev s_Web___init__:Stmt:=K1 (top 46) 0
abbrev s_Web_all_names:Stmt:=K1 (top 46) 1
abbrev s_Web_all_strikes:Stmt:=K1 (top 46) 2
abbrev s_Web_strikers:Stmt:=K1 (top 46) 3
abbrev s_Web_struck:Stmt:=K1 (top 46) 4
abbrev s_Web_check_has:Stmt:=K1 (top 46) 5
structure Tx(K:PySem.W.Frag)(mg:Str->Option Value) where
 aU:Fn K mg "is_number" s_is_number ["thing"]
 aV:Fn K mg "is_listed" s_is_listed ["thing"]
 aW:Fn K mg "is_row_of" s_is_row_of ["thing", "many"]
 a9:Fn K mg "rounds" s_rounds ["web"]
 aF:Fn K mg "rounds_beside" s_rounds_beside ["web", "known"]
 aL:Fn K mg "one_round" s_one_round ["web", "words", "number"]
 aJ:Fn K mg "wordless" s_wordless ["web", "words"]
 bc:Fn K mg "all_out" s_all_out ["web", "words", "name"]
 bi:Fn K mg "one_in" s_one_in ["web", "words", "name"]
 bh:Fn K mg "least" s_least ["web"]
 aM:Fn K mg "shows_least" s_shows_least ["web", "rows"]
 a1:Fn K mg "are_rows" s_are_rows ["web", "rows"]
 bj:Fn K mg "is_row" s_is_row ["names", "row"]
 aN:Fn K mg "is_grounded" s_is_grounded ["web", "words", "numbers", "name"]
 a2:Fn K mg "is_quiet" s_is_quiet ["web", "some"]
 aK:Fn K mg "strikes_back" s_strikes_back ["web", "some"]
 bk:Fn K mg "stands" s_stands ["web", "some"]
 bd:Fn K mg "kept_by" s_kept_by ["web", "some"]
 a3:Fn K mg "is_whole" s_is_whole ["web", "some"]
 an:Fn K mg "struck_by_any" s_struck_by_any ["web", "some"]
 ax:Fn K mg "strikers_of_any" s_strikers_of_any ["web", "some"]
 aQ:Fn K mg "words_by" s_words_by ["web", "some"]
 ba:Fn K mg "joined" s_joined ["sets"]
 aD:Fn K mg "first_bit" s_first_bit ["some"]
 aH:Fn K mg "whole_sets" s_whole_sets ["web"]
 a4:Fn K mg "tellings" s_tellings ["web"]
 aE:Fn K mg "all_found" s_all_found ["web", "settle", "greatest"]
 ar:Fn K mg "gather" s_gather ["marks", "settle", "greatest", "chosen", "barred", "found"]
 ay:Fn K mg "settle_standing" s_settle_standing ["marks", "chosen", "barred"]
 ap:Fn K mg "settle_whole" s_settle_whole ["marks", "chosen", "barred"]
 be:Fn K mg "is_name" s_is_name ["thing"]
 aO:Fn K mg "check_names" s_check_names ["names"]
 aG:Fn K mg "check_strikes" s_check_strikes ["names", "strikes"]
 aX:Fn K mg "is_strike" s_is_strike ["names", "thing"]
 aZ:Fn K mg "_law_mix" s_law_mix ["_law_cell", "_law_k"]
 a5:Fn K mg "_law_left" s_law_left ["_law_script", "_law_k"]
 al:Fn K mg "_law_pick" s_law_pick ["_law_left_here", "_law_many"]
 aY:Fn K mg "_law_names" s_law_names ["_law_left_here", "_law_many"]
 a6:Fn K mg "_law_size" s_law_size ["_law_left_here"]
 aP:Fn K mg "_law_strikes" s_law_strikes ["_law_left_here", "_law_names_here"]
 aR:Fn K mg "_law_within" s_law_within ["_law_some", "_law_sets"]
 aS:Fn K mg "_law_agrees" s_law_agrees ["_law_rows", "_law_words"]
 aa:Addr
 ac:Cls K aa
 bG:mg "Marks" = some (.ref aa)
 az:NoAttr K aa "names"
 aB:NoAttr K aa "full"
 bf:NoAttr K aa "bit_of"
 as:NoAttr K aa "strikers_of"
 a7:NoAttr K aa "struck_of"
 bl:NoAttr K aa "loops"
 bb:Addr
 a8:FuncData
 bq:Fun K "__init__" "Marks.__init__" s_Marks___init__ bb a8
 br:Binds K a8 ["self", "web"] []
 bH:Mk K aa bb
 aj:Mt K aa "bits_in" "Marks.bits_in" s_Marks_bits_in ["self", "some"]
 ai:Mt K aa "names_in" "Marks.names_in" s_Marks_names_in ["self", "some"]
 bM:Mt K aa "first_name" "Marks.first_name" s_Marks_first_name ["self", "some"]
 bN:Mt K aa "set_of" "Marks.set_of" s_Marks_set_of ["self", "some"]
 af:Mt K aa "struck_by" "Marks.struck_by" s_Marks_struck_by ["self", "some"]
 ao:Mt K aa "strikers_at" "Marks.strikers_at" s_Marks_strikers_at ["self", "some"]
 ah:Mt K aa "unstruck_by" "Marks.unstruck_by" s_Marks_unstruck_by ["self", "some"]
 aC:Mt K aa "kept" "Marks.kept" s_Marks_kept ["self", "some"]
 ab:Addr
 ag:Cls K ab
 bA:mg "Web" = some (.ref ab)
 aI:NoAttr K ab "names"
 bm:NoAttr K ab "strikes"
 aw:NoAttr K ab "strikers_by_name"
 aA:NoAttr K ab "struck_by_name"
 bv:Addr
 bt:FuncData
 bw:Fun K "__init__" "Web.__init__" s_Web___init__ bv bt
 bg:Binds K bt ["self", "names", "strikes"] []
 bB:Mk K ab bv
 ae:Mt K ab "all_names" "Web.all_names" s_Web_all_names ["self"]
 bO:Mt K ab "all_strikes" "Web.all_strikes" s_Web_all_strikes ["self"]
 ad:Mt K ab "strikers" "Web.strikers" s_Web_strikers ["self", "name"]
 aq:Mt K ab "struck" "Web.struck" s_Web_struck ["self", "name"]
 ak:Mt K ab "check_has" "Web.check_has" s_Web_check_has ["self", "name"]
 bJ:∃t,mg "MOST" = some (.int 300 t)
 bF:∃t,mg "LETTERS" = some (.str "abcdefghijklmnopqrstuvwxyz" t)
 bx:∃t,mg "LONGEST_NAME" = some (.int 8 t)
 aT:mg "len" = none
 bu:mg "range" = none
 a0:mg "enumerate" = none
 bK:mg "min" = none
 bp:mg "sum" = none
 bC:mg "abs" = none
 am:mg "sorted" = none
 bD:mg "int" = none
 bL:mg "str" = none
 bI:mg "bool" = none
 bn:mg "list" = none
 bo:mg "tuple" = none
 bz:mg "dict" = none
 bE:mg "set" = none
 au:mg "isinstance" = none
 av:mg "all" = none
 bs:mg "any" = none
 bP:mg "ValueError" = none
end Sw
namespace L2
open PySem
theorem fsc{N ps:List Str}{sc:Scope}(h1:sc.kind = .function:=by rfl)(h2:sc.isCoroutine=false:=by rfl)(h3:sc.isGenerator=false:=by rfl)(h4:N.Nodup:=by decide +kernel)(h5:N.take ps.length=ps:=by rfl)(h6:∀x∈ps,sc.names.lookup x=some .local\/sc.names.lookup x=some .cell:=by decide +kernel)(h7:∀y∈sc.names,y.2≠ .free:=by decide +kernel):FnScope N ps sc:=⟨h1,h2,h3,h4,h5,h6,h7⟩
theorem Rm{j k:Nat}{A:Around}(h:Room k A)(e:j<=k:=by decide):Room j A:=h.mono e
theorem Am{J:It}{xs:List V}{a:Addr}{H0:Hp}(as:AsSeq J xs a H0){g:TG}{tb:TS}{D:Ends}{σ:St}{H:Hp}(Pv:Nat->St->Hp->Prop)(h0:Pv 0 σ H)(hk:∀i σ H,i<=xs.length->Pv i σ H->KeepAt a H0 H)
  (hs:∀i σ H x,xs[i]?=some x->Pv i σ H->∀D':Ends,(∀σ' H',Pv (i+1) σ' H'->D'.nx σ' H')->D'.rt=D.rt->g x σ H fun σ2 H2=>tb D' σ2 H2) (hd:∀σ H,Pv xs.length σ H->D.nx σ H) :
  ∃W:Nat->Nat->St->Hp->Prop,(∃m,W 0 m σ H)/\∀i m σ H,W i m σ H ->
   (J.stop i H/\D.nx σ H)\/(J.go i H/\∃N:St->Hp->Prop,(∀σ' H',N σ' H'->∃m',m' < m/\W (i+1) m' σ' H')/\∀x H',J.yld i H x H'->g x σ H' fun σ2 H2=>tb { D with nx:=N,ct:=N,bk:=D.nx } σ2 H2) :=
 zCd as Pv h0 hk (fun i σ H x hx hp=>hs i σ H x hx hp _ (fun _ _ z=>z) rfl) hd
theorem Da{lo:Int}{n:Nat}{g:TG}{tb:TS}{D:Ends}{σ:St}{H:Hp}(Pv:Nat->St->Hp->Prop)(h0:Pv 0 σ H)
  (hs:∀i σ H,i<n->Pv i σ H->∀D':Ends,(∀σ' H',Pv (i+1) σ' H'->D'.nx σ' H')->D'.rt=D.rt->g (.int (lo+i)) σ H fun σ2 H2=>tb D' σ2 H2) (hd:∀σ H,Pv n σ H->D.nx σ H) :
  ∃W:Nat->Nat->St->Hp->Prop,(∃m,W 0 m σ H)/\∀i m σ H,W i m σ H ->
   ((Itr lo n).stop i H/\D.nx σ H)\/((Itr lo n).go i H/\∃N:St->Hp->Prop,(∀σ' H',N σ' H'->∃m',m' < m/\W (i+1) m' σ' H')/\∀x H',(Itr lo n).yld i H x H'->g x σ H' fun σ2 H2=>tb { D with nx:=N,ct:=N,bk:=D.nx } σ2 H2) :=
 Rb Pv h0 (fun i σ H hi hp=>hs i σ H hi hp _ (fun _ _ z=>z) rfl) hd
theorem ex1{α:Type}{A C:α->Prop}{a:α}(e:A a)(h:C a):∃v,A v/\C v:=⟨a,e,h⟩
theorem Eh{α0 α1 α2:Type}{A0 A1 A2 A3 A4 A5:α0->α1->α2->Prop}{a:α0}{b:α1}{c:α2}(h0:A0 a b c)(h1:A1 a b c)(h2:A2 a b c)(h3:A3 a b c)(h4:A4 a b c)(h5:A5 a b c):∃a b c,A0 a b c/\A1 a b c/\A2 a b c/\A3 a b c/\A4 a b c/\A5 a b c:=⟨a,b,c,h0,h1,h2,h3,h4,h5⟩
theorem zBn{α0 α1 α2 α3 α4:Type}{A0 A1 A2 A3 A4 A5:α0->α1->α2->α3->α4->Prop}{a:α0}{b:α1}{c:α2}{d:α3}{e:α4}(h0:A0 a b c d e)(h1:A1 a b c d e)(h2:A2 a b c d e)(h3:A3 a b c d e)(h4:A4 a b c d e)(h5:A5 a b c d e):∃a b c d e,A0 a b c d e/\A1 a b c d e/\A2 a b c d e/\A3 a b c d e/\A4 a b c d e/\A5 a b c d e:=⟨a,b,c,d,e,h0,h1,h2,h3,h4,h5⟩
theorem Pm{α0 α1 α2 α3 α4:Type}{A0 A1 A2 A3 A4:α0->α1->α2->α3->α4->Prop}{a:α0}{b:α1}{c:α2}{d:α3}{e:α4}(h0:A0 a b c d e)(h1:A1 a b c d e)(h2:A2 a b c d e)(h3:A3 a b c d e)(h4:A4 a b c d e):∃a b c d e,A0 a b c d e/\A1 a b c d e/\A2 a b c d e/\A3 a b c d e/\A4 a b c d e:=⟨a,b,c,d,e,h0,h1,h2,h3,h4⟩
theorem zEn{α0 α1 α2 α3 α4 α5:Type}{A0 A1 A2 A3 A4 A5 A6 A7:α0->α1->α2->α3->α4->α5->Prop}{a:α0}{b:α1}{c:α2}{d:α3}{e:α4}{f:α5}(h0:A0 a b c d e f)(h1:A1 a b c d e f)(h2:A2 a b c d e f)(h3:A3 a b c d e f)(h4:A4 a b c d e f)(h5:A5 a b c d e f)(h6:A6 a b c d e f)(h7:A7 a b c d e f):∃a b c d e f,A0 a b c d e f/\A1 a b c d e f/\A2 a b c d e f/\A3 a b c d e f/\A4 a b c d e f/\A5 a b c d e f/\A6 a b c d e f/\A7 a b c d e f:=⟨a,b,c,d,e,f,h0,h1,h2,h3,h4,h5,h6,h7⟩
theorem C4{α0 α1:Type}{A0 A1 A2:α0->α1->Prop}{a:α0}{b:α1}(h0:A0 a b)(h1:A1 a b)(h2:A2 a b):∃a b,A0 a b/\A1 a b/\A2 a b:=⟨a,b,h0,h1,h2⟩
theorem B7{t u:TS}{D:Ends}{σ:St}{H:Hp}(h:∀N:St->Hp->Prop,(∀σ' H',u D σ' H'->N σ' H')->t { D with nx:=N } σ H):Vx t u D σ H:=h _ fun _ _ z=>z
theorem zFv{i:Nat}{v:V}{t u:TS}{D:Ends}{σ:St}{H:Hp}(h:∀N:St->Hp->Prop,(∀σ' H',u D σ' H'->N σ' H')->t { D with nx:=N } (σ.set i (some v)) H):J5 i v σ H (fun σ2 H2=>Vx t u D σ2 H2):=h _ fun _ _ z=>z
end L2
namespace Sw
open PySem L2
section
variable{P:Program}{w:World}{K:PySem.W.Frag}{mg:Str->Option Value}{base:Heap}
def zBp(c:Nat):Bool:=decide (97<=c)&&decide (c<=122)
def K8(x:Str):Bool:=decide (1<=x.length)&&decide (x.length<=8)&&x.cps.toList.all zBp
theorem Jz:("abcdefghijklmnopqrstuvwxyz":Str).cps.toList=List.range' 97 26:=by decide +kernel
theorem Zd(c:Nat):decide (c∈("abcdefghijklmnopqrstuvwxyz":Str).cps.toList)=zBp c:=by
 rw[Jz];unfold zBp;by_cases h1:97<=c
 .by_cases h2:c<=122
  .rw[AJ (List.mem_range'_1.mpr (by omega)),AJ h1,AJ h2];rfl
  .rw[AQ (fun z=>by have:=List.mem_range'_1.mp z;omega),AQ h2,GI]
 .rw[AQ (fun z=>by have:=List.mem_range'_1.mp z;omega),AQ h1,DN]
theorem Oa:FnScope ["thing"] ["thing"] (B5 s_is_name):=fsc
def Np:Sp:=fun vs H Q _=>∃x,vs = [.str x]/\x.length<=1000/\∀H',Same H H'->Q (.bl (K8 x)) H'
theorem Nh(T:Tx K mg):FnOk P w K mg base CX0 1 T.be.f T.be.fd ["thing"] Np:=by
 refine T.be.F.ok Oa (fun vs H Q E h=>?_) (fun cdv A outer s H vs Q E hr h=>?_)
 .obtain⟨x,rfl,_⟩:=h;rfl
 .obtain⟨x,rfl,hx,k⟩:=h;refine⟨_,(B3 (K4 (PW.pt (Bs (S8 (K6 (E5 (Ao K) T.au J4 (A8 (pv 0) (A8 (Jl T.bL zEp) B2))))) (V4 (S8 (Vp Zv Zv B8 (E5 Gv T.aT o7 (A8 (pv 0) B2)) (zDn T.bx)))))) (B4 (B9 T5)) D0)
   (B4 (B9 (E5 (Q9 K) T.av Q7 (A8 (J7 (N':=["letter"]) (cap:=[none]) (cl:=[]) (E7 trivial trivial) rfl (zEq (pv 0)) (fun _ _ _ _=>by exact⟨(pgC 0),C3,(E4 Tf (pv 0) (zFn T.bF) rfl)⟩)) B2))))),?_⟩
  have h64:x.length<=sizeLine:=by rw[sizeLine_eq];omega
  have hlen:x.cps.size=x.length:=rfl;refine ex1 rfl ⟨.str x, "str",_,true,rfl,.str x,rfl,ex1 rfl ?_⟩;refine X0 ?_;refine ex1 rfl ⟨x,rfl,h64,C4 rfl rfl (ex1 rfl ?_)⟩;refine U0 (fun c1=>?_) (fun c1=>?_)
  .have c1:(1:Int)<=(x.length:Int):=AZ c1;refine C4 rfl rfl (ex1 rfl ?_);by_cases c2:(x.length:Int)<=8
   .rw[AJ c2];refine X0 ?_;refine ex1 rfl ⟨x,rfl,fun D hD=>?_⟩;refine Cf (n:=x.cps.size) (fun i σ H'=>(∃v,σ = [v])/\Same H H'/\H' D=some (.lst ((x.cps.toList.take i).map fun c=>V.bl (zBp c)))) ⟨⟨_,rfl⟩,Same.new hD,A9⟩ (fun i _ _ hi _=>hi) (fun _ _ _=>rfl) ?_ ?_
    .rintro i σ H1 v H' N hi ⟨⟨v0,rfl⟩,s1,e1⟩ ⟨rfl,c,hc,rfl⟩ hN;refine M9 ?_;refine ex1 rfl (C4 rfl rfl ⟨_,e1,?_,?_⟩)
     .rw[AA,AN,sizeLine_eq];omega
     .rw[PySem.StrLaws.found_one,Zd];refine hN _ _ ⟨⟨_,rfl⟩,s1.upd hD,?_⟩;rw[A9];have:x.cps.toList[i]?=some c:=by rw[BQ];exact hc
      rw[List.take_add_one,this,AK];rfl
    .rintro σ H1 ⟨_,s1,e1⟩;refine⟨D,x.cps.toList.map zBp,rfl,SqL.of ?_,?_⟩
     .rw[e1,<-AS,BN,AY];rfl
     .have e:(x.cps.toList.map zBp).all id=K8 x:=by
       unfold K8;rw[AJ (show 1<=x.length by omega),AJ (show x.length<=8 by omega),FM];rfl
      rw[e];exact k _ s1
   .rw[AQ c2];refine Um ?_;have e:K8 x=false:=by
     unfold K8;rw[AQ (show ¬x.length<=8 by omega),GI,DN]
    have:=k H (Same.refl H);rw[e]at this;exact this
  .have c1:¬(1:Int)<=(x.length:Int):=fun z=>c1 (AJ z);refine ex1 rfl ?_;refine Um ?_;have e:K8 x=false:=by
    unfold K8;rw[AQ (show ¬1<=x.length by omega),DN,DN]
   have:=k H (Same.refl H);rw[e]at this;exact this
theorem take_succ{α:Type}{l:List α}{i:Nat}{x:α}(h:l[i]?=some x):l.take (i+1)=l.take i ++ [x]:=by
 rw[List.take_add_one,h];rfl
theorem U4{α:Type}{l:List α}{i:Nat}{x:α}(nd:l.Nodup)(h:l[i]?=some x):x∉l.take i:=by
 intro hm;obtain⟨j,hj,e⟩:=List.getElem_of_mem hm;have hj':j<i:=by rw[AN]at hj;omega
 rw[List.getElem_take]at e;obtain⟨hi,e'⟩:=AG.mp h;have:=(List.getElem_inj nd).mp (e.trans e'.symm);omega
theorem V3:FnScope ["names", "seen", "place", "name"] ["names"] (B5 s_check_names):=fsc
def V8(ss:List Str):Prop:=(∀x∈ss,K8 x=true)/\ss.Nodup/\ss.length<=100
def Bv(K:PySem.W.Frag):Sp:=fun vs H Q _=>∃(p:Addr) (ss:List Str),vs = [.ref p]/\SqL K H p (ss.map V.str)/\V8 ss/\∀H',Same H H'->Q .non H'
theorem Tn{x:Str}(h:K8 x=true):1<=x.length/\x.length<=8:=by
 unfold K8 at h;rw[CK,CK]at h;exact⟨AZ h.1.1,AZ h.1.2⟩
theorem Bu(T:Tx K mg):FnOk P w K mg base CX0 2 T.aO.f T.aO.fd ["names"] (Bv K):=by
 have G_is_name:=Nh (P:=P) (w:=w) (base:=base) T;have sc:=V3;refine T.aO.F.ok V3 (fun vs H Q E h=>?_) (fun cdv A outer s H vs Q E hr h=>?_)
 .obtain⟨p,ss,rfl,_⟩:=h;rfl
 .obtain⟨a,ss,rfl,hS,⟨hN,hD,hL⟩,k⟩:=h;have hu:=T9 hr;refine⟨_,(B3 (C5 (i:=1) sc.nd rfl (.inl rfl) (Co (zAx P w) (by rfl) T.bE Yf))
   (B4 (f9 PassesOwn.never rfl (piE K T.a0 (A8 (pv 0) B2)) (pgT K (n:=2) (C8 (J2 (i:=2) sc.nd rfl (.inl rfl)) (C8 (J2 (i:=3) sc.nd rfl (.inl rfl)) P5)))
   (B3 (K4 (PW.pt (Bs (S8 (K6 (C7 T.be G_is_name (Rm hr) (A8 (pv 3) B2)))) (V4 (C6 (zGw P w) (pv 3) (pv 1) rfl)))) (B4 v9) D0)
   (B4 (E9 (Xm P w (zDk P w) (pv 1) (A8 (pv 3) B2)))))))),?_⟩
  refine⟨rfl,fun p hp=>?_⟩;have s0:Same H (upd H p (Oy P w p [])):=Same.new hp;refine ex1 rfl ⟨a,ex1 rfl ⟨(s0.at a).seqL hS,zAh (n:=ss.length) (fun i σ H1=>∃v2 v3,σ = [some (.ref a),some (.ref p),v2,v3]/\Same H H1/\H1 p=some (Oy P w p ((ss.take i).map Sum.inr))) ⟨_,_,rfl,s0,A9⟩ ?_ ?_ ?_ ?_⟩⟩
  .rintro i σ H1 hi ⟨v2,v3,rfl,s1,e1⟩;exact⟨_,_,(s1.at a).seqL hS,by rw[AI,AH hi];rfl⟩
  .rintro σ H1 ⟨v2,v3,rfl,s1,e1⟩;exact⟨_,(s1.at a).seqL hS,by rw[AA]⟩
  .rintro i σ H1 v H' hi ⟨v2,v3,rfl,s1,e1⟩ ⟨t,x,rfl,ht,rfl,hx⟩;have hx:=hx _ ((s1.at a).seqL hS);have hi':ss[i]?=some ss[i]:=AH hi;rw[AI,hi']at hx;cases hx;have hm:ss[i]∈ss:=FV hi;have hnb:=hN _ hm;have hlen:=Tn hnb;have npt:p≠t:=B0 e1 ht;refine⟨t,ex1 rfl ⟨SqT.of A9,rfl,_,ex1 rfl (C4 rfl rfl ?_)⟩⟩;refine ex1 rfl ⟨ss[i],rfl,by omega,fun H2 s2=>⟨_,rfl,?_⟩⟩;rw[hnb];refine X0 ?_;have s12:Same H H2:=(s1.trans (Same.new ht)).trans s2;have e2:H2 p=some (Oy P w p ((ss.take i).map Sum.inr)):=s2 _ _ (by rw[B6 npt];exact e1);have hnin:¬(Sum.inr ss[i]:Key)∈(ss.take i).map Sum.inr:=fun z=>by
    obtain⟨y,hy,e⟩:=AE.mp z;cases e;exact U4 hD hi' hy
   refine ex1 rfl (ex1 rfl ⟨p,_,Sum.inr ss[i],rfl,rfl,e2,ex1 rfl ?_⟩);rw[AM (by decide),AQ hnin];refine X0 ?_;refine ex1 rfl ⟨⟨p,rfl,.inl ⟨_,e2⟩⟩,ex1 rfl ⟨p,_,Sum.inr ss[i],rfl,rfl,e2,?_,?_⟩⟩
   .rw[AA,AN];omega
   .refine⟨_,ex1 rfl ⟨s12.upd hp,?_⟩⟩;rw[A9];unfold zFm;rw[AM hnin,take_succ hi',AK];rfl
  .rintro σ H1 ⟨v2,v3,rfl,s1,e1⟩;exact k H1 s1
end
theorem Gk(ss:List Str):(ss.map V.str).all Al=true:=by
 rw[BU];intro v hv;obtain⟨x,_,rfl⟩:=AE.mp hv;rfl
theorem j0(x:Str)(ss:List Str):inV (.str x) (ss.map V.str)=decide (x∈ss):=by
 unfold inV;rw[List.any_map]
 induction ss with
 | nil=>rfl
 | cons y r ih =>
  rw[FO,ih];show((y == x)||decide (x∈r))=decide (x∈y::r);by_cases e:x=y
  .subst e;simp
  .have:(y == x)=false:=by simpa using fun z=>e z.symm
   rw[this,GX];by_cases h:x∈r
   .rw[AJ h,AJ (AU _ h)]
   .rw[AQ h,AQ (fun z=>(A_.mp z).elim e h)]
theorem T2{K:PySem.W.Frag}{H:Hp}{p:Addr}{x:Str}{ss:List Str}{Q:VK}(h:Sqs K H p (ss.map V.str))(q:Q (.bl (decide (x∈ss))) H):rIn K false (.str x) (.ref p) H Q :=
 ⟨p,_,rfl,h,rfl,Gk ss,by rw[AM (by decide),j0];exact q⟩
theorem Ch{K:PySem.W.Frag}{H:Hp}{p:Addr}{x:Str}{ss:List Str}{Q:VK}(h:Sqs K H p (ss.map V.str))(q:Q (.bl (!decide (x∈ss))) H):rIn K true (.str x) (.ref p) H Q :=
 ⟨p,_,rfl,h,rfl,Gk ss,by rw[AR rfl,j0];exact q⟩
section
variable{P:Program}{w:World}{K:PySem.W.Frag}{mg:Str->Option Value}{base:Heap}
theorem Hx:FnScope ["names", "thing"] ["names", "thing"] (B5 s_is_strike):=fsc
def Hf(K:PySem.W.Frag):Sp:=fun vs H Q _=>∃(p:Addr) (ss:List Str) (t:Addr) (x y:Str),vs = [.ref p,.ref t]/\SqL K H p (ss.map V.str)/\H t=some (.tup [.str x,.str y])/\x∈ss/\y∈ss/\Q (.bl true) H
theorem Hl(T:Tx K mg):FnOk P w K mg base CX0 1 T.aX.f T.aX.fd ["names", "thing"] (Hf K):=by
 refine T.aX.F.ok Hx (fun vs H Q E h=>?_) (fun cdv A outer s H vs Q E hr h=>?_)
 .obtain⟨p,ss,t,x,y,rfl,_⟩:=h;rfl
 .obtain⟨p,ss,t,x,y,rfl,hS,ht,hx,hy,k⟩:=h;refine⟨_,(B3 (K4 (PW.pt (Bs (S8 (K6 (E5 (Ao K) T.au J4 (A8 (pv 1) (A8 (Jl T.bo Ei) B2))))) (V4 (C6 zBg (E5 (Ad K) T.aT o7 (A8 (pv 1) B2)) B8 (D8 _))))) (B4 (B9 T5)) D0)
   (B4 (B9 (X2 (E4 (By K) (Q0 (ixT K) (pv 1) B8 (fun _ _=>rfl)) (pv 0) rfl) (X9 (E4 (By K) (Q0 (ixT K) (pv 1) B8 (fun _ _=>rfl)) (pv 0) rfl)))))),?_⟩
  refine ex1 rfl ⟨_, "tuple",_,true,rfl,.tup ht,rfl,ex1 rfl ?_⟩;refine X0 ?_;refine ex1 rfl (C4 (a:=t) rfl (.inr (SqT.of ht)) ⟨rfl,ex1 rfl ?_⟩);refine X0 ?_;refine ex1 rfl ⟨t,_,C4 rfl rfl ⟨SqT.of ht,rfl,ex1 rfl (T2 (.inl hS) ⟨_,rfl,?_⟩)⟩⟩;rw[AJ hx];refine Um ?_;refine ex1 rfl ⟨t,_,C4 rfl rfl ⟨SqT.of ht,rfl,ex1 rfl (T2 (.inl hS) ?_)⟩⟩;rw[AJ hy];exact k
structure StrkOk(ss:List Str)(ps:List PA2):Prop where
 nm:∀q∈ps,q.2.1∈ss/\q.2.2∈ss
 nd:(ps.map fun q=>q.2).Nodup
 len:ps.length<=200
def P1(ps:List PA2):List V:=ps.map fun q=>V.ref q.1
def Iu(ps:List PA2):List (List Key×Addr):=ps.map fun q=>([.inr q.2.1,.inr q.2.2],q.1)
theorem Wo{H:Hp}{ps:List PA2}(h:∀q∈ps,G9 H q):Kn H (Iu ps):=fun k hk=>by
 obtain⟨q,hq,rfl⟩:=AE.mp hk;exact h q hq
theorem J1{H H':Hp}{ps:List PA2}(s:Same H H')(h:∀q∈ps,G9 H q):∀q∈ps,G9 H' q:=fun q hq=>s _ _ (h q hq)
theorem S3:FnScope ["names", "strikes", "seen", "place", "strike"] ["names", "strikes"] (B5 s_check_strikes):=fsc
def t9(K:PySem.W.Frag):Sp:=fun vs H Q _=>∃(p:Addr) (ss:List Str) (a:Addr) (ps:List PA2),vs = [.ref p,.ref a]/\SqL K H p (ss.map V.str)/\SqL K H a (P1 ps)/\(∀q∈ps,G9 H q)/\StrkOk ss ps/\∀H',Same H H'->Q .non H'
theorem t7(T:Tx K mg):FnOk P w K mg base CX0 2 T.aG.f T.aG.fd ["names", "strikes"] (t9 K):=by
 have G_is_strike:=Hl (P:=P) (w:=w) (base:=base) T;have sc:=S3;refine T.aG.F.ok S3 (fun vs H Q E h=>?_) (fun cdv A outer s H vs Q E hr h=>?_)
 .obtain⟨p,ss,t,x,rfl,_⟩:=h;rfl
 .obtain⟨n,ss,a,ps,rfl,hS,hP,hI,⟨hN,hD,hL⟩,k⟩:=h;have hu:=T9 hr;refine⟨_,(B3 (C5 (i:=2) sc.nd rfl (.inl rfl) (Co (Xh P w) (by rfl) T.bE Yf))
   (B4 (f9 PassesOwn.never rfl (piE K T.a0 (A8 (pv 1) B2)) (pgT K (n:=2) (C8 (J2 (i:=3) sc.nd rfl (.inl rfl)) (C8 (J2 (i:=4) sc.nd rfl (.inl rfl)) P5)))
   (B3 (K4 (PW.pt (Bs (S8 (K6 (C7 T.aX G_is_strike (Rm hr) (A8 (pv 0) (A8 (pv 4) B2))))) (V4 (C6 (zGe P w hu) (pv 4) (pv 2) rfl)))) (B4 v9) D0)
   (B4 (E9 (Xm P w (zCp P w hu) (pv 2) (A8 (pv 4) B2)))))))),?_⟩
  refine⟨rfl,fun p hp=>?_⟩;have s0:Same H (upd H p (Ox P w p [])):=Same.new hp;refine ex1 rfl ⟨a,ex1 rfl ⟨(s0.at a).seqL hP,zAh (n:=ps.length) (fun i σ H1=>∃v3 v4,σ = [some (.ref n),some (.ref a),some (.ref p),v3,v4]/\Same H H1/\H1 p=some (Ox P w p (Iu (ps.take i)))) ⟨_,_,rfl,s0,A9⟩ ?_ ?_ ?_ ?_⟩⟩
  .rintro i σ H1 hi ⟨v2,v3,rfl,s1,e1⟩;exact⟨_,_,(s1.at a).seqL hP,by unfold P1;rw[AI,AH hi];rfl⟩
  .rintro σ H1 ⟨v2,v3,rfl,s1,e1⟩;exact⟨_,(s1.at a).seqL hP,by unfold P1;rw[AA]⟩
  .rintro i σ H1 v H' hi ⟨v2,v3,rfl,s1,e1⟩ ⟨t,x,rfl,ht,rfl,hx⟩;have hx:=hx _ ((s1.at a).seqL hP);have hi':ps[i]?=some ps[i]:=AH hi;unfold P1 at hx;rw[AI,hi']at hx;cases hx;have hm:ps[i]∈ps:=FV hi;obtain⟨hn1,hn2⟩:=hN _ hm;have npt:p≠t:=B0 e1 ht;have s2:Same H (upd H1 t (.tup [.int i,.ref ps[i].1])):=s1.trans (Same.new ht);have hq:=s2 _ _ (hI _ hm);refine⟨t,ex1 rfl ⟨SqT.of A9,rfl,_,ex1 rfl (C4 rfl rfl ?_)⟩⟩;refine ex1 rfl (ex1 rfl ⟨n,ss,ps[i].1,ps[i].2.1,ps[i].2.2,rfl,(s2.at n).seqL hS,hq,hn1,hn2,ex1 rfl ?_⟩);refine X0 ?_;have e2:(upd H1 t (.tup [.int i,.ref ps[i].1])) p=some (Ox P w p (Iu (ps.take i))):=by rw[B6 npt];exact e1
   have hin:Kn (upd H1 t (.tup [.int i,.ref ps[i].1])) (Iu (ps.take i)):=Wo (J1 s2 fun q hq=>hI q (CB hq));have hne:∀q∈Iu (ps.take i),q.1≠[.inr ps[i].2.1,.inr ps[i].2.2]:=fun q hq e=>by
    obtain⟨z,hz,rfl⟩:=AE.mp hq;have e':z.2=ps[i].2:=by
     obtain⟨z1,z2,z3⟩:=z;simp only[List.cons.injEq,Sum.inr.injEq,and_true]at e;exact Prod.ext e.1 e.2
    have h1:(ps.map fun q=>q.2)[i]?=some ps[i].2:=by rw[AI,hi'];rfl
    refine U4 hD h1 ?_;rw[<-List.map_take,<-e'];exact AE.mpr ⟨z,hz,rfl⟩
   refine ex1 rfl (ex1 rfl ⟨p,ps[i].1,_,[.inr ps[i].2.1,.inr ps[i].2.2],rfl,rfl,e2,hq,hin,hne,ex1 rfl ?_⟩);refine X0 ?_;refine ex1 rfl ⟨⟨p,rfl,.inr (.inr ⟨_,e2⟩)⟩,ex1 rfl ⟨p,ps[i].1,_,[.inr ps[i].2.1,.inr ps[i].2.2],rfl,rfl,e2,hq,hin,hne,?_,?_⟩⟩
   .unfold Iu;rw[AA,AN];omega
   .refine⟨_,ex1 rfl ⟨s2.upd hp,?_⟩⟩;rw[A9,take_succ hi'];unfold Iu;rw[AK];rfl
  .rintro σ H1 ⟨v2,v3,rfl,s1,e1⟩;exact k H1 s1
end
def la(kvs:List (Key×V))(n:Str):Addr:=match P8 kvs (.inr n)with | some (.ref l)=>l | _=>0
theorem Ju(kvs:List (Key×V))(n m:Str)(v:V):P8 (An kvs (Sum.inr n:Key) v) (.inr m)=if m=n then some v else P8 kvs (.inr m):=by
 rw[Uv];by_cases e:m=n
 .rw[AR e,AR (by rw[e])]
 .rw[AM e,AM (fun z=>e (Sum.inr.inj z))]
theorem Cw(kvs:List (Key×V))(n m:Str)(p:Addr):la (An kvs (.inr n) (.ref p)) m=if m=n then p else la kvs m:=by
 unfold la;rw[Ju];by_cases e:m=n
 .rw[AR e,AR e]
 .rw[AM e,AM e]
structure DOk(H0:Hp)(kvs:List (Key×V))(ns:List Str):Prop where
 val:∀n∈ns,P8 kvs (.inr n)=some (.ref (la kvs n))
 inj:∀n∈ns,∀m∈ns,la kvs n=la kvs m->n=m
 fr:∀n∈ns,H0 (la kvs n)=none
theorem Ym{K:PySem.W.Frag}{J:It}{a:Addr}{ns:List Str}{H:Hp}{σ:St}{Q:St->Hp->Prop}(as:AsSeq J (ns.map V.str) a H)(hσ:∃v,σ = [v])(nd:ns.Nodup)(hl:ns.length<=1000){D:Addr}(hD:H D=none)
  (q:∀σ kvs H',Same H H'->H' D=some (.dK kvs)->DOk H kvs ns->(∀n∈ns,H' (la kvs n)=some (.lst []))->(∀n∈ns,la kvs n≠D)->Q σ H') :
  V0 (J5 0) S9 (Jg D (Bo 0) (zHu Kv)) J σ (upd H D (.dK [])) Q:=by
 obtain⟨v,rfl⟩:=hσ;refine G0 as (fun i σ H1=>(∃v,σ = [v])/\∃kvs,Same H H1/\H1 D=some (.dK kvs)/\kvs.length<=i/\DOk H kvs (ns.take i)/\(∀n∈ns.take i,H1 (la kvs n)=some (.lst []))/\∀n∈ns.take i,la kvs n≠D)
  ⟨⟨v,rfl⟩,[],Same.new hD,A9,CC _,⟨fun n h=>by simp at h,fun n h=>by simp at h,fun n h=>by simp at h⟩,fun n h=>by simp at h,fun n h=>by simp at h⟩ (fun i σ H1 _ ⟨_,kvs,s1,_⟩=>s1.at a) ?_ ?_
 .rintro i σ H1 x N hx ⟨⟨v,rfl⟩,kvs,s1,e1,l1,D1,c1,n1⟩ hN;rw[AI]at hx;have hi:i<ns.length:=by
   rcases Nat.lt_or_ge i ns.length with z | z
   .exact z
   .rw[EK z]at hx;cases hx
  have hi':ns[i]?=some ns[i]:=AH hi;rw[hi']at hx;cases hx;refine M9 ?_;refine ex1 rfl ⟨CC _,fun p hp=>?_⟩;have npD:D≠p:=B0 e1 hp;refine⟨kvs,.inr ns[i],by rw[B6 npD];exact e1,rfl,by rw[sizeLine_eq];omega,hN _ _ ⟨⟨_,rfl⟩,An kvs (.inr ns[i]) (.ref p),?_,A9,?_,⟨?_,?_,?_⟩,?_,?_⟩⟩
  .exact(s1.trans (Same.new hp)).upd hD
  .have:=V6 kvs (Sum.inr ns[i]:Key) (.ref p);omega
  all_goals rw[take_succ hi']
  .intro n hn;rw[Ju,Cw];by_cases e:n=ns[i]
   .rw[AR e,AR e]
   .rw[AM e,AM e];rcases AO.mp hn with z | z
    .exact D1.val n z
    .exact absurd (AF.mp z) e
  .intro n hn m hm;rw[Cw,Cw];have old:∀k∈ns.take i ++ [ns[i]],k≠ns[i]->k∈ns.take i:=fun k hk e=>(AO.mp hk).elim id fun z=>absurd (AF.mp z) e;by_cases e:n=ns[i]
   .by_cases e':m=ns[i]
    .exact fun _=>e.trans e'.symm
    .rw[AR e,AM e'];intro z;have:=c1 m (old m hm e');rw[<-z,hp]at this;cases this
   .by_cases e':m=ns[i]
    .rw[AM e,AR e'];intro z;have:=c1 n (old n hn e);rw[z,hp]at this;cases this
    .rw[AM e,AM e'];exact D1.inj n (old n hn e) m (old m hm e')
  .intro n hn;rw[Cw];by_cases e:n=ns[i]
   .rw[AR e];exact s1.free hp
   .rw[AM e];rcases AO.mp hn with z | z
    .exact D1.fr n z
    .exact absurd (AF.mp z) e
  .intro n hn;rw[Cw];by_cases e:n=ns[i]
   .rw[AR e,B6 npD.symm,A9]
   .rw[AM e];rcases AO.mp hn with z | z
    .rw[B6 (n1 n z),B6 (B0 (c1 n z) hp)];exact c1 n z
    .exact absurd (AF.mp z) e
  .intro n hn;rw[Cw];by_cases e:n=ns[i]
   .rw[AR e];exact npD.symm
   .rw[AM e];rcases AO.mp hn with z | z
    .exact n1 n z
    .exact absurd (AF.mp z) e
 .rintro σ H1 ⟨_,kvs,s1,e1,l1,D1,c1,n1⟩;rw[AA]at *;rw[BN]at *;exact q σ kvs H1 s1 e1 D1 c1 n1
def B1(qs:List PA2)(n:Str):List Str:=(qs.filter fun q=>decide (q.2.2=n)).map fun q=>q.2.1
def C1(qs:List PA2)(n:Str):List Str:=(qs.filter fun q=>decide (q.2.1=n)).map fun q=>q.2.2
theorem Az(qs:List PA2)(q:PA2)(n:Str):B1 (qs ++ [q]) n=B1 qs n ++(if q.2.2=n then [q.2.1]else []):=by
 unfold B1;rw[DM,AK];by_cases e:q.2.2=n
 .rw[AR e,CT,AR (AJ e)];rfl
 .rw[AM e,CT,AM (by simp[e])];rfl
theorem Ee(qs:List PA2)(q:PA2)(n:Str):C1 (qs ++ [q]) n=C1 qs n ++(if q.2.1=n then [q.2.2]else []):=by
 unfold C1;rw[DM,AK];by_cases e:q.2.1=n
 .rw[AR e,CT,AR (AJ e)];rfl
 .rw[AM e,CT,AM (by simp[e])];rfl
def wf(a b c d:Addr):List (Str×V):=[("names",.ref a),("strikes",.ref b),("strikers_by_name",.ref c),("struck_by_name",.ref d)]
structure WebOk(ns:List Str)(qs:List PA2):Prop where
 nd:ns.Nodup
 len:ns.length<=100
 srt:ns.Pairwise leS
 mem:∀q∈qs,q.2.1∈ns/\q.2.2∈ns
 ndq:(qs.map fun q=>q.2).Nodup
 lenq:qs.length<=200
 srq:qs.Pairwise leP
structure WebAt(C:Addr)(H:Hp)(x:Addr)(ns:List Str)(qs:List PA2):Prop where
 ok:WebOk ns qs
 ex:∃dx a b c d kc kd,H x=some (.ins C dx (wf a b c d))/\H a=some (.lst (ns.map V.str))/\H b=some (.lst (P1 qs))/\(∀q∈qs,G9 H q)/\H c=some (.dK kc)/\H d=some (.dK kd) /\
  (∀n∈ns,∃l,P8 kc (.inr n)=some (.ref l)/\H l=some (.lst ((B1 qs n).map V.str)))/\∀n∈ns,∃l,P8 kd (.inr n)=some (.ref l)/\H l=some (.lst ((C1 qs n).map V.str))
section
variable{P:Program}{w:World}{K:PySem.W.Frag}{mg:Str->Option Value}{base:Heap}
theorem U2:FnScope ["self", "names", "strikes", "one", "other"] ["self", "names", "strikes"] (B5 s_Web___init__):=fsc
def Ix(K:PySem.W.Frag)(C:Addr):Sp:=fun vs H Q _=>∃(x dx n:Addr) (ss:List Str) (a:Addr) (ps:List PA2),vs = [.ref x,.ref n,.ref a]/\H x=some (.ins C dx [])/\H n=some (.lst (ss.map V.str))/\V8 ss /\
 H a=some (.lst (P1 ps))/\(∀q∈ps,G9 H q)/\StrkOk ss ps/\∀ns qs H',ns.Perm ss->ns.Pairwise leS->qs.Perm ps->qs.Pairwise leP->Sm [x] H H'->WebAt C H' x ns qs->Q .non H'
theorem Je(T:Tx K mg):FnOk P w K mg base CX0 3 T.bv T.bt ["self", "names", "strikes"] (Ix K T.ab):=by
 have G_check_names:=Bu (P:=P) (w:=w) (base:=base) T;have G_check_strikes:=t7 (P:=P) (w:=w) (base:=base) T;have sc:=U2;refine T.bw.ok U2 (fun vs H Q E h=>?_) (fun cdv A outer s H vs Q E hr h=>?_)
 .obtain⟨x,dx,n,ss,a,ps,rfl,_⟩:=h;rfl
 .obtain⟨x,dx,n,ss,a,ps,rfl,hx,hS,hN,hP,hI,hO,k⟩:=h;have hu:=T9 hr;refine⟨_,(B3 (E9 (C7 T.aO G_check_names (Rm hr) (A8 (pv 1) B2)))
   (B3 (E9 (C7 T.aG G_check_strikes (Rm hr) (A8 (pv 1) (A8 (pv 2) B2))))
   (B3 (psF K (pv 0) (E5 (X3 K) T.am I9 (A8 (pv 1) B2)))
   (B3 (psF K (pv 0) (E5 (Ks K) T.am I9 (A8 (pv 2) B2)))
   (B3 (psF K (pv 0) (En (N':=["name"]) (cap:=[none]) (cl:=[]) (E7 trivial trivial) rfl (piL K (peF K (pv 0))) (fun _ _ _ _=>by exact⟨(pgC 0),C3,(pv 0),(S6 B2)⟩)))
   (B3 (psF K (pv 0) (En (N':=["name"]) (cap:=[none]) (cl:=[]) (E7 trivial trivial) rfl (piL K (peF K (pv 0))) (fun _ _ _ _=>by exact⟨(pgC 0),C3,(pv 0),(S6 B2)⟩)))
   (B4 (f9 PassesOwn.never rfl (piL K (peF K (pv 0))) (pgT K (n:=2) (C8 (J2 (i:=3) sc.nd rfl (.inl rfl)) (C8 (J2 (i:=4) sc.nd rfl (.inl rfl)) P5)))
   (B3 (E9 (Nl K PySem.F.plainAttrs_list PySem.F.slot_list_append PySem.F.type_list_append J8 (F0 hu (peF K (pv 0)) (pv 4) (fun _ _=>rfl)) (A8 (pv 3) B2)))
   (B4 (E9 (Nl K PySem.F.plainAttrs_list PySem.F.slot_list_append PySem.F.type_list_append J8 (F0 hu (peF K (pv 0)) (pv 3) (fun _ _=>rfl)) (A8 (pv 4) B2))))))))))))),?_⟩
  obtain⟨hN1,hN2,hN3⟩:=id hN;obtain⟨hO1,hO2,hO3⟩:=id hO;refine B7 fun Z1 hZ1=>?_;refine ex1 rfl ⟨n,ss,rfl,SqL.of hS,hN,fun H1 s1=>?_⟩;refine hZ1 _ _ (B7 fun Z2 hZ2=>?_);refine ex1 rfl (ex1 rfl ⟨n,ss,a,ps,rfl,SqL.of (s1 _ _ hS),SqL.of (s1 _ _ hP),J1 s1 hI,hO,fun H2 s2=>?_⟩);refine hZ2 _ _ (B7 fun Z3 hZ3=>?_);have s12:=s1.trans s2;refine ex1 rfl ⟨n,ss,rfl,SqL.of (s12 _ _ hS),fun l1 ns hl1 p1 w1=>?_⟩;have nx1:x≠l1:=B0 (s12 _ _ hx) hl1;refine ex1 rfl ⟨x,T.ab,dx,[],rfl,by rw[B6 nx1];exact s12 _ _ hx,T.ag,T.aI,by decide,?_⟩;have hxa:a≠x:=Q8 hP hx (by intro z;cases z);have k3:Sm [x] H (upd (upd H2 l1 (.lst (ns.map V.str))) x (.ins T.ab dx (O2 "names" (.ref l1) []))):=(Sm.new s12.sm hl1).upd (by simp);have e3:(upd (upd H2 l1 (.lst (ns.map V.str))) x (.ins T.ab dx (O2 "names" (.ref l1) []))) l1=some (.lst (ns.map V.str)):=by rw[B6 nx1.symm,A9]
  generalize hH3:upd (upd H2 l1 (.lst (ns.map V.str))) x (.ins T.ab dx (O2 "names" (.ref l1) []))=H3 at k3 e3⊢;refine hZ3 _ _ (B7 fun Z4 hZ4=>?_);have x3:H3 x=some (.ins T.ab dx [("names",.ref l1)]):=by rw[<-hH3,A9];rfl
  have nin:∀{b:Addr},b≠x->b∉[x]:=fun h z=>h (AF.mp z);have pin3:∀q∈ps,G9 H3 q:=fun q hq=>k3 _ _ (hI q hq) (nin (Q8 (hI q hq) hx (by intro z;cases z)));refine ex1 rfl ⟨a,ps,rfl,SqL.of (k3 _ _ hP (nin hxa)),pin3,fun l2 qs hl2 p2 w2=>?_⟩;have nx2:x≠l2:=B0 x3 hl2;refine ex1 rfl ⟨x,T.ab,dx,[("names",.ref l1)],rfl,by rw[B6 nx2];exact x3,T.ag,T.bm,by simp,?_⟩;have k4:Sm [x] H3 (upd (upd H3 l2 (.lst (P1 qs))) x (.ins T.ab dx (O2 "strikes" (.ref l2) [("names",.ref l1)]))):=(Sm.new (Sm.refl _ _) hl2).upd (by simp);have e4:(upd (upd H3 l2 (.lst (P1 qs))) x (.ins T.ab dx (O2 "strikes" (.ref l2) [("names",.ref l1)]))) l2=some (.lst (P1 qs)):=by rw[B6 nx2.symm,A9]
  have x4:(upd (upd H3 l2 (.lst (P1 qs))) x (.ins T.ab dx (O2 "strikes" (.ref l2) [("names",.ref l1)]))) x=some (.ins T.ab dx [("names",.ref l1),("strikes",.ref l2)]):=by rw[A9];rfl
  refine hZ4 _ _ ?_;show Vx _ _ _ _ (upd (upd H3 l2 (.lst (P1 qs))) x (.ins T.ab dx (O2 "strikes" (.ref l2) [("names",.ref l1)])));generalize upd (upd H3 l2 (.lst (P1 qs))) x (.ins T.ab dx (O2 "strikes" (.ref l2) [("names",.ref l1)]))=H4 at k4 e4 x4⊢;have f4:H4 l1=some (.lst (ns.map V.str)):=k4 _ _ e3 (nin nx1.symm);have pin4:∀q∈qs,G9 H4 q:=fun q hq=>k4 _ _ (pin3 q (p2.mem_iff.mp hq)) (nin (Q8 (pin3 q (p2.mem_iff.mp hq)) x3 (by intro z;cases z)));have ndn:ns.Nodup:=p1.nodup_iff.mpr hN2;have lnn:ns.length<=1000:=by rw[p1.length_eq];omega
  refine B7 fun Z5 hZ5=>?_;refine ex1 rfl ⟨x,T.ab,dx,_,ex1 rfl ⟨x4,T.ag,T.aI,rfl,l1,rfl,⟨_,SqL.of f4⟩,fun c hc=>Ym (K:=K) (asL (SqL.of f4)) ⟨_,rfl⟩ ndn lnn hc fun _ kc H5 s5 e5 D5 c5 n5=>?_⟩⟩;have x5:=s5 _ _ x4;refine ex1 rfl ⟨x,T.ab,dx,ex1 rfl ⟨x5,T.ag,T.aw,by simp,?_⟩⟩;have k6:Sm [x] H5 (upd H5 x (.ins T.ab dx (O2 "strikers_by_name" (.ref c) [("names",.ref l1),("strikes",.ref l2)]))):=(Sm.refl _ _).upd (by simp);have x6:(upd H5 x (.ins T.ab dx (O2 "strikers_by_name" (.ref c) [("names",.ref l1),("strikes",.ref l2)]))) x=some (.ins T.ab dx [("names",.ref l1),("strikes",.ref l2),("strikers_by_name",.ref c)]):=by rw[A9];rfl
  generalize upd H5 x (.ins T.ab dx (O2 "strikers_by_name" (.ref c) [("names",.ref l1),("strikes",.ref l2)]))=H6 at k6 x6⊢;refine hZ5 _ _ (B7 fun Z6 hZ6=>?_);have kk6:∀{b:Addr} {o:HO},H4 b=some o->b≠x->H6 b=some o:=fun e hb=>k6 _ _ (s5 _ _ e) (nin hb);have f6:=kk6 f4 nx1.symm;have g6:=kk6 e4 nx2.symm;have c6:H6 c=some (.dK kc):=k6 _ _ e5 (nin (B0 x4 hc).symm);have cl6:∀n∈ns,H6 (la kc n)=some (.lst []):=fun n hn=>k6 _ _ (c5 n hn) (nin (B0 x4 (D5.fr n hn)).symm);refine ex1 rfl ⟨x,T.ab,dx,_,ex1 rfl ⟨x6,T.ag,T.aI,rfl,l1,rfl,⟨_,SqL.of f6⟩,fun d hd=>Ym (K:=K) (asL (SqL.of f6)) ⟨_,rfl⟩ ndn lnn hd fun _ kd H7 s7 e7 D7 c7 n7=>?_⟩⟩;have x7:=s7 _ _ x6;refine ex1 rfl ⟨x,T.ab,dx,ex1 rfl ⟨x7,T.ag,T.aA,by simp,?_⟩⟩;have k8:Sm [x] H7 (upd H7 x (.ins T.ab dx (O2 "struck_by_name" (.ref d) [("names",.ref l1),("strikes",.ref l2),("strikers_by_name",.ref c)]))):=(Sm.refl _ _).upd (by simp);have x8:(upd H7 x (.ins T.ab dx (O2 "struck_by_name" (.ref d) [("names",.ref l1),("strikes",.ref l2),("strikers_by_name",.ref c)]))) x=some (.ins T.ab dx (wf l1 l2 c d)):=by rw[A9];rfl
  generalize upd H7 x (.ins T.ab dx (O2 "struck_by_name" (.ref d) [("names",.ref l1),("strikes",.ref l2),("strikers_by_name",.ref c)]))=H8 at k8 x8⊢;refine hZ6 _ _ ?_;have kk8:∀{b:Addr} {o:HO},H6 b=some o->b≠x->H8 b=some o:=fun e hb=>k8 _ _ (s7 _ _ e) (nin hb);have f8:=kk8 f6 nx1.symm;have g8:=kk8 g6 nx2.symm;have c8:=kk8 c6 (B0 x4 hc).symm;have d8:H8 d=some (.dK kd):=k8 _ _ e7 (nin (B0 x6 hd).symm);have cl8:∀n∈ns,H8 (la kc n)=some (.lst []):=fun n hn=>kk8 (cl6 n hn) (B0 x4 (D5.fr n hn)).symm;have dl8:∀n∈ns,H8 (la kd n)=some (.lst []):=fun n hn=>k8 _ _ (c7 n hn) (nin (B0 x6 (D7.fr n hn)).symm);have pin8:∀q∈qs,G9 H8 q:=fun q hq=>kk8 (kk6 (pin4 q hq) (Q8 (pin4 q hq) x4 (by intro z;cases z))) (Q8 (pin4 q hq) x4 (by intro z;cases z));have dif:∀n∈ns,∀m∈ns,la kc n≠la kd m:=fun n hn m hm=>B0 (cl6 n hn) (D7.fr m hm);have old4:∀{b:Addr} {o:HO},H4 b=some o->b≠x->(∀n∈ns,b≠la kc n)/\∀n∈ns,b≠la kd n:=fun e hb=>⟨fun n hn=>B0 e (D5.fr n hn),fun n hn=>B0 (kk6 e hb) (D7.fr n hn)⟩;have kall:Sm [x] H H8:=fun b o e hb=>by
   have hb':b≠x:=fun z=>hb (by simp[z]);exact kk8 (kk6 (k4 _ _ (k3 _ _ e hb) hb) hb') hb'
  have odif:∀{b:Addr} {o:HO},H b=some o->b≠x->(∀n∈ns,b≠la kc n)/\∀n∈ns,b≠la kd n:=fun e hb=>old4 (k4 _ _ (k3 _ _ e (nin hb)) (nin hb)) hb;have xdif:(∀n∈ns,x≠la kc n)/\∀n∈ns,x≠la kd n:=⟨fun n hn=>B0 x4 (D5.fr n hn),fun n hn=>B0 x6 (D7.fr n hn)⟩;have cdif:(∀n∈ns,c≠la kc n)/\∀n∈ns,c≠la kd n:=⟨fun n hn=>(n5 n hn).symm,fun n hn=>B0 c6 (D7.fr n hn)⟩;have ddif:(∀n∈ns,d≠la kc n)/\∀n∈ns,d≠la kd n:=⟨fun n hn=>(B0 (cl6 n hn) hd).symm,fun n hn=>(n7 n hn).symm⟩;refine⟨_,rfl,x,T.ab,dx,_,_,rfl,x8,T.ag,T.bm,rfl,l2,rfl,⟨_,SqL.of g8⟩,Am (asL (SqL.of g8)) (fun i σ H9=>(∃v3 v4,σ = [some (.ref x),some (.ref n),some (.ref a),v3,v4]) /\
   (∀b o,H8 b=some o->((∀n∈ns,b≠la kc n)/\∀n∈ns,b≠la kd n)->H9 b=some o)/\(∀n∈ns,H9 (la kc n)=some (.lst ((B1 (qs.take i) n).map V.str)))/\∀n∈ns,H9 (la kd n)=some (.lst ((C1 (qs.take i) n).map V.str)))
   ⟨⟨_,_,rfl⟩,fun b o e _=>e,cl8,dl8⟩ ?_ ?_ ?_⟩
  .rintro i σ H9 _ ⟨_,h1,_⟩ o e;exact h1 _ _ e (old4 e4 nx2.symm)
  .rintro i σ H9 v hv ⟨⟨v3,v4,rfl⟩,h1,h2,h3⟩ D1 hD1 _;unfold P1 at hv;rw[AI]at hv;cases hq:qs[i]? with
   | none=>rw[hq]at hv;cases hv
   | some q =>
    rw[hq]at hv;cases hv;have hm:q∈qs:=AV hq;have hq9:G9 H9 q:=h1 _ _ (pin8 q hm) (old4 (pin4 q hm) (Q8 (pin4 q hm) x4 (by intro z;cases z)));obtain⟨m1,m2⟩:=hO1 q (p2.mem_iff.mp hm);have m1:q.2.1∈ns:=p1.mem_iff.mpr m1;have m2:q.2.2∈ns:=p1.mem_iff.mpr m2;have hlen:∀l:List PA2,l.length<=200->∀n,(B1 l n).length<=200/\(C1 l n).length<=200:=fun l hl n=>by
     unfold B1 C1;rw[AA,AA];exact⟨Nat.le_trans (BM ..) hl,Nat.le_trans (BM ..) hl⟩
    have hl200:(qs.take i).length<=200:=by
     rw[AN];have:=p2.length_eq;omega
    have x9:H9 x=some (.ins T.ab dx (wf l1 l2 c d)):=h1 _ _ x8 xdif;refine⟨q.1,ex1 rfl ⟨SqT.of hq9,rfl,_,ex1 rfl (C4 rfl rfl ?_)⟩⟩;refine ex1 rfl ⟨x,T.ab,dx,_,ex1 rfl ⟨x9,T.ag,T.aw,rfl,ex1 rfl ⟨c,.ref (la kc q.2.2),rfl,by rw[<-D5.val _ m2];exact DGet.k (k:=Sum.inr q.2.2) (h1 _ _ c8 cdif),.inl ⟨rfl,_,SqL.of (h2 _ m2)⟩,ex1 rfl ⟨_,C4 rfl rfl ⟨h2 _ m2,?_,?_⟩⟩⟩⟩⟩
    .rw[AA,sizeLine_eq];have:=(hlen _ hl200 q.2.2).1;omega
    have x10:(upd H9 (la kc q.2.2) (.lst ((B1 (qs.take i) q.2.2).map V.str ++ [.str q.2.1]))) x=some (.ins T.ab dx (wf l1 l2 c d)):=by rw[B6 (xdif.1 _ m2)];exact x9
    have d10:(upd H9 (la kc q.2.2) (.lst ((B1 (qs.take i) q.2.2).map V.str ++ [.str q.2.1]))) d=some (.dK kd):=by rw[B6 (ddif.1 _ m2)];exact h1 _ _ d8 ddif
    have l10:(upd H9 (la kc q.2.2) (.lst ((B1 (qs.take i) q.2.2).map V.str ++ [.str q.2.1]))) (la kd q.2.1)=some (.lst ((C1 (qs.take i) q.2.1).map V.str)):=by rw[B6 (dif _ m2 _ m1).symm];exact h3 _ m1
    refine ex1 rfl ⟨x,T.ab,dx,_,ex1 rfl ⟨x10,T.ag,T.aA,rfl,ex1 rfl ⟨d,.ref (la kd q.2.1),rfl,by rw[<-D7.val _ m1];exact DGet.k (k:=Sum.inr q.2.1) d10,.inl ⟨rfl,_,SqL.of l10⟩,ex1 rfl ⟨_,C4 rfl rfl ⟨l10,?_,?_⟩⟩⟩⟩⟩
    .rw[AA,sizeLine_eq];have:=(hlen _ hl200 q.2.1).2;omega
    refine hD1 _ _ ⟨⟨_,_,rfl⟩,fun b o e hb=>?_,fun m hm=>?_,fun m hm=>?_⟩
    .rw[B6 (hb.2 _ m1),B6 (hb.1 _ m2)];exact h1 b o e hb
    .rw[B6 (dif m hm _ m1),take_succ hq,Az];by_cases e:q.2.2=m
     .rw[<-e,A9,AR rfl,AK];rfl
     .rw[AM e,DB,B6 (fun z=>e (D5.inj _ hm _ m2 z).symm)];exact h2 m hm
    .rw[take_succ hq,Ee];by_cases e:q.2.1=m
     .rw[<-e,A9,AR rfl,AK];rfl
     .rw[AM e,DB,B6 (fun z=>e (D7.inj _ hm _ m1 z).symm),B6 (dif _ m2 _ hm).symm];exact h3 m hm
  .rintro σ H9 ⟨_,h1,h2,h3⟩;have hlq:(P1 qs).length=qs.length:=by unfold P1;rw[AA]
   rw[hlq,BN]at h2 h3;refine k ns qs H9 p1 w1 p2 w2 (fun b o e hb=>?_) ⟨⟨ndn,by rw[p1.length_eq];exact hN3,w1,fun q hq=>⟨p1.mem_iff.mpr (hO1 q (p2.mem_iff.mp hq)).1,p1.mem_iff.mpr (hO1 q (p2.mem_iff.mp hq)).2⟩,(p2.map _).nodup_iff.mpr hO2,by rw[p2.length_eq];exact hO3,w2⟩,dx,l1,l2,c,d,kc,kd,h1 _ _ x8 xdif,h1 _ _ f8 (old4 f4 nx1.symm),h1 _ _ g8 (old4 e4 nx2.symm),fun q hm=>h1 _ _ (pin8 q hm) (old4 (pin4 q hm) (Q8 (pin4 q hm) x4 (by intro z;cases z))),h1 _ _ c8 cdif,h1 _ _ d8 ddif,fun n hn=>⟨_,D5.val n hn,h2 n hn⟩,fun n hn=>⟨_,D7.val n hn,h3 n hn⟩⟩;have hb':b≠x:=fun z=>hb (by simp[z]);exact h1 _ _ (kall b o e hb) (odif e hb')
end
theorem WebAt.same{C:Addr}{H H':Hp}{x:Addr}{ns:List Str}{qs:List PA2}(h:WebAt C H x ns qs)(s:Same H H'):WebAt C H' x ns qs:=by
 obtain⟨ok,dx,a,b,c,d,kc,kd,e1,e2,e3,e4,e5,e6,e7,e8⟩:=h;exact⟨ok,dx,a,b,c,d,kc,kd,s _ _ e1,s _ _ e2,s _ _ e3,J1 s e4,s _ _ e5,s _ _ e6,fun n hn=>let⟨l,v,e⟩:=e7 n hn;⟨l,v,s _ _ e⟩,fun n hn=>let⟨l,v,e⟩:=e8 n hn;⟨l,v,s _ _ e⟩⟩
section
variable{P:Program}{w:World}{K:PySem.W.Frag}{mg:Str->Option Value}{base:Heap}
theorem t6:FnScope ["self"] ["self"] (B5 s_Web_all_names):=fsc
def Hj(C:Addr):Sp:=fun vs H Q _=>∃(x:Addr) (ns:List Str) (qs:List PA2),vs = [.ref x]/\WebAt C H x ns qs/\∀l,H l=none->Q (.ref l) (upd H l (.lst (ns.map V.str)))
theorem J0(T:Tx K mg):FnOk P w K mg base CX0 1 T.ae.f T.ae.fd ["self"] (Hj T.ab):=by
 refine T.ae.F.ok t6 (fun vs H Q E h=>?_) (fun cdv A outer s H vs Q E hr h=>?_)
 .obtain⟨x,ns,qs,rfl,_⟩:=h;rfl
 .obtain⟨x,ns,qs,rfl,⟨ok,dx,a,b,c,d,kc,kd,e1,e2,e3,e4,e5,e6,e7,e8⟩,k⟩:=h;refine⟨_,(B4 (B9 (Oh (Jn K) T.bn Dz (A8 (peF K (pv 0)) B2)))),?_⟩;exact⟨_,rfl,x,T.ab,dx,_,_,rfl,e1,T.ag,T.aI,rfl,a,_,rfl,.inl (SqL.of e2),k⟩
theorem r8:FnScope ["self", "name"] ["self", "name"] (B5 s_Web_check_has):=fsc
def Fs(C:Addr):Sp:=fun vs H Q _=>∃(x:Addr) (n:Str) (ns:List Str) (qs:List PA2),vs = [.ref x,.str n]/\WebAt C H x ns qs/\n∈ns/\Q .non H
theorem S4(T:Tx K mg):FnOk P w K mg base CX0 1 T.ak.f T.ak.fd ["self", "name"] (Fs T.ab):=by
 refine T.ak.F.ok r8 (fun vs H Q E h=>?_) (fun cdv A outer s H vs Q E hr h=>?_)
 .obtain⟨x,n,ns,qs,rfl,_⟩:=h;rfl
 .obtain⟨x,n,ns,qs,rfl,⟨ok,dx,a,b,c,d,kc,kd,e1,e2,e3,e4,e5,e6,e7,e8⟩,hn,k⟩:=h;refine⟨_,(B4 (K4 (C6 (y0 K) (pv 1) (peF K (pv 0)) rfl) (B4 v9) D0)),?_⟩;refine ex1 rfl (ex1 rfl ⟨x,T.ab,dx,_,ex1 rfl ⟨e1,T.ag,T.aI,rfl,Ch (.inl (SqL.of e2)) ⟨_,rfl,?_⟩⟩⟩);rw[AJ hn];exact X0 k
theorem Dp:FnScope ["self", "name"] ["self", "name"] (B5 s_Web_struck):=fsc
def Tz(C:Addr):Sp:=fun vs H Q _=>∃(x:Addr) (n:Str) (ns:List Str) (qs:List PA2),vs = [.ref x,.str n]/\WebAt C H x ns qs/\n∈ns/\∀l,H l=none->Q (.ref l) (upd H l (.lst ((C1 qs n).map V.str)))
theorem d6(T:Tx K mg):FnOk P w K mg base CX0 2 T.aq.f T.aq.fd ["self", "name"] (Tz T.ab):=by
 have G_Web_check_has:=S4 (P:=P) (w:=w) (base:=base) T;refine T.aq.F.ok Dp (fun vs H Q E h=>?_) (fun cdv A outer s H vs Q E hr h=>?_)
 .obtain⟨x,n,ns,qs,rfl,_⟩:=h;rfl
 .obtain⟨x,n,ns,qs,rfl,hW,hn,k⟩:=h;have hu:=T9 hr;obtain⟨ok,dx,a,b,c,d,kc,kd,e1,e2,e3,e4,e5,e6,e7,e8⟩:=id hW;refine⟨_,(B3 (E9 (G7 (pv 0) T.ag T.ak.m G_Web_check_has (Rm hr) T.ak.b .nil K0 (A8 (pv 1) B2)))
   (B4 (B9 (Oh (Jn K) T.bn Dz (A8 (F0 hu (peF K (pv 0)) (pv 1) (fun _ _=>rfl)) B2))))),?_⟩
  refine ex1 rfl ⟨x,dx,ex1 rfl ⟨e1,rfl,ex1 rfl ⟨x,n,ns,qs,rfl,hW,hn,?_⟩⟩⟩;obtain⟨l,v,e⟩:=e8 n hn;exact⟨_,rfl,x,T.ab,dx,_,_,rfl,e1,T.ag,T.aA,rfl,_,rfl,d,_,rfl,by rw[<-v];exact DGet.k (k:=Sum.inr n) e6,l,_,rfl,.inl (SqL.of e),k⟩
theorem Bn:FnScope ["self", "name"] ["self", "name"] (B5 s_Web_strikers):=fsc
def Ie(C:Addr):Sp:=fun vs H Q _=>∃(x:Addr) (n:Str) (ns:List Str) (qs:List PA2),vs = [.ref x,.str n]/\WebAt C H x ns qs/\n∈ns/\∀l,H l=none->Q (.ref l) (upd H l (.lst ((B1 qs n).map V.str)))
theorem G8(T:Tx K mg):FnOk P w K mg base CX0 2 T.ad.f T.ad.fd ["self", "name"] (Ie T.ab):=by
 have G_Web_check_has:=S4 (P:=P) (w:=w) (base:=base) T;refine T.ad.F.ok Bn (fun vs H Q E h=>?_) (fun cdv A outer s H vs Q E hr h=>?_)
 .obtain⟨x,n,ns,qs,rfl,_⟩:=h;rfl
 .obtain⟨x,n,ns,qs,rfl,hW,hn,k⟩:=h;have hu:=T9 hr;obtain⟨ok,dx,a,b,c,d,kc,kd,e1,e2,e3,e4,e5,e6,e7,e8⟩:=id hW;refine⟨_,(B3 (E9 (G7 (pv 0) T.ag T.ak.m G_Web_check_has (Rm hr) T.ak.b .nil K0 (A8 (pv 1) B2)))
   (B4 (B9 (Oh (Jn K) T.bn Dz (A8 (F0 hu (peF K (pv 0)) (pv 1) (fun _ _=>rfl)) B2))))),?_⟩
  refine ex1 rfl ⟨x,dx,ex1 rfl ⟨e1,rfl,ex1 rfl ⟨x,n,ns,qs,rfl,hW,hn,?_⟩⟩⟩;obtain⟨l,v,e⟩:=e7 n hn;exact⟨_,rfl,x,T.ab,dx,_,_,rfl,e1,T.ag,T.aw,rfl,_,rfl,c,_,rfl,by rw[<-v];exact DGet.k (k:=Sum.inr n) e5,l,_,rfl,.inl (SqL.of e),k⟩
end
theorem Us{l:List Str}{k y:Str}:y∈Xf l k↔y∈l\/y=k:=by
 unfold Xf;by_cases h:k∈l
 .rw[AR h];exact⟨.inl,fun z=>z.elim id fun e=>e▸h⟩
 .rw[AM h,AO,AF]
theorem zBi{l:List Str}{k:Str}(nd:l.Nodup):(Xf l k).Nodup:=by
 unfold Xf;by_cases h:k∈l
 .rw[AR h];exact nd
 .rw[AM h];exact Pg nd h
theorem Vm(l:List Str)(k:Str):(Xf l k).length<=l.length+1:=by
 unfold Xf;split
 .omega
 .rw[BB];simp
theorem Rq{w:World}{J:It}{a D:Addr}{ys:List Str}{H0 H:Hp}{n:Nat}{σ:St}{Q:St->Hp->Prop}{Sg:St->Prop}{i0:Nat}(as:AsSeq J (ys.map V.str) a H)(hσ:Sg σ)(hS:∀σ v,Sg σ->Sg (σ.set i0 (some v))/\(σ.set i0 (some v))[i0]?=some (some v)){l:List Str}(hD:H D=some (Ex w D l))(haD:a≠D)(nd:l.Nodup)(hl:l.length+ys.length<=4000)
  (hs:Same H0 H) (hD0:H0 D=none) (q:∀σ l' H',Sg σ->Same H0 H'->H' D=some (Ex w D l')->l'.Nodup->l'.length<=l.length+ys.length->(∀y,y∈l'↔y∈l\/y∈ys)->Q σ H') :
  V0 (J5 i0) S9 (Gp w D (Bo i0)) J σ H Q:=by
 refine G0 as (fun i σ H1=>Sg σ/\Same H0 H1/\(∀o,H a=some o->H1 a=some o)/\∃l',H1 D=some (Ex w D l')/\l'.Nodup/\l'.length<=l.length+i/\∀y,y∈l'↔y∈l\/y∈ys.take i)
  ⟨hσ,hs,fun _ e=>e,l,hD,nd,Nat.le_refl _,fun y=>by simp⟩ (fun i σ H1 _ ⟨_,_,k,_⟩=>k) ?_ ?_
 .rintro i σ H1 x N hx ⟨hσ1,s1,ka,l',e1,n1,l1,m1⟩ hN;rw[AI]at hx;cases hy:ys[i]? with
  | none=>rw[hy]at hx;cases hx
  | some y =>
   rw[hy]at hx;cases hx;have hi:=(AG.mp hy).1;refine M9 ?_;refine⟨_,(hS σ _ hσ1).2,l',y,rfl,e1,by omega,hN _ _ ⟨(hS σ _ hσ1).1,s1.upd hD0,fun o e=>?_,Xf l' y,A9,zBi n1,?_,fun z=>?_⟩⟩
   .rw[B6 haD];exact ka o e
   .have:=Vm l' y;omega
   .rw[Us,m1,take_succ hy,AO,AF,or_assoc]
 .rintro σ H1 ⟨hσ1,s1,ka,l',e1,n1,l1,m1⟩;rw[AA]at l1 m1;rw[BN]at m1;exact q σ l' H1 hσ1 s1 e1 n1 l1 m1
theorem mem_struckOf{qs:List PA2}{n y:Str}:y∈C1 qs n↔∃q∈qs,q.2.1=n/\q.2.2=y:=by
 unfold C1;rw[AE];constructor
 .rintro⟨q,hq,e⟩;obtain⟨h1,h2⟩:=BF.mp hq;exact⟨q,h1,AZ h2,e⟩
 .rintro⟨q,h1,h2,h3⟩;exact⟨q,BF.mpr ⟨h1,AJ h2⟩,h3⟩
theorem mem_strikersOf{qs:List PA2}{n y:Str}:y∈B1 qs n↔∃q∈qs,q.2.2=n/\q.2.1=y:=by
 unfold B1;rw[AE];constructor
 .rintro⟨q,hq,e⟩;obtain⟨h1,h2⟩:=BF.mp hq;exact⟨q,h1,AZ h2,e⟩
 .rintro⟨q,h1,h2,h3⟩;exact⟨q,BF.mpr ⟨h1,AJ h2⟩,h3⟩
theorem Hg(qs:List PA2)(n:Str):(C1 qs n).length<=qs.length:=by
 unfold C1;rw[AA];exact BM ..
theorem V2(qs:List PA2)(n:Str):(B1 qs n).length<=qs.length:=by
 unfold B1;rw[AA];exact BM ..
section
variable{P:Program}{w:World}{K:PySem.W.Frag}{mg:Str->Option Value}{base:Heap}
theorem t8:FnScope ["web", "some"] ["web", "some"] (B5 s_struck_by_any):=fsc
def Xk(K:PySem.W.Frag)(C:Addr)(f:List PA2->Str->List Str):Sp:=fun vs H Q _=>∃(x a:Addr) (ss ns:List Str) (qs:List PA2),vs = [.ref x,.ref a]/\WebAt C H x ns qs/\Sqs K H a (ss.map V.str)/\(∀n∈ss,n∈ns) /\
 ∀l (hs:List Str) H',H l=none->Same H H'->H' l=some (.lst (hs.map V.str))->(∀y,y∈hs↔∃n∈ss,y∈f qs n)->hs.Pairwise leS->hs.Nodup->hs.length<=100->Q (.ref l) H'
theorem J9(T:Tx K mg):FnOk P w K mg base CX0 3 T.an.f T.an.fd ["web", "some"] (Xk K T.ab C1):=by
 have G_Web_struck:=d6 (P:=P) (w:=w) (base:=base) T;refine T.an.F.ok t8 (fun vs H Q E h=>?_) (fun cdv A outer s H vs Q E hr h=>?_)
 .obtain⟨x,a,ss,ns,qs,rfl,_⟩:=h;rfl
 .obtain⟨x,a,ss,ns,qs,rfl,hW,hS,hM,k⟩:=h;have hu:=T9 hr;obtain⟨ok,dx,a1,b,c,d,kc,kd,e1,_⟩:=id hW;have hsub:∀l:List Str,l.Nodup->(∀y∈l,∃n∈ss,y∈C1 qs n)->l.length<=100:=fun l nd h=>by
   refine Nat.le_trans (nd.length_le_of_subset fun y hy=>?_) ok.len;obtain⟨n,_,hy'⟩:=h y hy;obtain⟨q,hq,_,e⟩:=mem_struckOf.mp hy';rw[<-e];exact(ok.mem q hq).2
  refine⟨_,(B4 (B9 (E5 (Mh w) T.am I9 (A8 (zEf w (N':=["name", "other", "web"]) (cap:=[none,none,some 0]) (cl:=[("web",_)]) (E7 ⟨⟨rfl,rfl,rfl,rfl⟩,trivial⟩ ⟨rfl,trivial⟩) (piS K (pv 1)) (fun _ _ _ _=>by exact⟨(pgC 0),C3,(piL K (G7 (pv 2) T.ag T.aq.m G_Web_struck (Rm hr) T.aq.b .nil K0 (A8 (pv 0) B2))),(pgC 1),C3,(pv 1)⟩)) B2)))),?_⟩;dsimp only[Vx,Ul,J5,Xl,tCB,T6,Kv];refine R9 (by rfl) hS ?_;intro J as D hD;refine G0 as (fun i σ H1=>(∃v0 v1,σ = [v0,v1,some (.ref x)])/\Same H H1/\∃l,H1 D=some (Ex w D l)/\l.Nodup/\∀y,y∈l↔∃n∈ss.take i,y∈C1 qs n)
   ⟨⟨_,_,rfl⟩,Same.new hD,[],A9,GL,fun y=>by simp⟩ (fun i σ H1 _ ⟨_,s1,_⟩=>s1.at a) ?_ ?_
  .rintro i σ H1 v N hx ⟨⟨v0,v1,rfl⟩,s1,l,e2,n2,m2⟩ hN;rw[AI]at hx;cases hy:ss[i]? with
   | none=>rw[hy]at hx;cases hx
   | some n =>
    rw[hy]at hx;cases hx;have hn:n∈ns:=hM n (AV hy);have hl100:l.length<=100:=hsub l n2 fun y hy=>by
     obtain⟨m,hm,h⟩:=(m2 y).mp hy;exact⟨m,CB hm,h⟩
    refine M9 ?_;refine ex1 rfl ⟨x,dx,ex1 rfl ⟨s1 _ _ e1,rfl,ex1 rfl ⟨x,n,ns,qs,rfl,hW.same s1,hn,fun p hp=>?_⟩⟩⟩;have npD:D≠p:=B0 e2 hp;refine⟨p,rfl,⟨_,SqL.of A9⟩,Rq (H0:=H) (n:=0) (asL (SqL.of A9)) (Sg:=fun σ=>∃v0 v1,σ = [v0,v1,some (.ref x)]) ⟨_,_,rfl⟩ (fun σ v ⟨v0,v1,e⟩=>by rw[e];exact⟨⟨_,_,rfl⟩,rfl⟩) (by rw[B6 npD];exact e2) npD.symm n2 ?_ (s1.trans (Same.new hp)) hD ?_⟩
    .have:=Hg qs n;have:=ok.lenq;omega
    .rintro σ l' H2 hσ s2 e3 n3 _ m3;refine hN _ _ ⟨hσ,s2,l',e3,n3,fun y=>?_⟩;rw[m3,m2,take_succ hy];constructor
     .rintro(⟨m,hm,h⟩ | h)
      .exact⟨m,CS _ hm,h⟩
      .exact⟨n,BT _ (AF.mpr rfl),h⟩
     .rintro⟨m,hm,h⟩;rcases AO.mp hm with z | z
      .exact .inl ⟨m,z,h⟩
      .rw[AF.mp z]at h;exact .inr h
  .rintro σ H1 ⟨_,s1,l,e2,n2,m2⟩;rw[AA,BN]at m2;refine⟨D,l,rfl,e2,fun p hs hp pm srt=>?_⟩;have s2:Same H (upd H1 p (.lst (hs.map V.str))):=s1.trans (Same.new hp);exact k p hs _ (s1.free hp) s2 A9 (fun y=>by rw[pm.mem_iff];exact m2 y) srt (pm.nodup_iff.mpr n2) (by rw[pm.length_eq];exact hsub l n2 fun y hy=>(m2 y).mp hy)
end
def Y4(qs:List PA2)(a b:Str):Prop:=∃q∈qs,q.2.1=a/\q.2.2=b
theorem strk_struck{qs:List PA2}{a b:Str}:b∈C1 qs a↔Y4 qs a b:=mem_struckOf
instance(qs:List PA2)(a b:Str):Decidable (Y4 qs a b):=inferInstanceAs (Decidable (∃q∈qs,q.2.1=a/\q.2.2=b))
def Cj(qs:List PA2)(ss:List Str):Bool:=ss.all fun n=>decide (¬∃m∈ss,Y4 qs m n)
def Zc(K:PySem.W.Frag)(C:Addr)(f:List Str->List PA2->List Str->Bool):Sp:=fun vs H Q _=>∃(x a:Addr) (ss ns:List Str) (qs:List PA2),vs = [.ref x,.ref a]/\WebAt C H x ns qs/\Sqs K H a (ss.map V.str)/\(∀n∈ss,n∈ns)/\ss.length<=100 /\
 ∀H',Same H H'->Q (.bl (f ns qs ss)) H'
def Mx(K:PySem.W.Frag)(C:Addr)(f:List Str->List PA2->List Str->Prop):Sp:=fun vs H Q _=>∃(x a:Addr) (ss ns:List Str) (qs:List PA2),vs = [.ref x,.ref a]/\WebAt C H x ns qs/\Sqs K H a (ss.map V.str)/\(∀n∈ss,n∈ns)/\ss.length<=100 /\
 ∀(b:Bool) H',(b=true↔f ns qs ss)->Same H H'->Q (.bl b) H'
def Mr(qs:List PA2)(ss:List Str):Prop:=∀m∈ss,∀n∈ss,¬Y4 qs m n
def zDw(qs:List PA2)(ss:List Str):Prop:=∀x,∀n∈ss,Y4 qs x n->∃m∈ss,Y4 qs m x
theorem quietB_iff{qs:List PA2}{ss:List Str}:Cj qs ss=true↔Mr qs ss:=by
 unfold Cj Mr;rw[BU];constructor
 .intro h m hm n hn hs;exact AZ (h n hn) ⟨m,hm,hs⟩
 .intro h n hn;refine AJ ?_;rintro⟨m,hm,hs⟩;exact h m hm n hn hs
theorem strk_strikers{qs:List PA2}{a b:Str}:a∈B1 qs b↔Y4 qs a b:=by
 unfold B1 Y4;rw[AE];constructor
 .rintro⟨q,hq,rfl⟩;obtain⟨h1,h2⟩:=BF.mp hq;exact⟨q,h1,rfl,AZ h2⟩
 .rintro⟨q,hq,rfl,rfl⟩;exact⟨q,BF.mpr ⟨hq,AJ rfl⟩,rfl⟩
section
variable{P:Program}{w:World}{K:PySem.W.Frag}{mg:Str->Option Value}{base:Heap}
theorem z7:FnScope ["web", "some", "hit"] ["web", "some"] (B5 s_is_quiet):=fsc
theorem Jb(T:Tx K mg):FnOk P w K mg base CX0 4 T.a2.f T.a2.fd ["web", "some"] (Zc K T.ab fun _=>Cj):=by
 have G_struck_by_any:=J9 (P:=P) (w:=w) (base:=base) T;have sc:=z7;refine T.a2.F.ok z7 (fun vs H Q E h=>?_) (fun cdv A outer s H vs Q E hr h=>?_)
 .obtain⟨x,a,ss,ns,qs,rfl,_⟩:=h;rfl
 .obtain⟨x,a,ss,ns,qs,rfl,hW,hS,hM,hl,k⟩:=h;refine⟨_,(B3 (C5 (i:=2) sc.nd rfl (.inr rfl) (C7 T.an G_struck_by_any (Rm hr) (A8 (pv 0) (A8 (pv 1) B2))))
   (B4 (B9 (E5 (Q9 K) T.av Q7 (A8 (J7 (N':=["name", "hit"]) (cap:=[none,some 2]) (cl:=[("hit",_)]) (E7 ⟨⟨rfl,rfl,rfl,rfl⟩,trivial⟩ ⟨rfl,trivial⟩) rfl (piS K (pv 1)) (fun _ _ _ _=>by exact⟨(pgC 0),C3,(E4 (y0 K) (pv 0) (pv 1) rfl)⟩)) B2))))),?_⟩
  refine ex1 rfl (ex1 rfl (Pm (a:=x) (b:=a) (c:=ss) (d:=ns) (e:=qs) rfl hW hS hM fun l hs H1 hl0 s1 e1 m1 _ _ _=>?_));dsimp only[Vx,Ul,J5,Xl,tCB,T6,Kv];refine R9 (by rfl) ((s1.at a).seq hS) ?_;intro J as D hD;refine G0 as (fun i σ H2=>(∃v0,σ = [v0,some (.ref l)])/\Same H1 H2/\H2 D=some (.lst ((ss.take i).map fun n=>V.bl (!decide (n∈hs)))))
   ⟨⟨_,rfl⟩,Same.new hD,A9⟩ (fun i σ H1 _ ⟨_,s1,_⟩=>s1.at a) ?_ ?_
  .rintro i σ H2 v N hx ⟨⟨v0,rfl⟩,s2,e2⟩ hN;rw[AI]at hx;cases hy:ss[i]? with
   | none=>rw[hy]at hx;cases hx
   | some n =>
    rw[hy]at hx;cases hx;refine M9 ?_;refine ex1 rfl (ex1 rfl (Ch (.inl (SqL.of (s2 _ _ e1))) ⟨_,e2,?_,hN _ _ ⟨⟨_,rfl⟩,s2.upd hD,?_⟩⟩))
    .rw[AA,AN,sizeLine_eq];omega
    .rw[A9,take_succ hy,AK];rfl
  .rintro σ H2 ⟨_,s2,e2⟩;rw[AA,BN]at e2;refine⟨D,ss.map fun n=>!decide (n∈hs),rfl,SqL.of (by rw[e2,AY];rfl),?_⟩;have e:(ss.map fun n=>!decide (n∈hs)).all id=Cj qs ss:=by
    unfold Cj;rw[FM];congr 1;funext n;show(!decide (n∈hs))=decide (¬∃m∈ss,Y4 qs m n);have:n∈hs↔∃m∈ss,Y4 qs m n:=by
     rw[m1];exact⟨fun⟨m,h1,h2⟩=>⟨m,h1,strk_struck.mp h2⟩,fun⟨m,h1,h2⟩=>⟨m,h1,strk_struck.mpr h2⟩⟩
    rw[decide_not];congr 1;exact GQ.mpr this
   rw[e];exact k _ (s1.trans s2)
theorem X8:FnScope ["web", "some"] ["web", "some"] (B5 s_strikers_of_any):=fsc
theorem Z7(T:Tx K mg):FnOk P w K mg base CX0 3 T.ax.f T.ax.fd ["web", "some"] (Xk K T.ab B1):=by
 have G_Web_strikers:=G8 (P:=P) (w:=w) (base:=base) T;refine T.ax.F.ok X8 (fun vs H Q E h=>?_) (fun cdv A outer s H vs Q E hr h=>?_)
 .obtain⟨x,a,ss,ns,qs,rfl,_⟩:=h;rfl
 .obtain⟨x,a,ss,ns,qs,rfl,hW,hS,hM,k⟩:=h;have hu:=T9 hr;obtain⟨ok,dx,a1,b,c,d,kc,kd,e1,_⟩:=id hW;have hsub:∀l:List Str,l.Nodup->(∀y∈l,∃n∈ss,y∈B1 qs n)->l.length<=100:=fun l nd h=>by
   refine Nat.le_trans (nd.length_le_of_subset fun y hy=>?_) ok.len;obtain⟨n,_,hy'⟩:=h y hy;obtain⟨q,hq,_,e⟩:=mem_strikersOf.mp hy';rw[<-e];exact(ok.mem q hq).1
  refine⟨_,(B4 (B9 (E5 (Mh w) T.am I9 (A8 (zEf w (N':=["name", "striker", "web"]) (cap:=[none,none,some 0]) (cl:=[("web",_)]) (E7 ⟨⟨rfl,rfl,rfl,rfl⟩,trivial⟩ ⟨rfl,trivial⟩) (piS K (pv 1)) (fun _ _ _ _=>by exact⟨(pgC 0),C3,(piL K (G7 (pv 2) T.ag T.ad.m G_Web_strikers (Rm hr) T.ad.b .nil K0 (A8 (pv 0) B2))),(pgC 1),C3,(pv 1)⟩)) B2)))),?_⟩;dsimp only[Vx,Ul,J5,Xl,tCB,T6,Kv];refine R9 (by rfl) hS ?_;intro J as D hD;refine G0 as (fun i σ H1=>(∃v0 v1,σ = [v0,v1,some (.ref x)])/\Same H H1/\∃l,H1 D=some (Ex w D l)/\l.Nodup/\∀y,y∈l↔∃n∈ss.take i,y∈B1 qs n)
   ⟨⟨_,_,rfl⟩,Same.new hD,[],A9,GL,fun y=>by simp⟩ (fun i σ H1 _ ⟨_,s1,_⟩=>s1.at a) ?_ ?_
  .rintro i σ H1 v N hx ⟨⟨v0,v1,rfl⟩,s1,l,e2,n2,m2⟩ hN;rw[AI]at hx;cases hy:ss[i]? with
   | none=>rw[hy]at hx;cases hx
   | some n =>
    rw[hy]at hx;cases hx;have hn:n∈ns:=hM n (AV hy);have hl100:l.length<=100:=hsub l n2 fun y hy=>by
     obtain⟨m,hm,h⟩:=(m2 y).mp hy;exact⟨m,CB hm,h⟩
    refine M9 ?_;refine ex1 rfl ⟨x,dx,ex1 rfl ⟨s1 _ _ e1,rfl,ex1 rfl ⟨x,n,ns,qs,rfl,hW.same s1,hn,fun p hp=>?_⟩⟩⟩;have npD:D≠p:=B0 e2 hp;refine⟨p,rfl,⟨_,SqL.of A9⟩,Rq (H0:=H) (n:=0) (asL (SqL.of A9)) (Sg:=fun σ=>∃v0 v1,σ = [v0,v1,some (.ref x)]) ⟨_,_,rfl⟩ (fun σ v ⟨v0,v1,e⟩=>by rw[e];exact⟨⟨_,_,rfl⟩,rfl⟩) (by rw[B6 npD];exact e2) npD.symm n2 ?_ (s1.trans (Same.new hp)) hD ?_⟩
    .have:=V2 qs n;have:=ok.lenq;omega
    .rintro σ l' H2 hσ s2 e3 n3 _ m3;refine hN _ _ ⟨hσ,s2,l',e3,n3,fun y=>?_⟩;rw[m3,m2,take_succ hy];constructor
     .rintro(⟨m,hm,h⟩ | h)
      .exact⟨m,CS _ hm,h⟩
      .exact⟨n,BT _ (AF.mpr rfl),h⟩
     .rintro⟨m,hm,h⟩;rcases AO.mp hm with z | z
      .exact .inl ⟨m,z,h⟩
      .rw[AF.mp z]at h;exact .inr h
  .rintro σ H1 ⟨_,s1,l,e2,n2,m2⟩;rw[AA,BN]at m2;refine⟨D,l,rfl,e2,fun p hs hp pm srt=>?_⟩;have s2:Same H (upd H1 p (.lst (hs.map V.str))):=s1.trans (Same.new hp);exact k p hs _ (s1.free hp) s2 A9 (fun y=>by rw[pm.mem_iff];exact m2 y) srt (pm.nodup_iff.mpr n2) (by rw[pm.length_eq];exact hsub l n2 fun y hy=>(m2 y).mp hy)
theorem T4:FnScope ["web", "some", "hit"] ["web", "some"] (B5 s_strikes_back):=fsc
theorem Aa(T:Tx K mg):FnOk P w K mg base CX0 4 T.aK.f T.aK.fd ["web", "some"] (Mx K T.ab fun _=>zDw):=by
 have G_struck_by_any:=J9 (P:=P) (w:=w) (base:=base) T;have G_strikers_of_any:=Z7 (P:=P) (w:=w) (base:=base) T;have sc:=T4;refine T.aK.F.ok T4 (fun vs H Q E h=>?_) (fun cdv A outer s H vs Q E hr h=>?_)
 .obtain⟨x,a,ss,ns,qs,rfl,_⟩:=h;rfl
 .obtain⟨x,a,ss,ns,qs,rfl,hW,hS,hM,hl,k⟩:=h;refine⟨_,(B3 (C5 (i:=2) sc.nd rfl (.inr rfl) (C7 T.an G_struck_by_any (Rm hr) (A8 (pv 0) (A8 (pv 1) B2))))
   (B4 (B9 (E5 (Q9 K) T.av Q7 (A8 (J7 (N':=["name", "hit"]) (cap:=[none,some 2]) (cl:=[("hit",_)]) (E7 ⟨⟨rfl,rfl,rfl,rfl⟩,trivial⟩ ⟨rfl,trivial⟩) rfl (piL K (C7 T.ax G_strikers_of_any (Rm hr) (A8 (pv 0) (A8 (pv 1) B2)))) (fun _ _ _ _=>by exact⟨(pgC 0),C3,(E4 (By K) (pv 0) (pv 1) rfl)⟩)) B2))))),?_⟩
  refine ex1 rfl (ex1 rfl (Pm (a:=x) (b:=a) (c:=ss) (d:=ns) (e:=qs) rfl hW hS hM fun l hs H1 hl0 s1 e1 m1 _ _ _=>?_));dsimp only[Vx,Ul,J5,Xl,tCB,T6,Kv];refine ex1 rfl (ex1 rfl (Pm (a:=x) (b:=a) (c:=ss) (d:=ns) (e:=qs) rfl (hW.same s1) ((s1.at a).seq hS) hM fun l2 gs H2 hl2 s2 e2 m2 _ _ len2=>?_));have hit2:=s2 _ _ e1;refine⟨l2,rfl,⟨_,SqL.of e2⟩,fun D hD=>?_⟩;refine G0 (asL (K:=K) (SqL.of e2)) (fun i σ H3=>(∃v0,σ = [v0,some (.ref l)])/\Same H2 H3/\H3 D=some (.lst ((gs.take i).map fun n=>V.bl (decide (n∈hs)))))
   ⟨⟨_,rfl⟩,Same.new hD,A9⟩ (fun i σ H1 _ ⟨_,s1,_⟩=>s1.at l2) ?_ ?_
  .rintro i σ H3 v N hx ⟨⟨v0,rfl⟩,s3,e3⟩ hN;rw[AI]at hx;cases hy:gs[i]? with
   | none=>rw[hy]at hx;cases hx
   | some n =>
    rw[hy]at hx;cases hx;refine M9 ?_;refine ex1 rfl (ex1 rfl (T2 (.inl (SqL.of (s3 _ _ hit2))) ⟨_,e3,?_,hN _ _ ⟨⟨_,rfl⟩,s3.upd hD,?_⟩⟩))
    .rw[AA,AN,sizeLine_eq];omega
    .rw[A9,take_succ hy,AK];rfl
  .rintro σ H3 ⟨_,s3,e3⟩;rw[AA,BN]at e3;refine⟨D,gs.map fun n=>decide (n∈hs),rfl,SqL.of (by rw[e3,AY];rfl),?_⟩;refine k _ _ ?_ ((s1.trans s2).trans s3);rw[FM,BU];constructor
   .intro h y n hn hy;have:=AZ (h y ((m2 y).mpr ⟨n,hn,strk_strikers.mpr hy⟩));obtain⟨m,hm,h'⟩:=(m1 y).mp this;exact⟨m,hm,strk_struck.mp h'⟩
   .intro h y hy;obtain⟨n,hn,hy⟩:=(m2 y).mp hy;obtain⟨m,hm,h'⟩:=h y n hn (strk_strikers.mp hy);exact AJ ((m1 y).mpr ⟨m,hm,strk_struck.mpr h'⟩)
end
def Yc(qs:List PA2)(ss:List Str):Prop:=Mr qs ss/\zDw qs ss
section
variable{P:Program}{w:World}{K:PySem.W.Frag}{mg:Str->Option Value}{base:Heap}
theorem He:FnScope ["web", "some"] ["web", "some"] (B5 s_stands):=⟨rfl,rfl,rfl,by decide +kernel,rfl,by decide +kernel,by decide +kernel⟩
theorem Rz(T:Tx K mg):FnOk P w K mg base CX0 5 T.bk.f T.bk.fd ["web", "some"] (Mx K T.ab fun _=>Yc):=by
 have G_is_quiet:=Jb (P:=P) (w:=w) (base:=base) T;have G_strikes_back:=Aa (P:=P) (w:=w) (base:=base) T;have sc:=He;refine T.bk.F.ok He (fun vs H Q E h=>?_) (fun cdv A outer s H vs Q E hr h=>?_)
 .obtain⟨x,a,ss,ns,qs,rfl,_⟩:=h;rfl
 .obtain⟨x,a,ss,ns,qs,rfl,hW,hS,hM,hl,k⟩:=h;refine⟨_,(B4 (B9 (X2 (C7 T.a2 G_is_quiet (hr.mono (by decide)) (A8 (pv 0) (A8 (pv 1) B2))) (X9 (C7 T.aK G_strikes_back (hr.mono (by decide)) (A8 (pv 0) (A8 (pv 1) B2))))))),?_⟩;refine ex1 rfl (ex1 rfl (zBn (a:=x) (b:=a) (c:=ss) (d:=ns) (e:=qs) rfl hW hS hM hl fun H1 s1=>⟨Cj qs ss,rfl,?_⟩));refine U0 (fun c=>?_) (fun c=>?_)
  .refine ex1 rfl (ex1 rfl (zBn (a:=x) (b:=a) (c:=ss) (d:=ns) (e:=qs) rfl (hW.same s1) ((s1.at a).seq hS) hM hl fun b H2 hb s2=>k b H2 ?_ (s1.trans s2)));exact hb.trans ⟨fun h=>⟨quietB_iff.mp c,h⟩,fun h=>h.2⟩
  .exact k false H1 ⟨fun z=>(by cases z),fun h=>absurd (quietB_iff.mpr h.1) c⟩ s1
theorem Cn:FnScope ["_law_cell", "_law_k", "_law_m"] ["_law_cell", "_law_k"] (B5 s_law_mix):=fsc
def zEt:Sp:=fun vs H Q _=>∃(cell k:Int),vs = [.int cell,.int k]/\0<=k/\k<=2000000/\∀m:Int,0<=m->m<1999999973->Q (.int m) H
theorem Ny(T:Tx K mg):FnOk P w K mg base CX0 1 T.aZ.f T.aZ.fd ["_law_cell", "_law_k"] zEt:=by
 have sc:=Cn;refine T.aZ.F.ok Cn (fun vs H Q E h=>?_) (fun cdv A outer s H vs Q E hr h=>?_)
 .obtain⟨c,k,rfl,_⟩:=h;rfl
 .obtain⟨cell,k,rfl,k0,k1,q⟩:=h;refine⟨_,(B3 (C5 (i:=2) sc.nd rfl (.inl rfl) (E8 Hh (E8 Cu (E8 Z8 (E8 Z8 (E8 Hh (pv 0) B8) (E8 Cu (E8 Cu (pv 1) (pv 1)) B8)) B8) B8) B8))
   (B4 (B9 (E8 Hh (E8 Cu (pv 2) (pv 2)) B8)))),?_⟩
  refine ex1 rfl (C4 rfl rfl ⟨(show(0:Int)<2147483629 by decide),ex1 rfl (ex1 rfl (C4 rfl rfl ⟨.inl ⟨by omega,by omega⟩,C4 rfl rfl ⟨.inr ⟨by decide,by decide⟩,C4 rfl rfl (C4 rfl rfl (C4 rfl rfl ⟨.inr ⟨by decide,by decide⟩,C4 rfl rfl ⟨(show(0:Int)<2147483647 by decide),?_⟩⟩))⟩⟩))⟩);generalize hm:(cell % 2147483629+k*k*7919+11)*48271 % 2147483647=m;have h1:0<=m:=by rw[<-hm];exact GB _ (by decide)
  have h2:m<2147483647:=by rw[<-hm];exact FD _ (by decide)
  exact⟨_,rfl,_,rfl,_,_,rfl,rfl,.inl ⟨by omega,by omega⟩,_,_,rfl,rfl,(show(0:Int)<1999999973 by decide),q _ (GB _ (by decide)) (FD _ (by decide))⟩
def LeftAt(H:Hp)(p:Addr)(c:Int):Prop:=∃a b:Int,H p=some (.lst [.int a,.int b,.int c])/\0<=c
theorem LeftAt.isS{H:Hp}{p:Addr}{c:Int}(h:LeftAt H p c):(H p).isSome=true:=by
 obtain⟨_,_,e,_⟩:=h;rw[e];rfl
theorem LeftAt.get{H:Hp}{p:Addr}{c:Int}(h:LeftAt H p c):H p=some ((H p).get h.isS):=(Option.some_get _).symm
theorem LeftAt.cast{H:Hp}{p:Addr}{c c':Int}(h:LeftAt H p c)(e:c=c'):LeftAt H p c':=e▸h
theorem LeftAt.upd{H:Hp}{p a:Addr}{c:Int}{o:HO}(h:LeftAt H p c)(n:p≠a):LeftAt (L2.upd H a o) p c:=by
 obtain⟨x,y,e,z⟩:=h;exact⟨x,y,by rw[B6 n];exact e,z⟩
theorem LeftAt.same{H H':Hp}{p:Addr}{c:Int}(h:LeftAt H p c)(s:Same H H'):LeftAt H' p c:=by
 obtain⟨x,y,e,z⟩:=h;exact⟨x,y,s _ _ e,z⟩
theorem zHv(c:Bool):-(2^64) <(if c=true then(1:Int)else 0)/\(if c=true then(1:Int)else 0)<2^64:=by cases c<;>exact⟨by decide,by decide⟩
theorem Bg:FnScope ["_law_script", "_law_k", "_law_cell"] ["_law_script", "_law_k"] (B5 s_law_left):=fsc
def zAu(K:PySem.W.Frag):Sp:=fun vs H Q _=>∃(p:Addr) (xs:List Int) (k:Nat),vs = [.ref p,.int (k:Int)]/\SqL K H p (xs.map V.int)/\k<=1000/\∀l H',H l=none->Same H H'->LeftAt H' l 0->Q (.ref l) H'
theorem Jk(T:Tx K mg):FnOk P w K mg base CX0 1 T.a5.f T.a5.fd ["_law_script", "_law_k"] (zAu K):=by
 have sc:=Bg;refine T.a5.F.ok Bg (fun vs H Q E h=>?_) (fun cdv A outer s H vs Q E hr h=>?_)
 .obtain⟨p,xs,k,rfl,_⟩:=h;rfl
 .obtain⟨p,xs,k,rfl,hS,hk,q⟩:=h;refine⟨_,(B3 (C5 (i:=2) sc.nd rfl (.inl rfl) (Vh (C6 zCm (pv 1) (E5 (Ad K) T.aT o7 (A8 (pv 0) B2)) (D8 _)) (Q0 (ixL K) (pv 0) (pv 1) (fun _ _=>rfl)) B8))
   (B4 (B9 (S6 (A8 (E8 Cu (E5 Lb T.bC Yv (A8 (pv 2) B2)) (Oh Sy T.bD Yl (A8 (E4 zGo (E5 Lb T.bC Yv (A8 (pv 2) B2)) (E8 zEi B8 B8) (D8 _)) B2))) (A8 (E8 Z8 (pv 2) (E8 Cu B8 (pv 1))) (A8 B8 B2))))))),?_⟩
  refine ex1 rfl (ex1 rfl (C4 (a:=p) rfl (.inl hS) (C4 rfl rfl (ex1 rfl ?_))));have at1:decide ((k:Int) <((xs.map V.int).length:Int))=true->∃c:Int,atI (xs.map V.int) (k:Int)=some (.int c):=fun c1=>by
   have c1:(k:Int) <((xs.map V.int).length:Int):=AZ c1;rw[AA]at c1;have hk':xs[k]?=some (xs[k]'(by omega)):=AH (by omega);exact⟨_,Iy (by rw[AI,hk'];rfl)⟩
  refine U0 (fun c1=>?_) (fun c1=>?_)
  .obtain⟨c,hc⟩:=at1 c1;refine ex1 rfl (ex1 rfl ⟨p,_,C4 rfl rfl ⟨hS,hc,?_⟩⟩)
   (repeat first | refine⟨_,rfl,?_⟩ | refine⟨_,_,rfl,rfl,?_⟩)
   refine⟨⟨by decide,by decide,by decide⟩,?_⟩
   (repeat first | refine⟨_,rfl,?_⟩ | refine⟨_,_,rfl,rfl,?_⟩)
   refine .inr ⟨_,rfl,?_⟩
   (repeat first | refine⟨_,rfl,?_⟩ | refine⟨_,_,rfl,rfl,?_⟩)
   refine⟨.inr ?_,?_⟩
   .exact zHv _
   (repeat first | refine⟨_,rfl,?_⟩ | refine⟨_,_,rfl,rfl,?_⟩)
   refine⟨.inl ⟨by decide,by decide⟩,?_⟩
   (repeat first | refine⟨_,rfl,?_⟩ | refine⟨_,_,rfl,rfl,?_⟩)
   exact⟨by show 3<=sizeLine;decide,fun l hl=>q l _ hl (Same.new hl) ⟨_,_,A9,by decide⟩⟩
  .skip;(repeat first | refine⟨_,rfl,?_⟩ | refine⟨_,_,rfl,rfl,?_⟩)
   refine⟨⟨by decide,by decide,by decide⟩,?_⟩
   (repeat first | refine⟨_,rfl,?_⟩ | refine⟨_,_,rfl,rfl,?_⟩)
   refine .inr ⟨_,rfl,?_⟩
   (repeat first | refine⟨_,rfl,?_⟩ | refine⟨_,_,rfl,rfl,?_⟩)
   refine⟨.inr ?_,?_⟩
   .exact zHv _
   (repeat first | refine⟨_,rfl,?_⟩ | refine⟨_,_,rfl,rfl,?_⟩)
   refine⟨.inl ⟨by decide,by decide⟩,?_⟩
   (repeat first | refine⟨_,rfl,?_⟩ | refine⟨_,_,rfl,rfl,?_⟩)
   exact⟨by show 3<=sizeLine;decide,fun l hl=>q l _ hl (Same.new hl) ⟨_,_,A9,by decide⟩⟩
theorem Au:FnScope ["_law_left_here", "_law_many", "_law_digit"] ["_law_left_here", "_law_many"] (B5 s_law_pick):=fsc
def zAs:Sp:=fun vs H Q _=>∃(p:Addr) (c many:Int),vs = [.ref p,.int many]/\LeftAt H p c/\c<=1000000/\0<many/\many<=1000000 /\
 ∀(d:Nat) H',(d:Int)<many->Sm [p] H H'->LeftAt H' p (c+1)->Q (.int (d:Int)) H'
theorem V7(T:Tx K mg):FnOk P w K mg base CX0 2 T.al.f T.al.fd ["_law_left_here", "_law_many"] zAs:=by
 have G_law_mix:=Ny (P:=P) (w:=w) (base:=base) T;have sc:=Au;refine T.al.F.ok Au (fun vs H Q E h=>?_) (fun cdv A outer s H vs Q E hr h=>?_)
 .obtain⟨p,c,m,rfl,_⟩:=h;rfl
 .obtain⟨p,c,many,rfl,⟨a,b,e,c0⟩,c1,m0,m1,q⟩:=h;refine⟨_,(B3 (Fe (E8 Z8 (Q0 (ixL K) (pv 0) B8 (fun _ _=>rfl)) B8) (Rn (pv 0) B8 Es))
   (B3 (K4 (C6 zGg (Q0 (ixL K) (pv 0) B8 (fun _ _=>rfl)) B8 (D8 _)) (B3 (C5 (i:=2) sc.nd rfl (.inl rfl) (E8 Hh (Q0 (ixL K) (pv 0) B8 (fun _ _=>rfl)) (pv 1)))
   (B3 (Fe (E8 Qk (Q0 (ixL K) (pv 0) B8 (fun _ _=>rfl)) (pv 1)) (Rn (pv 0) B8 Es))
   (B4 (B9 (pv 2))))) D0)
   (B4 (B9 (E8 Hh (E8 Qk (C7 T.aZ G_law_mix (Rm hr) (A8 (C7 T.aZ G_law_mix (Rm hr) (A8 (Q0 (ixL K) (pv 0) B8 (fun _ _=>rfl)) (A8 (Q0 (ixL K) (pv 0) B8 (fun _ _=>rfl)) B2))) (A8 (E8 Z8 (Q0 (ixL K) (pv 0) B8 (fun _ _=>rfl)) B8) B2))) B8) (pv 1)))))),?_⟩
  have nn:∀d:Int,0<=d->d<many->∀a' b',Q (.int d) (upd (upd H p (.lst [.int a,.int b,.int (c+1)])) p (.lst [.int a',.int b',.int (c+1)]))/\Q (.int d) (upd H p (.lst [.int a',.int b',.int (c+1)])):=fun d h0 h1 a' b'=>by
   obtain⟨n,rfl⟩:=Int.eq_ofNat_of_zero_le h0;exact⟨q n _ h1 (((Sm.refl _ _).upd (by simp)).upd (by simp)) ⟨a',b',A9,by omega⟩,q n _ h1 ((Sm.refl _ _).upd (by simp)) ⟨a',b',A9,by omega⟩⟩
  refine ex1 rfl ⟨p,_,C4 rfl rfl ⟨SqL.of e,rfl,C4 rfl rfl (ex1 rfl ⟨p,_,_,2,rfl,rfl,e,rfl,?_⟩)⟩⟩;refine ex1 rfl ⟨p,_,C4 rfl rfl ⟨SqL.of A9,rfl,C4 rfl rfl (ex1 rfl ?_)⟩⟩;refine U0 (fun h1=>?_) (fun h1=>?_)
  .have h1:(0:Int)<a:=AZ h1;refine ex1 rfl ⟨p,_,C4 rfl rfl ⟨SqL.of A9,rfl,ex1 rfl (C4 rfl rfl ⟨m0,?_⟩)⟩⟩;refine ex1 rfl ⟨p,_,C4 rfl rfl ⟨SqL.of A9,rfl,ex1 rfl (C4 rfl rfl ⟨⟨m0,by omega⟩,ex1 rfl ⟨p,_,_,0,rfl,rfl,A9,rfl,?_⟩⟩)⟩⟩;exact⟨_,rfl,(nn _ (GB _ (by omega)) (FD _ m0) _ _).1⟩
  .refine ex1 rfl ⟨p,_,C4 rfl rfl ⟨SqL.of A9,rfl,ex1 rfl ⟨p,_,C4 rfl rfl ⟨SqL.of A9,rfl,_,ex1 rfl ⟨by omega,by omega,fun m2 h2 h3=>?_⟩⟩⟩⟩⟩;refine ex1 rfl ⟨p,_,C4 rfl rfl ⟨SqL.of A9,rfl,C4 rfl rfl ⟨_,ex1 rfl ⟨by omega,by omega,fun m3 h4 h5=>?_⟩⟩⟩⟩;refine C4 rfl rfl ⟨⟨by decide,by decide⟩,ex1 rfl (C4 rfl rfl ⟨m0,?_⟩)⟩;exact(nn _ (GB _ (by omega)) (FD _ m0) _ _).2
end
theorem six{d n:Nat}(h:d<n):seqIndex? (d:Int) n=some d:=by
 unfold seqIndex?;simp;omega
theorem erase_perm{α:Type}{l:List α}{i:Nat}{x:α}(h:l[i]?=some x):(x::l.eraseIdx i).Perm l:=ST.erase_perm h
theorem Ha{α β:Type}(f:α->β):∀(l:List α) (i:Nat),(l.map f).eraseIdx i =(l.eraseIdx i).map f
 | [],_=>rfl
 | _::_,0=>rfl
 | a::l,i+1=>by
  show f a ::(l.map f).eraseIdx i=f a ::(l.eraseIdx i).map f;rw[Ha f l i]
theorem Vr{all rest got:List Str}(pm:(rest++got).Perm all)(h1:∀x∈all,K8 x=true)(h2:all.Nodup)(h3:all.length<=100):V8 got:=by
 refine⟨fun x hx=>h1 x (pm.mem_iff.mp (BT _ hx)),?_,?_⟩
 .exact(DT.mp (pm.nodup_iff.mpr h2)).2.1
 .have:=pm.length_eq;rw[BB]at this;omega
theorem Vv{all rest got:List Str}{d:Nat}{x:Str}(pm:(rest++got).Perm all)(h:rest[d]?=some x):(rest.eraseIdx d ++(got ++ [x])).Perm all:=by
 refine List.Perm.trans ?_ pm;rw[<-BI];refine C_.trans ?_;rw[<-BI];exact(erase_perm h).append_right got
theorem Sm1{p b:Addr}{H H':Hp}{o:HO}(h:Sm [p] H H')(e:H b=some o)(n:b≠p):H' b=some o:=h b o e fun z=>n (AF.mp z)
section
variable{P:Program}{w:World}{K:PySem.W.Frag}{mg:Str->Option Value}{base:Heap}
def all20:List Str:=["b", "aa", "zebra", "c", "quartzes", "ab", "m", "knows", "d", "mm", "likes", "z", "a", "ba", "abcdefgh", "y", "zz", "e", "x", "f"]
abbrev txt20:Str := "b aa zebra c quartzes ab m knows d mm likes z a ba abcdefgh y zz e x f"
theorem Ze:Builtin.Str.partsBetween txt20 (Builtin.Str.occurrences txt20 " " 0 txt20.length (txt20.length+1)) (" ":Str).length=all20:=by decide +kernel
theorem all20_ok:(∀x∈all20,K8 x=true)/\all20.Nodup:=⟨by decide +kernel,by decide +kernel⟩
theorem zBk:∀x∈all20,x≠ "zzzzzzzz"/\leS x "zzzzzzzz":=by
 unfold leS;decide +kernel
theorem Ic:∃all:List Str,all.length=20/\(∀x∈all,K8 x=true)/\(∀x∈all,x≠ "zzzzzzzz"/\leS x "zzzzzzzz")/\all.Nodup/\∀(Q:VK) (H:Hp),(∀l,H l=none->Q (.ref l) (upd H l (.lst (all.map V.str))))->Xu (.str txt20) [.str " "] H Q :=
 ⟨all20,rfl,all20_ok.1,zBk,all20_ok.2,fun Q H h=>⟨txt20, " ",all20,rfl,rfl,by decide +kernel,by decide +kernel,by decide +kernel,by decide +kernel,Ze,by decide +kernel,h⟩⟩
theorem n6:FnScope ["_law_left_here", "_law_many", "_law_some", "_law_names_here", "_law_k"] ["_law_left_here", "_law_many"] (B5 s_law_names):=fsc
def Ut:Sp:=fun vs H Q _=>∃(p:Addr) (c:Int) (many:Nat),vs = [.ref p,.int (many:Int)]/\LeftAt H p c/\c<=900000/\many<=20 /\
 ∀l (ss:List Str) H',H l=none->Sm [p] H H'->H' l=some (.lst (ss.map V.str))->ss.length=many->V8 ss->(∀x∈ss,x≠ "zzzzzzzz"/\leS x "zzzzzzzz")->LeftAt H' p (c+many)->Q (.ref l) H'
set_option maxHeartbeats 2000000 in
theorem Hm(T:Tx K mg):FnOk P w K mg base CX0 3 T.aY.f T.aY.fd ["_law_left_here", "_law_many"] Ut:=by
 have G_law_pick:=V7 (P:=P) (w:=w) (base:=base) T;have sc:=n6;refine T.aY.F.ok n6 (fun vs H Q E h=>?_) (fun cdv A outer s H vs Q E hr h=>?_)
 .obtain⟨p,c,m,rfl,_⟩:=h;rfl
 .obtain⟨p,c,many,rfl,hL,c1,m1,q⟩:=h;obtain⟨a0,b0,e0,c0⟩:=id hL;refine⟨_,(B3 (C5 (i:=2) sc.nd rfl (.inl rfl) (Nl K PySem.F.plainAttrs_str PySem.F.slot_str_split PySem.F.type_str_split Wm I0 (A8 I0 B2)))
   (B3 (C5 (i:=3) sc.nd rfl (.inl rfl) (S6 B2))
   (B3 (f9 PassesOwn.never rfl (zHr T.bu (A8 (pv 1) B2)) (J2 (i:=4) sc.nd rfl (.inl rfl))
   (B4 (E9 (Nl K PySem.F.plainAttrs_list PySem.F.slot_list_append PySem.F.type_list_append J8 (pv 3) (A8 (Nl K PySem.F.plainAttrs_list PySem.F.slot_list_pop PySem.F.type_list_pop Va (pv 2) (A8 (C7 T.al G_law_pick (Rm hr) (A8 (pv 0) (A8 (E5 (Ad K) T.aT o7 (A8 (pv 2) B2)) B2))) B2)) B2)))))
   (B4 (B9 (pv 3)))))),?_⟩
  obtain⟨all,al,a1,az,a2,hspl⟩:=Ic;refine⟨rfl,?_⟩;dsimp only[T6,tC,Kv];refine hspl _ _ fun a ha=>?_;refine⟨CC _,fun b hb=>?_⟩;have hb':H b=none:=(Same.new ha).free hb;have nab:a≠b:=B0 A9 hb;have npa:p≠a:=B0 e0 ha;have npb:p≠b:=B0 e0 hb';refine ex1 rfl (ex1 rfl ⟨by omega,by omega,?_⟩);rw[EW];refine Da (fun i σ H1=>(∃v4,σ = [some (.ref p),some (.int (many:Int)),some (.ref a),some (.ref b),v4])/\Sm [p] H H1/\LeftAt H1 p (c+i)/\∃rest got:List Str,H1 a=some (.lst (rest.map V.str))/\H1 b=some (.lst (got.map V.str))/\(rest++got).Perm all/\got.length=i) ?_ ?_ ?_
  .refine⟨⟨_,rfl⟩,((Same.new ha).trans (Same.new hb)).sm,((hL.cast (by omega)).upd npa).upd npb,all,[],by rw[B6 nab,A9],by rw[A9];rfl,by rw[DB],rfl⟩
  .rintro i σ H1 hi ⟨⟨v4,rfl⟩,k1,L1,rest,got,ea,eb,pm,hg⟩ D1 hD1 _;have hlen:rest.length=20-i:=by
    have:=pm.length_eq;rw[BB,hg,al]at this;omega
   refine ex1 rfl ⟨.inl ⟨rfl,_,SqL.of eb⟩,ex1 rfl ⟨.inl ⟨rfl,_,SqL.of ea⟩,ex1 rfl (ex1 rfl (C4 (a:=a) rfl (.inl (SqL.of ea)) (Eh (a:=p) (b:=c+i) rfl L1 (by omega) ?_ ?_ fun d H2 hd k2 L2=>?_)))⟩⟩
   .rw[AA];omega
   .rw[AA];omega
   rw[AA]at hd;have hd':d<rest.length:=by omega
   have hx:rest[d]?=some rest[d]:=AH hd';have ea2:=Sm1 k2 ea npa.symm;have eb2:=Sm1 k2 eb npb.symm;refine⟨a,_,_,d,.str rest[d],rfl,rfl,ea2,by omega,by omega,six (by rw[AA];exact hd'),by rw[AI,hx];rfl,b,C4 rfl rfl ⟨by rw[B6 nab.symm];exact eb2,?_,?_⟩⟩
   .rw[AA,sizeLine_eq];omega
   refine hD1 _ _ ⟨⟨_,rfl⟩,?_,?_,rest.eraseIdx d,got ++ [rest[d]],?_,?_,Vv pm hx,by rw[BB,hg];rfl⟩
   .exact((k1.trans k2).updN ha).updN hb'
   .exact((L2.cast (by omega)).upd npa).upd npb
   .rw[B6 nab,A9,Ha]
   .rw[A9,AK];rfl
  .rintro σ H1 ⟨⟨v4,rfl⟩,k1,L1,rest,got,ea,eb,pm,hg⟩;exact⟨_,rfl,q b got H1 hb' k1 eb hg (Vr pm a1 a2 (by omega)) (fun x hx=>az x (pm.mem_iff.mp (BT _ hx))) L1⟩
end
def pd(k:Str×Str):PyData:=.tuple [.str k.1,.str k.2]
theorem Di{x:Str}(h:K8 x=true):PySem.PyData.strOk x=true:=by
 unfold K8 at h;rw[CK]at h;unfold PySem.PyData.strOk;rw[<-Array.all_toList,BU];intro c hc;have:=(BU.mp h.2) c hc;unfold zBp at this;rw[CK]at this;have:=AZ this.2;exact AJ (by omega)
theorem Ui{K:PySem.W.Frag}{H:Hp}{t:Addr}{k:Str×Str}(h:H t=some (.tup [.str k.1,.str k.2])):Rp K H (pd k) (.ref t):=by
 unfold pd;simp only[Rp,Rps];exact⟨t,_,rfl,SqT.of h,_,_,rfl,rfl,_,_,rfl,rfl,rfl⟩
theorem Hz{K:PySem.W.Frag}{H:Hp}:∀{ps:List PA2},(∀q∈ps,G9 H q)->Rps K H (ps.map fun q=>pd q.2) (P1 ps)
 | [],_=>by simp[Rps,P1]
 | q::r,h=>by
  show Rps K H (pd q.2::r.map fun q=>pd q.2) (V.ref q.1::P1 r);simp only[Rps];exact⟨_,_,rfl,Ui (h q (BE ..)),Hz fun z hz=>h z (AU _ hz)⟩
theorem Ew{K:PySem.W.Frag}{H:Hp}{l:Addr}{ps:List PA2}(hl:H l=some (.lst (P1 ps)))(h:∀q∈ps,G9 H q):Rp K H (.list (ps.map fun q=>pd q.2)) (.ref l):=by
 simp only[Rp];exact⟨l,_,rfl,SqL.of hl,Hz h⟩
theorem zEj(a b:Str×Str):PyData.eqv (pd a) (pd b)=decide (a=b):=by
 unfold pd;rw[PyData.eqv,PyData.eqvAll,PyData.eqvAll,PyData.eqvAll,PyData.eqv,PyData.eqv];by_cases h1:a.1=b.1
 .by_cases h2:a.2=b.2
  .rw[AJ (Prod.ext h1 h2),h1,h2];simp
  .rw[AQ fun z=>h2 (congrArg Prod.snd z)];simp[h2]
 .rw[AQ fun z=>h1 (congrArg Prod.fst z)];simp[h1]
theorem Fl(k:Str×Str):∀ps:List PA2,((ps.map fun q=>pd q.2).any fun z=>PyData.eqv z (pd k))=decide (k∈ps.map fun q=>q.2)
 | []=>rfl
 | q::r=>by
  rw[BA,FO,Fl k r,zEj,BA];by_cases e:q.2=k
  .rw[AJ e,Bool.true_or,AJ (show k∈q.2::_ from by rw[<-e];exact BE ..)]
  .rw[AQ e,GX];by_cases h:k∈r.map fun q=>q.2
   .rw[AJ h,AJ (AU _ h)]
   .rw[AQ h,AQ fun z=>(A_.mp z).elim (fun z=>e z.symm) h]
theorem Xr{k:Str×Str}(h1:PySem.PyData.strOk k.1=true)(h2:PySem.PyData.strOk k.2=true):(pd k).canLay0=true:=by
 unfold pd;simp[PyData.canLay0,PyData.canLayAll0,h1,h2]
theorem Jp:∀{ps:List PA2},(∀q∈ps,PySem.PyData.strOk q.2.1=true/\PySem.PyData.strOk q.2.2=true)->PyData.canLayAll0 (ps.map fun q=>pd q.2)=true
 | [],_=>rfl
 | q::r,h=>by
  rw[BA,PyData.canLayAll0,Xr (h q (BE ..)).1 (h q (BE ..)).2,Jp fun z hz=>h z (AU _ hz)];rfl
theorem i8{K:PySem.W.Frag}{H:Hp}{t l:Addr}{k:Str×Str}{ps:List PA2}{Q:VK}(ht:H t=some (.tup [.str k.1,.str k.2]))(hl:H l=some (.lst (P1 ps)))(hp:∀q∈ps,G9 H q)
  (hk:PySem.PyData.strOk k.1=true/\PySem.PyData.strOk k.2=true) (hs:∀q∈ps,PySem.PyData.strOk q.2.1=true/\PySem.PyData.strOk q.2.2=true) (q:Q (.bl (!decide (k∈ps.map fun q=>q.2))) H):zFy K true (.ref t) (.ref l) H Q :=
 ⟨pd k,_,Ui ht,.inl (Ew hl hp),⟨Xr hk.1 hk.2,by simp[pd,PyData.depth,PyData.depthAll]⟩,Jp hs,by rw[AR rfl,Fl];exact q⟩
structure FL(H:Hp)(l:Addr)(ps:List PA2)(ss:List Str):Prop where
 at_:H l=some (.lst (P1 ps))
 pin:∀q∈ps,G9 H q
 nm:∀q∈ps,q.2.1∈ss/\q.2.2∈ss
 nd:(ps.map fun q=>q.2).Nodup
theorem FL.sm{H H':Hp}{p l:Addr}{c:Int}{ps:List PA2}{ss:List Str}(h:FL H l ps ss)(L:LeftAt H p c)(n:l≠p)(s:Sm [p] H H'):FL H' l ps ss:=by
 obtain⟨x,y,e,_⟩:=L;exact⟨Sm1 s h.at_ n,fun q hq=>Sm1 s (h.pin q hq) (Q8 (h.pin q hq) e (by intro z;cases z)),h.nm,h.nd⟩
theorem FL.new{H:Hp}{l t:Addr}{o:HO}{ps:List PA2}{ss:List Str}(h:FL H l ps ss)(n:H t=none):FL (upd H t o) l ps ss :=
 ⟨by rw[B6 (B0 h.at_ n)];exact h.at_,fun q hq=>by unfold G9;rw[B6 (B0 (h.pin q hq) n)];exact h.pin q hq,h.nm,h.nd⟩
theorem FL.put{H:Hp}{l t:Addr}{ps:List PA2}{ss:List Str}{x y:Str}(h:FL H l ps ss)(k:Nat)(ht:H t=some (.tup [.str x,.str y]))(hx:x∈ss)(hy:y∈ss)(hn:(x,y)∉ps.map fun q=>q.2) :
  FL (upd H l (.lst ((P1 ps).take k++V.ref t ::(P1 ps).drop k))) l (ps.take k ++(t,x,y)::ps.drop k) ss:=by
 have pm:(ps.take k ++(t,x,y)::ps.drop k).Perm ((t,x,y)::ps):=by
  refine List.perm_middle.trans (List.Perm.cons _ ?_);rw[BX]
 have mm:∀q∈ps.take k ++(t,x,y)::ps.drop k,q =(t,x,y)\/q∈ps:=fun q hq=>A_.mp (pm.mem_iff.mp hq);refine⟨?_,fun q hq=>?_,fun q hq=>?_,?_⟩
 .rw[A9];unfold P1;rw[AK,List.map_take,BA,List.map_drop]
 .unfold G9;rcases mm q hq with rfl | z
  .rw[B6 (Q8 ht h.at_ (by intro z;cases z))];exact ht
  .rw[B6 (Q8 (h.pin q z) h.at_ (by intro z;cases z))];exact h.pin q z
 .rcases mm q hq with rfl | z
  .exact⟨hx,hy⟩
  .exact h.nm q z
 .rw[(pm.map _).nodup_iff];show((x,y)::ps.map fun q=>q.2).Nodup;exact DG.mpr ⟨hn,h.nd⟩
theorem FL.app{H:Hp}{l t:Addr}{ps:List PA2}{ss:List Str}{x y:Str}(h:FL H l ps ss)(ht:H t=some (.tup [.str x,.str y]))(hx:x∈ss)(hy:y∈ss)(hn:(x,y)∉ps.map fun q=>q.2) :
  FL (upd H l (.lst (P1 ps ++ [V.ref t]))) l (ps ++ [(t,x,y)]) ss:=by
 have:=h.put ps.length ht hx hy hn;have e:(P1 ps).length=ps.length:=by unfold P1;rw[AA]
 rw[<-e,BN,List.drop_length,e,BN,List.drop_length]at this;exact this
theorem Lp(ss:List Str):∀tt:List Str,(tt.flatMap fun a=>ss.map fun b=>(a,b)).length=tt.length*ss.length
 | []=>by simp
 | a::r=>by rw[List.flatMap_cons,BB,AA,Lp ss r,BR,Nat.succ_mul];omega
theorem FL.len{H:Hp}{l:Addr}{ps:List PA2}{ss:List Str}(h:FL H l ps ss):ps.length<=ss.length*ss.length:=by
 have:=h.nd.length_le_of_subset (l₂:=ss.flatMap fun a=>ss.map fun b=>(a,b)) (fun k hk=>by
  obtain⟨q,hq,rfl⟩:=AE.mp hk;obtain⟨h1,h2⟩:=h.nm q hq;exact HW.mpr ⟨q.2.1,h1,AE.mpr ⟨q.2.2,h2,rfl⟩⟩)
 rw[Lp,AA]at this;exact this
section
variable{P:Program}{w:World}{K:PySem.W.Frag}{mg:Str->Option Value}{base:Heap}
theorem zBq(d1 d2 d:Nat)(h1:d1<3)(h2:d2<4)(h:d<8):∃n:Nat,n<=10/\atI [V.int (8 +(d1:Int)),V.int d2,V.int 4,V.int 5,V.int 6,V.int 7,V.int 5,V.int 6] (d:Int)=some (.int (n:Int)):=by
 suffices ∃n:Nat,n<=10/\[V.int (8 +(d1:Int)),V.int d2,V.int 4,V.int 5,V.int 6,V.int 7,V.int 5,V.int 6][d]?=some (.int (n:Int)) by
  obtain⟨n,h,e⟩:=this;exact⟨n,h,Iy e⟩
 match d,h with
 | 0,_=>exact⟨8+d1,by omega,by show some (V.int _)=_;rw[Int.natCast_add];rfl⟩
 | 1,_=>exact⟨d2,by omega,rfl⟩
 | 2,_=>exact⟨4,by omega,rfl⟩
 | 3,_=>exact⟨5,by omega,rfl⟩
 | 4,_=>exact⟨6,by omega,rfl⟩
 | 5,_=>exact⟨7,by omega,rfl⟩
 | 6,_=>exact⟨5,by omega,rfl⟩
 | 7,_=>exact⟨6,by omega,rfl⟩
theorem Aq:FnScope ["_law_left_here", "_law_way"] ["_law_left_here"] (B5 s_law_size):=fsc
def Za:Sp:=fun vs H Q _=>∃(p:Addr) (c:Int),vs = [.ref p]/\LeftAt H p c/\c<=900000 /\
 ∀(n:Nat) H',n<=10->Sm [p] H H'->LeftAt H' p (c+3)->Q (.int (n:Int)) H'
theorem Jh(T:Tx K mg):FnOk P w K mg base CX0 3 T.a6.f T.a6.fd ["_law_left_here"] Za:=by
 have G_law_pick:=V7 (P:=P) (w:=w) (base:=base) T;have sc:=Aq;refine T.a6.F.ok Aq (fun vs H Q E h=>?_) (fun cdv A outer s H vs Q E hr h=>?_)
 .obtain⟨p,c,rfl,_⟩:=h;rfl
 .obtain⟨p,c,rfl,hL,c1,q⟩:=h;refine⟨_,(B3 (C5 (i:=1) sc.nd rfl (.inl rfl) (C7 T.al G_law_pick (Rm hr) (A8 (pv 0) (A8 B8 B2))))
   (@B4 _ _ _ (@B9 _ _ _ _ (@Q0 _ _ _ _ _ _ _ (ixL K) (@S6 _ _ _ _ (@A8 _ _ _ _ _ (E8 Z8 B8 (C7 T.al G_law_pick (Rm hr) (A8 (pv 0) (A8 B8 B2)))) (@A8 _ _ _ _ _ (C7 T.al G_law_pick (Rm hr) (A8 (pv 0) (A8 B8 B2))) (@A8 _ _ _ _ _ B8 (@A8 _ _ _ _ _ B8 (@A8 _ _ _ _ _ B8 (@A8 _ _ _ _ _ B8 (@A8 _ _ _ _ _ B8 (@A8 _ _ _ _ _ B8 B2 (by rfl)) (by rfl)) (by rfl)) (by rfl)) (by rfl)) (by rfl)) (by rfl)) (by rfl))) (pv 1) (fun _ _=>rfl))))),?_⟩
  refine ex1 rfl (Eh (a:=p) rfl hL (by omega) (by decide) (by decide) fun d H1 hd k1 L1=>?_);refine ex1 rfl (Eh (a:=p) rfl L1 (by omega) (by decide) (by decide) fun d1 H2 hd1 k2 L2=>?_);refine C4 rfl rfl ?_;refine ex1 rfl (Eh (a:=p) rfl L2 (by omega) (by decide) (by decide) fun d2 H3 hd2 k3 L3=>?_);refine⟨by show 8<=sizeLine;decide,fun l hl=>?_⟩;obtain⟨n,hn,e⟩:=zBq d1 d2 d (by omega) (by omega) (by omega);have e3:=L3.get;refine ex1 rfl ⟨l,_,C4 rfl rfl ⟨SqL.of A9,e,?_⟩⟩;exact q n _ hn (((k1.trans k2).trans k3).new hl) ((L3.cast (by omega)).upd (B0 e3 hl))
theorem LeftAt.ne{H:Hp}{p n:Addr}{c:Int}{ss:List Str}(h:LeftAt H p c)(hn:H n=some (.lst (ss.map V.str))):n≠p:=by
 rintro rfl;obtain⟨a,b,e,_⟩:=h;rw[hn]at e;cases ss with
 | nil=>cases e
 | cons x r=>cases e
theorem Uu(d:Nat)(h:d<4):∃n:Nat,0<n/\n<=9/\atI [V.int 4,V.int 6,V.int 9,V.int 3] (d:Int)=some (.int (n:Int)):=by
 suffices ∃n:Nat,0<n/\n<=9/\[V.int 4,V.int 6,V.int 9,V.int 3][d]?=some (.int (n:Int)) by
  obtain⟨n,h1,h2,e⟩:=this;exact⟨n,h1,h2,Iy e⟩
 match d,h with
 | 0,_=>exact⟨4,by omega,by omega,rfl⟩
 | 1,_=>exact⟨6,by omega,by omega,rfl⟩
 | 2,_=>exact⟨9,by omega,by omega,rfl⟩
 | 3,_=>exact⟨3,by omega,by omega,rfl⟩
theorem V1:FnScope ["_law_left_here", "_law_names_here", "_law_found", "_law_often", "_law_one", "_law_other"] ["_law_left_here", "_law_names_here"] (B5 s_law_strikes):=fsc
def Nm(K:PySem.W.Frag):Sp:=fun vs H Q _=>∃(p n:Addr) (c:Int) (ss:List Str),vs = [.ref p,.ref n]/\LeftAt H p c/\c<=900000/\H n=some (.lst (ss.map V.str))/\V8 ss/\ss.length<=10 /\
 ∀l (ps:List PA2) c' H',H l=none->Sm [p] H H'->H' l=some (.lst (P1 ps))->(∀q∈ps,G9 H' q)->StrkOk ss ps->c'<=c+1000->LeftAt H' p c'->Q (.ref l) H'
def SI(H:Hp)(p f:Addr)(ss:List Str)(b:Int)(H1:Hp):Prop:=Sm [p] H H1/\(∃c',c'<=b/\LeftAt H1 p c')/\∃ps,FL H1 f ps ss
set_option maxHeartbeats 4000000 in
theorem Ca(T:Tx K mg):FnOk P w K mg base CX0 3 T.aP.f T.aP.fd ["_law_left_here", "_law_names_here"] (Nm K):=by
 have G_law_pick:=V7 (P:=P) (w:=w) (base:=base) T;have sc:=V1;refine T.aP.F.ok V1 (fun vs H Q E h=>?_) (fun cdv A outer s H vs Q E hr h=>?_)
 .obtain⟨p,n,c,ss,rfl,_⟩:=h;rfl
 .obtain⟨p,n,c,ss,rfl,hL,c1,hn,hN,hlen,q⟩:=h;obtain⟨a0,b0,e0,c0⟩:=id hL;refine⟨_,(B3 (C5 (i:=2) sc.nd rfl (.inl rfl) (S6 B2))
   (B3 (C5 (i:=3) sc.nd rfl (.inl rfl) (Q0 (ixL K) (S6 (A8 B8 (A8 B8 (A8 B8 (A8 B8 B2))))) (C7 T.al G_law_pick (Rm hr) (A8 (pv 0) (A8 B8 B2))) (fun _ _=>rfl)))
   (B3 (f9 PassesOwn.never rfl (piL K (pv 1)) (J2 (i:=4) sc.nd rfl (.inl rfl))
   (B3 (f9 PassesOwn.never rfl (piL K (pv 1)) (J2 (i:=5) sc.nd rfl (.inl rfl))
   (B4 (K4 (PW.pt (Ey (C6 zBg (pv 4) (pv 5) (D8 _)) (Ey (C6 T0 (C7 T.al G_law_pick (Rm hr) (A8 (pv 0) (A8 (pv 3) B2))) B8 (D8 _)) (Df (C6 (w5 K hr.units) (M7 (A8 (pv 4) (A8 (pv 5) B2))) (pv 2) rfl))))) (B3 (E9 (Nl K PySem.F.plainAttrs_list PySem.F.slot_list_insert PySem.F.type_list_insert Qe (pv 2) (A8 (C7 T.al G_law_pick (Rm hr) (A8 (pv 0) (A8 (E8 Z8 (E5 (Ad K) T.aT o7 (A8 (pv 2) B2)) B8) B2))) (A8 (M7 (A8 (pv 4) (A8 (pv 5) B2))) B2))))
   (B4 (K4 (PW.pt (Ey (C6 T0 (C7 T.al G_law_pick (Rm hr) (A8 (pv 0) (A8 B8 B2))) B8 (D8 _)) (Df (C6 (w5 K hr.units) (M7 (A8 (pv 5) (A8 (pv 4) B2))) (pv 2) rfl)))) (B4 (E9 (Nl K PySem.F.plainAttrs_list PySem.F.slot_list_append PySem.F.type_list_append J8 (pv 2) (A8 (M7 (A8 (pv 5) (A8 (pv 4) B2))) B2)))) D0))) D0)))
   (B4 (K4 (PW.pt (Ey (C6 T0 (C7 T.al G_law_pick (Rm hr) (A8 (pv 0) (A8 B8 B2))) B8 (D8 _)) (Df (C6 (w5 K hr.units) (M7 (A8 (pv 4) (A8 (pv 4) B2))) (pv 2) rfl)))) (B4 (E9 (Nl K PySem.F.plainAttrs_list PySem.F.slot_list_append PySem.F.type_list_append J8 (pv 2) (A8 (M7 (A8 (pv 4) (A8 (pv 4) B2))) B2)))) D0))))
   (B4 (B9 (pv 2)))))),?_⟩
  refine⟨CC _,fun f hf=>?_⟩;have npf:p≠f:=B0 e0 hf;have nnf:n≠f:=B0 hn hf;have nnp:n≠p:=hL.ne hn;have nnD:n∉[p]:=by simpa using nnp
  have nm:∀x∈ss,PySem.PyData.strOk x=true:=fun x hx=>Di (hN.1 x hx);refine⟨by show 4<=sizeLine;decide,fun t ht=>?_⟩;have s1:Same H (upd (upd H f (.lst [])) t (.lst [.int 4,.int 6,.int 9,.int 3])):=(Same.new hf).trans (Same.new ht);have ef:(upd (upd H f (.lst [])) t (.lst [.int 4,.int 6,.int 9,.int 3])) f=some (.lst []):=by rw[B6 (B0 A9 ht),A9]
  refine ex1 rfl (Eh (a:=p) (b:=c) rfl (hL.same s1) (by omega) (by decide) (by decide) fun d H1 hd k1 L1=>?_);obtain⟨often,o1,o2,eo⟩:=Uu d (by omega);have hpt:p≠t:=B0 ((Same.new hf) _ _ e0) ht;refine⟨t,_,C4 rfl rfl ⟨SqL.of (Sm1 k1 A9 hpt.symm),eo,?_⟩⟩;have i0:SI H p f ss (c+1) H1:=⟨s1.sm.trans k1,⟨_,Int.le_refl _,L1⟩,[],Sm1 k1 ef npf.symm,by simp,by simp,by simp⟩;have hseq:∀{H1 b},SI H p f ss b H1->SqL K H1 n (ss.map V.str):=fun h=>(h.1.at nnD).seqL (SqL.of hn);refine ex1 rfl ⟨n,rfl,⟨_,hseq i0⟩,?_⟩;refine Am (asL (K:=K) (SqL.of hn)) (fun i σ H1=>(∃v4 v5,σ = [some (.ref p),some (.ref n),some (.ref f),some (.int (often:Int)),v4,v5])/\SI H p f ss (c+1+31*i) H1) ?_ ?_ ?_ ?_
  .exact⟨⟨_,_,rfl⟩,by simpa using i0⟩
  .rintro i σ H1 hi ⟨_,h1⟩;exact h1.1.at nnD
  .rintro i σ H1 x hx ⟨⟨v4,v5,rfl⟩,h1⟩ D1 hD1 _;rw[AI]at hx;obtain⟨one,ho,rfl⟩:∃y,ss[i]?=some y/\V.str y=x:=by
    cases e:ss[i]? with
    | none=>rw[e]at hx;cases hx
    | some y=>rw[e]at hx;exact⟨y,rfl,by injection hx⟩
   have hone:one∈ss:=AV ho;have hi:i<ss.length:=(AG.mp ho).1;refine ex1 rfl ⟨n,rfl,⟨_,hseq h1⟩,?_⟩;refine Am (asL (K:=K) (SqL.of hn)) (fun j σ H1=>(∃v5,σ = [some (.ref p),some (.ref n),some (.ref f),some (.int (often:Int)),some (.str one),v5])/\SI H p f ss (c+1+31*i+3*j) H1) ?_ ?_ ?_ ?_
   .exact⟨⟨_,rfl⟩,by simpa using h1⟩
   .rintro i σ H1 hi ⟨_,h1⟩;exact h1.1.at nnD
   .rintro j σ H1 x hx ⟨⟨v5,rfl⟩,h1⟩ D2 hD2 _;rw[AI]at hx;obtain⟨oth,ho,rfl⟩:∃y,ss[j]?=some y/\V.str y=x:=by
     cases e:ss[j]? with
     | none=>rw[e]at hx;cases hx
     | some y=>rw[e]at hx;exact⟨y,rfl,by injection hx⟩
    have hoth:oth∈ss:=AV ho;have hj:j<ss.length:=(AG.mp ho).1;obtain⟨k1,⟨c',hc',L1⟩,ps,F1⟩:=h1;have done:∀{H2 c2 ps2},Sm [p] H H2->c2<=c'+3->LeftAt H2 p c2->FL H2 f ps2 ss->SI H p f ss (c+1+31*i+3 *((j+1:Nat):Int)) H2:=fun{H2 c2 ps2} a b d e=>⟨a,⟨c2,by omega,d⟩,ps2,e⟩;refine ex1 rfl (ex1 rfl ⟨rfl,ex1 rfl ?_⟩);refine U0 (fun h1=>?_) (fun h1=>X0 (hD2 _ _ ⟨⟨_,rfl⟩,done k1 (by omega) L1 F1⟩));refine ex1 rfl (ex1 rfl (Eh (a:=p) (b:=c') rfl L1 (by omega) (by omega) (by omega) fun d1 H2 hd1 k2 L2=>⟨rfl,_,rfl,?_⟩));have F2:=F1.sm L1 npf.symm k2;refine U0 (fun h2=>?_) (fun h2=>X0 (hD2 _ _ ⟨⟨_,rfl⟩,done (k1.trans k2) (by omega) L2 F2⟩));refine ex1 rfl (ex1 rfl ⟨by show 2<=sizeLine;decide,fun t2 ht2=>?_⟩);have F3:=F2.new (o:=.tup [.str one,.str oth]) ht2;have e2:=L2.get;have L3:=L2.upd (o:=.tup [.str one,.str oth]) (B0 e2 ht2);have k3:=(k1.trans k2).new (o:=.tup [.str one,.str oth]) ht2;refine ex1 rfl (i8 (k:=(one,oth)) A9 F3.at_ F3.pin ⟨nm _ hone,nm _ hoth⟩ (fun q hq=>⟨nm _ (F3.nm q hq).1,nm _ (F3.nm q hq).2⟩) ⟨_,rfl,?_⟩);refine U0 (fun h3=>?_) (fun h3=>hD2 _ _ ⟨⟨_,rfl⟩,done k3 (by omega) L3 F3⟩);have h3':(one,oth)∉ps.map fun q=>q.2:=by simpa using h3
    have lps:=F3.len;have lps':ps.length<=100:=Nat.le_trans lps (Nat.mul_le_mul hlen hlen);have rl:(P1 ps).length=ps.length:=by unfold P1;rw[AA]
    refine ex1 rfl ⟨.inl ⟨rfl,_,SqL.of F3.at_⟩,ex1 rfl (ex1 rfl (C4 (a:=f) rfl (.inl (SqL.of F3.at_)) (C4 rfl rfl (Eh (a:=p) (b:=c'+1) rfl L3 (by omega) (by omega) (by omega) fun d2 H4 hd2 k4 L4=>?_))))⟩;have F4:=F3.sm L3 npf.symm k4;refine ex1 rfl (ex1 rfl ⟨by show 2<=sizeLine;decide,fun t3 ht3=>?_⟩);have F5:=F4.new (o:=.tup [.str one,.str oth]) ht3;have e4:=L4.get;have L5:=L4.upd (o:=.tup [.str one,.str oth]) (B0 e4 ht3);have k5:=(k3.trans k4).new (o:=.tup [.str one,.str oth]) ht3;refine⟨f,_,_,d2,ex1 rfl ⟨rfl,rfl,F5.at_,by omega,by rw[sizeLine_eq];omega,?_⟩⟩;have F6:=F5.put d2 A9 hone hoth h3';have L6:=L5.upd (o:=.lst ((P1 ps).take d2++V.ref t3 ::(P1 ps).drop d2)) npf;have k6:=k5.updN (o:=.lst ((P1 ps).take d2++V.ref t3 ::(P1 ps).drop d2)) hf;generalize hps:ps.take d2 ++(t3,one,oth)::ps.drop d2=ps' at F6;refine ex1 rfl (Eh (a:=p) rfl L6 (by omega) (by decide) (by decide) fun d3 H7 hd3 k7 L7=>⟨rfl,_,rfl,?_⟩);have F7:=F6.sm L6 npf.symm k7;refine U0 (fun h4=>?_) (fun h4=>X0 (hD2 _ _ ⟨⟨_,rfl⟩,done (k6.trans k7) (by omega) L7 F7⟩));refine ex1 rfl (ex1 rfl ⟨by show 2<=sizeLine;decide,fun t4 ht4=>?_⟩);have F8:=F7.new (o:=.tup [.str oth,.str one]) ht4;have e7:=L7.get;have L8:=L7.upd (o:=.tup [.str oth,.str one]) (B0 e7 ht4);have k8:=(k6.trans k7).new (o:=.tup [.str oth,.str one]) ht4;refine ex1 rfl (i8 (k:=(oth,one)) A9 F8.at_ F8.pin ⟨nm _ hoth,nm _ hone⟩ (fun q hq=>⟨nm _ (F8.nm q hq).1,nm _ (F8.nm q hq).2⟩) ⟨_,rfl,?_⟩);refine U0 (fun h5=>?_) (fun h5=>hD2 _ _ ⟨⟨_,rfl⟩,done k8 (by omega) L8 F8⟩);have h5':(oth,one)∉ps'.map fun q=>q.2:=by simpa using h5
    have lps:=F8.len;have lps':ps'.length<=100:=Nat.le_trans lps (Nat.mul_le_mul hlen hlen);have rl:(P1 ps').length=ps'.length:=by unfold P1;rw[AA]
    refine ex1 rfl ⟨.inl ⟨rfl,_,SqL.of F8.at_⟩,ex1 rfl (ex1 rfl ⟨by show 2<=sizeLine;decide,fun t5 ht5=>?_⟩)⟩;have F9:=F8.new (o:=.tup [.str oth,.str one]) ht5;have e8:=L8.get;have L9:=L8.upd (o:=.tup [.str oth,.str one]) (B0 e8 ht5);have k9:=k8.new (o:=.tup [.str oth,.str one]) ht5;refine⟨f,C4 rfl rfl ⟨F9.at_,by rw[sizeLine_eq];omega,hD2 _ _ ⟨⟨_,rfl⟩,done (k9.updN hf) (by omega) (L9.upd npf) (F9.app A9 hoth hone h5')⟩⟩⟩
   .rintro σ H1 ⟨⟨v5,rfl⟩,k1,⟨c',hc',L1⟩,ps,F1⟩;simp only[AA]at hc';have done:∀{H2 c2 ps2},Sm [p] H H2->c2<=c'+1->LeftAt H2 p c2->FL H2 f ps2 ss->SI H p f ss (c+1+31 *((i+1:Nat):Int)) H2:=fun{H2 c2 ps2} a b d e=>⟨a,⟨c2,by omega,d⟩,ps2,e⟩;refine ex1 rfl (Eh (a:=p) (b:=c') rfl L1 (by omega) (by decide) (by decide) fun d3 H7 hd3 k7 L7=>⟨rfl,_,rfl,?_⟩);have F7:=F1.sm L1 npf.symm k7;refine U0 (fun h4=>?_) (fun h4=>X0 (hD1 _ _ ⟨⟨_,_,rfl⟩,done (k1.trans k7) (by omega) L7 F7⟩));refine ex1 rfl (ex1 rfl ⟨by show 2<=sizeLine;decide,fun t4 ht4=>?_⟩);have F8:=F7.new (o:=.tup [.str one,.str one]) ht4;have e7:=L7.get;have L8:=L7.upd (o:=.tup [.str one,.str one]) (B0 e7 ht4);have k8:=(k1.trans k7).new (o:=.tup [.str one,.str one]) ht4;refine ex1 rfl (i8 (k:=(one,one)) A9 F8.at_ F8.pin ⟨nm _ hone,nm _ hone⟩ (fun q hq=>⟨nm _ (F8.nm q hq).1,nm _ (F8.nm q hq).2⟩) ⟨_,rfl,?_⟩);refine U0 (fun h5=>?_) (fun h5=>hD1 _ _ ⟨⟨_,_,rfl⟩,done k8 (by omega) L8 F8⟩);have h5':(one,one)∉ps.map fun q=>q.2:=by simpa using h5
    have lps:=F8.len;have lps':ps.length<=100:=Nat.le_trans lps (Nat.mul_le_mul hlen hlen);have rl:(P1 ps).length=ps.length:=by unfold P1;rw[AA]
    refine ex1 rfl ⟨.inl ⟨rfl,_,SqL.of F8.at_⟩,ex1 rfl (ex1 rfl ⟨by show 2<=sizeLine;decide,fun t5 ht5=>?_⟩)⟩;have F9:=F8.new (o:=.tup [.str one,.str one]) ht5;have e8:=L8.get;have L9:=L8.upd (o:=.tup [.str one,.str one]) (B0 e8 ht5);have k9:=k8.new (o:=.tup [.str one,.str one]) ht5;refine⟨f,C4 rfl rfl ⟨F9.at_,by rw[sizeLine_eq];omega,hD1 _ _ ⟨⟨_,_,rfl⟩,done (k9.updN hf) (by omega) (L9.upd npf) (F9.app A9 hone hone h5')⟩⟩⟩
  .rintro σ H1 ⟨⟨v4,v5,rfl⟩,k1,⟨c',hc',L1⟩,ps,F1⟩;simp only[AA]at hc';have lps:=F1.len;have lps':ps.length<=100:=Nat.le_trans lps (Nat.mul_le_mul hlen hlen);exact⟨_,rfl,q f ps c' H1 hf k1 F1.at_ F1.pin ⟨F1.nm,F1.nd,by omega⟩ (by omega) L1⟩
end
theorem bor(x y:Nat):Builtin.bitOr (x:Int) (y:Int) =((x ||| y:Nat):Int):=by
 have h1:¬0<=Builtin.bitNot (x:Int):=by unfold Builtin.bitNot;omega
 have h2:¬0<=Builtin.bitNot (y:Int):=by unfold Builtin.bitNot;omega
 have h3:∀z:Int,Builtin.bitNot (Builtin.bitNot z)=z:=fun z=>by unfold Builtin.bitNot;omega
 rw[Builtin.bitOr,PyProof.Rows.bitAnd_nn h1 h2,h3,h3,h3];rfl
theorem zFk(x y:Nat):Builtin.bitAnd (x:Int) (y:Int) =((x &&& y:Nat):Int):=by simp[Builtin.bitAnd]
theorem zIq(k:Nat):(1:Int)*2 ^((k:Int).toNat) =((2^k:Nat):Int):=by rw[Int.one_mul,EW,Int.natCast_pow];rfl
def P0(m:Nat):V:=.int (m:Int)
structure MB(ns:List Str)(ks:List (Str×Str))(B:List Nat):Prop where
 len:B.length=ns.length
 bit:∀i j,(B.getD i 0).testBit j=true↔∃k∈ks,ns[i]?=some k.1/\ns[j]?=some k.2
theorem My{α:Type}{l:List α}(h:l.Nodup){i j:Nat}{x:α}(hi:l[i]?=some x)(hj:l[j]?=some x):i=j:=by
 obtain⟨a,e⟩:=AG.mp hi;obtain⟨b,e'⟩:=AG.mp hj;exact(List.getElem_inj h).mp (e.trans e'.symm)
theorem Lc{x y:Str}(h:x.cps.toList=y.cps.toList):x=y:=by
 cases x;cases y;exact congrArg Str.mk (HS.mp h)
theorem Wp{x y:Str}(h1:leS x y)(h2:leS y x):x=y:=Lc (HR (as:=x.cps.toList) (bs:=y.cps.toList) h1 h2)
theorem O3{a b:List Str}(h1:a.Pairwise leS)(h2:b.Pairwise leS)(h:a.Perm b):a=b:=List.Perm.eq_of_pairwise (fun _ _ _ _=>Wp) h1 h2 h
def leK(k l:Str×Str):Prop:=leP (0,k) (0,l)
theorem Ux{k l:Str×Str}(h1:leK k l)(h2:leK l k):k=l:=by
 have h1:¬TS.pairLt (Ow (0,l)) (Ow (0,k))=true:=fun z=>by rw[show TS.pairLt (Ow (0,l)) (Ow (0,k))=false from h1]at z;cases z
 have h2:¬TS.pairLt (Ow (0,k)) (Ow (0,l))=true:=fun z=>by rw[show TS.pairLt (Ow (0,k)) (Ow (0,l))=false from h2]at z;cases z
 rw[TS.pairLt_iff]at h1 h2;have e1:k.1.cps.toList=l.1.cps.toList:=HR (as:=k.1.cps.toList) (bs:=l.1.cps.toList) (fun z=>h1 (.inl z)) (fun z=>h2 (.inl z));have e2:k.2.cps.toList=l.2.cps.toList:=HR (as:=k.2.cps.toList) (bs:=l.2.cps.toList) (fun z=>h1 (.inr ⟨e1.symm,z⟩)) (fun z=>h2 (.inr ⟨e1,z⟩));exact Prod.ext (Lc e1) (Lc e2)
def Fr(ns:List Str)(m i:Nat):List Str:=(List.range i).filterMap fun k=>if m.testBit k=true then ns[k]? else none
def setOf(ns:List Str)(m:Nat):List Str:=Fr ns m ns.length
theorem j7{ns:List Str}{m i:Nat}{x:Str}(h:ns[i]?=some x):Fr ns m (i+1)=Fr ns m i++if m.testBit i=true then [x]else []:=by
 unfold Fr;rw[EI,List.filterMap_append];congr 1;by_cases e:m.testBit i=true
 .rw[AR e];simp[e,h]
 .rw[AM e];simp[e]
theorem mem_setOf{ns:List Str}{m:Nat}{x:Str}:x∈setOf ns m↔∃k,m.testBit k=true/\ns[k]?=some x:=by
 unfold setOf Fr;rw[List.mem_filterMap];constructor
 .rintro⟨k,hk,e⟩;by_cases h:m.testBit k=true
  .rw[AR h]at e;exact⟨k,h,e⟩
  .rw[AM h]at e;cases e
 .rintro⟨k,h,e⟩;exact⟨k,B_.mpr (AG.mp e).1,by rw[AR h];exact e⟩
theorem Bf(ns:List Str)(m:Nat):∀i,i<=ns.length->(Fr ns m i).Sublist (ns.take i)
 | 0,_=>by simp[Fr]
 | i+1,h=>by
  have hi:ns[i]?=some ns[i]:=AH (by omega);rw[j7 hi,take_succ hi];refine(Bf ns m i (by omega)).append ?_;by_cases e:m.testBit i=true
  .rw[AR e];exact List.Sublist.refl _
  .rw[AM e];exact List.nil_sublist _
theorem Ab(ns:List Str)(m:Nat):(setOf ns m).Sublist ns:=by
 have:=Bf ns m ns.length (Nat.le_refl _)
 rwa [BN]at this
def Ke(B:List Nat)(m j:Nat):Prop:=∃k,m.testBit k=true/\(B.getD k 0).testBit j=true
def Eu(n:Nat)(A B:List Nat)(m j:Nat):Prop:=j<n/\∀b,(A.getD j 0).testBit b=true->Ke B m b
def Ql(B:List Nat)(m:Nat):Prop:=∀i j,m.testBit i=true->m.testBit j=true->¬(B.getD i 0).testBit j=true
theorem Av(d k j:Nat):(d ||| 2^k).testBit j=true↔d.testBit j=true\/j=k:=by
 rw[DK,EB,FR,BS];exact⟨fun h=>h.imp id Eq.symm,fun h=>h.imp id Eq.symm⟩
def sd(ss:List Str):PyData:=.list (ss.map PyData.str)
theorem Kr{K:PySem.W.Frag}{H:Hp}:∀ss:List Str,Rps K H (ss.map PyData.str) (ss.map V.str)
 | []=>by simp[Rps]
 | x::r=>by
  simp only[BA,Rps,Rp];exact⟨_,_,rfl,rfl,Kr r⟩
theorem M0{K:PySem.W.Frag}{H:Hp}{l:Addr}{ss:List Str}(h:SqL K H l (ss.map V.str)):Rp K H (sd ss) (.ref l):=by
 unfold sd;simp only[Rp];exact⟨l,_,rfl,h,Kr ss⟩
theorem g9:∀ss:List Str,PyData.depthAll (ss.map PyData.str)<=1
 | []=>by simp[PyData.depthAll]
 | x::r=>by
  have:=g9 r;simp only[BA,PyData.depthAll,PyData.depth];omega
theorem Ay:∀ps:List PA2,PyData.depthAll (ps.map fun q=>pd q.2)<=3
 | []=>by simp[PyData.depthAll]
 | x::r=>by
  have:=Ay r;have e:(pd x.2).depth<=3:=by simp[pd,PyData.depth,PyData.depthAll]
  rw[BA,PyData.depthAll];omega
theorem Mv:∀{ss:List Str},(∀x∈ss,PySem.PyData.strOk x=true)->PyData.canLayAll0 (ss.map PyData.str)=true
 | [],_=>rfl
 | x::r,h=>by
  rw[BA,PyData.canLayAll0,Mv fun z hz=>h z (AU _ hz)];simp[PyData.canLay0,h x (BE ..)]
theorem T7{ss:List Str}(h:∀x∈ss,K8 x=true):Pl (sd ss):=by
 refine⟨?_,?_⟩
 .unfold sd;rw[PyData.canLay0];exact Mv fun x hx=>Di (h x hx)
 .unfold sd;rw[PyData.depth];have:=g9 ss;omega
theorem Dl{K:PySem.W.Frag}{x y:V}{d:PyData}{H:Hp}{Q:VK}(h1:Rp K H d x)(h2:Rp K H d y)(p:Pl d)(q:Q (.bl false) H):zGh K x y H Q :=
 ⟨d,d,h1,h2,p,p,by rw[PySem.SeqAt.eqv_refl d p.1];exact q⟩
theorem zAc{K:PySem.W.Frag}{x y:V}{d:PyData}{H:Hp}{Q:VK}(h1:Rp K H d x)(h2:Rp K H d y)(p:Pl d)(q:Q (.bl true) H):zHd K x y H Q :=
 ⟨d,d,h1,h2,p,p,by rw[PySem.SeqAt.eqv_refl d p.1];exact q⟩
def Zj(qs:List PA2)(ss:List Str)(n:Str):Prop:=∀x,Y4 qs x n->∃m∈ss,Y4 qs m x
def Nj(K:PySem.W.Frag)(C:Addr):Sp:=fun vs H Q _=>∃(x a:Addr) (ss ns:List Str) (qs:List PA2),vs = [.ref x,.ref a]/\WebAt C H x ns qs/\Sqs K H a (ss.map V.str)/\(∀n∈ss,n∈ns)/\ss.length<=100 /\
 ∀l (f:Str->Bool) H',H l=none->Same H H'->(∀n∈ns,f n=true↔Zj qs ss n)->H' l=some (.lst ((ns.filter f).map V.str))->Q (.ref l) H'
section
variable{P:Program}{w:World}{K:PySem.W.Frag}{mg:Str->Option Value}{base:Heap}
theorem Cb:FnScope ["web", "some", "hit"] ["web", "some"] (B5 s_kept_by):=fsc
theorem Nz(T:Tx K mg):FnOk P w K mg base CX0 4 T.bd.f T.bd.fd ["web", "some"] (Nj K T.ab):=by
 have G_struck_by_any:=J9 (P:=P) (w:=w) (base:=base) T;have G_Web_all_names:=J0 (P:=P) (w:=w) (base:=base) T;have G_Web_strikers:=G8 (P:=P) (w:=w) (base:=base) T;have sc:=Cb;refine T.bd.F.ok Cb (fun vs H Q E h=>?_) (fun cdv A outer s H vs Q E hr h=>?_)
 .obtain⟨x,a,ss,ns,qs,rfl,_⟩:=h;rfl
 .obtain⟨x,a,ss,ns,qs,rfl,hW,hS,hM,hl,k⟩:=h;refine⟨_,(B3 (C5 (i:=2) sc.nd rfl (.inr rfl) (C7 T.an G_struck_by_any (Rm hr) (A8 (pv 0) (A8 (pv 1) B2))))
   (B4 (B9 (J7 (N':=["name", "hit", "web"]) (cap:=[none,some 2,some 0]) (cl:=[("web",_),("hit",_)]) (E7 ⟨⟨rfl,rfl,rfl,rfl⟩,⟨⟨rfl,rfl,rfl,rfl⟩,trivial⟩⟩ ⟨rfl,⟨rfl,trivial⟩⟩) rfl (piL K (Y1 (pv 0) T.ag T.ae.m G_Web_all_names (Rm hr) T.ae.b .nil K0)) (fun _ _ _ _=>by exact⟨(pgC 0),(O8 (K6 (E5 (Q9 K) T.av Q7 (A8 (J7 (N':=["striker", "hit"]) (cap:=[none,some 1]) (cl:=[("hit",_)]) (E7 ⟨⟨rfl,rfl,rfl,rfl⟩,trivial⟩ ⟨rfl,trivial⟩) rfl (piL K (G7 (pv 2) T.ag T.ad.m G_Web_strikers (Rm hr) T.ad.b .nil K0 (A8 (pv 0) B2))) (fun _ _ _ _=>by exact⟨(pgC 0),C3,(E4 (By K) (pv 0) (pv 1) rfl)⟩)) B2)))),(pv 0)⟩))))),?_⟩
  refine ex1 rfl (ex1 rfl (Pm (a:=x) (b:=a) (c:=ss) (d:=ns) (e:=qs) rfl hW hS hM fun l hs H1 hl0 s1 e1 m1 _ _ _=>?_));dsimp only[Vx,Ul,J5,Xl,tCB,T6,Kv];have W1:=hW.same s1;obtain⟨ok,dx,a1,b,c,d,kc,kd,e2,_⟩:=id W1;refine ex1 rfl ⟨x,dx,ex1 rfl ⟨e2,rfl,x,ns,qs,rfl,W1,fun l2 hl2=>?_⟩⟩;have s2:=Same.new (o:=.lst (ns.map V.str)) hl2;have f2:(upd H1 l2 (.lst (ns.map V.str))) l2=some (.lst (ns.map V.str)):=A9;generalize upd H1 l2 (.lst (ns.map V.str))=H2 at s2 f2⊢;refine⟨l2,rfl,⟨_,SqL.of f2⟩,fun D hD=>?_⟩;have hlen:=ok.len;refine G0 (asL (K:=K) (SqL.of f2)) (fun i σ H3=>(∃v0,σ = [v0,some (.ref l),some (.ref x)])/\Same H2 H3/\H3 D=some (.lst (((ns.take i).filter fun n=>(B1 qs n).all fun y=>decide (y∈hs)).map V.str)))
   ⟨⟨_,rfl⟩,Same.new hD,A9⟩ (fun i σ H1 _ ⟨_,s1,_⟩=>s1.at l2) ?_ ?_
  .rintro i σ H3 v N hx ⟨⟨v0,rfl⟩,s3,e3⟩ hN;rw[AI]at hx;cases hy:ns[i]? with
   | none=>rw[hy]at hx;cases hx
   | some n =>
    rw[hy]at hx;cases hx;have hn:n∈ns:=AV hy;have W3:=(W1.same s2).same s3;refine ex1 rfl ⟨x,dx,ex1 rfl ⟨s3 _ _ (s2 _ _ e2),rfl,ex1 rfl ⟨x,n,ns,qs,rfl,W3,hn,fun p hp=>?_⟩⟩⟩;have s4:=Same.new (o:=.lst ((B1 qs n).map V.str)) hp;have f4:(upd H3 p (.lst ((B1 qs n).map V.str))) p=some (.lst ((B1 qs n).map V.str)):=A9;generalize upd H3 p (.lst ((B1 qs n).map V.str))=H4 at s4 f4⊢;have hDp:D≠p:=B0 e3 hp;have e4:=s4 _ _ e3;have hit4:=s4 _ _ (s3 _ _ (s2 _ _ e1));refine⟨p,rfl,⟨_,SqL.of f4⟩,fun D2 hD2=>?_⟩;have s24:Same H2 H4:=s3.trans s4;refine G0 (asL (K:=K) (SqL.of f4)) (fun j σ H5=>(∃v0,σ = [v0,some (.ref l)])/\Same H4 H5/\H5 D2=some (.lst (((B1 qs n).take j).map fun y=>V.bl (decide (y∈hs)))))
     ⟨⟨_,rfl⟩,Same.new hD2,A9⟩ (fun j σ H5 _ ⟨_,s5,_⟩=>s5.at p) ?_ ?_
    .rintro j σ H5 v N' hx ⟨⟨v0,rfl⟩,s5,e5⟩ hN';rw[AI]at hx;cases hz:(B1 qs n)[j]? with
     | none=>rw[hz]at hx;cases hx
     | some y =>
      rw[hz]at hx;cases hx;refine M9 ?_;have hj:=(AG.mp hz).1;have:=V2 qs n;have:=ok.lenq;refine ex1 rfl (ex1 rfl (T2 (.inl (SqL.of (s5 _ _ hit4))) ⟨_,e5,?_,hN' _ _ ⟨⟨_,rfl⟩,s5.upd hD2,?_⟩⟩))
      .rw[AA,AN,sizeLine_eq];omega
      .rw[A9,take_succ hz,AK];rfl
    .rintro σ H5 ⟨_,s5,e5⟩;rw[AA,BN]at e5;refine⟨D2,(B1 qs n).map fun y=>decide (y∈hs),rfl,SqL.of (by rw[e5,AY];rfl),ex1 rfl ?_⟩;rw[FM];have e6:=s5 _ _ e4;have hi:=(AG.mp hy).1;have hf:((ns.take (i+1)).filter fun n=>(B1 qs n).all fun y=>decide (y∈hs)) =((ns.take i).filter fun n=>(B1 qs n).all fun y=>decide (y∈hs)) ++(if((B1 qs n).all fun y=>decide (y∈hs))=true then [n]else []):=by
      rw[take_succ hy,DM,CT,FF]
     refine U0 (fun c=>?_) (fun c=>?_)
     .refine ex1 rfl ⟨_,e6,?_,hN _ _ ⟨⟨_,rfl⟩,(s3.trans (s4.trans s5)).upd hD,?_⟩⟩
      .rw[AA,sizeLine_eq];have:=(CN (l:=ns.take i) (p:=fun n=>(B1 qs n).all fun y=>decide (y∈hs))).length_le;rw[AN]at this;omega
      .rw[A9,hf,AR (show((B1 qs n).all fun y=>decide (y∈hs))=true from c),AK];rfl
     .refine hN _ _ ⟨⟨_,rfl⟩,s3.trans (s4.trans s5),?_⟩;rw[hf,AM (show ¬((B1 qs n).all fun y=>decide (y∈hs))=true from c),DB];exact e6
  .rintro σ H3 ⟨_,s3,e3⟩;rw[AA,BN]at e3;refine k D _ H3 ((s1.trans s2).free hD) ((s1.trans s2).trans s3) (fun n hn=>?_) e3;rw[BU];constructor
   .intro h y hy;obtain⟨m,hm,h'⟩:=(m1 y).mp (AZ (h y (strk_strikers.mpr hy)));exact⟨m,hm,strk_struck.mp h'⟩
   .intro h y hy;obtain⟨m,hm,h'⟩:=h y (strk_strikers.mp hy);exact AJ ((m1 y).mpr ⟨m,hm,strk_struck.mpr h'⟩)
end
theorem Bl:∀a b:List Str,PyData.eqvAll (a.map PyData.str) (b.map PyData.str)=decide (a=b)
 | [],[]=>by simp[PyData.eqvAll]
 | [],_::_=>by simp[PyData.eqvAll]
 | _::_,[]=>by simp[PyData.eqvAll]
 | x::a,y::b=>by
  rw[BA,BA,PyData.eqvAll,Bl a b,PyData.eqv];by_cases h1:x=y
  .by_cases h2:a=b
   .rw[AJ h2,h1,h2];simp
   .rw[AQ h2];simp[h2]
  .simp[h1]
theorem Xi(a b:List Str):PyData.eqv (sd a) (sd b)=decide (a=b):=by
 unfold sd;rw[PyData.eqv,Bl]
def y6(ns:List Str)(qs:List PA2)(ss:List Str):Prop:=Yc qs ss/\∀n∈ns,n∈ss↔Zj qs ss n
def Rg(K:PySem.W.Frag)(C:Addr)(f:List Str->List PA2->List Str->Prop):Sp:=fun vs H Q _=>∃(x a:Addr) (ss ns:List Str) (qs:List PA2),vs = [.ref x,.ref a]/\WebAt C H x ns qs/\Sqs K H a (ss.map V.str)/\(∀n∈ss,n∈ns)/\ss.length<=100/\ss.Nodup/\(∀n∈ns,K8 n=true) /\
 ∀(b:Bool) H',(b=true↔f ns qs ss)->Same H H'->Q (.bl b) H'
section
variable{P:Program}{w:World}{K:PySem.W.Frag}{mg:Str->Option Value}{base:Heap}
theorem Ag:FnScope ["web", "some"] ["web", "some"] (B5 s_is_whole):=fsc
theorem Il(T:Tx K mg):FnOk P w K mg base CX0 6 T.a3.f T.a3.fd ["web", "some"] (Rg K T.ab y6):=by
 have G_stands:=Rz (P:=P) (w:=w) (base:=base) T;have G_kept_by:=Nz (P:=P) (w:=w) (base:=base) T;have sc:=Ag;refine T.a3.F.ok Ag (fun vs H Q E h=>?_) (fun cdv A outer s H vs Q E hr h=>?_)
 .obtain⟨x,a,ss,ns,qs,rfl,_⟩:=h;rfl
 .obtain⟨x,a,ss,ns,qs,rfl,hW,hS,hM,hl,nd,nm,k⟩:=h;refine⟨_,(B4 (B9 (X2 (C7 T.bk G_stands (Rm hr) (A8 (pv 0) (A8 (pv 1) B2))) (X9 (E4 (zCc K hr.units) (C7 T.bd G_kept_by (Rm hr) (A8 (pv 0) (A8 (pv 1) B2))) (E5 (Wh K) T.am I9 (A8 (pv 1) B2)) (D8 _)))))),?_⟩;refine ex1 rfl (ex1 rfl (zBn (a:=x) (b:=a) (c:=ss) (d:=ns) (e:=qs) rfl hW hS hM hl fun b H1 hb s1=>⟨b,rfl,?_⟩));obtain⟨ok,_⟩:=id hW;refine U0 (fun c=>?_) (fun c=>?_)
  .refine⟨_,rfl,_,rfl,x,a,ss,ns,qs,rfl,hW.same s1,(s1.at a).seq hS,hM,hl,fun l f H2 hl2 s2 hf e2=>?_⟩;refine⟨_,rfl,a,ss,rfl,((s1.trans s2).at a).seq hS,fun l3 ss' hl3 pm srt=>?_⟩;have s3:=Same.new (o:=.lst (ss'.map V.str)) hl3;have hsub:(ns.filter f).Sublist ns:=CN;refine⟨_,_,M0 (SqL.of (s3 _ _ e2)),M0 (SqL.of A9),T7 fun y hy=>nm y (hsub.mem hy),T7 fun y hy=>nm y (hM y (pm.mem_iff.mp hy)),?_⟩;rw[Xi];refine k _ _ ?_ ((s1.trans s2).trans s3);rw[BS];constructor
   .intro e;refine⟨hb.mp c,fun n hn=>?_⟩;rw[<-hf n hn,<-pm.mem_iff,<-e,BF];exact⟨fun h=>h.2,fun h=>⟨hn,h⟩⟩
   .rintro⟨_,h⟩;refine O3 (ok.srt.sublist hsub) srt ?_;refine(CZ (hsub.nodup ok.nd) (pm.nodup_iff.mpr nd)).mpr fun y=>?_;rw[BF,pm.mem_iff];constructor
    .rintro⟨hy,hfy⟩;exact(h y hy).mpr ((hf y hy).mp hfy)
    .intro hy;exact⟨hM y hy,(hf y (hM y hy)).mpr ((h y (hM y hy)).mp hy)⟩
  .exact k false H1 ⟨fun z=>(by cases z),fun h=>absurd (hb.mpr h.1) c⟩ s1
end
theorem Qw:∀(j a b:Nat),(∀j,a.testBit j=true->¬b.testBit j=true)->(a+b).testBit j =(a.testBit j||b.testBit j)
 | 0,a,b,h=>by
  have h0:=h 0;rw[DC,DC,BS,BS]at h0;rw[DC,DC,DC,<-Bool.decide_or];exact GQ.mpr ⟨fun z=>by omega,fun z=>by omega⟩
 | j+1,a,b,h=>by
  have h0:=h 0;rw[DC,DC,BS,BS]at h0;rw[DR,DR,DR,show(a+b) / 2=a / 2+b / 2 by omega];exact Qw j (a / 2) (b / 2) fun i=>by have:=h (i+1);rw[DR,DR]at this;exact this
theorem Jv:∀{l:List Nat},l.Nodup->∀j,((l.map fun k=>2^k).sum).testBit j=true↔j∈l
 | [],_,j=>by simp
 | k::l,nd,j=>by
  obtain⟨n1,n2⟩:=DG.mp nd;have ih:=Jv n2;rw[BA,List.sum_cons,Nat.add_comm,Qw j _ _ fun i z y=>?_,EB,ih,FR,BS,A_];rotate_left
  .rw[FR,BS]at y;exact n1 (y▸(ih i).mp z)
  exact⟨fun h=>h.elim .inr fun e=>.inl e.symm,fun h=>h.elim (fun e=>.inr e.symm) .inl⟩
theorem zAk:∀(s:Nat),0<s->∃k,s.testBit k=true/\s-(s &&&(s-1))=2^k:=by
 intro s
 induction s using Nat.strongRecOn with
 | _ s ih =>
  intro h;by_cases o:s % 2=1
  .refine⟨0,by rw[DC];exact AJ o,?_⟩;have e:s &&&(s-1)=s-1:=ED fun i=>by
    rw[FG];cases i with
    | zero=>rw[DC,DC,AQ (by omega:¬(s-1) % 2=1),GI]
    | succ i=>rw[DR,DR,show(s-1) / 2=s / 2 by omega,Bool.and_self]
   rw[e];omega
  .obtain⟨k,h1,h2⟩:=ih (s / 2) (by omega) (by omega);refine⟨k+1,by rw[DR];exact h1,?_⟩;have e:s &&&(s-1)=2 *(s / 2 &&&(s / 2-1)):=ED fun i=>by
    rw[FG];cases i with
    | zero=>rw[DC,DC,AQ o,DN,DC,AQ (by omega)]
    | succ i=>rw[DR,DR,DR,Nat.mul_div_cancel_left _ (by decide),FG,show(s-1) / 2=s / 2-1 by omega]
   have:s / 2 &&&(s / 2-1)<=s / 2:=Nat.and_le_left;rw[e,Nat.pow_succ];omega
def Low(n m:Nat):Prop:=∀j,m.testBit j=true->j<n
theorem Low.or{n m k:Nat}(h:Low n m)(hk:k<n):Low n (m ||| 2^k):=fun j hj=>((Av m k j).mp hj).elim (h j) fun e=>by omega
theorem Low.zero(n:Nat):Low n 0:=fun j hj=>by rw[FW]at hj;cases hj
theorem Low.lt{n m:Nat}(h:Low n m):m<2^n:=Nat.lt_pow_two_of_testBit m fun i hi=>BO.mpr fun z=>by have:=h i z;omega
structure Net(n:Nat)(A B:List Nat):Prop where
 tr:∀i j,(A.getD i 0).testBit j=true↔(B.getD j 0).testBit i=true
 lt:∀i j,(B.getD i 0).testBit j=true->i<n/\j<n
theorem MB.net{ns:List Str}{ks:List (Str×Str)}{A B:List Nat}(a:MB ns (ks.map fun k=>(k.2,k.1)) A)(b:MB ns ks B):Net ns.length A B:=by
 refine⟨fun i j=>?_,fun i j h=>?_⟩
 .rw[a.bit,b.bit];constructor
  .rintro⟨_,hk,h1,h2⟩;obtain⟨k,hk',rfl⟩:=AE.mp hk;exact⟨k,hk',h2,h1⟩
  .rintro⟨k,hk,h1,h2⟩;exact⟨_,AE.mpr ⟨k,hk,rfl⟩,h2,h1⟩
 .obtain⟨k,_,h1,h2⟩:=(b.bit i j).mp h;exact⟨(AG.mp h1).1,(AG.mp h2).1⟩
def Cs(n:Nat)(A B:List Nat)(m:Nat):Prop:=Low n m/\Ql B m/\∀j,m.testBit j=true->Eu n A B m j
def Fits(c b m:Nat):Prop:=(∀j,c.testBit j=true->m.testBit j=true)/\∀j,m.testBit j=true->¬b.testBit j=true
def Sub(c c':Nat):Prop:=∀j,c.testBit j=true->c'.testBit j=true
theorem Fits.mono{c c' b b' m:Nat}(h:Fits c' b' m)(hc:Sub c c')(hb:Sub b b'):Fits c b m:=⟨fun j z=>h.1 j (hc j z),fun j z y=>h.2 j z (hb j y)⟩
def Uc(n:Nat)(A B:List Nat)(c b:Nat):Prop:=(∀j,Ke B c j->b.testBit j=true)/\(∀j,Ke A c j->b.testBit j=true) /\
 ∀i j,i<n->(¬∃k,k<n/\¬b.testBit k=true/\(B.getD k 0).testBit i=true)->(B.getD i 0).testBit j=true->b.testBit j=true
theorem Pn{n:Nat}{A B:List Nat}(N:Net n A B){c b m:Nat}(h:Cs n A B m)(f:Fits c b m):(∀j,Ke B c j->¬m.testBit j=true)/\(∀j,Ke A c j->¬m.testBit j=true) /\
  ∀i j,i<n->(¬∃k,k<n/\¬b.testBit k=true/\(B.getD k 0).testBit i=true)->(B.getD i 0).testBit j=true->¬m.testBit j=true:=by
 obtain⟨lo,qu,kp⟩:=h;refine⟨fun j ⟨k,hk,e⟩ z=>qu k j (f.1 k hk) z e,fun j ⟨k,hk,e⟩ z=>qu j k z (f.1 k hk) ((N.tr k j).mp e),fun i j hi nk e z=>?_⟩;obtain⟨k,hk,e'⟩:=(kp j z).2 i ((N.tr j i).mpr e);exact nk ⟨k,lo k hk,f.2 k hk,e'⟩
theorem Od{n:Nat}{A B:List Nat}(N:Net n A B){c b:Nat}(lo:Low n c)(s:Uc n A B c b)(dis:∀j,c.testBit j=true->¬b.testBit j=true)(all:∀j,j<n->c.testBit j=true\/b.testBit j=true):Cs n A B c:=by
 obtain⟨s1,s2,s3⟩:=s;refine⟨lo,fun i j hi hj e=>dis j hj (s1 j ⟨i,hi,e⟩),fun j hj=>⟨lo j hj,fun x hx=>?_⟩⟩;have hx':=(N.tr j x).mp hx;by_cases hh:Ke B c x
 .exact hh
 .refine absurd (s3 x j (N.lt x j hx').1 (fun⟨k,hk,nb,e⟩=>hh ⟨k,(all k hk).resolve_right nb,e⟩) hx') (dis j hj)
theorem Sa{n c b m:Nat}(lo:Low n m)(all:∀j,j<n->c.testBit j=true\/b.testBit j=true)(f:Fits c b m):m=c:=ED fun j=>by
 rw[CV];exact⟨fun h=>(all j (lo j h)).resolve_right (f.2 j h),f.1 j⟩
theorem fits_or{c b m k:Nat}:Fits (c ||| 2^k) b m↔Fits c b m/\m.testBit k=true:=by
 constructor
 .rintro⟨h1,h2⟩;exact⟨⟨fun j z=>h1 j (by rw[DK,z];rfl),h2⟩,h1 k (by rw[DK,HB,Bool.or_true])⟩
 .rintro⟨⟨h1,h2⟩,h3⟩;exact⟨fun j z=>((Av c k j).mp z).elim (h1 j) fun e=>e▸h3,h2⟩
theorem fits_bar{c b m k:Nat}:Fits c (b ||| 2^k) m↔Fits c b m/\¬m.testBit k=true:=by
 constructor
 .rintro⟨h1,h2⟩;exact⟨⟨h1,fun j z y=>h2 j z (by rw[DK,y];rfl)⟩,fun z=>h2 k z (by rw[DK,HB,Bool.or_true])⟩
 .rintro⟨⟨h1,h2⟩,h3⟩;exact⟨h1,fun j z y=>((Av b k j).mp y).elim (h2 j z) fun e=>h3 (e▸z)⟩
def und(n c b:Nat):Nat:=(List.range n).countP fun i=>!c.testBit i&&!b.testBit i
theorem Ww{n c c' b b':Nat}(hc:Sub c c')(hb:Sub b b'):und n c' b'<=und n c b:=List.countP_mono_left fun i _ h=>by
 rw[CK,EV,EV]at h⊢;exact⟨BO.mpr fun z=>BO.mp h.1 (hc i z),BO.mpr fun z=>BO.mp h.2 (hb i z)⟩
theorem Yk{n c c' b b' k:Nat}(hc:Sub c c')(hb:Sub b b')(hk:k<n)(h0:¬c.testBit k=true/\¬b.testBit k=true)(h1:c'.testBit k=true\/b'.testBit k=true):und n c' b' < und n c b:=by
 unfold und;have hm:=B_.mpr hk;obtain⟨l1,l2,e⟩:=List.append_of_mem hm;rw[e,List.countP_append,List.countP_append,List.countP_cons,List.countP_cons];have m1:=fun l:List Nat=>List.countP_mono_left (l:=l) (p:=fun i=>!c'.testBit i&&!b'.testBit i) (q:=fun i=>!c.testBit i&&!b.testBit i) fun i _ h=>by
  rw[CK,EV,EV]at h⊢;exact⟨BO.mpr fun z=>BO.mp h.1 (hc i z),BO.mpr fun z=>BO.mp h.2 (hb i z)⟩
 have a1:=m1 l1;have a2:=m1 l2;have x1:(!c'.testBit k&&!b'.testBit k)=false:=by
  rcases h1 with h | h<;>rw[h]<;>simp
 have x2:(!c.testBit k&&!b.testBit k)=true:=by
  rw[BO.mpr h0.1,BO.mpr h0.2];rfl
 rw[x1,x2,AM (by decide),AR rfl];omega
theorem Jr(m i:Nat):((Builtin.bitAnd ((2^i:Nat):Int) (m:Int)) != 0)=m.testBit i:=by
 rw[zFk];have e:(2^i &&& m)=if m.testBit i=true then 2^i else 0:=ED fun j=>by
  rw[FG,FR];by_cases h:m.testBit i=true
  .rw[AR h,FR];by_cases c:i=j
   .subst c;rw[h,Bool.and_true]
   .rw[AQ c,DN]
  .rw[AM h,FW];by_cases c:i=j
   .subst c;rw[BO.mpr h,GI]
   .rw[AQ c,DN]
 rw[e];have p:0<2^i:=Nat.pow_pos (by decide);by_cases h:m.testBit i=true
 .rw[AR h,h,bne_iff_ne];omega
 .rw[AM h,BO.mpr h];rfl
theorem zFj(x y:Nat)(h:∀j,y.testBit j=true->x.testBit j=true):∃z:Nat,Builtin.bitXor (x:Int) (y:Int) =(z:Int)/\∀j,z.testBit j=true↔x.testBit j=true/\¬y.testBit j=true:=by
 have hz:∀j,(x ^^^ y).testBit j=true↔x.testBit j=true/\¬y.testBit j=true:=fun j=>by
  rw[Nat.testBit_xor];cases hx:x.testBit j<;>cases hy:y.testBit j<;>simp;exact absurd (h j hy) (by rw[hx];decide)
 refine⟨x ^^^ y,?_,hz⟩;have e:(x ^^^ y)+y=x:=ED fun j=>by
  rw[Qw j _ _ fun i z=>((hz i).mp z).2,CV,EB,hz];exact⟨fun z=>z.elim (·.1) (h j),fun z=>by by_cases c:y.testBit j=true<;>simp[z,c]⟩
 have a:x &&& y=y:=ED fun j=>by
  rw[FG,CV,CK];exact⟨(·.2),fun z=>⟨h j z,z⟩⟩
 rw[PyProof.Rows.bitXor_and,zFk,a];omega
def bK(M:List Nat)(n:Nat):List (Key×V):=(List.range n).map fun i=>((Sum.inl ((2^i:Nat):Int):Key),P0 (M.getD i 0))
theorem Sl{i j:Nat}(h:((2^i:Nat):Int) =((2^j:Nat):Int)):i=j:=(Nat.pow_right_inj (by decide)).mp (Int.ofNat_inj.mp h)
theorem Mz(M:List Nat):∀{n i:Nat},i<n->P8 (bK M n) (.inl ((2^i:Nat):Int))=some (P0 (M.getD i 0))
 | n+1,i,h=>by
  unfold P8 bK;rw[EI,AK,List.find?_append];by_cases c:i<n
  .have ih:=Mz M c;unfold P8 bK at ih;cases e:(List.find? (fun kv:Key×V=>decide (kv.1=Sum.inl ((2^i:Nat):Int))) ((List.range n).map fun i=>((Sum.inl ((2^i:Nat):Int):Key),P0 (M.getD i 0))))with
   | none=>rw[e]at ih;cases ih
   | some q=>rw[e]at ih;rw[Option.some_or];exact ih
  .have e:i=n:=by omega
   subst e;rw[HG.mpr fun q hq z=>?_,Option.none_or]
   .rw[BA,DU,AJ rfl];rfl
   .obtain⟨k,hk,rfl⟩:=AE.mp hq;have:=Sl (Sum.inl.inj (AZ z));have:=B_.mp hk;omega
def mf(a b c d:Addr)(n L:Nat):List (Str×V):=[("names",.ref a),("full",P0 (2^n-1)),("bit_of",.ref b),("strikers_of",.ref c),("struck_of",.ref d),("loops",P0 L)]
structure MarksAt(C:Addr)(H:Hp)(x c:Addr)(ns:List Str)(A B:List Nat)(L:Nat):Prop where
 ex:∃dx a b d kb,H x=some (.ins C dx (mf a b c d ns.length L))/\H a=some (.lst (ns.map V.str))/\Rd H b (.dK kb)/\(∀i n,ns[i]?=some n->P8 kb (.inr n)=some (P0 (2^i)))/\Rd H c (.dK (bK A ns.length))/\H d=some (.dK (bK B ns.length))/\d≠c/\b≠c
 net:Net ns.length A B
 nd:ns.Nodup
 len:ns.length<=100
 loops:∀j,L.testBit j=true↔(A.getD j 0).testBit j=true
theorem zBb{H:Hp}{a c:Addr}{kvs:List (Key×V)}{o:HO}(r:Rd H c (.dK kvs))(h:H a=some o)(n1:∀kvs,o≠ .dK kvs)(n2:∀ob u,o≠ .frz ob u):a≠c:=by
 rintro rfl;rcases r with r | ⟨ob,r⟩
 .rw[h]at r;exact n1 _ (BH r)
 .rw[h]at r;exact n2 _ _ (BH r)
theorem zGq{H H':Hp}{b c:Addr}{u:HO}(r:Rd H b u)(s:Sm [c] H H')(n:b≠c):Rd H' b u:=r.imp (fun h=>Sm1 s h n) fun⟨o,h⟩=>⟨o,Sm1 s h n⟩
theorem MarksAt.fz{C:Addr}{H H':Hp}{x c:Addr}{ns:List Str}{A B:List Nat}{L:Nat}(h:MarksAt C H x c ns A B L)(s:Sm [c] H H')(r:Rd H' c (.dK (bK A ns.length))):MarksAt C H' x c ns A B L:=by
 obtain⟨⟨dx,a,b,d,kb,e1,e2,e3,e4,e5,e6,n1,n2⟩,h1,h2,h3,h4⟩:=h;exact⟨⟨dx,a,b,d,kb,Sm1 s e1 (zBb e5 e1 (fun _ z=>by cases z) fun _ _ z=>by cases z),Sm1 s e2 (zBb e5 e2 (fun _ z=>by cases z) fun _ _ z=>by cases z),zGq e3 s n2,e4,r,Sm1 s e6 n1,n1,n2⟩,h1,h2,h3,h4⟩
theorem MarksAt.same{C:Addr}{H H':Hp}{x c:Addr}{ns:List Str}{A B:List Nat}{L:Nat}(h:MarksAt C H x c ns A B L)(s:Same H H'):MarksAt C H' x c ns A B L :=
 h.fz s.sm (let⟨_,_,_,_,_,_,_,_,_,e5,_⟩:=h.ex;e5.imp (s _ _) fun⟨o,e⟩=>⟨o,s _ _ e⟩)
def T1(m i:Nat):List Nat:=(List.range i).filter fun k=>m.testBit k
theorem Bb(m i:Nat):T1 m (i+1)=T1 m i++if m.testBit i=true then [i]else []:=by
 unfold T1;rw[EI,DM,CT,FF]
theorem Ah(m i:Nat):(T1 m i).length<=i:=Nat.le_trans (BM ..) (by rw[CA];exact Nat.le_refl _)
section
variable{P:Program}{w:World}{K:PySem.W.Frag}{mg:Str->Option Value}{base:Heap}
theorem S7:FnScope ["self", "some"] ["self", "some"] (B5 s_Marks_bits_in):=fsc
def Os(C:Addr):Sp:=fun vs H Q _=>∃(x c:Addr) (ns:List Str) (A B:List Nat) (L m:Nat),vs = [.ref x,.int (m:Int)]/\MarksAt C H x c ns A B L/\∀l H',H l=none->Sm [c] H H'->MarksAt C H' x c ns A B L->H' l=some (.lst ((T1 m ns.length).map fun k=>P0 (2^k)))->Q (.ref l) H'
theorem S5(T:Tx K mg):FnOk P w K mg base CX0 1 T.aj.f T.aj.fd ["self", "some"] (Os T.aa):=by
 have sc:=S7;refine T.aj.F.ok S7 (fun vs H Q E h=>?_) (fun cdv A outer s H vs Q E hr h=>?_)
 .obtain⟨x,c,ns,A,B,L,m,rfl,_⟩:=h;rfl
 .obtain⟨x,c,ns,A,B,L,m,rfl,hM,q⟩:=h;obtain⟨dx,a,b,d,kb,e1,e2,e3,e4,e5,e6,n1,n2⟩:=hM.ex;have ln:=hM.len;refine⟨_,(B4 (B9 (J7 (N':=["bit", "some"]) (cap:=[none,some 1]) (cl:=[("some",_)]) (E7 ⟨⟨rfl,rfl,rfl,rfl⟩,trivial⟩ ⟨rfl,trivial⟩) rfl (Uk (peF K (pv 0))) (fun _ _ _ _=>by exact⟨(pgC 0),(O8 (ptV K (E8 Bc (pv 0) (pv 1)))),(pv 0)⟩)))),?_⟩;refine ex1 rfl ⟨x,T.aa,dx,_,ex1 rfl ⟨e1,T.ac,T.as,rfl,c,_,rfl,e5,fun o D hD=>?_⟩⟩;have hDc:D≠c:=fun z=>by rw[z,A9]at hD;cases hD
  have kz:Sm [c] H (upd H c (.frz o (.dK (bK A ns.length)))):=(Sm.refl _ _).upd (by simp);have rz:Rd (upd H c (.frz o (.dK (bK A ns.length)))) c (.dK (bK A ns.length)):=.inr ⟨o,A9⟩;have fz:(upd H c (.frz o (.dK (bK A ns.length)))) c=some (.frz o (.dK (bK A ns.length))):=A9;have hD0:H D=none:=by rw[B6 hDc]at hD;exact hD
  have M1:=hM.fz kz rz;generalize upd H c (.frz o (.dK (bK A ns.length)))=H1 at hD kz rz fz M1⊢;have lb:(bK A ns.length).length=ns.length:=by unfold bK;rw[AA,CA]
  refine Cf (n:=ns.length) (fun i σ G=>(∃v0,σ = [v0,some (.int (m:Int))])/\Same H1 G/\G D=some (.lst ((T1 m i).map fun k=>P0 (2^k)))) ⟨⟨_,rfl⟩,Same.new hD,A9⟩ ?_ ?_ ?_ ?_
  .rintro i σ G hi ⟨_,sG,_⟩;exact⟨sG _ _ fz,by rw[lb];exact hi⟩
  .rintro σ G ⟨_,sG,_⟩;exact⟨sG _ _ fz,by rw[lb];exact Nat.le_refl _⟩
  .rintro i σ G y H' N hi ⟨⟨v0,rfl⟩,sG,eG⟩ ⟨rfl,k,v,hk,rfl⟩ hN;unfold bK at hk;rw[AI,List.getElem?_range hi]at hk;obtain⟨rfl,rfl⟩:=Prod.mk.inj (BH hk);refine ex1 rfl (ex1 rfl (C4 rfl rfl ⟨_,rfl,?_⟩));dsimp only;rw[Jr];have hl:=Ah m i;refine U0 (fun z=>ex1 rfl ⟨_,eG,by rw[AA,sizeLine_eq];omega,hN _ _ ⟨⟨_,rfl⟩,sG.upd hD,?_⟩⟩) (fun z=>hN _ _ ⟨⟨_,rfl⟩,sG,?_⟩)
   .rw[A9,Bb,AR z,AK];rfl
   .rw[Bb,AM z,DB];exact eG
  .rintro σ G ⟨_,sG,eG⟩;exact q D G hD0 (kz.trans sG.sm) (M1.same sG) eG
end
theorem Op{α:Type}{J:It}{ys:List α}{r:α->V}(f:α->V){a D:Addr}{H:Hp}(as:AsSeq J (ys.map r) a H){tc:TT}{te:TE}{c:St}{v0:Option V}{Q:St->Hp->Prop}(p:α->Bool)(len:ys.length<=5000)(hD:H D=none)
  (ht:∀y∈ys,∀G,Same H G->∀M:Bool->Hp->Prop,(∀G',Same G G'->M (p y) G')->tc (some (r y)::c) G M) (he:∀y∈ys,∀G,Same H G->∀M:VK,(∀G',Same G G'->M (f y) G')->te (some (r y)::c) G M)
  (q:∀σ G,Same H G->G D=some (.lst ((ys.filter p).map f))->Q σ G):V0 (J5 0) tc (R0 D te) J (v0::c) (upd H D (.lst [])) Q:=by
 refine G0 as (fun i σ G=>(∃v,σ=v::c)/\Same H G/\G D=some (.lst (((ys.take i).filter p).map f))) ⟨⟨_,rfl⟩,Same.new hD,A9⟩ (fun i σ G _ h=>h.2.1.at a) ?_ ?_
 .rintro i σ G v N hx ⟨⟨v0,rfl⟩,sG,eG⟩ hN;rw[AI]at hx;obtain⟨y,hy,rfl⟩:=BL.mp hx;have my:=AV hy;refine ht y my G sG _ fun G' s'=>?_;have eG:=s' _ _ eG;have sG:=sG.trans s';have hs:(ys.take (i+1)).filter p =(ys.take i).filter p++if p y=true then [y]else []:=by
   rw[take_succ hy,DM,CT,FF]
  have hl:=BM p (ys.take i);rw[AN]at hl;refine U0 (fun c=>he y my G' sG _ fun G2 s2=>⟨_,s2 _ _ eG,by rw[AA,sizeLine_eq];omega,hN _ _ ⟨⟨_,rfl⟩,(sG.trans s2).upd hD,?_⟩⟩) (fun c=>hN _ _ ⟨⟨_,rfl⟩,sG,?_⟩)
  .rw[A9,hs,AR c,AK];rfl
  .rw[hs,AM c,DB];exact eG
 .rintro σ G ⟨_,sG,eG⟩;rw[AA,BN]at eG;exact q σ G sG eG
theorem Yy{α:Type}{J:It}{ys:List α}{r:α->V}(f:α->V){a D:Addr}{H:Hp}(as:AsSeq J (ys.map r) a H){tc:TT}{te:TE}{c:St}{v0:Option V}{Q:St->Hp->Prop}(p:α->Bool)(len:ys.length<=5000)(hD:H D=none)
  (ht:∀y∈ys,∀G,Same H G->∀M:Bool->Hp->Prop,(∀G',Same G G'->M (p y) G')->tc (some (r y)::c) G M) (he:∀y∈ys,∀G,Same H G->∀M:VK,M (f y) G->te (some (r y)::c) G M)
  (q:∀σ G,Same H G->G D=some (.lst ((ys.filter p).map f))->Q σ G):V0 (J5 0) tc (R0 D te) J (v0::c) (upd H D (.lst [])) Q :=
 Op f as p len hD ht (fun y hy G s M hM=>he y hy G s M (hM G fun b o e=>e)) q
theorem mem_bitsTo{m n k:Nat}:k∈T1 m n↔k<n/\m.testBit k=true:=by
 unfold T1;rw[BF,B_]
theorem O0(n j:Nat):(2^n-1).testBit j=true↔j<n:=by rw[Nat.testBit_two_pow_sub_one,BS]
section
variable{P:Program}{w:World}{K:PySem.W.Frag}{mg:Str->Option Value}{base:Heap}
theorem Q5:FnScope ["self", "some"] ["self", "some"] (B5 s_Marks_names_in):=fsc
def At(C:Addr):Sp:=fun vs H Q _=>∃(x c:Addr) (ns:List Str) (A B:List Nat) (L m:Nat),vs = [.ref x,.int (m:Int)]/\MarksAt C H x c ns A B L/\∀l H',H l=none->Same H H'->H' l=some (.lst ((setOf ns m).map V.str))->Q (.ref l) H'
theorem h9(T:Tx K mg):FnOk P w K mg base CX0 1 T.ai.f T.ai.fd ["self", "some"] (At T.aa):=by
 have sc:=Q5;refine T.ai.F.ok Q5 (fun vs H Q E h=>?_) (fun cdv A outer s H vs Q E hr h=>?_)
 .obtain⟨x,c,ns,A,B,L,m,rfl,_⟩:=h;rfl
 .obtain⟨x,c,ns,A,B,L,m,rfl,hM,q⟩:=h;have hu:=T9 hr;obtain⟨dx,a,b,d,kb,e1,e2,e3,e4,e5,e6,n1,n2⟩:=hM.ex;have ln:=hM.len;refine⟨_,(B4 (B9 (J7 (N':=["name", "some", "self"]) (cap:=[none,some 1,some 0]) (cl:=[("some",_),("self",_)]) (E7 ⟨⟨rfl,rfl,rfl,rfl⟩,⟨⟨rfl,rfl,rfl,rfl⟩,trivial⟩⟩ ⟨rfl,⟨rfl,trivial⟩⟩) rfl (piL K (peF K (pv 0))) (fun _ _ _ _=>by exact⟨(pgC 0),(O8 (ptV K (E8 Bc (F0 hu (peF K (pv 2)) (pv 0) (fun _ _=>rfl)) (pv 1)))),(pv 0)⟩)))),?_⟩;refine ex1 rfl ⟨x,T.aa,dx,_,ex1 rfl ⟨e1,T.ac,T.az,rfl,a,rfl,⟨_,SqL.of e2⟩,fun D hD=>?_⟩⟩;refine G0 (asL (SqL.of e2)) (fun i σ G=>(∃v0,σ = [v0,some (.int (m:Int)),some (.ref x)])/\Same H G/\G D=some (.lst ((Fr ns m i).map V.str))) ⟨⟨_,rfl⟩,Same.new hD,A9⟩ (fun i σ G _ h=>h.2.1.at a) ?_ ?_
  .rintro i σ G y N hx ⟨⟨v0,rfl⟩,sG,eG⟩ hN;rw[AI]at hx;obtain⟨n,hn,rfl⟩:=BL.mp hx;have li:=(AG.mp hn).1;have rb:Rd G b (.dK kb):=e3.imp (sG _ _) fun⟨o,e⟩=>⟨o,sG _ _ e⟩;refine ex1 rfl ⟨x,T.aa,dx,_,ex1 rfl ⟨sG _ _ e1,T.ac,T.bf,rfl,ex1 rfl ⟨b,_,rfl,.inl ⟨kb,.inr n,rb,rfl,(e4 i n hn).symm⟩,ex1 rfl (C4 rfl rfl ⟨_,rfl,?_⟩)⟩⟩⟩;dsimp only;rw[Jr];have hle:=(Bf ns m i (by omega)).length_le;rw[AN]at hle;refine U0 (fun z=>ex1 rfl ⟨_,eG,by rw[AA,sizeLine_eq];omega,hN _ _ ⟨⟨_,rfl⟩,sG.upd hD,?_⟩⟩) (fun z=>hN _ _ ⟨⟨_,rfl⟩,sG,?_⟩)
   .rw[A9,j7 hn,AR z,AK];rfl
   .rw[j7 hn,AM z,DB];exact eG
  .rintro σ G ⟨_,sG,eG⟩;rw[AA]at eG;exact q D G hD sG eG
theorem Hi:FnScope ["sets", "whole", "one"] ["sets"] (B5 s_joined):=fsc
def Td(K:PySem.W.Frag):Sp:=fun vs H Q _=>∃(l:Addr) (zs:List Nat),vs = [.ref l]/\H l=some (.lst (zs.map P0))/\∀r:Nat,(∀j,r.testBit j=true↔∃z∈zs,z.testBit j=true)->Q (.int (r:Int)) H
theorem Fi(T:Tx K mg):FnOk P w K mg base CX0 1 T.ba.f T.ba.fd ["sets"] (Td K):=by
 have sc:=Hi;refine T.ba.F.ok Hi (fun vs H Q E h=>?_) (fun cdv A outer s H vs Q E hr h=>?_)
 .obtain⟨l,zs,rfl,_⟩:=h;rfl
 .obtain⟨l,zs,rfl,el,q⟩:=h;refine⟨_,(B3 (C5 (i:=1) sc.nd rfl (.inl rfl) B8)
   (B3 (f9 PassesOwn.never rfl (piL K (pv 0)) (J2 (i:=2) sc.nd rfl (.inl rfl))
   (B4 (Xn (i:=1) sc.nd rfl (Or.inl rfl) (pv 2) zFx)))
   (B4 (B9 (pv 1))))),?_⟩
  refine B7 fun N0 hN0=>?_;refine hN0 _ _ (B7 fun N1 hN1=>?_);refine ex1 rfl ⟨l,rfl,⟨_,SqL.of el⟩,?_⟩;refine Am (asL (K:=K) (SqL.of el)) (fun i σ G=>G=H/\∃(r:Nat) (v2:Option V),σ = [some (.ref l),some (.int (r:Int)),v2]/\∀j,r.testBit j=true↔∃z∈zs.take i,z.testBit j=true) ⟨rfl,0,_,rfl,fun j=>by simp⟩ (fun i σ G _ h=>by rw[h.1];exact fun o e=>e) ?_ ?_
  .rintro i σ G y hx ⟨rfl,r,v2,rfl,hr⟩ D' hD' _;rw[AI]at hx;obtain⟨z,hz,rfl⟩:=BL.mp hx;refine ex1 rfl (ex1 rfl (C4 rfl rfl ?_));dsimp only;rw[bor];refine hD' _ _ ⟨rfl,_,_,rfl,fun j=>?_⟩;rw[DK,EB,hr,take_succ hz];constructor
   .rintro(⟨z',h1,h2⟩ | h)
    .exact⟨z',CS _ h1,h2⟩
    .exact⟨z,BT _ (AF.mpr rfl),h⟩
   .rintro⟨z',h1,h2⟩;rcases AO.mp h1 with h1 | h1
    .exact .inl ⟨z',h1,h2⟩
    .rw[AF.mp h1]at h2;exact .inr h2
  .rintro σ G ⟨rfl,r,v2,rfl,hr⟩;rw[AA,BN]at hr;exact hN1 _ _ (ex1 rfl (q r hr))
def Qf(C:Addr)(f:List Nat->List Nat->List Nat):Sp:=fun vs H Q _=>∃(x c:Addr) (ns:List Str) (A B:List Nat) (L m:Nat),vs = [.ref x,.int (m:Int)]/\MarksAt C H x c ns A B L/\∀(r:Nat) H',Sm [c] H H'->MarksAt C H' x c ns A B L->(∀j,r.testBit j=true↔Ke (f A B) m j)->Q (.int (r:Int)) H'
theorem Rt{n m r:Nat}{M:List Nat}(lt:∀k j,(M.getD k 0).testBit j=true->k<n)(h:∀j,r.testBit j=true↔∃z∈(T1 m n).map (fun k=>M.getD k 0),z.testBit j=true)(j:Nat):r.testBit j=true↔Ke M m j:=by
 rw[h];constructor
 .rintro⟨z,hz,e⟩;obtain⟨k,hk,rfl⟩:=AE.mp hz;exact⟨k,(mem_bitsTo.mp hk).2,e⟩
 .rintro⟨k,hk,e⟩;exact⟨_,AE.mpr ⟨k,mem_bitsTo.mpr ⟨lt k j e,hk⟩,rfl⟩,e⟩
theorem P3:FnScope ["self", "some"] ["self", "some"] (B5 s_Marks_struck_by):=fsc
theorem K5(T:Tx K mg):FnOk P w K mg base CX0 2 T.af.f T.af.fd ["self", "some"] (Qf T.aa fun _ B=>B):=by
 have G_Marks_bits_in:=S5 (P:=P) (w:=w) (base:=base) T;have G_joined:=Fi (P:=P) (w:=w) (base:=base) T;have sc:=P3;refine T.af.F.ok P3 (fun vs H Q E h=>?_) (fun cdv A outer s H vs Q E hr h=>?_)
 .obtain⟨x,c,ns,A,B,L,m,rfl,_⟩:=h;rfl
 .obtain⟨x,c,ns,A,B,L,m,rfl,hM,q⟩:=h;have hu:=T9 hr;obtain⟨dx,a,b,d,kb,e1,_⟩:=hM.ex;have ln:=hM.len;refine⟨_,(B4 (B9 (C7 T.ba G_joined (Rm hr) (A8 (J7 (N':=["bit", "self"]) (cap:=[none,some 0]) (cl:=[("self",_)]) (E7 ⟨⟨rfl,rfl,rfl,rfl⟩,trivial⟩ ⟨rfl,trivial⟩) rfl (piL K (G7 (pv 0) T.ac T.aj.m G_Marks_bits_in (Rm hr) T.aj.b .nil K0 (A8 (pv 1) B2))) (fun _ _ _ _=>by exact⟨(pgC 0),C3,(F0 hu (peF K (pv 1)) (pv 0) (fun _ _=>rfl))⟩)) B2)))),?_⟩;refine ex1 rfl ⟨x,dx,ex1 rfl ⟨e1,rfl,ex1 rfl ⟨x,c,ns,A,B,L,m,rfl,hM,fun l H1 hl k1 M1 el=>?_⟩⟩⟩;obtain⟨dx,a,b,d,kb,e1,e2,e3,e4,e5,e6,n1,n2⟩:=M1.ex;refine⟨l,rfl,⟨_,SqL.of el⟩,fun D hD=>?_⟩;refine Yy (fun k=>P0 (B.getD k 0)) (asL (SqL.of el)) (fun _=>true) (Nat.le_trans (Ah ..) (by omega)) hD (fun k hk G sG M hM=>hM G fun b o e=>e) (fun k hk G sG M hM=>?_) fun σ' G sG eG=>?_
  .exact ex1 rfl ⟨x,T.aa,dx,_,ex1 rfl ⟨sG _ _ e1,T.ac,T.a7,rfl,ex1 rfl ⟨d,_,rfl,.inl ⟨_,.inl ((2^k:Nat):Int),.inl (sG _ _ e6),rfl,(Mz B (mem_bitsTo.mp hk).1).symm⟩,hM⟩⟩⟩
  rw[DX.mpr fun _ _=>rfl]at eG;have eG:G D=some (.lst (((T1 m ns.length).map fun k=>B.getD k 0).map P0)):=by rw[eG,AY];rfl
  refine⟨D,_,rfl,eG,fun r hr=>q r G (k1.trans sG.sm) (M1.same sG) (Rt (fun k j e=>(hM.net.lt k j e).1) hr)⟩
theorem M6:FnScope ["self", "some"] ["self", "some"] (B5 s_Marks_strikers_at):=fsc
theorem U7(T:Tx K mg):FnOk P w K mg base CX0 2 T.ao.f T.ao.fd ["self", "some"] (Qf T.aa fun A _=>A):=by
 have G_Marks_bits_in:=S5 (P:=P) (w:=w) (base:=base) T;have G_joined:=Fi (P:=P) (w:=w) (base:=base) T;have sc:=M6;refine T.ao.F.ok M6 (fun vs H Q E h=>?_) (fun cdv A outer s H vs Q E hr h=>?_)
 .obtain⟨x,c,ns,A,B,L,m,rfl,_⟩:=h;rfl
 .obtain⟨x,c,ns,A,B,L,m,rfl,hM,q⟩:=h;have hu:=T9 hr;obtain⟨dx,a,b,d,kb,e1,_⟩:=hM.ex;have ln:=hM.len;refine⟨_,(B4 (B9 (C7 T.ba G_joined (Rm hr) (A8 (J7 (N':=["bit", "self"]) (cap:=[none,some 0]) (cl:=[("self",_)]) (E7 ⟨⟨rfl,rfl,rfl,rfl⟩,trivial⟩ ⟨rfl,trivial⟩) rfl (piL K (G7 (pv 0) T.ac T.aj.m G_Marks_bits_in (Rm hr) T.aj.b .nil K0 (A8 (pv 1) B2))) (fun _ _ _ _=>by exact⟨(pgC 0),C3,(F0 hu (peF K (pv 1)) (pv 0) (fun _ _=>rfl))⟩)) B2)))),?_⟩;refine ex1 rfl ⟨x,dx,ex1 rfl ⟨e1,rfl,ex1 rfl ⟨x,c,ns,A,B,L,m,rfl,hM,fun l H1 hl k1 M1 el=>?_⟩⟩⟩;obtain⟨dx,a,b,d,kb,e1,e2,e3,e4,e5,e6,n1,n2⟩:=M1.ex;refine⟨l,rfl,⟨_,SqL.of el⟩,fun D hD=>?_⟩;refine Yy (fun k=>P0 (A.getD k 0)) (asL (SqL.of el)) (fun _=>true) (Nat.le_trans (Ah ..) (by omega)) hD (fun k hk G sG M hM=>hM G fun b o e=>e) (fun k hk G sG M hM=>?_) fun σ' G sG eG=>?_
  .exact ex1 rfl ⟨x,T.aa,dx,_,ex1 rfl ⟨sG _ _ e1,T.ac,T.as,rfl,ex1 rfl ⟨c,_,rfl,.inl ⟨_,.inl ((2^k:Nat):Int),e5.imp (sG _ _) fun⟨o,e⟩=>⟨o,sG _ _ e⟩,rfl,(Mz A (mem_bitsTo.mp hk).1).symm⟩,hM⟩⟩⟩
  rw[DX.mpr fun _ _=>rfl]at eG;have eG:G D=some (.lst (((T1 m ns.length).map fun k=>A.getD k 0).map P0)):=by rw[eG,AY];rfl
  refine⟨D,_,rfl,eG,fun r hr=>q r G (k1.trans sG.sm) (M1.same sG) (Rt (fun k j e=>(hM.net.lt j k ((hM.net.tr k j).mp e)).2) hr)⟩
theorem M8:FnScope ["self", "some"] ["self", "some"] (B5 s_Marks_unstruck_by):=fsc
def Ib(C:Addr):Sp:=fun vs H Q _=>∃(x c:Addr) (ns:List Str) (A B:List Nat) (L m:Nat),vs = [.ref x,.int (m:Int)]/\MarksAt C H x c ns A B L/\∀(r:Nat) H',Sm [c] H H'->MarksAt C H' x c ns A B L->(∀j,r.testBit j=true↔j<ns.length/\¬Ke B m j)->Q (.int (r:Int)) H'
theorem M5(T:Tx K mg):FnOk P w K mg base CX0 3 T.ah.f T.ah.fd ["self", "some"] (Ib T.aa):=by
 have G_Marks_struck_by:=K5 (P:=P) (w:=w) (base:=base) T;have sc:=M8;refine T.ah.F.ok M8 (fun vs H Q E h=>?_) (fun cdv A outer s H vs Q E hr h=>?_)
 .obtain⟨x,c,ns,A,B,L,m,rfl,_⟩:=h;rfl
 .obtain⟨x,c,ns,A,B,L,m,rfl,hM,q⟩:=h;obtain⟨dx,a,b,d,kb,e1,_⟩:=hM.ex;refine⟨_,(B4 (B9 (E8 Ky (peF K (pv 0)) (G7 (pv 0) T.ac T.af.m G_Marks_struck_by (Rm hr) T.af.b .nil K0 (A8 (pv 1) B2))))),?_⟩;refine ex1 rfl ⟨x,T.aa,dx,_,ex1 rfl ⟨e1,T.ac,T.aB,rfl,ex1 rfl ⟨x,dx,ex1 rfl ⟨e1,rfl,ex1 rfl ⟨x,c,ns,A,B,L,m,rfl,hM,fun r H1 k1 M1 hr=>?_⟩⟩⟩⟩⟩;obtain⟨z,ez,hz⟩:=zFj (2^ns.length-1) r fun j hj=>by
   obtain⟨k,_,e⟩:=(hr j).mp hj;exact(O0 _ _).mpr (hM.net.lt k j e).2
  refine⟨_,_,rfl,rfl,?_⟩;dsimp only;rw[ez];exact q z H1 k1 M1 fun j=>by rw[hz,O0,hr]
theorem n0:FnScope ["some"] ["some"] (B5 s_first_bit):=fsc
def Mg:Sp:=fun vs H Q _=>∃s:Nat,vs = [.int (s:Int)]/\0<s/\∀k:Nat,s.testBit k=true->Q (.int ((2^k:Nat):Int)) H
theorem Fu(T:Tx K mg):FnOk P w K mg base CX0 1 T.aD.f T.aD.fd ["some"] Mg:=by
 have sc:=n0;refine T.aD.F.ok n0 (fun vs H Q E h=>?_) (fun cdv A outer s H vs Q E hr h=>?_)
 .obtain⟨s,rfl,_⟩:=h;rfl
 .obtain⟨s,rfl,h0,q⟩:=h;refine⟨_,(B4 (B9 (E8 Bc (pv 0) (zFw zCq (pv 0))))),?_⟩;refine ex1 rfl (ex1 rfl ⟨_,rfl,C4 rfl rfl ?_⟩);obtain⟨k,h1,h2⟩:=zAk s h0;have e:-(s:Int)=Builtin.bitNot (((s-1:Nat)):Int):=by unfold Builtin.bitNot;omega
  have:=q k h1;dsimp only;rw[e,PyProof.Rows.bitAnd_not,zFk];have e2:(s:Int)-((s &&&(s-1):Nat):Int) =((2^k:Nat):Int):=by
   have:s &&&(s-1)<=s:=Nat.and_le_left;omega
  rw[e2];exact this
def Ij(C:Addr):Sp:=fun vs H Q _=>∃(x c:Addr) (ns:List Str) (A B:List Nat) (L ch ba:Nat),vs = [.ref x,.int (ch:Int),.int (ba:Int)]/\MarksAt C H x c ns A B L/\Low ns.length ch/\Low ns.length ba /\
 ∀t (ba':Nat) H',Sm [c] H H'->MarksAt C H' x c ns A B L->H' t=some (.tup [.int (ch:Int),.int (ba':Int)])->Low ns.length ba'->Sub ba ba'->(∀m,Cs ns.length A B m->Fits ch ba m->Fits ch ba' m)->Uc ns.length A B ch ba'->Q (.ref t) H'
theorem P2:FnScope ["marks", "chosen", "barred", "safe", "more"] ["marks", "chosen", "barred"] (B5 s_settle_standing):=fsc
set_option maxHeartbeats 2000000 in
theorem Y2(T:Tx K mg):FnOk P w K mg base CX0 4 T.ay.f T.ay.fd ["marks", "chosen", "barred"] (Ij T.aa):=by
 have G_Marks_struck_by:=K5 (P:=P) (w:=w) (base:=base) T;have G_Marks_strikers_at:=U7 (P:=P) (w:=w) (base:=base) T;have G_Marks_unstruck_by:=M5 (P:=P) (w:=w) (base:=base) T;have sc:=P2;refine T.ay.F.ok P2 (fun vs H Q E h=>?_) (fun cdv A outer s H vs Q E hr h=>?_)
 .obtain⟨x,c,ns,A,B,L,ch,ba,rfl,_⟩:=h;rfl
 .obtain⟨x,c,ns,A,B,L,ch,ba,rfl,hM,loc,lob,q⟩:=h;have net:=hM.net;refine⟨_,(B4 (Dv PassesOwn.never (K6 T5) (B3 (C5 (i:=3) sc.nd rfl (.inl rfl) (G7 (pv 0) T.ac T.ah.m G_Marks_unstruck_by (Rm hr) T.ah.b .nil K0 (A8 (E8 Ky (peF K (pv 0)) (pv 2)) B2)))
   (B3 (C5 (i:=4) sc.nd rfl (.inl rfl) (E8 Ht (E8 Ht (E8 Ht (pv 2) (G7 (pv 0) T.ac T.af.m G_Marks_struck_by (Rm hr) T.af.b .nil K0 (A8 (pv 1) B2))) (G7 (pv 0) T.ac T.ao.m G_Marks_strikers_at (Rm hr) T.ao.b .nil K0 (A8 (pv 1) B2))) (G7 (pv 0) T.ac T.af.m G_Marks_struck_by (Rm hr) T.af.b .nil K0 (A8 (pv 3) B2))))
   (B3 (K4 (C6 T0 (pv 4) (pv 2) (D8 _)) (B4 (B9 (M7 (A8 (pv 1) (A8 (pv 2) B2))))) D0)
   (B4 (C5 (i:=2) sc.nd rfl (.inl rfl) (pv 4)))))))),?_⟩
  refine⟨fun k σ G=>∃(b1:Nat) (v3 v4:Option V),σ = [some (.ref x),some (.int (ch:Int)),some (.int (b1:Int)),v3,v4]/\k=2^ns.length-b1/\Low ns.length b1/\Sub ba b1/\Sm [c] H G/\MarksAt T.aa G x c ns A B L/\∀m,Cs ns.length A B m->Fits ch ba m->Fits ch b1 m,⟨_,ba,_,_,rfl,rfl,lob,fun j h=>h,Sm.refl _ _,hM,fun m _ h=>h⟩,?_⟩;rintro k σ G ⟨b1,v3,v4,rfl,rfl,lo1,sub1,kG,MG,snd1⟩;refine⟨_,rfl,Um ⟨fun σ' G'=>∃(b2:Nat) (v3 v4:Option V),σ' = [some (.ref x),some (.int (ch:Int)),some (.int (b2:Int)),v3,v4]/\b1<b2/\Low ns.length b2/\Sub ba b2/\Sm [c] H G'/\MarksAt T.aa G' x c ns A B L/\∀m,Cs ns.length A B m->Fits ch ba m->Fits ch b2 m,?_,?_⟩⟩
  .rintro σ' G' ⟨b2,v3,v4,rfl,lt,lo2,h⟩;have:=lo2.lt;exact⟨2^ns.length-b2,by omega,b2,_,_,rfl,rfl,lo2,h⟩
  refine B7 fun N1 hN1=>?_;obtain⟨dx,a,b,d,kb,e1,_⟩:=MG.ex;obtain⟨z,ez,hz⟩:=zFj (2^ns.length-1) b1 fun j hj=>(O0 _ _).mpr (lo1 j hj);refine ex1 rfl ⟨x,dx,ex1 rfl ⟨e1,rfl,ex1 rfl ⟨x,T.aa,dx,_,ex1 rfl ⟨e1,T.ac,T.aB,rfl,ex1 rfl (C4 rfl rfl ?_)⟩⟩⟩⟩;dsimp only;rw[ez];refine⟨x,c,ns,A,B,L,z,rfl,MG,fun sf G1 k1 M1 hsf=>?_⟩;refine hN1 _ _ (B7 fun N2 hN2=>?_);obtain⟨dx,a,b,d,kb,e1,_⟩:=M1.ex;refine ex1 rfl (ex1 rfl ⟨x,dx,ex1 rfl ⟨e1,rfl,ex1 rfl ⟨x,c,ns,A,B,L,ch,rfl,M1,fun r1 G2 k2 M2 h1=>?_⟩⟩⟩);refine C4 rfl rfl ?_;dsimp only;rw[bor];obtain⟨dx,a,b,d,kb,e1,_⟩:=M2.ex;refine ex1 rfl ⟨x,dx,ex1 rfl ⟨e1,rfl,ex1 rfl ⟨x,c,ns,A,B,L,ch,rfl,M2,fun r2 G3 k3 M3 h2=>?_⟩⟩⟩;refine C4 rfl rfl ?_;dsimp only;rw[bor];obtain⟨dx,a,b,d,kb,e1,_⟩:=M3.ex;refine ex1 rfl ⟨x,dx,ex1 rfl ⟨e1,rfl,ex1 rfl ⟨x,c,ns,A,B,L,sf,rfl,M3,fun r3 G4 k4 M4 h3=>?_⟩⟩⟩;refine C4 rfl rfl ?_;dsimp only;rw[bor];have k4:=kG.trans (k1.trans (k2.trans (k3.trans k4)));generalize hmo:(b1 ||| r1 ||| r2 ||| r3)=mo;have hm:∀j,mo.testBit j=true↔((b1.testBit j=true\/Ke B ch j)\/Ke A ch j)\/Ke B sf j:=fun j=>by
   rw[<-hmo,DK,DK,DK,EB,EB,EB,h1,h2,h3]
  have hs3:∀j,Ke B sf j↔∃i,i<ns.length/\(¬∃k,k<ns.length/\¬b1.testBit k=true/\(B.getD k 0).testBit i=true)/\(B.getD i 0).testBit j=true:=fun j=>by
   constructor
   .rintro⟨i,hi,e⟩;obtain⟨hn,nh⟩:=(hsf i).mp hi;exact⟨i,hn,fun⟨k,hk,nb,e'⟩=>nh ⟨k,(hz k).mpr ⟨(O0 _ _).mpr hk,nb⟩,e'⟩,e⟩
   .rintro⟨i,hi,nk,e⟩;exact⟨i,(hsf i).mpr ⟨hi,fun⟨k,hk,e'⟩=>nk ⟨k,(O0 _ _).mp ((hz k).mp hk).1,((hz k).mp hk).2,e'⟩⟩,e⟩
  refine hN2 _ _ (B7 fun N3 hN3=>?_);refine ex1 rfl (ex1 rfl ⟨rfl,_,rfl,U0 (fun eq=>?_) (fun ne=>?_)⟩)
  .have eq:mo=b1:=by have:=V.int.inj (AZ eq);omega
   refine ex1 rfl (ex1 rfl ⟨by show 2<=sizeLine;decide,fun t ht=>?_⟩);have ut:=Same.new (o:=.tup [.int (ch:Int),.int (b1:Int)]) ht;refine q t b1 _ (k4.trans ut.sm) (M4.same ut) A9 lo1 sub1 snd1 ⟨fun j h=>?_,fun j h=>?_,fun i j hi nk e=>?_⟩
   .rw[<-eq];exact(hm j).mpr (.inl (.inl (.inr h)))
   .rw[<-eq];exact(hm j).mpr (.inl (.inr h))
   .rw[<-eq];exact(hm j).mpr (.inr ((hs3 j).mpr ⟨i,hi,nk,e⟩))
  .have ne:mo≠b1:=fun z=>ne (AJ (by rw[z]));refine hN3 _ _ ?_;have sb:Sub b1 mo:=fun j h=>(hm j).mpr (.inl (.inl (.inl h)));refine ex1 rfl ⟨mo,_,_,rfl,EL (Nat.le_of_testBit sb) (Ne.symm ne),fun j h=>?_,fun j h=>sb j (sub1 j h),k4,M4,fun m hs hf=>?_⟩
   .rcases(hm j).mp h with((h | ⟨k,_,e⟩) | ⟨k,_,e⟩) | ⟨k,_,e⟩
    .exact lo1 j h
    .exact(net.lt k j e).2
    .exact(net.lt j k ((net.tr k j).mp e)).1
    .exact(net.lt k j e).2
   .have f1:=snd1 m hs hf;obtain⟨x1,x2,x3⟩:=Pn net hs f1;refine⟨f1.1,fun j hj z=>?_⟩;rcases(hm j).mp z with((h | h) | h) | h
    .exact f1.2 j hj h
    .exact x1 j h hj
    .exact x2 j h hj
    .obtain⟨i,hi,nk,e⟩:=(hs3 j).mp h;exact x3 i j hi nk e hj
end
def er(H:Hp)(l:Addr):Hp:=fun b=>if b=l then none else H b
theorem Zf{H:Hp}{l b:Addr}(n:b≠l):er H l b=H b:=AM n
theorem Dt(H:Hp)(l:Addr):Same (er H l) H:=fun b o e=>by
 unfold er at e;by_cases c:b=l
 .rw[AR c]at e;cases e
 .rw[AM c]at e;exact e
theorem zCj(H:Hp)(l:Addr)(o:HO):er (upd H l o) l=er H l:=funext fun b=>by
 unfold er;by_cases c:b=l
 .rw[AR c,AR c]
 .rw[AM c,AM c,B6 c]
theorem MarksAt.er{C:Addr}{H H':Hp}{x c l:Addr}{ns:List Str}{A B:List Nat}{L:Nat}(h:MarksAt C (er H l) x c ns A B L)(k:Sm [c] H H')(h':MarksAt C H' x c ns A B L)(n:l≠c):MarksAt C (Sw.er H' l) x c ns A B L:=by
 refine h.fz (fun b o e nb=>?_) ?_
 .have:b≠l:=fun z=>by subst z;unfold Sw.er at e;rw[AR rfl]at e;cases e
  rw[Zf this];exact k b o (Dt H l b o e) nb
 .obtain⟨_,_,_,_,_,_,_,_,_,e5,_⟩:=h'.ex;unfold Rd;rw[Zf n.symm];exact e5
theorem Py{n:Nat}(p:Nat->Prop)(h:∀m,p m->Low n m):∃Ls:List Nat,Ls.Nodup/\∀m,m∈Ls↔p m:=by
 classical
 refine⟨(List.range (2^n)).filter fun m=>decide (p m),CN.nodup GP,fun m=>?_⟩;rw[BF,B_,BS];exact⟨fun z=>z.2,fun z=>⟨(h m z).lt,z⟩⟩
theorem Dd(x y:Nat):((Builtin.bitAnd (x:Int) (y:Int)) != 0)=true↔∃j,x.testBit j=true/\y.testBit j=true:=by
 rw[zFk,bne_iff_ne];constructor
 .intro h;have h:x &&& y≠0:=fun z=>h (by rw[z];rfl);obtain⟨j,hj⟩:=Nat.exists_testBit_of_ne_zero h;rw[FG,CK]at hj;exact⟨j,hj⟩
 .rintro⟨j,h1,h2⟩ z;have e:x &&& y=0:=by omega
  have:=FW j;rw[<-e,FG,h1,h2]at this;cases this
section
variable{P:Program}{w:World}{K:PySem.W.Frag}{mg:Str->Option Value}{base:Heap}
abbrev Tgt:=Nat->List Nat->List Nat->Nat->Prop
def Ai(C:Addr)(Tg:Tgt):Sp:=fun vs H Q _=>∃(x c:Addr) (ns:List Str) (A B:List Nat) (L ch ba:Nat),vs = [.ref x,.int (ch:Int),.int (ba:Int)]/\MarksAt C H x c ns A B L/\Low ns.length ch/\Low ns.length ba /\
 ∀t (ch' ba':Nat) H',Sm [c] H H'->MarksAt C H' x c ns A B L->H' t=some (.tup [.int (ch':Int),.int (ba':Int)])->Low ns.length ch'->Low ns.length ba'->Sub ch ch'->Sub ba ba'->(∀m,Tg ns.length A B m->Fits ch ba m->Fits ch' ba' m)->((∀j,ch'.testBit j=true->¬ba'.testBit j=true)->(∀j,j<ns.length->ch'.testBit j=true\/ba'.testBit j=true)->Tg ns.length A B ch')->Q (.ref t) H'
def Y8(C f:Addr)(Tg:Tgt)(k:Nat):Sp:=fun vs H Q E=>∃(x c l:Addr) (ns:List Str) (A B:List Nat) (L ch ba:Nat) (fs:List Nat),vs = [.ref x,.ref f,.bl false,.int (ch:Int),.int (ba:Int),.ref l]/\MarksAt C (er H l) x c ns A B L/\Low ns.length ch/\Low ns.length ba/\und ns.length ch ba<=k/\H l=some (.lst (fs.map P0))/\fs.length<=300 /\
 ∀Ls:List Nat,Ls.Nodup->(∀m,m∈Ls↔Tg ns.length A B m/\Fits ch ba m)->(∀H',fs.length+Ls.length<=300->Sm [c,l] H H'->MarksAt C (er H' l) x c ns A B L->H' l=some (.lst ((fs++Ls).map P0))->Q .non H')/\(300<fs.length+Ls.length->False)
theorem Fx:FnScope ["marks", "settle", "greatest", "chosen", "barred", "found", "undecided", "most", "first"] ["marks", "settle", "greatest", "chosen", "barred", "found"] (B5 s_gather):=fsc
set_option maxHeartbeats 4000000 in
theorem Db(T:Tx K mg){f:Addr}{fd:FuncData}{Tg:Tgt}{n k:Nat}{S:Sp}(tl:∀n A B m,Tg n A B m->Low n m)(G_settle:FnOk P w K mg base CX0 n f fd ["marks", "chosen", "barred"] (Ai T.aa Tg))(hk_settle:PySem.W.keepIn K (.ref f)=true)(hb_settle:Binds K fd ["marks", "chosen", "barred"] [])
  (h1:1<=n) (G_gather:FnOk P w K mg base CX0 n T.ar.f T.ar.fd ["marks", "settle", "greatest", "chosen", "barred", "found"] S) (hS:∀k',k=k'+1->S=Y8 T.aa f Tg k') :
  FnOk P w K mg base CX0 (n+1) T.ar.f T.ar.fd ["marks", "settle", "greatest", "chosen", "barred", "found"] (Y8 T.aa f Tg k):=by
 have G_first_bit:FnOk P w K mg base CX0 n T.aD.f T.aD.fd ["some"] Mg:=(Fu T).mono h1;have sc:=Fx;refine T.ar.F.ok Fx (fun vs H Q E h=>?_) (fun cdv A outer s H vs Q E hr h=>?_)
 .obtain⟨x,c,l,ns,A,B,L,ch,ba,fs,rfl,_⟩:=h;rfl
 .obtain⟨x,c,l,ns,A,B,L,ch,ba,fs,rfl,hR,loc,lob,hu,el,lf,q⟩:=h;have hM:=hR.same (Dt H l);refine⟨_,(B3 (Fe (Vt (i:=1) G_settle (hr.mono (Nat.le_refl _)) hk_settle hb_settle K0 (A8 (pv 0) (A8 (pv 3) (A8 (pv 4) B2)))) (pgT K (n:=2) (C8 (J2 (i:=3) sc.nd rfl (.inl rfl)) (C8 (J2 (i:=4) sc.nd rfl (.inl rfl)) P5))))
   (B3 (K4 (ptV K (E8 Bc (pv 3) (pv 4))) (B4 Jt) D0)
   (B3 (C5 (i:=6) sc.nd rfl (.inl rfl) (E8 Ky (peF K (pv 0)) (E8 Ht (pv 3) (pv 4))))
   (B3 (C5 (i:=7) sc.nd rfl (.inr rfl) (E8 Ht (pv 3) (pv 6)))
   (B3 (K4 (PW.pt (Ey (K6 (pv 2)) (Df (K6 (E5 (Ts K) T.bs Qm (A8 (J7 (N':=["one", "most"]) (cap:=[none,some 7]) (cl:=[("most",_)]) (E7 ⟨⟨rfl,rfl,rfl,rfl⟩,trivial⟩ ⟨rfl,trivial⟩) rfl (piL K (pv 5)) (fun _ _ _ _=>by exact⟨(pgC 0),C3,(E4 T0 (E8 Bc (pv 1) (pv 0)) (pv 1) (D8 _))⟩)) B2)))))) (B4 Jt) D0)
   (B3 (K4 (S8 (ptV K (pv 6))) (B3 (K4 (C6 T0 (E5 (Ad K) T.aT o7 (A8 (pv 5) B2)) (zDn T.bJ) (D8 _)) (B4 v9) D0)
   (B3 (E9 (Nl K PySem.F.plainAttrs_list PySem.F.slot_list_append PySem.F.type_list_append J8 (pv 5) (A8 (pv 3) B2)))
   (B4 Jt))) D0)
   (B3 (C5 (i:=8) sc.nd rfl (.inl rfl) (C7 T.aD G_first_bit (hr.mono (Nat.le_refl _)) (A8 (pv 6) B2)))
   (B3 (E9 (C7 T.ar G_gather (hr.mono (Nat.le_refl _)) (@A8 _ _ _ _ _ (pv 0) (@A8 _ _ _ _ _ (pv 1) (@A8 _ _ _ _ _ (pv 2) (@A8 _ _ _ _ _ (E8 Ht (pv 3) (pv 8)) (@A8 _ _ _ _ _ (pv 4) (@A8 _ _ _ _ _ (pv 5) B2 (by rfl)) (by rfl)) (by rfl)) (by rfl)) (by rfl)) (by rfl))))
   (B4 (E9 (C7 T.ar G_gather (hr.mono (Nat.le_refl _)) (@A8 _ _ _ _ _ (pv 0) (@A8 _ _ _ _ _ (pv 1) (@A8 _ _ _ _ _ (pv 2) (@A8 _ _ _ _ _ (pv 3) (@A8 _ _ _ _ _ (E8 Ht (pv 4) (pv 8)) (@A8 _ _ _ _ _ (pv 5) B2 (by rfl)) (by rfl)) (by rfl)) (by rfl)) (by rfl)) (by rfl))))))))))))),?_⟩
  refine B7 fun N1 hN1=>?_;refine⟨rfl,ex1 rfl (ex1 rfl (ex1 rfl ⟨x,c,ns,A,B,L,ch,ba,rfl,hM,loc,lob,fun t c1 b1 H1 k1 M1 et lo1 lo2 sub1 sub2 snd cpl=>?_⟩))⟩;refine⟨t,_,rfl,SqT.of et,rfl,_,_,rfl,_,_,rfl,rfl,?_⟩;have nlc:l≠c:=let⟨_,_,_,_,_,_,_,_,_,e5,_⟩:=hM.ex;zBb e5 el (fun _ z=>by cases z) fun _ _ z=>by cases z
  have el1:=Sm1 k1 el nlc;have R1:=hR.er k1 M1 nlc;have k1:Sm [c,l] H H1:=fun b o e nb=>k1 b o e fun z=>nb (A_.mpr (.inl (AF.mp z)));refine hN1 _ _ (B7 fun N2 hN2=>?_);refine ex1 rfl (ex1 rfl (C4 rfl rfl ⟨_,rfl,U0 (fun cm=>?_) (fun cm=>?_)⟩))
  .obtain⟨j,j1,j2⟩:=(Dd c1 b1).mp cm;have:=(q [] GL fun m=>⟨fun z=>absurd z BP,fun⟨z,y⟩=>absurd j2 ((snd m z y).2 j ((snd m z y).1 j j1))⟩).1 H1 (by rw[GA];omega) k1 R1 (by rw[DB];exact el1);exact this
  have dis:∀j,c1.testBit j=true->¬b1.testBit j=true:=fun j z y=>cm ((Dd c1 b1).mpr ⟨j,z,y⟩);have fit:∀m,Tg ns.length A B m/\Fits ch ba m↔Tg ns.length A B m/\Fits c1 b1 m:=fun m=>⟨fun⟨z,y⟩=>⟨z,snd m z y⟩,fun⟨z,y⟩=>⟨z,y.mono sub1 sub2⟩⟩;refine hN2 _ _ (B7 fun N3 hN3=>?_);obtain⟨dx,a,b,d,kb,e1,_⟩:=M1.ex;obtain⟨u,eu,hu2⟩:=zFj (2^ns.length-1) (c1 ||| b1) fun j hj=>by
   rw[DK,EB]at hj;exact(O0 _ _).mpr (hj.elim (lo1 j) (lo2 j))
  have hu2:∀j,u.testBit j=true↔j<ns.length/\¬c1.testBit j=true/\¬b1.testBit j=true:=fun j=>by
   rw[hu2,O0,DK,EB,not_or]
  refine ex1 rfl ⟨x,T.aa,dx,_,ex1 rfl ⟨e1,T.ac,T.aB,rfl,ex1 rfl (ex1 rfl (C4 rfl rfl ?_))⟩⟩;dsimp only;rw[bor];refine C4 rfl rfl ?_;dsimp only;rw[eu];refine hN3 _ _ (B7 fun N4 hN4=>?_);refine ex1 rfl (ex1 rfl (C4 rfl rfl ?_));refine hN4 _ _ (B7 fun N5 hN5=>?_);refine ex1 rfl ⟨_,rfl,X0 (X0 ?_)⟩;refine hN5 _ _ (B7 fun N6 hN6=>?_);refine ex1 rfl ⟨_,rfl,U0 (fun z0=>?_) (fun z0=>?_)⟩
  .have u0:u=0:=by
    rw[EV,bne_eq_false_iff_eq]at z0;omega
   have all:∀j,j<ns.length->c1.testBit j=true\/b1.testBit j=true:=fun j hj=>by
    by_cases h:c1.testBit j=true
    .exact .inl h
    .by_cases h':b1.testBit j=true
     .exact .inr h'
     .have:=(hu2 j).mpr ⟨hj,h,h'⟩;rw[u0,FW]at this;cases this
   have tg:=cpl dis all;have qq:=q [c1] (DI _ _) fun m=>by
    rw[fit,AF];exact⟨fun z=>by rw[z];exact⟨tg,fun j h=>h,dis⟩,fun⟨z,y⟩=>Sa (tl _ _ _ _ z) all y⟩
   have lm:(fs.map P0).length=fs.length:=AA ..;refine B7 fun N7 hN7=>?_;refine ex1 rfl (C4 (a:=l) rfl (.inl (SqL.of el1)) ⟨rfl,_,rfl,U0 (fun e3=>?_) (fun e3=>?_)⟩)
   .have l300:fs.length=300:=by
     have:=V.int.inj (AZ e3);rw[lm]at this;omega
    exact qq.2 (by rw[List.length_singleton];omega)
   .have l300:fs.length<300:=EL lf fun z=>e3 (AJ (by rw[lm,z];rfl));refine hN7 _ _ (B7 fun N8 hN8=>?_);refine ex1 rfl ⟨.inl ⟨rfl,_,SqL.of el1⟩,ex1 rfl ⟨l,_,_,rfl,rfl,el1,by rw[lm,sizeLine_eq];omega,hN8 _ _ ?_⟩⟩;have:=qq.1 (upd H1 l (.lst (fs.map P0 ++ [.int (c1:Int)]))) (by rw[List.length_singleton];omega) (k1.upd (by simp)) (by rw[zCj];exact R1) (by rw[A9,AK];rfl);exact this
  .have upos:0<u:=by
    rcases Nat.eq_zero_or_pos u with h | h
    .exact absurd (by rw[h];rfl) z0
    .exact h
   refine hN6 _ _ (B7 fun N7 hN7=>?_);refine ex1 rfl ⟨u,rfl,upos,fun kk hkk=>?_⟩;obtain⟨k0,nc,nb⟩:=(hu2 kk).mp hkk;have ss:∀a:Nat,Sub a (a ||| 2^kk):=fun a j h=>by rw[DK,h];rfl
   have sb:∀a:Nat,(a ||| 2^kk).testBit kk=true:=fun a=>by rw[DK,HB,Bool.or_true]
   have un1:=Ww (n:=ns.length) sub1 sub2;have un2:=Yk (n:=ns.length) (ss c1) (fun j h=>h:Sub b1 b1) k0 ⟨nc,nb⟩ (.inl (sb c1));have un3:=Yk (n:=ns.length) (fun j h=>h:Sub c1 c1) (ss b1) k0 ⟨nc,nb⟩ (.inr (sb b1));obtain⟨k',rfl⟩:∃k',k=k'+1:=⟨k-1,by omega⟩;have hSS:=hS k' rfl;subst hSS;have mem:∀{L1 L2:List Nat},(∀m,m∈L1↔Tg ns.length A B m/\Fits (c1 ||| 2^kk) b1 m)->(∀m,m∈L2↔Tg ns.length A B m/\Fits c1 (b1 ||| 2^kk) m)->∀m,m∈L1++L2↔Tg ns.length A B m/\Fits ch ba m:=fun h1 h2 m=>by
    rw[fit,AO,h1,h2,fits_or,fits_bar];constructor
    .rintro(⟨a,b,_⟩ | ⟨a,b,_⟩)
     .exact⟨a,b⟩
     .exact⟨a,b⟩
    .rintro⟨a,b⟩;by_cases h:m.testBit kk=true
     .exact .inl ⟨a,b,h⟩
     .exact .inr ⟨a,b,h⟩
   have nod:∀{L1 L2:List Nat},L1.Nodup->L2.Nodup->(∀m,m∈L1↔Tg ns.length A B m/\Fits (c1 ||| 2^kk) b1 m)->(∀m,m∈L2↔Tg ns.length A B m/\Fits c1 (b1 ||| 2^kk) m)->(L1++L2).Nodup:=fun n1 n2 h1 h2=>DT.mpr ⟨n1,n2,fun a ha b hb e=>by
    subst e;exact(fits_bar.mp ((h2 a).mp hb).2).2 (fits_or.mp ((h1 a).mp ha).2).2⟩
   refine hN7 _ _ (B7 fun N8 hN8=>?_);refine ex1 rfl (ex1 rfl (ex1 rfl (ex1 rfl (ex1 rfl (C4 rfl rfl ?_)))));refine ex1 rfl (ex1 rfl ⟨x,c,l,ns,A,B,L,c1 ||| 2^kk,b1,fs,by dsimp only;rw[bor];rfl,R1,lo1.or k0,lo2,by omega,el1,lf,fun L1 nd1 m1=>⟨fun H2 le2 k2 M2 el2=>?_,fun gt=>?_⟩⟩)
   .refine hN8 _ _ ?_;refine ex1 rfl (ex1 rfl (ex1 rfl (ex1 rfl (ex1 rfl (ex1 rfl (C4 rfl rfl ?_))))));refine ex1 rfl ⟨x,c,l,ns,A,B,L,c1,b1 ||| 2^kk,fs++L1,by dsimp only;rw[bor];rfl,M2,lo1,lo2.or k0,by omega,el2,by rw[BB];exact le2,fun L2 nd2 m2=>⟨fun H3 le3 k3 M3 el3=>?_,fun gt=>?_⟩⟩
    .rw[BB]at le3;rw[BI]at el3;exact(q (L1++L2) (nod nd1 nd2 m1 m2) (mem m1 m2)).1 H3 (by rw[BB];omega) (k1.trans (k2.trans k3)) M3 el3
    .rw[BB]at gt;exact((q (L1++L2) (nod nd1 nd2 m1 m2) (mem m1 m2)).2 (by rw[BB];omega))
   .obtain⟨L2,nd2,m2⟩:=Py (n:=ns.length) (fun m=>Tg ns.length A B m/\Fits c1 (b1 ||| 2^kk) m) fun m h=>tl _ _ _ _ h.1;exact((q (L1++L2) (nod nd1 nd2 m1 m2) (mem m1 m2)).2 (by rw[BB];omega))
def zAe:Sp:=fun _ _ _ _=>False
theorem Wy{f:Addr}{fd:FuncData}{ps:List Str}{CX:CXT}{n:Nat}:FnOk P w K mg base CX n f fd ps zAe:=⟨fun _ _ _ _ h=>h.elim,fun _ _ _ _ _ _ _ _ _ _ _ _ _ h=>h.elim⟩
theorem Gx(T:Tx K mg){f:Addr}{fd:FuncData}{Tg:Tgt}{n:Nat}(tl:∀n A B m,Tg n A B m->Low n m)(G:FnOk P w K mg base CX0 n f fd ["marks", "chosen", "barred"] (Ai T.aa Tg))(hk:PySem.W.keepIn K (.ref f)=true)(hb:Binds K fd ["marks", "chosen", "barred"] [])(h1:1<=n) :
  ∀k,FnOk P w K mg base CX0 (n+1+k) T.ar.f T.ar.fd ["marks", "settle", "greatest", "chosen", "barred", "found"] (Y8 T.aa f Tg k)
 | 0=>Db T tl G hk hb h1 Wy fun k' e=>by omega
 | k+1=>Db (n:=n+1+k) T tl (G.mono (by omega)) hk hb (by omega) (Gx T tl G hk hb h1 k) fun k' e=>by cases e;rfl
end
def Y6(n:Nat)(A B:List Nat)(m:Nat):Prop:=Cs n A B m/\∀j,Eu n A B m j->m.testBit j=true
theorem Ph{n:Nat}{A B:List Nat}{m m' j:Nat}(s:Sub m m')(h:Eu n A B m j):Eu n A B m' j:=⟨h.1,fun b hb=>let⟨k,hk,e⟩:=h.2 b hb;⟨k,s k hk,e⟩⟩
section
variable{P:Program}{w:World}{K:PySem.W.Frag}{mg:Str->Option Value}{base:Heap}
theorem X6:FnScope ["self", "some"] ["self", "some"] (B5 s_Marks_kept):=fsc
def Wb(C:Addr):Sp:=fun vs H Q _=>∃(x c:Addr) (ns:List Str) (A B:List Nat) (L m:Nat),vs = [.ref x,.int (m:Int)]/\MarksAt C H x c ns A B L/\∀(r:Nat) H',Sm [c] H H'->MarksAt C H' x c ns A B L->(∀j,r.testBit j=true↔Eu ns.length A B m j)->Q (.int (r:Int)) H'
theorem Dx(T:Tx K mg):FnOk P w K mg base CX0 4 T.aC.f T.aC.fd ["self", "some"] (Wb T.aa):=by
 have G_Marks_struck_by:=K5 (P:=P) (w:=w) (base:=base) T;have G_Marks_unstruck_by:=M5 (P:=P) (w:=w) (base:=base) T;have sc:=X6;refine T.aC.F.ok X6 (fun vs H Q E h=>?_) (fun cdv A outer s H vs Q E hr h=>?_)
 .obtain⟨x,c,ns,A,B,L,m,rfl,_⟩:=h;rfl
 .obtain⟨x,c,ns,A,B,L,m,rfl,hM,q⟩:=h;obtain⟨dx,a,b,d,kb,e1,_⟩:=hM.ex;refine⟨_,(B4 (B9 (E8 Ky (peF K (pv 0)) (G7 (pv 0) T.ac T.af.m G_Marks_struck_by (Rm hr) T.af.b .nil K0 (A8 (G7 (pv 0) T.ac T.ah.m G_Marks_unstruck_by (Rm hr) T.ah.b .nil K0 (A8 (pv 1) B2)) B2))))),?_⟩;refine ex1 rfl ⟨x,T.aa,dx,_,ex1 rfl ⟨e1,T.ac,T.aB,rfl,ex1 rfl ⟨x,dx,ex1 rfl ⟨e1,rfl,ex1 rfl ⟨x,dx,ex1 rfl ⟨e1,rfl,ex1 rfl ⟨x,c,ns,A,B,L,m,rfl,hM,fun r1 H1 k1 M1 h1=>?_⟩⟩⟩⟩⟩⟩⟩;refine⟨x,c,ns,A,B,L,r1,rfl,M1,fun r H2 k2 M2 hr=>?_⟩;obtain⟨z,ez,hz⟩:=zFj (2^ns.length-1) r fun j hj=>by
   obtain⟨k,_,e⟩:=(hr j).mp hj;exact(O0 _ _).mpr (hM.net.lt k j e).2
  refine⟨_,_,rfl,rfl,?_⟩;dsimp only;rw[ez];refine q z H2 (k1.trans k2) M2 fun j=>?_;rw[hz,O0,hr];constructor
  .rintro⟨hj,nh⟩;refine⟨hj,fun b hb=>?_⟩;have e:=(hM.net.tr j b).mp hb;by_cases c:Ke B m b
   .exact c
   .exact absurd ⟨b,(h1 b).mpr ⟨(hM.net.lt b j e).1,c⟩,e⟩ nh
  .rintro⟨hj,h⟩;exact⟨hj,fun⟨k,hk,e⟩=>((h1 k).mp hk).2 (h k ((hM.net.tr j k).mpr e))⟩
theorem T3:FnScope ["marks", "chosen", "barred", "more"] ["marks", "chosen", "barred"] (B5 s_settle_whole):=fsc
set_option maxHeartbeats 2000000 in
theorem Af(T:Tx K mg):FnOk P w K mg base CX0 5 T.ap.f T.ap.fd ["marks", "chosen", "barred"] (Ai T.aa Y6):=by
 have G_settle_standing:=Y2 (P:=P) (w:=w) (base:=base) T;have G_Marks_kept:=Dx (P:=P) (w:=w) (base:=base) T;have sc:=T3;refine T.ap.F.ok T3 (fun vs H Q E h=>?_) (fun cdv A outer s H vs Q E hr h=>?_)
 .obtain⟨x,c,ns,A,B,L,ch,ba,rfl,_⟩:=h;rfl
 .obtain⟨x,c,ns,A,B,L,ch,ba,rfl,hM,loc,lob,q⟩:=h;have net:=hM.net;refine⟨_,(B4 (Dv PassesOwn.never (K6 T5) (B3 (Fe (C7 T.ay G_settle_standing (Rm hr) (A8 (pv 0) (A8 (pv 1) (A8 (pv 2) B2)))) (pgT K (n:=2) (C8 (J2 (i:=1) sc.nd rfl (.inl rfl)) (C8 (J2 (i:=2) sc.nd rfl (.inl rfl)) P5))))
   (B3 (C5 (i:=3) sc.nd rfl (.inl rfl) (E8 Ht (pv 1) (G7 (pv 0) T.ac T.aC.m G_Marks_kept (Rm hr) T.aC.b .nil K0 (A8 (pv 1) B2))))
   (B3 (K4 (PW.pt (Bs (C6 T0 (pv 3) (pv 1) (D8 _)) (V4 (ptV K (E8 Bc (pv 1) (pv 2)))))) (B4 (B9 (M7 (A8 (pv 1) (A8 (pv 2) B2))))) D0)
   (B4 (C5 (i:=1) sc.nd rfl (.inl rfl) (pv 3)))))))),?_⟩
  refine⟨fun k σ G=>∃(c1 b1:Nat) (v3:Option V),σ = [some (.ref x),some (.int (c1:Int)),some (.int (b1:Int)),v3]/\k=2^ns.length-c1/\Low ns.length c1/\Low ns.length b1/\Sub ch c1/\Sub ba b1/\Sm [c] H G/\MarksAt T.aa G x c ns A B L/\∀m,Y6 ns.length A B m->Fits ch ba m->Fits c1 b1 m,⟨_,ch,ba,_,rfl,rfl,loc,lob,fun j h=>h,fun j h=>h,Sm.refl _ _,hM,fun m _ h=>h⟩,?_⟩;rintro k σ G ⟨c1,b1,v3,rfl,rfl,lo1,lo2,sub1,sub2,kG,MG,snd1⟩;refine⟨_,rfl,Um ⟨fun σ' G'=>∃(c2 b2:Nat) (v3:Option V),σ' = [some (.ref x),some (.int (c2:Int)),some (.int (b2:Int)),v3]/\c1<c2/\Low ns.length c2/\Low ns.length b2/\Sub ch c2/\Sub ba b2/\Sm [c] H G'/\MarksAt T.aa G' x c ns A B L/\∀m,Y6 ns.length A B m->Fits ch ba m->Fits c2 b2 m,?_,?_⟩⟩
  .rintro σ' G' ⟨c2,b2,v3,rfl,lt,lo3,h⟩;have:=lo3.lt;exact⟨2^ns.length-c2,by omega,c2,b2,_,rfl,rfl,lo3,h⟩
  refine B7 fun N1 hN1=>?_;refine ex1 rfl (ex1 rfl (ex1 rfl ⟨x,c,ns,A,B,L,c1,b1,rfl,MG,lo1,lo2,fun t b2 G1 k1 M1 et lo3 sub3 snd2 st=>?_⟩));refine⟨t,_,rfl,SqT.of et,rfl,_,_,rfl,_,_,rfl,rfl,?_⟩;have snd3:∀m,Y6 ns.length A B m->Fits ch ba m->Fits c1 b2 m:=fun m hw hf=>snd2 m hw.1 (snd1 m hw hf);refine hN1 _ _ (B7 fun N2 hN2=>?_);obtain⟨dx,a,b,d,kb,e1,_⟩:=M1.ex;refine ex1 rfl (ex1 rfl ⟨x,dx,ex1 rfl ⟨e1,rfl,ex1 rfl ⟨x,c,ns,A,B,L,c1,rfl,M1,fun r G2 k2 M2 hr=>?_⟩⟩⟩);refine C4 rfl rfl ?_;dsimp only;rw[bor];have k2:=kG.trans (k1.trans k2);generalize hmo:(c1 ||| r)=mo;have hm:∀j,mo.testBit j=true↔c1.testBit j=true\/Eu ns.length A B c1 j:=fun j=>by rw[<-hmo,DK,EB,hr]
  have ret:(mo=c1\/∃j,c1.testBit j=true/\b2.testBit j=true)->∀t' G3,Same G2 G3->G3 t'=some (.tup [.int (c1:Int),.int (b2:Int)])->Q (.ref t') G3:=fun hc t' G3 s3 et'=>by
   refine q t' c1 b2 G3 (k2.trans s3.sm) (M2.same s3) et' lo1 lo3 sub1 (fun j h=>sub3 j (sub2 j h)) snd3 fun dis all=>⟨Od net lo1 st dis all,fun j hj=>?_⟩;rcases hc with e | ⟨i,h1,h2⟩
   .rw[<-e];exact(hm j).mpr (.inr hj)
   .exact absurd h2 (dis i h1)
  have tup:(mo=c1\/∃j,c1.testBit j=true/\b2.testBit j=true)->Xl (zEl (T6 (Bo 1) (T6 (Bo 2) Kv))) { nx:=fun _ H'=>Q .non H',rt:=Q } [some (.ref x),some (.int (c1:Int)),some (.int (b2:Int)),some (.int (mo:Int))] G2:=fun hc =>
   ex1 rfl (ex1 rfl ⟨by show 2<=sizeLine;decide,fun t' ht'=>ret hc t' _ (Same.new ht') A9⟩)
  refine hN2 _ _ (B7 fun N3 hN3=>?_);refine ex1 rfl (ex1 rfl ⟨rfl,_,rfl,U0 (fun eq=>?_) (fun ne=>?_)⟩)
  .exact Um (tup (.inl (by have:=V.int.inj (AZ eq);omega)))
  .refine ex1 rfl (ex1 rfl (C4 rfl rfl ⟨_,rfl,U0 (fun cm=>?_) (fun cm=>?_)⟩))
   .exact tup (.inr ((Dd c1 b2).mp cm))
   .have ne:mo≠c1:=fun z=>ne (AJ (by rw[z]));have sb:Sub c1 mo:=fun j h=>(hm j).mpr (.inl h);refine hN3 _ _ ?_;refine ex1 rfl ⟨mo,b2,_,rfl,EL (Nat.le_of_testBit sb) (Ne.symm ne),fun j h=>((hm j).mp h).elim (lo1 j) (·.1),lo3,fun j h=>sb j (sub1 j h),fun j h=>sub3 j (sub2 j h),k2,M2,fun m hw hf=>?_⟩;have f1:=snd3 m hw hf;exact⟨fun j h=>((hm j).mp h).elim (f1.1 j) fun y=>hw.2 j (Ph f1.1 y),f1.2⟩
end
theorem Jq(U:Nat->Key)(v:Nat->V){N:Nat}(inj:∀i j,i<N->j<N->U i=U j->i=j):∀n,n<=N->∀i,i<N->P8 ((List.range n).map fun k=>(U k,v k)) (U i)=if i<n then some (v i)else none
 | 0,_,i,_=>rfl
 | n+1,h,i,hi=>by
  have ih:=Jq U v inj n (by omega) i hi;unfold P8 at ih⊢;rw[EI,AK,List.find?_append];by_cases c:i<n
  .rw[AR c]at ih;rw[AR (by omega)];cases e:(List.find? (fun kv:Key×V=>decide (kv.1=U i)) ((List.range n).map fun k=>(U k,v k)))with
   | none=>rw[e]at ih;cases ih
   | some q=>rw[e]at ih;rw[Option.some_or];exact ih
  .rw[AM c]at ih;cases e:(List.find? (fun kv:Key×V=>decide (kv.1=U i)) ((List.range n).map fun k=>(U k,v k)))with
   | some q=>rw[e]at ih;cases ih
   | none =>
    rw[Option.none_or,BA,DU];by_cases c':i=n
    .subst c';rw[AJ rfl,AR (by omega)];rfl
    .rw[AQ fun z=>c' (inj n i (by omega) hi z).symm,AM (by omega)];rfl
theorem Qy(U:Nat->Key)(v:Nat->V){N:Nat}(inj:∀i j,i<N->j<N->U i=U j->i=j){n:Nat}(h:n<N):An ((List.range n).map fun k=>(U k,v k)) (U n) (v n) =(List.range (n+1)).map fun k=>(U k,v k):=by
 rw[Mo _ (by rw[Jq U v inj n (by omega) n h,AM (by omega)]),EI,AK];rfl
theorem Lu:∀n,(((List.range n).map fun k=>((2^k:Nat):Int)).sum) =((2^n-1:Nat):Int)
 | 0=>rfl
 | n+1=>by
  rw[EI,AK,List.sum_append,Lu n];have:0<2^n:=Nat.pow_pos (by decide);simp only[BA,List.map_nil,List.sum_cons,List.sum_nil,Nat.pow_succ];omega
theorem Md(l:List Nat):((l.map fun k=>((2^k:Nat):Int)).sum) =(((l.map fun k=>2^k).sum:Nat):Int):=by
 induction l with
 | nil=>rfl
 | cons a r ih=>rw[BA,List.sum_cons,ih,BA,List.sum_cons];omega
theorem Ft{ns:List Str}{y:Str}(h:y∈ns):ns[ns.idxOf y]?=some y:=by
 rw[AH (List.idxOf_lt_length_of_mem h),List.getElem_idxOf]
def ML(ns:List Str)(g:Str->List Str):List Nat:=ns.map fun n=>((g n).map fun y=>2^ns.idxOf y).sum
theorem Zr{ns:List Str}{g:Str->List Str}{i:Nat}{n:Str}(h:ns[i]?=some n):(ML ns g).getD i 0 =(((g n).map fun y=>ns.idxOf y).map fun k=>2^k).sum:=by
 unfold ML;rw[BZ,AI,h,AY];rfl
theorem zFb{ns:List Str}{g:Str->List Str}{ks:List (Str×Str)}(nd:ns.Nodup)(gn:∀n∈ns,(g n).Nodup)(gm:∀n∈ns,∀y,y∈g n↔(n,y)∈ks)(mem:∀k∈ks,k.1∈ns/\k.2∈ns):MB ns ks (ML ns g):=by
 refine⟨by unfold ML;rw[AA],fun i j=>?_⟩;cases hi:ns[i]? with
 | none =>
  have e:(ML ns g).getD i 0=0:=by unfold ML;rw[BZ,AI,hi];rfl
  rw[e,FW];exact⟨fun z=>(by cases z),fun⟨k,_,z,_⟩=>(by cases z)⟩
 | some n =>
  have hn:=AV hi;have nj:((g n).map fun y=>ns.idxOf y).Nodup:=by
   refine BW.mpr (HC (fun{a b} ha hb ne e=>ne ?_) (gn n hn));have ea:=Ft (mem _ ((gm n hn a).mp ha)).2;have eb:=Ft (mem _ ((gm n hn b).mp hb)).2;rw[e,eb]at ea;exact(BH ea).symm
  rw[Zr hi,Jv nj,AE];constructor
  .rintro⟨y,hy,rfl⟩;have hk:=(gm n hn y).mp hy;exact⟨_,hk,rfl,Ft (mem _ hk).2⟩
  .rintro⟨k,hk,e1,e2⟩;have e1:=BH e1;refine⟨k.2,(gm n hn k.2).mpr (by rw[e1];exact hk),?_⟩;exact My nd (Ft (mem _ hk).2) e2
theorem Mu{J:It}{a D:Addr}{ns:List Str}{H:Hp}{Q:St->Hp->Prop}(as:AsSeq J (ns.map V.str) a H){tk tv:TE}{r:St}{v0:Option V}(M:List Nat)(len:ns.length<=1000)(hD:H D=none)
  (hk:∀i n G (R:VK),ns[i]?=some n->Same H G->R (P0 (2^i)) G->tk (some (.str n)::r) G R)
  (hv:∀i n G (R:VK),ns[i]?=some n->Same H G->(∀G',Same G G'->R (P0 (M.getD i 0)) G')->tv (some (.str n)::r) G R)
  (q:∀σ G,Same H G->G D=some (.dK (bK M ns.length))->Q σ G):V0 (J5 0) S9 (Jg D tk tv) J (v0::r) (upd H D (.dK [])) Q:=by
 refine G0 as (fun i σ G=>(∃v,σ=v::r)/\Same H G/\G D=some (.dK (bK M i))) ⟨⟨_,rfl⟩,Same.new hD,A9⟩ (fun i σ G _ h=>h.2.1.at a) ?_ ?_
 .rintro i σ G v N hx ⟨⟨v0,rfl⟩,sG,eG⟩ hN;rw[AI]at hx;obtain⟨n,hn,rfl⟩:=BL.mp hx;have li:=(AG.mp hn).1;refine M9 (hk i n G _ hn sG (hv i n G _ hn sG fun G' s'=>?_));refine⟨bK M i,.inl ((2^i:Nat):Int),s' _ _ eG,rfl,by unfold bK;rw[AA,CA,sizeLine_eq];omega,hN _ _ ⟨⟨_,rfl⟩,(sG.trans s').upd hD,?_⟩⟩;rw[A9];unfold bK;rw[Qy (fun k=>(Sum.inl ((2^k:Nat):Int):Key)) (fun k=>P0 (M.getD k 0)) (N:=i+1) (fun a b _ _ e=>Sl (Sum.inl.inj e)) (EM i)]
 .rintro σ G ⟨_,sG,eG⟩;rw[AA]at eG;exact q σ G sG eG
theorem WebAt.smx{C M:Addr}{H H':Hp}{x w dx:Addr}{ns:List Str}{qs:List PA2}(h:WebAt C H w ns qs)(hx:H x=some (.ins M dx []))(s:Sm [x] H H'):WebAt C H' w ns qs:=by
 obtain⟨ok,dw,a,b,c,d,kc,kd,e1,e2,e3,e4,e5,e6,e7,e8⟩:=h;have k:∀{b:Addr} {o:HO},H b=some o->o≠ .ins M dx []->H' b=some o:=fun e n=>s _ _ e fun z=>n (by rw[AF.mp z,hx]at e;exact(BH e).symm);exact⟨ok,dw,a,b,c,d,kc,kd,k e1 (by unfold wf;intro z;cases z),k e2 (by intro z;cases z),k e3 (by intro z;cases z),fun q hq=>k (e4 q hq) (by intro z;cases z),k e5 (by intro z;cases z),k e6 (by intro z;cases z),fun n hn=>let⟨l,v,e⟩:=e7 n hn;⟨l,v,k e (by intro z;cases z)⟩,fun n hn=>let⟨l,v,e⟩:=e8 n hn;⟨l,v,k e (by intro z;cases z)⟩⟩
theorem Fc{qs:List PA2}{n y:Str}:y∈B1 qs n↔(n,y)∈(qs.map fun q=>q.2).map fun k=>(k.2,k.1):=by
 unfold B1;rw[AY,AE,AE];constructor
 .rintro⟨q,h,rfl⟩;obtain⟨h1,h2⟩:=BF.mp h;exact⟨q,h1,Prod.ext (AZ h2) rfl⟩
 .rintro⟨q,h,e⟩;exact⟨q,BF.mpr ⟨h,AJ (congrArg Prod.fst e)⟩,congrArg Prod.snd e⟩
theorem Kg{qs:List PA2}{n y:Str}:y∈C1 qs n↔(n,y)∈qs.map fun q=>q.2:=by
 unfold C1;rw[AE,AE];constructor
 .rintro⟨q,h,rfl⟩;obtain⟨h1,h2⟩:=BF.mp h;exact⟨q,h1,Prod.ext (AZ h2) rfl⟩
 .rintro⟨q,h,e⟩;exact⟨q,BF.mpr ⟨h,AJ (congrArg Prod.fst e)⟩,congrArg Prod.snd e⟩
theorem Jw{qs:List PA2}(h:(qs.map fun q=>q.2).Nodup)(n:Str):(B1 qs n).Nodup:=by
 unfold B1;refine BW.mpr (HC (fun{a b} ha hb ne e=>ne ?_) ((BW.mp h).sublist CN));exact Prod.ext e ((AZ (BF.mp ha).2).trans (AZ (BF.mp hb).2).symm)
theorem Sj{qs:List PA2}(h:(qs.map fun q=>q.2).Nodup)(n:Str):(C1 qs n).Nodup:=by
 unfold C1;refine BW.mpr (HC (fun{a b} ha hb ne e=>ne ?_) ((BW.mp h).sublist CN));exact Prod.ext ((AZ (BF.mp ha).2).trans (AZ (BF.mp hb).2).symm) e
def kbT(ns:List Str)(i:Nat):List (Key×V):=(List.range i).map fun k=>((Sum.inr (ns.getD k ""):Key),P0 (2^k))
theorem Ev{ns:List Str}{i:Nat}{n:Str}(h:ns[i]?=some n):ns.getD i "" = n:=by rw[BZ,h];rfl
theorem Xz{ns:List Str}(nd:ns.Nodup):∀i j,i<ns.length->j<ns.length->(Sum.inr (ns.getD i ""):Key)=Sum.inr (ns.getD j "")->i=j:=fun i j hi hj e=>by
 have e:=Sum.inr.inj e;rw[Ev (AH hi),Ev (AH hj)]at e;exact My nd (AH hi) (by rw[AH hj,e])
theorem Ku{ns:List Str}(nd:ns.Nodup){i:Nat}{n:Str}(h:ns[i]?=some n):P8 (kbT ns ns.length) (.inr n)=some (P0 (2^i)):=by
 have hi:=(AG.mp h).1;have:=Jq (fun k=>(Sum.inr (ns.getD k ""):Key)) (fun k=>P0 (2^k)) (Xz nd) ns.length (Nat.le_refl _) i hi;rw[AR hi]at this;rw[Ev h]at this;exact this
section
variable{P:Program}{w:World}{K:PySem.W.Frag}{mg:Str->Option Value}{base:Heap}
theorem Kx{G:Hp}{b l:Addr}{ns ys:List Str}{R:VK}(nd:ns.Nodup)(hb:G b=some (.dK (kbT ns ns.length)))(hl:G l=some (.lst (ys.map V.str)))(hm:∀y∈ys,y∈ns)(len:ys.length<=1000)(hR:∀G',Same G G'->R (.int ((((ys.map fun y=>ns.idxOf y).map fun k=>2^k).sum:Nat):Int)) G') :
  ∀D,G D=none->V0 (J5 0) S9 (R0 D (zCz (Bo 1) (Bo 0))) (Itl K l) [none,some (.ref b)] (upd G D (.lst [])) fun _ H2=>∃(p:Addr) (zs:List Int),[V.ref D] = [.ref p]/\SqL K H2 p (zs.map V.int)/\R (.int zs.sum) H2:=fun D hD=>by
 refine Yy (fun y=>P0 (2^ns.idxOf y)) (asL (SqL.of hl)) (fun _=>true) (by omega) hD (fun y hy G1 s1 M hM=>hM G1 fun b o e=>e) (fun y hy G1 s1 M hM=>?_) fun σ G1 s1 e1=>?_
 .exact ex1 rfl (ex1 rfl ⟨b,_,rfl,.inl ⟨_,.inr y,.inl (s1 _ _ hb),rfl,(Ku nd (Ft (hm y hy))).symm⟩,hM⟩)
 .rw[DX.mpr fun _ _=>rfl]at e1;refine⟨D,(ys.map fun y=>ns.idxOf y).map fun k=>((2^k:Nat):Int),rfl,SqL.of (by rw[e1,AY,AY];rfl),?_⟩;rw[Md];exact hR G1 s1
theorem Q4:FnScope ["self", "web", "bits"] ["self", "web"] (B5 s_Marks___init__):=fsc
def Y0(CM CW:Addr):Sp:=fun vs H Q _=>∃(x dx wb:Addr) (ns:List Str) (qs:List PA2),vs = [.ref x,.ref wb]/\H x=some (.ins CM dx [])/\WebAt CW H wb ns qs /\
 ∀(c:Addr) (A B:List Nat) (L:Nat) H',H c=none->Sm [x] H H'->MarksAt CM H' x c ns A B L->MB ns ((qs.map fun q=>q.2).map fun k=>(k.2,k.1)) A->MB ns (qs.map fun q=>q.2) B->Q .non H'
set_option maxHeartbeats 4000000 in
theorem Dj(T:Tx K mg):FnOk P w K mg base CX0 3 T.bb T.a8 ["self", "web"] (Y0 T.aa T.ab):=by
 have G_Web_all_names:=J0 (P:=P) (w:=w) (base:=base) T;have G_Web_strikers:=G8 (P:=P) (w:=w) (base:=base) T;have G_Web_struck:=d6 (P:=P) (w:=w) (base:=base) T;have sc:=Q4;refine T.bq.ok Q4 (fun vs H Q E h=>?_) (fun cdv A outer s H vs Q E hr h=>?_)
 .obtain⟨x,dx,wb,ns,qs,rfl,_⟩:=h;rfl
 .obtain⟨x,dx,wb,ns,qs,rfl,hx,hW,q⟩:=h;have hu:=T9 hr;have okw:=hW.ok;have ln:=okw.len;have nd:=okw.nd;refine⟨_,(B3 (psF K (pv 0) (Y1 (pv 1) T.ag T.ae.m G_Web_all_names (Rm hr) T.ae.b .nil K0))
   (B3 (C5 (i:=2) sc.nd rfl (.inr rfl) (En (N':=["place", "name"]) (cap:=[none,none]) (cl:=[]) (E7 trivial trivial) rfl (piE K T.a0 (A8 (peF K (pv 0)) B2)) (fun _ _ _ _=>by exact⟨(pgT K (n:=2) (C8 (pgC 0) (C8 (pgC 1) P5))),C3,(pv 1),(E8 zCk B8 (pv 0))⟩)))
   (B3 (psF K (pv 0) (E5 Zm T.bp Lv (A8 (Rk (pv 2)) B2)))
   (B3 (psF K (pv 0) (pv 2))
   (B3 (psF K (pv 0) (En (N':=["name", "bits", "web"]) (cap:=[none,some 2,some 1]) (cl:=[("web",_),("bits",_)]) (E7 ⟨⟨rfl,rfl,rfl,rfl⟩,⟨⟨rfl,rfl,rfl,rfl⟩,trivial⟩⟩ ⟨rfl,⟨rfl,trivial⟩⟩) rfl (piL K (peF K (pv 0))) (fun _ _ _ _=>by exact⟨(pgC 0),C3,(F0 hu (pv 1) (pv 0) (fun _ _=>rfl)),(E5 (Si K) T.bp Lv (A8 (J7 (N':=["one", "bits"]) (cap:=[none,some 1]) (cl:=[("bits",_)]) (E7 ⟨⟨rfl,rfl,rfl,rfl⟩,trivial⟩ ⟨rfl,trivial⟩) rfl (piL K (G7 (pv 2) T.ag T.ad.m G_Web_strikers (Rm hr) T.ad.b .nil K0 (A8 (pv 0) B2))) (fun _ _ _ _=>by exact⟨(pgC 0),C3,(F0 hu (pv 1) (pv 0) (fun _ _=>rfl))⟩)) B2))⟩)))
   (B3 (psF K (pv 0) (En (N':=["name", "bits", "web"]) (cap:=[none,some 2,some 1]) (cl:=[("web",_),("bits",_)]) (E7 ⟨⟨rfl,rfl,rfl,rfl⟩,⟨⟨rfl,rfl,rfl,rfl⟩,trivial⟩⟩ ⟨rfl,⟨rfl,trivial⟩⟩) rfl (piL K (peF K (pv 0))) (fun _ _ _ _=>by exact⟨(pgC 0),C3,(F0 hu (pv 1) (pv 0) (fun _ _=>rfl)),(E5 (Si K) T.bp Lv (A8 (J7 (N':=["one", "bits"]) (cap:=[none,some 1]) (cl:=[("bits",_)]) (E7 ⟨⟨rfl,rfl,rfl,rfl⟩,trivial⟩ ⟨rfl,trivial⟩) rfl (piL K (G7 (pv 2) T.ag T.aq.m G_Web_struck (Rm hr) T.aq.b .nil K0 (A8 (pv 0) B2))) (fun _ _ _ _=>by exact⟨(pgC 0),C3,(F0 hu (pv 1) (pv 0) (fun _ _=>rfl))⟩)) B2))⟩)))
   (B4 (psF K (pv 0) (E5 (Si K) T.bp Lv (A8 (J7 (N':=["bit", "self"]) (cap:=[none,some 0]) (cl:=[("self",_)]) (E7 ⟨⟨rfl,rfl,rfl,rfl⟩,trivial⟩ ⟨rfl,trivial⟩) rfl (zCl (Rk (pv 2))) (fun _ _ _ _=>by exact⟨(pgC 0),(O8 (ptV K (E8 Bc (pv 0) (F0 hu (peF K (pv 1)) (pv 0) (fun _ _=>rfl))))),(pv 0)⟩)) B2)))))))))),?_⟩
  have nin:∀{b:Addr},b≠x->b∉[x]:=fun h z=>h (AF.mp z);refine B7 fun Z1 hZ1=>?_;obtain⟨_,dw,_,_,_,_,_,_,ew,_⟩:=id hW;refine ex1 rfl ⟨wb,dw,ex1 rfl ⟨ew,rfl,wb,ns,qs,rfl,hW,fun l1 hl1=>?_⟩⟩;have nx1:x≠l1:=B0 hx hl1;refine ex1 rfl ⟨x,T.aa,dx,[],rfl,(B6 nx1).trans hx,T.ac,T.az,by decide,?_⟩;have k1:Sm [x] H (upd (upd H l1 (.lst (ns.map V.str))) x (.ins T.aa dx (O2 "names" (.ref l1) []))):=(Sm.new (Sm.refl _ _) hl1).upd (by simp);have a1:(upd (upd H l1 (.lst (ns.map V.str))) x (.ins T.aa dx (O2 "names" (.ref l1) []))) l1=some (.lst (ns.map V.str)):=(B6 nx1.symm).trans A9;have x1:(upd (upd H l1 (.lst (ns.map V.str))) x (.ins T.aa dx (O2 "names" (.ref l1) []))) x=some (.ins T.aa dx [("names",.ref l1)]):=by rw[A9];rfl
  generalize upd (upd H l1 (.lst (ns.map V.str))) x (.ins T.aa dx (O2 "names" (.ref l1) []))=H1 at k1 a1 x1⊢;refine hZ1 _ _ (B7 fun Z2 hZ2=>?_);refine ex1 rfl ⟨x,T.aa,dx,_,ex1 rfl ⟨x1,T.ac,T.az,rfl,l1,ex1 rfl ⟨SqL.of a1,fun b hb=>?_⟩⟩⟩;refine Cf (n:=ns.length) (fun i σ G=>(∃v0 v1,σ = [v0,v1])/\Same H1 G/\G b=some (.dK (kbT ns i))) ⟨⟨_,_,rfl⟩,Same.new hb,A9⟩ ?_ ?_ ?_ ?_
  .rintro i σ G hi ⟨_,sG,_⟩;exact⟨_,_,(sG.at l1).seqL (SqL.of a1),by rw[AI,AH hi];rfl⟩
  .rintro σ G ⟨_,sG,_⟩;exact⟨_,(sG.at l1).seqL (SqL.of a1),by rw[AA]⟩
  .rintro i σ G y H' N hi ⟨⟨v0,v1,rfl⟩,sG,eG⟩ ⟨t,y,rfl,ht,rfl,hy⟩ hN;have hy:=hy _ ((sG.at l1).seqL (SqL.of a1));have hi':ns[i]?=some ns[i]:=AH hi;rw[AI,hi']at hy;cases hy;refine⟨t,ex1 rfl ⟨SqT.of A9,rfl,_,ex1 rfl (C4 rfl rfl (Zg ?_))⟩⟩;refine ex1 rfl (ex1 rfl (C4 rfl rfl ⟨⟨by omega,by omega,by decide⟩,?_⟩));dsimp only;rw[zIq];have st:=sG.trans (Same.new (o:=.tup [.int i,.str ns[i]]) ht);refine⟨kbT ns i,.inr ns[i],(B6 (B0 eG ht)).trans eG,rfl,by unfold kbT;rw[AA,CA,sizeLine_eq];omega,hN _ _ ⟨⟨_,_,rfl⟩,st.upd hb,?_⟩⟩;rw[A9];have:=Qy (fun k=>(Sum.inr (ns.getD k ""):Key)) (fun k=>P0 (2^k)) (Xz nd) hi;rw[Ev hi']at this;exact congrArg (fun z=>some (HO.dK z)) this
  rintro σ2 H2 ⟨_,s2,b2⟩;have nxb:x≠b:=B0 x1 hb;have x2:=s2 _ _ x1;have a2:=s2 _ _ a1;have k2:=k1.trans s2.sm;refine hZ2 _ _ (B7 fun Z3 hZ3=>?_);refine ex1 rfl ⟨b,_,rfl,b2,fun v hv=>?_⟩;have sv:=Same.new (o:=Li v b) hv;have fv:(upd H2 v (Li v b)) v=some (Li v b):=A9;generalize upd H2 v (Li v b)=H2' at sv fv⊢;refine⟨v,b,kbT ns ns.length,(List.range ns.length).map fun k=>((2^k:Nat):Int),rfl,fv,sv _ _ b2,by unfold kbT;rw[AY,AY];rfl,?_⟩;rw[Lu];have x2:=sv _ _ x2;have a2:=sv _ _ a2;have b2:=sv _ _ b2;have k2:=k2.trans sv.sm;refine ex1 rfl ⟨x,T.aa,dx,_,rfl,x2,T.ac,T.aB,by simp,?_⟩;have k3:Sm [x] H2' (upd H2' x (.ins T.aa dx (O2 "full" (.int ((2^ns.length-1:Nat):Int)) [("names",.ref l1)]))):=(Sm.refl _ _).upd (by simp);have x3:(upd H2' x (.ins T.aa dx (O2 "full" (.int ((2^ns.length-1:Nat):Int)) [("names",.ref l1)]))) x=some (.ins T.aa dx [("names",.ref l1),("full",P0 (2^ns.length-1))]):=by rw[A9];rfl
  generalize upd H2' x (.ins T.aa dx (O2 "full" (.int ((2^ns.length-1:Nat):Int)) [("names",.ref l1)]))=H3 at k3 x3⊢;have a3:=k3 _ _ a2 (nin nx1.symm);have b3:=k3 _ _ b2 (nin nxb.symm);have k3:=k2.trans k3;refine hZ3 _ _ (B7 fun Z4 hZ4=>?_);refine ex1 rfl (ex1 rfl ⟨x,T.aa,dx,_,rfl,x3,T.ac,T.bf,by simp,?_⟩);have k4:Sm [x] H3 (upd H3 x (.ins T.aa dx (O2 "bit_of" (.ref b) [("names",.ref l1),("full",P0 (2^ns.length-1))]))):=(Sm.refl _ _).upd (by simp);have x4:(upd H3 x (.ins T.aa dx (O2 "bit_of" (.ref b) [("names",.ref l1),("full",P0 (2^ns.length-1))]))) x=some (.ins T.aa dx [("names",.ref l1),("full",P0 (2^ns.length-1)),("bit_of",.ref b)]):=by rw[A9];rfl
  generalize upd H3 x (.ins T.aa dx (O2 "bit_of" (.ref b) [("names",.ref l1),("full",P0 (2^ns.length-1))]))=H4 at k4 x4⊢;have a4:=k4 _ _ a3 (nin nx1.symm);have b4:=k4 _ _ b3 (nin nxb.symm);have k4:=k3.trans k4;refine hZ4 _ _ (B7 fun Z5 hZ5=>?_);have mA:=zFb (ns:=ns) (g:=B1 qs) (ks:=(qs.map fun q=>q.2).map fun k=>(k.2,k.1)) nd (fun n _=>Jw okw.ndq n) (fun n _ y=>Fc) fun k hk=>by
   rw[AY]at hk;obtain⟨q,hq,rfl⟩:=AE.mp hk;exact⟨(okw.mem q hq).2,(okw.mem q hq).1⟩
  have mB:=zFb (ns:=ns) (g:=C1 qs) (ks:=qs.map fun q=>q.2) nd (fun n _=>Sj okw.ndq n) (fun n _ y=>Kg) fun k hk=>by
   obtain⟨q,hq,rfl⟩:=AE.mp hk;exact okw.mem q hq
  have net:Net ns.length (ML ns (B1 qs)) (ML ns (C1 qs)):=MB.net mA mB;have W4:=hW.smx hx k4;have ins1:∀{n:Str} (y:Str),y∈B1 qs n->y∈ns:=fun y hy=>by
   obtain⟨q,hq,rfl⟩:=AE.mp hy;exact(okw.mem q (BF.mp hq).1).1
  have ins2:∀{n:Str} (y:Str),y∈C1 qs n->y∈ns:=fun y hy=>by
   obtain⟨q,hq,rfl⟩:=AE.mp hy;exact(okw.mem q (BF.mp hq).1).2
  have lq:=okw.lenq;have len1:∀n,(B1 qs n).length<=1000:=fun n=>by unfold B1;rw[AA];have:=BM (fun q:PA2=>decide (q.2.2=n)) qs;omega
  have len2:∀n,(C1 qs n).length<=1000:=fun n=>by unfold C1;rw[AA];have:=BM (fun q:PA2=>decide (q.2.1=n)) qs;omega
  refine ex1 rfl ⟨x,T.aa,dx,_,ex1 rfl ⟨x4,T.ac,T.az,rfl,l1,rfl,⟨_,SqL.of a4⟩,fun c hc=>?_⟩⟩;refine Mu (asL (SqL.of a4)) (ML ns (B1 qs)) (by omega) hc (fun i n G R hn sG hR=>?_) (fun i n G R hn sG hR=>?_) fun σ5 H5 s5 c5=>?_
  .exact ex1 rfl (ex1 rfl ⟨b,_,rfl,.inl ⟨_,.inr n,.inl (sG _ _ b4),rfl,(Ku nd hn).symm⟩,hR⟩)
  .have WG:=W4.same sG;obtain⟨_,dw,_,_,_,_,_,_,ew,_⟩:=id WG;refine ex1 rfl ⟨wb,dw,ex1 rfl ⟨ew,rfl,ex1 rfl ⟨wb,n,ns,qs,rfl,WG,AV hn,fun l hl=>?_⟩⟩⟩;have ul:=Same.new (o:=.lst ((B1 qs n).map V.str)) hl;refine⟨l,rfl,⟨_,SqL.of A9⟩,Kx nd (ul _ _ (sG _ _ b4)) A9 (fun y hy=>ins1 y hy) (len1 n) fun G' s'=>?_⟩;have:=hR G' (ul.trans s');rw[Zr hn]at this;exact this
  generalize ML ns (B1 qs)=A at mA net c5;have hc0:H c=none:=k4.none (nin (B0 x4 hc).symm) hc;have nxc:x≠c:=B0 x4 hc;have x5:=s5 _ _ x4;have a5:=s5 _ _ a4;have b5:=s5 _ _ b4;have bc:b≠c:=B0 b4 hc;have k5:=k4.trans s5.sm;refine ex1 rfl ⟨x,T.aa,dx,_,rfl,x5,T.ac,T.as,by simp,?_⟩;have k6:Sm [x] H5 (upd H5 x (.ins T.aa dx (O2 "strikers_of" (.ref c) [("names",.ref l1),("full",P0 (2^ns.length-1)),("bit_of",.ref b)]))):=(Sm.refl _ _).upd (by simp);have x6:(upd H5 x (.ins T.aa dx (O2 "strikers_of" (.ref c) [("names",.ref l1),("full",P0 (2^ns.length-1)),("bit_of",.ref b)]))) x=some (.ins T.aa dx [("names",.ref l1),("full",P0 (2^ns.length-1)),("bit_of",.ref b),("strikers_of",.ref c)]):=by rw[A9];rfl
  generalize upd H5 x (.ins T.aa dx (O2 "strikers_of" (.ref c) [("names",.ref l1),("full",P0 (2^ns.length-1)),("bit_of",.ref b)]))=H6 at k6 x6⊢;have a6:=k6 _ _ a5 (nin nx1.symm);have b6:=k6 _ _ b5 (nin nxb.symm);have c6:=k6 _ _ c5 (nin nxc.symm);have k6:=k5.trans k6;have W6:=hW.smx hx k6;refine hZ5 _ _ (B7 fun Z6 hZ6=>?_);refine ex1 rfl ⟨x,T.aa,dx,_,ex1 rfl ⟨x6,T.ac,T.az,rfl,l1,rfl,⟨_,SqL.of a6⟩,fun d hd=>?_⟩⟩;refine Mu (asL (SqL.of a6)) (ML ns (C1 qs)) (by omega) hd (fun i n G R hn sG hR=>?_) (fun i n G R hn sG hR=>?_) fun σ7 H7 s7 d7=>?_
  .exact ex1 rfl (ex1 rfl ⟨b,_,rfl,.inl ⟨_,.inr n,.inl (sG _ _ b6),rfl,(Ku nd hn).symm⟩,hR⟩)
  .have WG:=W6.same sG;obtain⟨_,dw,_,_,_,_,_,_,ew,_⟩:=id WG;refine ex1 rfl ⟨wb,dw,ex1 rfl ⟨ew,rfl,ex1 rfl ⟨wb,n,ns,qs,rfl,WG,AV hn,fun l hl=>?_⟩⟩⟩;have ul:=Same.new (o:=.lst ((C1 qs n).map V.str)) hl;refine⟨l,rfl,⟨_,SqL.of A9⟩,Kx nd (ul _ _ (sG _ _ b6)) A9 (fun y hy=>ins2 y hy) (len2 n) fun G' s'=>?_⟩;have:=hR G' (ul.trans s');rw[Zr hn]at this;exact this
  generalize ML ns (C1 qs)=B at mB net d7;have nxd:x≠d:=B0 x6 hd;have x7:=s7 _ _ x6;have a7:=s7 _ _ a6;have b7:=s7 _ _ b6;have c7:=s7 _ _ c6;have dc:d≠c:=(B0 c6 hd).symm;have k7:=k6.trans s7.sm;refine ex1 rfl ⟨x,T.aa,dx,_,rfl,x7,T.ac,T.a7,by simp,?_⟩;have k8:Sm [x] H7 (upd H7 x (.ins T.aa dx (O2 "struck_of" (.ref d) [("names",.ref l1),("full",P0 (2^ns.length-1)),("bit_of",.ref b),("strikers_of",.ref c)]))):=(Sm.refl _ _).upd (by simp);have x8:(upd H7 x (.ins T.aa dx (O2 "struck_of" (.ref d) [("names",.ref l1),("full",P0 (2^ns.length-1)),("bit_of",.ref b),("strikers_of",.ref c)]))) x=some (.ins T.aa dx [("names",.ref l1),("full",P0 (2^ns.length-1)),("bit_of",.ref b),("strikers_of",.ref c),("struck_of",.ref d)]):=by rw[A9];rfl
  generalize upd H7 x (.ins T.aa dx (O2 "struck_of" (.ref d) [("names",.ref l1),("full",P0 (2^ns.length-1)),("bit_of",.ref b),("strikers_of",.ref c)]))=H8 at k8 x8⊢;have a8:=k8 _ _ a7 (nin nx1.symm);have b8:=k8 _ _ b7 (nin nxb.symm);have c8:=k8 _ _ c7 (nin nxc.symm);have d8:=k8 _ _ d7 (nin nxd.symm);have k8:=k7.trans k8;refine hZ6 _ _ ?_;refine ex1 rfl ⟨b,_,rfl,b8,fun v hv=>?_⟩;have sv:=Same.new (o:=Li v b) hv;have fv:(upd H8 v (Li v b)) v=some (Li v b):=A9;generalize upd H8 v (Li v b)=H9 at sv fv⊢;refine⟨v,b,_,rfl,fv,sv _ _ b8,fun o D hD=>?_⟩;have nDb:D≠b:=fun z=>by rw[z,A9]at hD;cases hD
  have kz:Sm [b] H9 (upd H9 b (.frz o (.dK (kbT ns ns.length)))):=(Sm.refl _ _).upd (by simp);have fz:(upd H9 b (.frz o (.dK (kbT ns ns.length)))) b=some (.frz o (.dK (kbT ns ns.length))):=A9;have hb0:H b=none:=k1.none (nin nxb.symm) hb;have kx:Sm [x] H (upd H9 b (.frz o (.dK (kbT ns ns.length)))):=(k8.trans sv.sm).updN hb0;have nb:∀{b':Addr},b'≠b->b'∉[b]:=fun h z=>h (AF.mp z);have nab:l1≠b:=B0 a1 hb;have x9:=kz _ _ (sv _ _ x8) (nb nxb);have a9:=kz _ _ (sv _ _ a8) (nb nab);have c9:=kz _ _ (sv _ _ c8) (nb bc.symm);have nbd:d≠b:=(B0 b6 hd).symm;have d9:=kz _ _ (sv _ _ d8) (nb nbd);generalize upd H9 b (.frz o (.dK (kbT ns ns.length)))=H10 at kz fz kx hD x9 a9 c9 d9⊢;have lb:(kbT ns ns.length).length=ns.length:=by unfold kbT;rw[AA,CA]
  refine Cf (n:=ns.length) (fun i σ G=>(∃v0,σ = [v0,some (.ref x)])/\Same H10 G/\G D=some (.lst (((List.range i).filter fun k=>(A.getD k 0).testBit k).map fun k=>P0 (2^k)))) ⟨⟨_,rfl⟩,Same.new hD,A9⟩ ?_ ?_ ?_ ?_
  .rintro i σ G hi ⟨_,sG,_⟩;exact⟨sG _ _ fz,by rw[lb];exact hi⟩
  .rintro σ G ⟨_,sG,_⟩;exact⟨sG _ _ fz,by rw[lb];exact Nat.le_refl _⟩
  .rintro i σ G y H' N hi ⟨⟨v0,rfl⟩,sG,eG⟩ ⟨rfl,k,hk⟩ hN;unfold kbT at hk;rw[AI,List.getElem?_range hi]at hk;obtain⟨_,rfl⟩:=Prod.mk.inj (BH hk);refine ex1 rfl (ex1 rfl ⟨x,T.aa,dx,_,ex1 rfl ⟨sG _ _ x9,T.ac,T.as,rfl,ex1 rfl ⟨c,_,rfl,.inl ⟨_,.inl ((2^i:Nat):Int),.inl (sG _ _ c9),rfl,(Mz A hi).symm⟩,C4 rfl rfl ⟨_,rfl,?_⟩⟩⟩⟩);dsimp only;rw[Jr];have hl:=BM (fun k=>(A.getD k 0).testBit k) (List.range i);rw[CA]at hl;refine U0 (fun z=>ex1 rfl ⟨_,eG,by rw[AA,sizeLine_eq];omega,hN _ _ ⟨⟨_,rfl⟩,sG.upd hD,?_⟩⟩) (fun z=>hN _ _ ⟨⟨_,rfl⟩,sG,?_⟩)
   .rw[A9,EI,DM,CT,AR z,AK];rfl
   .rw[EI,DM,CT,AM z,FF,DB];exact eG
  rintro σ11 H11 ⟨_,s11,e11⟩;generalize hLl:(List.range ns.length).filter (fun k=>(A.getD k 0).testBit k)=Ll at e11;refine⟨D,Ll.map fun k=>((2^k:Nat):Int),rfl,SqL.of (by rw[e11,AY];rfl),?_⟩;rw[Md];have hL:∀j,((Ll.map fun k=>2^k).sum).testBit j=true↔(A.getD j 0).testBit j=true:=fun j=>by
   rw[Jv (by rw[<-hLl];exact CN.nodup GP),<-hLl,BF,B_];exact⟨(·.2),fun h=>⟨(net.lt j j ((net.tr j j).mp h)).1,h⟩⟩
  generalize (Ll.map fun k=>2^k).sum=L at hL;have x11:=s11 _ _ x9;refine ex1 rfl ⟨x,T.aa,dx,_,rfl,x11,T.ac,T.bl,by simp,?_⟩;have k12:Sm [x] H11 (upd H11 x (.ins T.aa dx (O2 "loops" (.int (L:Int)) [("names",.ref l1),("full",P0 (2^ns.length-1)),("bit_of",.ref b),("strikers_of",.ref c),("struck_of",.ref d)]))):=(Sm.refl _ _).upd (by simp);have x12:(upd H11 x (.ins T.aa dx (O2 "loops" (.int (L:Int)) [("names",.ref l1),("full",P0 (2^ns.length-1)),("bit_of",.ref b),("strikers_of",.ref c),("struck_of",.ref d)]))) x=some (.ins T.aa dx (mf l1 b c d ns.length L)):=by rw[A9];rfl
  generalize upd H11 x (.ins T.aa dx (O2 "loops" (.int (L:Int)) [("names",.ref l1),("full",P0 (2^ns.length-1)),("bit_of",.ref b),("strikers_of",.ref c),("struck_of",.ref d)]))=H12 at k12 x12⊢;refine q c A B L H12 hc0 ((kx.trans s11.sm).trans k12) ⟨⟨dx,l1,b,d,kbT ns ns.length,x12,k12 _ _ (s11 _ _ a9) (nin nx1.symm),.inr ⟨o,k12 _ _ (s11 _ _ fz) (nin nxb.symm)⟩,fun i n h=>Ku nd h,.inl (k12 _ _ (s11 _ _ c9) (nin nxc.symm)),k12 _ _ (s11 _ _ d9) (nin nxd.symm),dc,bc⟩,net,nd,ln,hL⟩ mA mB
end
structure LLn(H0 H:Hp)(ts:List (Addr×List Str)):Prop where
 at_:∀t∈ts,H t.1=some (.lst (t.2.map V.str))
 nd:(ts.map fun t=>t.1).Nodup
 new:∀t∈ts,H0 t.1=none
theorem Wx{J:It}{l D:Addr}{H:Hp}{ns:List Str}{Ms:List Nat}{r:St}{v0:Option V}{te:TE}{Q:St->Hp->Prop}(as:AsSeq J (Ms.map P0) l H)(len:Ms.length<=5000)(hD:H D=none)
  (step:∀m G (R:VK),Same H G->(∀z G',G z=none->Same G G'->G' z=some (.lst ((setOf ns m).map V.str))->R (.ref z) G')->te (some (P0 m)::r) G R)
  (q:∀σ G (ts:List (Addr×List Str)),Same H G->G D=some (.lst (ts.map fun t=>V.ref t.1))->LLn H G ts->(∀t∈ts,t.1≠D)->(ts.map fun t=>t.2)=Ms.map (setOf ns)->Q σ G):V0 (J5 0) S9 (R0 D te) J (v0::r) (upd H D (.lst [])) Q:=by
 refine G0 as (fun i σ G=>(∃v,σ=v::r)/\Same H G/\∃ts:List (Addr×List Str),G D=some (.lst (ts.map fun t=>V.ref t.1))/\LLn H G ts/\(∀t∈ts,t.1≠D)/\(ts.map fun t=>t.2) =(Ms.take i).map (setOf ns)) ⟨⟨_,rfl⟩,Same.new hD,[],A9,⟨fun t h=>absurd h BP,GL,fun t h=>absurd h BP⟩,fun t h=>absurd h BP,rfl⟩ (fun i σ G _ h=>h.2.1.at l) ?_ ?_
 .rintro i σ G y N hx ⟨⟨v0,rfl⟩,sG,ts,eG,LG,nG,mG⟩ hN;rw[AI]at hx;obtain⟨m,hm,rfl⟩:=BL.mp hx;have li:=(AG.mp hm).1;have lt:ts.length=i:=by
   have:=congrArg List.length mG;rw[AA,AA,AN]at this;omega
  refine M9 (step m G _ sG fun z G' hz s' ez=>?_);have nz:z≠D:=(B0 eG hz).symm;refine⟨_,s' _ _ eG,by rw[AA,sizeLine_eq];omega,hN _ _ ⟨⟨_,rfl⟩,(sG.trans s').upd hD,ts ++ [(z,setOf ns m)],?_,⟨fun t ht=>?_,?_,fun t ht=>?_⟩,fun t ht=>?_,?_⟩⟩
  .rw[A9,AK];rfl
  .rcases AO.mp ht with h | h
   .rw[B6 (nG t h)];exact s' _ _ (LG.at_ t h)
   .rw[AF.mp h,B6 nz];exact ez
  .rw[AK];refine DT.mpr ⟨LG.nd,DI _ _,fun a ha b hb e=>?_⟩;obtain⟨t,ht,rfl⟩:=AE.mp ha;rw[HH,AF]at hb;rw[hb]at e;have:=LG.at_ t ht;rw[e,hz]at this;cases this
  .rcases AO.mp ht with h | h
   .exact LG.new t h
   .rw[AF.mp h];exact sG.free hz
  .rcases AO.mp ht with h | h
   .exact nG t h
   .rw[AF.mp h];exact nz
  .rw[AK,mG,take_succ hm,AK];rfl
 .rintro σ G ⟨_,sG,ts,eG,LG,nG,mG⟩;rw[AA,BN]at mG;exact q σ G ts sG eG LG nG mG
section
variable{P:Program}{w:World}{K:PySem.W.Frag}{mg:Str->Option Value}{base:Heap}
def Ld(CW f:Addr)(Tg:Tgt):Sp:=fun vs H Q E=>∃(wb:Addr) (ns:List Str) (qs:List PA2),vs = [.ref wb,.ref f,.bl false]/\WebAt CW H wb ns qs/\ns.length<=10 /\
 ∀(A B Ms:List Nat),MB ns ((qs.map fun q=>q.2).map fun k=>(k.2,k.1)) A->MB ns (qs.map fun q=>q.2) B->Ms.Nodup->(∀m,m∈Ms↔Tg ns.length A B m) ->
  (∀r (ts:List (Addr×List Str)) H',Ms.length<=300->Same H H'->H r=none->H' r=some (.lst (ts.map fun t=>V.ref t.1))->LLn H H' ts->(∀t∈ts,t.1≠r)->(ts.map fun t=>t.2).Perm (Ms.map (setOf ns))->ts.Pairwise (fun a b=>TS.lexB (TS.kyS b.2) (TS.kyS a.2)=false)->Q (.ref r) H')/\(300<Ms.length->False)
theorem r6:FnScope ["web", "settle", "greatest", "marks", "found"] ["web", "settle", "greatest"] (B5 s_all_found):=fsc
set_option maxHeartbeats 4000000 in
theorem Fy(T:Tx K mg){f:Addr}{Tg:Tgt}(tl:∀n A B m,Tg n A B m->Low n m)(tq:∀n A B m,Tg n A B m->Ql B m){g:Nat}(hg:3<=g)(G_gather:FnOk P w K mg base CX0 (g+1) T.ar.f T.ar.fd ["marks", "settle", "greatest", "chosen", "barred", "found"] (Y8 T.aa f Tg 10)) :
  FnOk P w K mg base CX0 (g+2) T.aE.f T.aE.fd ["web", "settle", "greatest"] (Ld T.ab f Tg):=by
 have G_Marks___init__:FnOk P w K mg base CX0 g T.bb T.a8 ["self", "web"] (Y0 T.aa T.ab):=(Dj T).mono hg;have G_Marks_names_in:FnOk P w K mg base CX0 (g+1) T.ai.f T.ai.fd ["self", "some"] (At T.aa):=(h9 T).mono (by omega);have sc:=r6;refine T.aE.F.ok r6 (fun vs H Q E h=>?_) (fun cdv A outer s H vs Q E hr h=>?_)
 .obtain⟨wb,ns,qs,rfl,_⟩:=h;rfl
 .obtain⟨wb,ns,qs,rfl,hW,ln,q⟩:=h;refine⟨_,(B3 (C5 (i:=3) sc.nd rfl (.inr rfl) (Io T.bH G_Marks___init__ (hr.mono (Nat.le_refl _)) rfl T.bG T.br .nil K0 (A8 (pv 0) B2)))
   (B3 (C5 (i:=4) sc.nd rfl (.inl rfl) (S6 B2))
   (B3 (E9 (C7 T.ar G_gather (hr.mono (Nat.le_refl _)) (@A8 _ _ _ _ _ (pv 3) (@A8 _ _ _ _ _ (pv 1) (@A8 _ _ _ _ _ (pv 2) (@A8 _ _ _ _ _ B8 (@A8 _ _ _ _ _ (peF K (pv 3)) (@A8 _ _ _ _ _ (pv 4) B2 (by rfl)) (by rfl)) (by rfl)) (by rfl)) (by rfl)) (by rfl))))
   (B4 (B9 (E5 (Ve K hr.units) T.am I9 (A8 (J7 (N':=["some", "marks"]) (cap:=[none,some 3]) (cl:=[("marks",_)]) (E7 ⟨⟨rfl,rfl,rfl,rfl⟩,trivial⟩ ⟨rfl,trivial⟩) rfl (piL K (pv 4)) (fun _ _ _ _=>by exact⟨(pgC 0),C3,(G7 (pv 1) T.ac T.ai.m G_Marks_names_in (hr.mono (Nat.le_refl _)) T.ai.b .nil K0 (A8 (pv 0) B2))⟩)) B2))))))),?_⟩
  refine B7 fun N1 hN1=>?_;refine ex1 rfl ?_;intro x dx nx ndx nex;have s0:Same H (upd (upd H dx (.own x)) x (.ins T.aa dx [])):=fun b o e=>by
   rw[B6 (B0 e nx),B6 (B0 e ndx)];exact e
  refine⟨x,dx,wb,ns,qs,rfl,A9,hW.same s0,fun c A B L H1 hc k1 M1 mA mB=>⟨rfl,?_⟩⟩;have s1:Same H H1:=fun b o e=>k1 b o (s0 b o e) (by simpa using B0 e nx);have hcn:H c=none:=s0.free hc;refine hN1 _ _ (B7 fun N2 hN2=>?_);refine⟨CC _,fun l hl=>?_⟩;have ul:=Same.new (o:=.lst []) hl;have fl:(upd H1 l (.lst [])) l=some (.lst (([]:List Nat).map P0)):=A9;have hln:H l=none:=s1.free hl;have R2:MarksAt T.aa (er (upd H1 l (.lst [])) l) x c ns A B L:=M1.same fun b o e=>by
   have:b≠l:=B0 e hl;rw[Zf this,B6 this];exact e
  generalize upd H1 l (.lst [])=H2 at ul fl R2⊢;have s2:=s1.trans ul;have M2:=R2.same (Dt H2 l);obtain⟨Ms,ndM,mM⟩:=Py (n:=ns.length) (fun m=>Tg ns.length A B m) fun m h=>tl _ _ _ _ h;obtain⟨q1,q2⟩:=q A B Ms mA mB ndM mM;have fitz:∀m,Tg ns.length A B m/\Fits 0 L m↔Tg ns.length A B m:=fun m=>⟨(·.1),fun h=>⟨h,fun j z=>(by rw[FW]at z;cases z),fun j z y=>tq _ _ _ _ h j j z z ((M2.net.tr j j).mp ((M2.loops j).mp y))⟩⟩;refine hN2 _ _ (B7 fun N3 hN3=>?_);obtain⟨dx',a,b,d,kb,e1,_⟩:=M2.ex;refine ex1 rfl (ex1 rfl (ex1 rfl (ex1 rfl ⟨x,T.aa,dx',_,ex1 rfl ⟨e1,T.ac,T.bl,rfl,ex1 rfl ⟨x,c,l,ns,A,B,L,0,L,[],rfl,R2,Low.zero _,fun j hj=>(M2.net.lt j j ((M2.net.tr j j).mp ((M2.loops j).mp hj))).1,Nat.le_trans List.countP_le_length (by rw[CA];exact ln),fl,by decide,fun Ls ndL mL=>⟨fun H3 le3 k3 R3 el3=>?_,fun gt=>?_⟩⟩⟩⟩)))
  .have pm:Ls.Perm Ms:=(CZ ndL ndM).mpr fun m=>by rw[mL,mM,fitz]
   rw[List.nil_append]at el3;rw[GA,D_]at le3;have M3:=R3.same (Dt H3 l);have s3:Same H H3:=fun b o e=>k3 b o (s2 b o e) (by
    intro z;rcases A_.mp z with rfl | z
    .rw[hcn]at e;cases e
    .rw[AF.mp z,hln]at e;cases e)
   refine hN3 _ _ ?_;refine ex1 rfl ⟨l,rfl,⟨_,SqL.of el3⟩,fun D hD=>?_⟩;refine Wx (ns:=ns) (asL (SqL.of el3)) (by omega) hD (fun m G R sG hR=>?_) fun σ' G ts sG eG LG nG mG=>?_
   .have MG:=M3.same sG;obtain⟨dx',a,b,d,kb,e1,_⟩:=MG.ex;exact ex1 rfl ⟨x,dx',ex1 rfl ⟨e1,rfl,ex1 rfl ⟨x,c,ns,A,B,L,m,rfl,MG,fun z G' hz s' ez=>hR z G' hz s' ez⟩⟩⟩
   .refine⟨D,ts,rfl,SqL.of eG,LG.at_,fun r ts' hr0 pt srt=>?_⟩;have ur:=Same.new (o:=.lst (ts'.map fun t=>V.ref t.1)) hr0;have hrn:H r=none:=(s3.trans sG).free hr0;refine q1 r ts' _ (by rw[<-pm.length_eq];exact le3) ((s3.trans sG).trans ur) hrn A9 ⟨fun t ht=>ur _ _ (LG.at_ t (pt.mem_iff.mp ht)),(pt.map _).nodup_iff.mpr LG.nd,fun t ht=>s3.free (LG.new t (pt.mem_iff.mp ht))⟩ (fun t ht=>B0 (LG.at_ t (pt.mem_iff.mp ht)) hr0) ?_ srt;refine(pt.map fun t=>t.2).trans ?_;rw[mG];exact pm.map _
  .rw[GA,D_]at gt;have pm:Ls.Perm Ms:=(CZ ndL ndM).mpr fun m=>by rw[mL,mM,fitz]
   exact q2 (by rw[<-pm.length_eq];exact gt)
def Zk(CW:Addr)(Tg:Tgt):Sp:=fun vs H Q E=>∃(wb:Addr) (ns:List Str) (qs:List PA2),vs = [.ref wb]/\WebAt CW H wb ns qs/\ns.length<=10 /\
 ∀(A B Ms:List Nat),MB ns ((qs.map fun q=>q.2).map fun k=>(k.2,k.1)) A->MB ns (qs.map fun q=>q.2) B->Ms.Nodup->(∀m,m∈Ms↔Tg ns.length A B m) ->
  (∀r (ts:List (Addr×List Str)) H',Ms.length<=300->Same H H'->H r=none->H' r=some (.lst (ts.map fun t=>V.ref t.1))->LLn H H' ts->(∀t∈ts,t.1≠r)->(ts.map fun t=>t.2).Perm (Ms.map (setOf ns))->ts.Pairwise (fun a b=>TS.lexB (TS.kyS b.2) (TS.kyS a.2)=false)->Q (.ref r) H')/\(300<Ms.length->False)
theorem X7:FnScope ["web"] ["web"] (B5 s_whole_sets):=fsc
theorem b9(T:Tx K mg):FnOk P w K mg base CX0 18 T.aH.f T.aH.fd ["web"] (Zk T.ab Y6):=by
 have G_all_found:FnOk P w K mg base CX0 17 T.aE.f T.aE.fd ["web", "settle", "greatest"] (Ld T.ab T.ap.f Y6) :=
  Fy T (fun _ _ _ _ h=>h.1.1) (fun _ _ _ _ h=>h.1.2.1) (g:=15) (by decide) (Gx T (fun _ _ _ _ h=>h.1.1) (Af T) T.ap.F.kp T.ap.b (by decide) 10)
 have sc:=X7;refine T.aH.F.ok X7 (fun vs H Q E h=>?_) (fun cdv A outer s H vs Q E hr h=>?_)
 .obtain⟨wb,ns,qs,rfl,_⟩:=h;rfl
 .obtain⟨wb,ns,qs,rfl,hW,ln,q⟩:=h;refine⟨_,(B4 (B9 (C7 T.aE G_all_found (Rm hr) (A8 (pv 0) (A8 (zGk T.ap.m) (A8 T5 B2)))))),?_⟩;exact ex1 rfl ⟨wb,ns,qs,rfl,hW,ln,q⟩
end
def WL(H:Hp)(l:Addr)(ks:List (Str×Str)):Prop:=∃ps:List PA2,H l=some (.lst (P1 ps))/\(∀q∈ps,G9 H q)/\(ps.map fun q=>q.2)=ks
theorem WL.nil{H:Hp}{l:Addr}:WL (upd H l (.lst [])) l []:=⟨[],A9,fun q h=>absurd h (BP),rfl⟩
theorem WL.same{H H':Hp}{l:Addr}{ks:List (Str×Str)}(h:WL H l ks)(s:Same H H'):WL H' l ks:=let⟨ps,e,p,k⟩:=h;⟨ps,s _ _ e,J1 s p,k⟩
theorem WL.get{H:Hp}{l:Addr}{ks:List (Str×Str)}(h:WL H l ks):∃xs,H l=some (.lst xs)/\xs.length=ks.length:=let⟨ps,e,_,k⟩:=h;⟨_,e,by rw[<-k,AA];unfold P1;rw[AA]⟩
theorem WL.put{H:Hp}{l t:Addr}{ks:List (Str×Str)}{x y:Str}(h:WL H l ks)(ht:H t=none):∃xs,(upd H t (.tup [.str x,.str y])) l=some (.lst xs)/\xs.length=ks.length/\WL (upd (upd H t (.tup [.str x,.str y])) l (.lst (xs ++ [.ref t]))) l (ks ++ [(x,y)]):=by
 obtain⟨ps,e,p,k⟩:=h;have n:l≠t:=B0 e ht;refine⟨P1 ps,by rw[B6 n];exact e,by rw[<-k,AA];unfold P1;rw[AA],ps ++ [(t,x,y)],?_,fun q hq=>?_,by rw[AK,k];rfl⟩
 .rw[A9];unfold P1;rw[AK];rfl
 .unfold G9;rcases AO.mp hq with z | z
  .rw[B6 (Q8 (p q z) e (by intro z;cases z)),B6 (B0 (p q z) ht)];exact p q z
  .rw[AF.mp z,B6 n.symm];exact A9
def T8(ss hs:List Str)(n:Str):Str:=if n∈ss then "in" else if n∈hs then "out" else "open"
def Iz(K:PySem.W.Frag)(C:Addr):Sp:=fun vs H Q _=>∃(x a:Addr) (ss ns:List Str) (qs:List PA2),vs = [.ref x,.ref a]/\WebAt C H x ns qs/\Sqs K H a (ss.map V.str)/\(∀n∈ss,n∈ns) /\
 ∀l (hs:List Str) H',H l=none->Same H H'->(∀y,y∈hs↔∃n∈ss,y∈C1 qs n)->WL H' l (ns.map fun n=>(n,T8 ss hs n))->Q (.ref l) H'
section
variable{P:Program}{w:World}{K:PySem.W.Frag}{mg:Str->Option Value}{base:Heap}
theorem Ap:FnScope ["web", "some", "hit", "words", "name"] ["web", "some"] (B5 s_words_by):=fsc
theorem z9(T:Tx K mg):FnOk P w K mg base CX0 4 T.aQ.f T.aQ.fd ["web", "some"] (Iz K T.ab):=by
 have G_struck_by_any:=J9 (P:=P) (w:=w) (base:=base) T;have G_Web_all_names:=J0 (P:=P) (w:=w) (base:=base) T;have sc:=Ap;refine T.aQ.F.ok Ap (fun vs H Q E h=>?_) (fun cdv A outer s H vs Q E hr h=>?_)
 .obtain⟨x,a,ss,ns,qs,rfl,_⟩:=h;rfl
 .obtain⟨x,a,ss,ns,qs,rfl,hW,hS,hM,k⟩:=h;refine⟨_,(B3 (C5 (i:=2) sc.nd rfl (.inl rfl) (C7 T.an G_struck_by_any (Rm hr) (A8 (pv 0) (A8 (pv 1) B2))))
   (B3 (C5 (i:=3) sc.nd rfl (.inl rfl) (S6 B2))
   (B3 (f9 PassesOwn.never rfl (piL K (Y1 (pv 0) T.ag T.ae.m G_Web_all_names (Rm hr) T.ae.b .nil K0)) (J2 (i:=4) sc.nd rfl (.inl rfl))
   (B4 (K4 (C6 (By K) (pv 4) (pv 1) rfl) (B4 (E9 (Nl K PySem.F.plainAttrs_list PySem.F.slot_list_append PySem.F.type_list_append J8 (pv 3) (A8 (M7 (A8 (pv 4) (A8 I0 B2))) B2)))) (B4 (K4 (C6 (By K) (pv 4) (pv 2) rfl) (B4 (E9 (Nl K PySem.F.plainAttrs_list PySem.F.slot_list_append PySem.F.type_list_append J8 (pv 3) (A8 (M7 (A8 (pv 4) (A8 I0 B2))) B2)))) (B4 (E9 (Nl K PySem.F.plainAttrs_list PySem.F.slot_list_append PySem.F.type_list_append J8 (pv 3) (A8 (M7 (A8 (pv 4) (A8 I0 B2))) B2)))))))))
   (B4 (B9 (pv 3)))))),?_⟩
  refine ex1 rfl (ex1 rfl (Pm (a:=x) (b:=a) (c:=ss) (d:=ns) (e:=qs) rfl hW hS hM fun l hs H1 hl0 s1 e1 m1 _ _ _=>?_));refine⟨CC _,fun l2 hl2=>?_⟩;have s2:=Same.new (o:=.lst []) hl2;have W2:=hW.same (s1.trans s2);have WA:WL (upd H1 l2 (.lst [])) l2 []:=WL.nil;generalize upd H1 l2 (.lst [])=H2 at s2 W2 WA⊢;obtain⟨ok,dx,a1,b,c,d,kc,kd,e2,_⟩:=id W2;have hlen:=ok.len;refine ex1 rfl ⟨x,dx,ex1 rfl ⟨e2,rfl,x,ns,qs,rfl,W2,fun l3 hl3=>?_⟩⟩;have s3:=Same.new (o:=.lst (ns.map V.str)) hl3;have f3:(upd H2 l3 (.lst (ns.map V.str))) l3=some (.lst (ns.map V.str)):=A9;have n23:l3≠l2:=let⟨_,e,_⟩:=WA.get;(B0 e hl3).symm;have W3:=WA.same s3;generalize upd H2 l3 (.lst (ns.map V.str))=H3 at s3 f3 W3⊢;have S1:=(s1.at a).seq hS;refine⟨l3,rfl,⟨_,SqL.of f3⟩,Am (asL (SqL.of f3)) (fun i σ H4=>(∃v4,σ = [some (.ref x),some (.ref a),some (.ref l),some (.ref l2),v4])/\Same H1 H4/\H4 l3=some (.lst (ns.map V.str))/\WL H4 l2 ((ns.take i).map fun n=>(n,T8 ss hs n))) ?_ ?_ ?_ ?_⟩
  .exact⟨⟨_,rfl⟩,s2.trans s3,f3,W3⟩
  .rintro j σ H5 _ ⟨_,_,f5,_⟩ o e;exact(f3.symm.trans e)▸f5
  .rintro i σ H4 y hy ⟨⟨v4,rfl⟩,s4,f4,W4⟩ D hD _;rw[AI]at hy;obtain⟨n,hn,rfl⟩:=BL.mp hy;have hi:=(AG.mp hn).1;have app:∀wd:Str,T8 ss hs n=wd->zDc (tBM K "list" Tp (Bo 3) (T6 (zEl (T6 (Bo 4) (T6 (tC (V.str wd)) Kv))) Kv)) D [some (.ref x),some (.ref a),some (.ref l),some (.ref l2),some (.str n)] H4:=fun wd ew=>by
    obtain⟨xs,e4,len4⟩:=W4.get;refine ex1 rfl ⟨.inl ⟨rfl,_,SqL.of e4⟩,ex1 rfl ⟨by show 2<=sizeLine;decide,fun t ht=>?_⟩⟩;obtain⟨ys,e5,zGc,W5⟩:=W4.put (x:=n) (y:=wd) ht;refine⟨l2,_,_,rfl,rfl,e5,?_,hD _ _ ⟨⟨_,rfl⟩,(s4.trans (Same.new ht)).upd hl2,?_,?_⟩⟩
    .rw[zGc,AA,AN,sizeLine_eq];omega
    .rw[B6 n23,B6 (B0 f4 ht)];exact f4
    .rw[take_succ hn,AK,BA,ew];exact W5
   refine ex1 rfl (ex1 rfl (T2 ((s4.at a).seq S1) ⟨_,rfl,U0 (fun h=>app _ ?_) (fun h=>?_)⟩))
   .unfold T8;rw[AR (AZ h)]
   have h:=fun z=>h (AJ z);refine ex1 rfl (ex1 rfl (T2 (.inl (SqL.of (s4 _ _ e1))) ⟨_,rfl,U0 (fun h'=>app _ ?_) (fun h'=>app _ ?_)⟩))
   .unfold T8;rw[AM h,AR (AZ h')]
   .unfold T8;rw[AM h,AM fun z=>h' (AJ z)]
  .rintro σ H4 ⟨⟨v4,rfl⟩,s4,f4,W4⟩;rw[AA,BN]at W4;exact⟨_,rfl,k l2 hs H4 (s1.free hl2) (s1.trans s4) m1 W4⟩
end
def wrd(qs:List PA2)(ss:List Str)(n:Str):Str:=T8 ss (ss.flatMap (C1 qs)) n
def Ep(ns:List Str)(qs:List PA2)(ss:List Str):List (Str×Str):=ns.map fun n=>(n,wrd qs ss n)
theorem Xx{qs:List PA2}{ss hs:List Str}{n:Str}(h:∀y,y∈hs↔∃n∈ss,y∈C1 qs n):T8 ss hs n=wrd qs ss n:=by
 have e:(n∈ss.flatMap (C1 qs)) =(n∈hs):=propext (HW.trans (h n).symm);unfold wrd T8;simp only[e]
theorem few{n:Nat}{Ms:List Nat}(nd:Ms.Nodup)(h:∀m∈Ms,Low n m):Ms.length<=2^n:=by
 classical
 have pm:Ms.Perm ((List.range (2^n)).filter fun m=>decide (m∈Ms)):=(CZ nd (CN.nodup GP)).mpr fun m=>by
  rw[BF,B_,BS];exact⟨fun z=>⟨(h m z).lt,z⟩,(·.2)⟩
 rw[pm.length_eq];exact Nat.le_trans (BM _ _) (by rw[CA];exact Nat.le_refl _)
theorem Iv{H H':Hp}{q:LP}(h:LPIn H q)(s:Same H H'):LPIn H' q:=⟨s _ _ h.1,J1 s h.2⟩
theorem Yp{H:Hp}{q:LP}{D:Addr}{xs:List V}{o:HO}(h:LPIn H q)(n:q.1≠D)(e:H D=some (.lst xs)):LPIn (upd H D o) q :=
 ⟨by rw[B6 n];exact h.1,fun r hr=>by
  have:=h.2 r hr;unfold G9 at this⊢;rw[B6 (Q8 this e (by intro z;cases z))];exact this⟩
structure LPn(H0 H:Hp)(ts:List LP):Prop where
 at_:∀t∈ts,LPIn H t
 nd:(ts.map fun t=>t.1).Nodup
 new:∀t∈ts,H0 t.1=none
theorem Wf{α:Type}{J:It}{l D:Addr}{H:Hp}{xs:List α}{g:α->V}{f:α->List (Str×Str)}{r:St}{v0:Option V}{te:TE}{Q:St->Hp->Prop}(as:AsSeq J (xs.map g) l H)(len:xs.length<=7000)(hD:H D=none)
  (step:∀x∈xs,∀G (R:VK),Same H G->(∀z G' (ps:List PA2),G z=none->Same G G'->LPIn G' (z,ps)->nw ps=f x->R (.ref z) G')->te (some (g x)::r) G R)
  (q:∀σ G (ts:List LP),Same H G->G D=some (.lst (ts.map fun t=>V.ref t.1))->LPn H G ts->(∀t∈ts,t.1≠D)->(ts.map fun t=>nw t.2)=xs.map f->Q σ G):V0 (J5 0) S9 (R0 D te) J (v0::r) (upd H D (.lst [])) Q:=by
 refine G0 as (fun i σ G=>(∃v,σ=v::r)/\Same H G/\∃ts:List LP,G D=some (.lst (ts.map fun t=>V.ref t.1))/\LPn H G ts/\(∀t∈ts,t.1≠D)/\(ts.map fun t=>nw t.2) =(xs.take i).map f) ⟨⟨_,rfl⟩,Same.new hD,[],A9,⟨fun t h=>absurd h BP,GL,fun t h=>absurd h BP⟩,fun t h=>absurd h BP,rfl⟩ (fun i σ G _ h=>h.2.1.at l) ?_ ?_
 .rintro i σ G y N hx ⟨⟨v0,rfl⟩,sG,ts,eG,LG,nG,mG⟩ hN;rw[AI]at hx;obtain⟨m,hm,rfl⟩:=BL.mp hx;have li:=(AG.mp hm).1;have lt:ts.length=i:=by
   have:=congrArg List.length mG;rw[AA,AA,AN]at this;omega
  refine M9 (step m (AV hm) G _ sG fun z G' ps hz s' ez kz=>?_);have nz:z≠D:=(B0 eG hz).symm;have eG':=s' _ _ eG;refine⟨_,eG',by rw[AA,sizeLine_eq];omega,hN _ _ ⟨⟨_,rfl⟩,(sG.trans s').upd hD,ts ++ [(z,ps)],?_,⟨fun t ht=>?_,?_,fun t ht=>?_⟩,fun t ht=>?_,?_⟩⟩
  .rw[A9,AK];rfl
  .rcases AO.mp ht with h | h
   .exact Yp (Iv (LG.at_ t h) s') (nG t h) eG'
   .rw[AF.mp h];exact Yp ez nz eG'
  .rw[AK];refine DT.mpr ⟨LG.nd,DI _ _,fun a ha b hb e=>?_⟩;obtain⟨t,ht,rfl⟩:=AE.mp ha;rw[HH,AF]at hb;rw[hb]at e;have:=(LG.at_ t ht).1;rw[e,hz]at this;cases this
  .rcases AO.mp ht with h | h
   .exact LG.new t h
   .rw[AF.mp h];exact sG.free hz
  .rcases AO.mp ht with h | h
   .exact nG t h
   .rw[AF.mp h];exact nz
  .rw[AK,mG,take_succ hm,AK,HH,HH,kz]
 .rintro σ G ⟨_,sG,ts,eG,LG,nG,mG⟩;rw[AA,BN]at mG;exact q σ G ts sG eG LG nG mG
section
variable{P:Program}{w:World}{K:PySem.W.Frag}{mg:Str->Option Value}{base:Heap}
def Kk(C:Addr):Sp:=fun vs H Q _=>∃(wb:Addr) (ns:List Str) (qs:List PA2),vs = [.ref wb]/\WebAt C H wb ns qs/\ns.length<=8 /\
 ∀(A B Ms:List Nat),MB ns ((qs.map fun q=>q.2).map fun k=>(k.2,k.1)) A->MB ns (qs.map fun q=>q.2) B->Ms.Nodup->(∀m,m∈Ms↔Y6 ns.length A B m) ->
  ∀r (ts:List LP) H',Same H H'->H r=none->H' r=some (.lst (ts.map fun t=>V.ref t.1))->LPn H H' ts->(∀t∈ts,t.1≠r)->(ts.map fun t=>nw t.2).Perm (Ms.map fun m=>Ep ns qs (setOf ns m))->ts.Pairwise (fun a b=>TS.lexB (TS.kyP (nw b.2)) (TS.kyP (nw a.2))=false)->Q (.ref r) H'
theorem Ak:FnScope ["web"] ["web"] (B5 s_tellings):=fsc
theorem Kh(T:Tx K mg):FnOk P w K mg base CX0 19 T.a4.f T.a4.fd ["web"] (Kk T.ab):=by
 have G_whole_sets:=b9 (P:=P) (w:=w) (base:=base) T;have G_words_by:=z9 (P:=P) (w:=w) (base:=base) T;have sc:=Ak;refine T.a4.F.ok Ak (fun vs H Q E h=>?_) (fun cdv A outer s H vs Q E hr h=>?_)
 .obtain⟨wb,ns,qs,rfl,_⟩:=h;rfl
 .obtain⟨wb,ns,qs,rfl,hW,ln,q⟩:=h;refine⟨_,(B4 (B9 (E5 (Pp K hr.units) T.am I9 (A8 (J7 (N':=["some", "web"]) (cap:=[none,some 0]) (cl:=[("web",_)]) (E7 ⟨⟨rfl,rfl,rfl,rfl⟩,trivial⟩ ⟨rfl,trivial⟩) rfl (piL K (C7 T.aH G_whole_sets (Rm hr) (A8 (pv 0) B2))) (fun _ _ _ _=>by exact⟨(pgC 0),C3,(C7 T.aQ G_words_by (Rm hr) (A8 (pv 1) (A8 (pv 0) B2)))⟩)) B2)))),?_⟩;refine ex1 rfl ⟨wb,ns,qs,rfl,hW,by omega,fun A B Ms mA mB nd mm=>⟨fun r ts H1 le1 s1 hr0 er1 LL nr pm srt=>?_,fun gt=>?_⟩⟩
  .refine⟨r,rfl,⟨_,SqL.of er1⟩,fun D hD=>?_⟩;refine Wf (xs:=ts) (f:=fun t=>Ep ns qs t.2) (asL (SqL.of er1)) (by have:=pm.length_eq;rw[AA,AA]at this;omega) hD (fun t ht G R sG hR=>?_) fun σ' G us sG eG LG nG mG=>?_
   .have eT:=sG _ _ (LL.at_ t ht);refine ex1 rfl (ex1 rfl ⟨wb,t.1,t.2,ns,qs,rfl,hW.same (s1.trans sG),.inl (SqL.of eT),fun n hn=>?_,fun l hs G' hl s' hh WG=>?_⟩)
    .have:t.2∈Ms.map (setOf ns):=pm.mem_iff.mp (AE.mpr ⟨t,ht,rfl⟩);obtain⟨m,_,e⟩:=AE.mp this;exact(Ab ns m).subset (e▸hn)
    .obtain⟨ps,e1,e2,e3⟩:=WG;exact hR l G' ps hl s' ⟨e1,e2⟩ (e3.trans (FQ fun n _=>by rw[Xx hh]))
   .refine⟨D,us,rfl,SqL.of eG,LG.at_,fun z us' hz pt srt'=>?_⟩;have uz:=Same.new (o:=.lst (us'.map fun t=>V.ref t.1)) hz;have s3:=s1.trans sG;refine q A B Ms mA mB nd mm z us' _ (s3.trans uz) (s3.free hz) A9 ⟨fun t ht=>Iv (LG.at_ t (pt.mem_iff.mp ht)) uz,(pt.map _).nodup_iff.mpr LG.nd,fun t ht=>s1.free (LG.new t (pt.mem_iff.mp ht))⟩ (fun t ht=>B0 (LG.at_ t (pt.mem_iff.mp ht)).1 hz) ?_ srt';refine(pt.map fun t=>nw t.2).trans ?_;rw[mG];have:=pm.map (Ep ns qs);rw[AY,AY]at this;exact this
  .have:=few nd fun m hm=>((mm m).mp hm).1.1;have:2^ns.length<=2^8:=Nat.pow_le_pow_right (by decide) ln;omega
end
theorem y7{K:PySem.W.Frag}{a D:Addr}{ts:List Str}{r:St}{tc:TT}{H:Hp}{Q:St->Hp->Prop}(p:Str->Bool)(e:H a=some (.lst (ts.map V.str)))(len:ts.length<=1000)(hD:H D=none)
  (ht:∀y∈ts,∀H1,Same H H1->∀Q':Bool->Hp->Prop,(∀H2,Same H1 H2->Q' (p y) H2)->tc (some (.str y)::r) H1 Q') (h:∀σ H2,Same H H2->H2 D=some (.lst ((ts.filter p).map V.str))->Q σ H2) (v0:Option V) :
  V0 (J5 0) tc (R0 D (Bo 0)) (Itl K a) (v0::r) (upd H D (.lst [])) Q:=by
 refine G0 (asL (K:=K) (SqL.of e)) (fun i σ H3=>(∃v,σ=v::r)/\Same H H3/\H3 D=some (.lst (((ts.take i).filter p).map V.str)))
  ⟨⟨_,rfl⟩,Same.new hD,A9⟩ (fun i σ H1 _ ⟨_,s1,_⟩=>s1.at a) ?_ ?_
 .rintro i σ H3 v N hx ⟨⟨v0,rfl⟩,s3,e3⟩ hN;rw[AI]at hx;obtain⟨y,hy,rfl⟩:=BL.mp hx;refine ht y (AV hy) H3 s3 _ fun H4 s4=>?_;have e3:=s4 _ _ e3;have s3:=s3.trans s4;have hs:(ts.take (i+1)).filter p =(ts.take i).filter p++if p y=true then [y]else []:=by
   rw[take_succ hy,DM,CT,FF]
  have hl:(((ts.take i).filter p).map V.str).length<=1000:=by
   rw[AA];have:=BM p (ts.take i);rw[AN]at this;omega
  refine U0 (fun c=>ex1 rfl ⟨_,e3,by rw[sizeLine_eq];omega,hN _ _ ⟨⟨_,rfl⟩,s3.upd hD,?_⟩⟩) (fun c=>hN _ _ ⟨⟨_,rfl⟩,s3,?_⟩)
  .rw[A9,hs,AR c,AK];rfl
  .rw[hs,AM c,DB];exact e3
 .rintro σ H3 ⟨_,s3,e3⟩;rw[AA,BN]at e3;exact h σ H3 s3 e3
abbrev wIn:Str := "in"
abbrev wOut:Str := "out"
abbrev wOpen:Str := "open"
def WD(kvs:List (Key×V))(f:Str->Option Str):Prop:=∀n,P8 kvs (.inr n) =(f n).map V.str
def Ws(f:Str->Option Str)(l:List Str)(w:Str)(n:Str):Option Str:=if n∈l then some w else f n
theorem K2{f:Str->Option Str}{l:List Str}{w n:Str}(h:n∈l):Ws f l w n=some w:=AR h
theorem G5{f:Str->Option Str}{l:List Str}{w n:Str}(h:n∉l):Ws f l w n=f n:=AM h
theorem WD.mrg{w:Str}:∀{l:List Str} {kvs:List (Key×V)} {f:Str->Option Str},WD kvs f->WD (w8 kvs (l.map fun n=>(Sum.inr n,V.str w))) (Ws f l w)
 | [],_,_,h=>fun n=>by rw[G5 BP];exact h n
 | a::l,kvs,f,h=>fun n=>by
  have h1:WD (An kvs (.inr a) (.str w)) (Ws f [a] w):=fun m=>by
   rw[Ju];by_cases e:m=a
   .rw[AR e,K2 (AF.mpr e)];rfl
   .rw[AM e,G5 fun z=>e (AF.mp z)];exact h m
  refine(WD.mrg (l:=l) h1 n).trans ?_;by_cases e:n∈l
  .rw[K2 e,K2 (AU _ e)]
  .rw[G5 e];by_cases e':n=a
   .rw[K2 (AF.mpr e'),K2 (e'▸BE ..)]
   .rw[G5 fun z=>e' (AF.mp z),G5 fun z=>(A_.mp z).elim e' e]
def D6(qs:List PA2)(f:Str->Option Str)(n:Str):Bool:=((B1 qs n).map fun y=>decide (f y=some wOut)).all id
def P9(qs:List PA2)(f:Str->Option Str)(n:Str):Bool:=((B1 qs n).map fun y=>decide (f y=some wIn)).any id
theorem Cr{qs:List PA2}{f:Str->Option Str}{n:Str}:D6 qs f n=true↔∀y∈B1 qs n,f y=some wOut:=by
 unfold D6;rw[FM,BU];exact⟨fun h y hy=>AZ (h y hy),fun h y hy=>AJ (h y hy)⟩
theorem Hc{qs:List PA2}{f:Str->Option Str}{n:Str}:P9 qs f n=true↔∃y∈B1 qs n,f y=some wIn:=by
 unfold P9;rw[List.any_map,DQ];exact⟨fun⟨y,hy,h⟩=>⟨y,hy,AZ h⟩,fun⟨y,hy,h⟩=>⟨y,hy,AJ h⟩⟩
theorem Yh{K:PySem.W.Frag}{a D:Addr}{ts:List Str}{r:St}{te:TE}{H:Hp}{Q:St->Hp->Prop}(g:Str->V)(e:H a=some (.lst (ts.map V.str)))(len:ts.length<=1000)(hD:H D=none)
  (ht:∀y∈ts,∀H1,Same H H1->∀Q':VK,(∀H2,Same H1 H2->Q' (g y) H2)->te (some (.str y)::r) H1 Q') (h:∀σ H2,Same H H2->H2 D=some (.lst (ts.map g))->Q σ H2) (v0:Option V) :
  V0 (J5 0) S9 (R0 D te) (Itl K a) (v0::r) (upd H D (.lst [])) Q:=by
 refine G0 (asL (K:=K) (SqL.of e)) (fun i σ H3=>(∃v,σ=v::r)/\Same H H3/\H3 D=some (.lst ((ts.take i).map g)))
  ⟨⟨_,rfl⟩,Same.new hD,A9⟩ (fun i σ H1 _ ⟨_,s1,_⟩=>s1.at a) ?_ ?_
 .rintro i σ H3 v N hx ⟨⟨v0,rfl⟩,s3,e3⟩ hN;rw[AI]at hx;obtain⟨y,hy,rfl⟩:=BL.mp hx;have hi:=(AG.mp hy).1;refine M9 (ht y (AV hy) H3 s3 _ fun H4 s4=>⟨_,s4 _ _ e3,?_,hN _ _ ⟨⟨_,rfl⟩,(s3.trans s4).upd hD,?_⟩⟩)
  .rw[AA,AN,sizeLine_eq];omega
  .rw[A9,take_succ hy,AK];rfl
 .rintro σ H3 ⟨_,s3,e3⟩;rw[AA,BN]at e3;exact h σ H3 s3 e3
theorem u8{K:PySem.W.Frag}{a D:Addr}{ts:List Str}{r:St}{te:TE}{H:Hp}{Q:St->Hp->Prop}(p:Str->Bool)(e:H a=some (.lst (ts.map V.str)))(len:ts.length<=1000)(hD:H D=none)
  (ht:∀y∈ts,∀H1,Same H H1->∀Q':VK,(∀H2,Same H1 H2->Q' (.bl (p y)) H2)->te (some (.str y)::r) H1 Q') (h:∀σ H2,Same H H2->H2 D=some (.lst ((ts.map p).map V.bl))->Q σ H2) (v0:Option V) :
  V0 (J5 0) S9 (R0 D te) (Itl K a) (v0::r) (upd H D (.lst [])) Q:=Yh (fun y=>V.bl (p y)) e len hD ht (fun σ H2 s2 e2=>h σ H2 s2 (by rw[e2,AY];rfl)) v0
theorem Mp{K:PySem.W.Frag}{a D:Addr}{ts:List Str}{w:Str}{H:Hp}{Q:St->Hp->Prop}(e:H a=some (.lst (ts.map V.str)))(nd:ts.Nodup)(len:ts.length<=1000)(hD:H D=none)
  (h:∀σ H2,Same H H2->H2 D=some (.dK (ts.map fun n=>(Sum.inr n,V.str w)))->Q σ H2) (v0:Option V) :
  V0 (J5 0) S9 (Jg D (Bo 0) (tC (.str w))) (Itl K a) [v0] (upd H D (.dK [])) Q:=by
 refine G0 (asL (K:=K) (SqL.of e)) (fun i σ H3=>(∃v,σ = [v])/\Same H H3/\H3 D=some (.dK ((ts.take i).map fun n=>(Sum.inr n,V.str w))))
  ⟨⟨_,rfl⟩,Same.new hD,A9⟩ (fun i σ H1 _ ⟨_,s1,_⟩=>s1.at a) ?_ ?_
 .rintro i σ H3 v N hx ⟨⟨v0,rfl⟩,s3,e3⟩ hN;rw[AI]at hx;obtain⟨y,hy,rfl⟩:=BL.mp hx;have hi:=(AG.mp hy).1;refine M9 (ex1 rfl ⟨_,.inr y,e3,rfl,?_,hN _ _ ⟨⟨_,rfl⟩,s3.upd hD,?_⟩⟩)
  .rw[AA,AN,sizeLine_eq];omega
  .rw[A9];unfold An;rw[AM,take_succ hy,AK];rfl;rw[List.any_map,DQ];rintro⟨z,hz,c⟩;have c:(Sum.inr z:Key) = .inr y:=AZ c;cases c;exact U4 nd hy hz
 .rintro σ H3 ⟨_,s3,e3⟩;rw[AA,BN]at e3;exact h σ H3 s3 e3
abbrev Row:Type:=Str×Str×V
def RL(H:Hp)(l:Addr)(rs:List (Addr×Row)):Prop:=H l=some (.lst (rs.map fun q=>V.ref q.1))/\∀q∈rs,H q.1=some (.tup [.str q.2.1,.str q.2.2.1,q.2.2.2])
theorem RL.same{H H':Hp}{l:Addr}{rs:List (Addr×Row)}(h:RL H l rs)(s:Same H H'):RL H' l rs:=⟨s _ _ h.1,fun q hq=>s _ _ (h.2 q hq)⟩
theorem RL.app{H H':Hp}{a b c:Addr}{rs ts:List (Addr×Row)}(h:RL H a rs)(h':RL H b ts)(e:H' c=some (.lst ((rs.map fun q=>V.ref q.1)++ts.map fun q=>V.ref q.1)))(k:∀q o,H q=some (.tup o)->H' q=some (.tup o)):RL H' c (rs++ts) :=
 ⟨by rw[e,AK],fun q hq=>k _ _ ((AO.mp hq).elim (h.2 q) (h'.2 q))⟩
theorem zBe{K:PySem.W.Frag}{a D:Addr}{ts:List Str}{ta:TA}{r:St}{H:Hp}{Q:St->Hp->Prop}{tc:TT}(p:Str->Bool)(g:Str->List V)(hg:∀y,(g y).length<=3)(e:H a=some (.lst (ts.map V.str)))(len:ts.length<=1000)(hD:H D=none)(h3:∀y H1 (Q':List V->Hp->Prop),Q' (g y) H1->ta (some (.str y)::r) H1 Q')
  (ht:∀y∈ts,∀H1,Same H H1->∀Q':Bool->Hp->Prop,Q' (p y) H1->tc (some (.str y)::r) H1 Q')
  (h:∀σ (rs:List (Addr×Str)) H2,Same H H2->H2 D=some (.lst (rs.map fun q=>V.ref q.1))->(∀q∈rs,H2 q.1=some (.tup (g q.2)))->rs.map (fun q=>q.2)=ts.filter p->Q σ H2) (v0:Option V) :
  V0 (J5 0) tc (R0 D (zEl ta)) (Itl K a) (v0::r) (upd H D (.lst [])) Q:=by
 refine G0 (asL (K:=K) (SqL.of e)) (fun i σ H3=>(∃v,σ=v::r)/\Same H H3/\∃rs:List (Addr×Str),H3 D=some (.lst (rs.map fun q=>V.ref q.1))/\(∀q∈rs,H3 q.1=some (.tup (g q.2)))/\rs.map (fun q=>q.2) =(ts.take i).filter p)
  ⟨⟨_,rfl⟩,Same.new hD,[],A9,fun q h=>absurd h BP,rfl⟩ (fun i σ H1 _ ⟨_,s1,_⟩=>s1.at a) ?_ ?_
 .rintro i σ H3 v N hx ⟨⟨v0,rfl⟩,s3,rs,L3,t3,q3⟩ hN;rw[AI]at hx;obtain⟨y,hy,rfl⟩:=BL.mp hx;have hi:=(AG.mp hy).1;have lr:=congrArg List.length q3;rw[AA]at lr;have lf:=BM p (ts.take i);rw[AN]at lf;have hs:(ts.take (i+1)).filter p =(ts.take i).filter p++if p y=true then [y]else []:=by
   rw[take_succ hy,DM,CT,FF]
  refine ht y (AV hy) H3 s3 _ ?_;refine U0 (fun c=>h3 _ _ _ ⟨Nat.le_trans (hg y) (by show 3<=sizeLine;decide),fun t ht=>?_⟩) (fun c=>hN _ _ ⟨⟨_,rfl⟩,s3,rs,L3,t3,by rw[hs,AM c,DB];exact q3⟩);have u4:=Same.new (o:=.tup (g y)) ht;have ntD:t≠D:=(B0 L3 ht).symm;refine⟨_,u4 _ _ L3,by rw[AA,sizeLine_eq];omega,hN _ _ ⟨⟨_,rfl⟩,(s3.trans u4).upd hD,rs ++ [(t,y)],by rw[A9,AK];rfl,fun q hq=>?_,by rw[hs,AR c,AK,q3];rfl⟩⟩;rcases AO.mp hq with c | c
  .exact(B6 (Q8 (t3 q c) L3 (by intro z;cases z))).trans (u4 _ _ (t3 q c))
  .rw[AF.mp c];exact(B6 ntD).trans A9
 .rintro σ H3 ⟨_,s3,rs,L3,t3,q3⟩;rw[AA,BN]at q3;exact h σ rs H3 s3 L3 t3 q3
theorem Jf{K:PySem.W.Frag}{a D:Addr}{ts:List Str}{w:Str}{v3:V}{t3:TE}{r:St}{H:Hp}{Q:St->Hp->Prop}{tc:TT}(p:Str->Bool)(e:H a=some (.lst (ts.map V.str)))(len:ts.length<=1000)(hD:H D=none)(h3:∀y H1 (Q':VK),Q' v3 H1->t3 (some (.str y)::r) H1 Q')
  (ht:∀y∈ts,∀H1,Same H H1->∀Q':Bool->Hp->Prop,Q' (p y) H1->tc (some (.str y)::r) H1 Q')
  (h:∀σ rs H2,Same H H2->RL H2 D rs->rs.map (fun q=>q.2) =(ts.filter p).map (fun n=>(n,w,v3))->Q σ H2) (v0:Option V) :
  V0 (J5 0) tc (R0 D (zEl (T6 (Bo 0) (T6 (tC (.str w)) (T6 t3 Kv))))) (Itl K a) (v0::r) (upd H D (.lst [])) Q :=
 zBe p (fun y=>[.str y,.str w,v3]) (fun _=>Nat.le_refl _) e len hD (fun y H1 Q' hq=>⟨_,rfl,h3 _ _ _ hq⟩) ht (fun σ rs H2 s2 e2 t2 q2=>h σ (rs.map fun q=>(q.1,q.2,w,v3)) H2 s2 ⟨by rw[e2,AY];rfl,fun q hq=>let⟨z,hz,e⟩:=AE.mp hq;e▸t2 z hz⟩ (by rw[<-q2,AY,AY];rfl)) v0
theorem i9{l:List Str}:l.filter (fun _=>true)=l:=DX.mpr fun _ _=>rfl
section
variable{P:Program}{w:World}{K:PySem.W.Frag}{mg:Str->Option Value}{base:Heap}
def Iq(C:Addr):Sp:=fun vs H Q _=>∃(x d:Addr) (ns:List Str) (qs:List PA2) (kvs:List (Key×V)) (f:Str->Option Str),vs = [.ref x,.ref d]/\WebAt C H x ns qs/\H d=some (.dK kvs)/\WD kvs f/\∀l H',Same H H'->H l=none->H' l=some (.lst ((ns.filter fun n=>(f n).isNone).map V.str))->Q (.ref l) H'
theorem Bi:FnScope ["web", "words"] ["web", "words"] (B5 s_wordless):=fsc
theorem Aw(T:Tx K mg):FnOk P w K mg base CX0 2 T.aJ.f T.aJ.fd ["web", "words"] (Iq T.ab):=by
 have G_Web_all_names:=J0 (P:=P) (w:=w) (base:=base) T;have sc:=Bi;refine T.aJ.F.ok Bi (fun vs H Q E h=>?_) (fun cdv A outer s H vs Q E hr h=>?_)
 .obtain⟨x,d,ns,qs,kvs,f,rfl,_⟩:=h;rfl
 .obtain⟨x,d,ns,qs,kvs,f,rfl,hW,hd,hf,k⟩:=h;have hu:=T9 hr;refine⟨_,(B4 (B9 (J7 (N':=["name", "words"]) (cap:=[none,some 1]) (cl:=[("words",_)]) (E7 ⟨⟨rfl,rfl,rfl,rfl⟩,trivial⟩ ⟨rfl,trivial⟩) rfl (piL K (Y1 (pv 0) T.ag T.ae.m G_Web_all_names (Rm hr) T.ae.b .nil K0)) (fun _ _ _ _=>by exact⟨(pgC 0),(O8 (zDy (Ta hu (pv 0) (pv 1)))),(pv 0)⟩)))),?_⟩;obtain⟨ok,dx,a1,b,c,d',kc,kd,e2,_⟩:=id hW;have ln:=ok.len;refine ex1 rfl ⟨x,dx,ex1 rfl ⟨e2,rfl,x,ns,qs,rfl,hW,fun l2 hl2=>?_⟩⟩;have s2:=Same.new (o:=.lst (ns.map V.str)) hl2;have f2:(upd H l2 (.lst (ns.map V.str))) l2=some (.lst (ns.map V.str)):=A9;generalize upd H l2 (.lst (ns.map V.str))=H2 at s2 f2⊢;refine⟨l2,rfl,⟨_,SqL.of f2⟩,fun D hD=>?_⟩;refine y7 (fun n=>(f n).isNone) f2 (by omega) hD (fun y hy H3 s3 Q' hQ=>?_) (fun σ H3 s3 e3=>k D H3 (s2.trans s3) (s2.free hD) e3) _;refine ex1 rfl (ex1 rfl ⟨d,_,rfl,DGet.k (k:=Sum.inr y) (s3 _ _ (s2 _ _ hd)),_,rfl,?_⟩);rw[hf y];have e:(!((f y).map V.str).isSome) =(f y).isNone:=by cases f y<;>rfl
  rw[e];exact hQ _ fun b o e=>e
def Nk(C:Addr):Sp:=fun vs H Q _=>∃(x d:Addr) (n:Str) (ns:List Str) (qs:List PA2) (kvs:List (Key×V)) (f:Str->Option Str),vs = [.ref x,.ref d,.str n]/\WebAt C H x ns qs/\n∈ns/\H d=some (.dK kvs)/\WD kvs f/\∀H',Same H H'->Q (.bl (D6 qs f n)) H'
def Tt(C:Addr):Sp:=fun vs H Q _=>∃(x d:Addr) (n:Str) (ns:List Str) (qs:List PA2) (kvs:List (Key×V)) (f:Str->Option Str),vs = [.ref x,.ref d,.str n]/\WebAt C H x ns qs/\n∈ns/\H d=some (.dK kvs)/\WD kvs f/\∀H',Same H H'->Q (.bl (P9 qs f n)) H'
theorem Xt{H:Hp}{d:Addr}{kvs:List (Key×V)}{f:Str->Option Str}{y w:Str}{r:St}{Q:VK}(hd:H d=some (.dK kvs))(hf:WD kvs f)(h:Q (.bl (decide (f y=some w))) H):tOp rEq (Yr (Bo 1) (Bo 0)) (tC (.str w)) (some (.str y)::some (.ref d)::r) H Q:=by
 refine ex1 rfl ⟨d,rfl,.inl ⟨kvs,.inl hd⟩,ex1 rfl ⟨_,DGet.k (k:=Sum.inr y) hd,?_⟩⟩;rw[hf y];cases e:f y with
 | none=>rw[e]at h;exact⟨rfl,h⟩
 | some z =>
  rw[e]at h;refine⟨rfl,?_⟩;have e':decide (V.str z=V.str w)=decide (some z=some w):=GQ.mpr ⟨fun c=>by injection c with c;rw[c],fun c=>by injection c with c;rw[c]⟩;show Q (.bl (decide (V.str z=V.str w))) H;rw[e'];exact h
theorem Ci:FnScope ["web", "words", "name"] ["web", "words", "name"] (B5 s_all_out):=fsc
theorem Hb:FnScope ["web", "words", "name"] ["web", "words", "name"] (B5 s_one_in):=fsc
theorem Nx(T:Tx K mg):FnOk P w K mg base CX0 3 T.bc.f T.bc.fd ["web", "words", "name"] (Nk T.ab):=by
 have G_Web_strikers:=G8 (P:=P) (w:=w) (base:=base) T;have sc:=Ci;refine T.bc.F.ok Ci (fun vs H Q E h=>?_) (fun cdv A outer s H vs Q E hr h=>?_)
 .obtain⟨x,d,n,ns,qs,kvs,f,rfl,_⟩:=h;rfl
 .obtain⟨x,d,n,ns,qs,kvs,f,rfl,hW,hn,hd,hf,k⟩:=h;have hu:=T9 hr;refine⟨_,(B4 (B9 (E5 (Q9 K) T.av Q7 (A8 (J7 (N':=["striker", "words"]) (cap:=[none,some 1]) (cl:=[("words",_)]) (E7 ⟨⟨rfl,rfl,rfl,rfl⟩,trivial⟩ ⟨rfl,trivial⟩) rfl (piL K (G7 (pv 0) T.ag T.ad.m G_Web_strikers (Rm hr) T.ad.b .nil K0 (A8 (pv 2) B2))) (fun _ _ _ _=>by exact⟨(pgC 0),C3,(E4 T0 (Ko hu (pv 1) (pv 0) ⟨rfl,rfl,rfl,rfl⟩) I0 (D8 _))⟩)) B2)))),?_⟩;obtain⟨ok,dx,a1,b,c,d',kc,kd,e2,_⟩:=id hW;have lq:=ok.lenq;have ls:(B1 qs n).length<=qs.length:=by unfold B1;rw[AA];exact BM ..
  refine ex1 rfl ⟨x,dx,ex1 rfl ⟨e2,rfl,ex1 rfl ⟨x,n,ns,qs,rfl,hW,hn,fun l2 hl2=>?_⟩⟩⟩;have s2:=Same.new (o:=.lst ((B1 qs n).map V.str)) hl2;have f2:(upd H l2 (.lst ((B1 qs n).map V.str))) l2=some (.lst ((B1 qs n).map V.str)):=A9;generalize upd H l2 (.lst ((B1 qs n).map V.str))=H2 at s2 f2⊢;refine⟨l2,rfl,⟨_,SqL.of f2⟩,fun D hD=>?_⟩;exact u8 (fun y=>decide (f y=some wOut)) f2 (by omega) hD (fun y hy H3 s3 Q' hQ=>Xt (s3 _ _ (s2 _ _ hd)) hf (hQ _ fun b o e=>e)) (fun σ H3 s3 e3=>⟨D,_,rfl,SqL.of e3,k H3 (s2.trans s3)⟩) _
theorem Ug(T:Tx K mg):FnOk P w K mg base CX0 3 T.bi.f T.bi.fd ["web", "words", "name"] (Tt T.ab):=by
 have G_Web_strikers:=G8 (P:=P) (w:=w) (base:=base) T;have sc:=Hb;refine T.bi.F.ok Hb (fun vs H Q E h=>?_) (fun cdv A outer s H vs Q E hr h=>?_)
 .obtain⟨x,d,n,ns,qs,kvs,f,rfl,_⟩:=h;rfl
 .obtain⟨x,d,n,ns,qs,kvs,f,rfl,hW,hn,hd,hf,k⟩:=h;have hu:=T9 hr;refine⟨_,(B4 (B9 (E5 (Ts K) T.bs Qm (A8 (J7 (N':=["striker", "words"]) (cap:=[none,some 1]) (cl:=[("words",_)]) (E7 ⟨⟨rfl,rfl,rfl,rfl⟩,trivial⟩ ⟨rfl,trivial⟩) rfl (piL K (G7 (pv 0) T.ag T.ad.m G_Web_strikers (Rm hr) T.ad.b .nil K0 (A8 (pv 2) B2))) (fun _ _ _ _=>by exact⟨(pgC 0),C3,(E4 T0 (Ko hu (pv 1) (pv 0) ⟨rfl,rfl,rfl,rfl⟩) I0 (D8 _))⟩)) B2)))),?_⟩;obtain⟨ok,dx,a1,b,c,d',kc,kd,e2,_⟩:=id hW;have lq:=ok.lenq;have ls:(B1 qs n).length<=qs.length:=by unfold B1;rw[AA];exact BM ..
  refine ex1 rfl ⟨x,dx,ex1 rfl ⟨e2,rfl,ex1 rfl ⟨x,n,ns,qs,rfl,hW,hn,fun l2 hl2=>?_⟩⟩⟩;have s2:=Same.new (o:=.lst ((B1 qs n).map V.str)) hl2;have f2:(upd H l2 (.lst ((B1 qs n).map V.str))) l2=some (.lst ((B1 qs n).map V.str)):=A9;generalize upd H l2 (.lst ((B1 qs n).map V.str))=H2 at s2 f2⊢;refine⟨l2,rfl,⟨_,SqL.of f2⟩,fun D hD=>?_⟩;exact u8 (fun y=>decide (f y=some wIn)) f2 (by omega) hD (fun y hy H3 s3 Q' hQ=>Xt (s3 _ _ (s2 _ _ hd)) hf (hQ _ fun b o e=>e)) (fun σ H3 s3 e3=>⟨D,_,rfl,SqL.of e3,k H3 (s2.trans s3)⟩) _
end
theorem Yb:∀{l m:List Str},l.Nodup->(∀x∈l,x∈m)->l.length<=m.length
 | [],_,_,_=>CC _
 | x::l,m,nd,h=>by
  obtain⟨n1,n2⟩:=DG.mp nd;have hx:=h x (BE ..);have h1:=Yb (m:=m.erase x) n2 fun y hy=>(List.mem_erase_of_ne (fun z:y=x=>n1 (z▸hy))).mpr (h y (AU _ hy));rw[List.length_erase_of_mem hx]at h1;have:=List.length_pos_of_mem hx;rw[BR];omega
section
variable{ns l:List Str}{A O:(Str->Option Str)->Str->Bool}{f:Str->Option Str}{w n:Str}{num:Int}
def wl(ns:List Str)(f:Str->Option Str):List Str:=ns.filter fun n=>(f n).isNone
def D9(ns:List Str)(A:(Str->Option Str)->Str->Bool)(f:Str->Option Str):List Str:=(wl ns f).filter (A f)
def Q2(ns:List Str)(A:(Str->Option Str)->Str->Bool)(f:Str->Option Str):Str->Option Str:=Ws f (D9 ns A f) wIn
def nxt(ns:List Str)(A O:(Str->Option Str)->Str->Bool)(f:Str->Option Str):Str->Option Str:=Ws (Q2 ns A f) (D9 ns O (Q2 ns A f)) wOut
def U8(ns:List Str)(A O:(Str->Option Str)->Str->Bool)(f:Str->Option Str)(num:Int):List Row:=((D9 ns A f).map fun n=>(n,wIn,V.int num)) ++(D9 ns O (Q2 ns A f)).map fun n=>(n,wOut,V.int num)
theorem mem_wl:n∈wl ns f↔n∈ns/\f n=none:=by unfold wl;rw[BF,Option.isNone_iff_eq_none]
theorem Ka(h:n∈D9 ns A f):n∈ns/\f n=none:=mem_wl.mp (BF.mp h).1
theorem zCu(hl:∀n∈l,n∈ns/\f n=none)(nd:l.Nodup)(nn:ns.Nodup):(wl ns (Ws f l w)).length+l.length<=(wl ns f).length:=by
 rw[<-BB];refine Yb (DT.mpr ⟨nn.filter _,nd,fun a ha b hb e=>?_⟩) fun x hx=>?_
 .have:=(mem_wl.mp ha).2;rw[e,K2 hb]at this;cases this
 .rcases AO.mp hx with c | c
  .obtain⟨c1,c2⟩:=mem_wl.mp c;refine mem_wl.mpr ⟨c1,?_⟩;by_cases d:x∈l
   .rw[K2 d]at c2;cases c2
   .rw[G5 d]at c2;exact c2
  .exact mem_wl.mpr (hl x c)
theorem Xq(nn:ns.Nodup):(wl ns (Ws f (D9 ns A f) w)).length +(D9 ns A f).length<=(wl ns f).length:=zCu (fun _ h=>Ka h) ((nn.filter _).filter _) nn
theorem Pb(nn:ns.Nodup):(wl ns (nxt ns A O f)).length +(U8 ns A O f num).length<=(wl ns f).length:=by
 have h1:(wl ns (Q2 ns A f)).length+_<=_:=Xq (A:=A) (f:=f) (w:=wIn) nn;have h2:(wl ns (nxt ns A O f)).length+_<=_:=Xq (A:=O) (f:=Q2 ns A f) (w:=wOut) nn;unfold U8;rw[BB,AA,AA];omega
theorem Vn(h:U8 ns A O f num = []):nxt ns A O f=f:=by
 obtain⟨h1,h2⟩:=List.append_eq_nil_iff.mp h;have h1:=GU.mp h1;have h2:=GU.mp h2;have e1:Q2 ns A f=f:=by unfold Q2;rw[h1];exact funext fun n=>G5 BP
 unfold nxt;rw[h2,e1];exact funext fun n=>G5 BP
inductive RSeq(ns:List Str)(A O:(Str->Option Str)->Str->Bool):(Str->Option Str)->Int->List Row->Prop
 | stop {f:Str->Option Str} {num:Int}:U8 ns A O f num = []->RSeq ns A O f num ((wl ns f).map fun n=>(n,wOpen,V.non))
 | step {f:Str->Option Str} {num:Int} {t:List Row}:U8 ns A O f num≠[]->RSeq ns A O (nxt ns A O f) (num+1) t->RSeq ns A O f num (U8 ns A O f num++t)
theorem RSeq.one{r:List Row}(h:RSeq ns A O f num r):∀r',RSeq ns A O f num r'->r=r':=by
 induction h with
 | stop h0 =>
  intro r' h';cases h' with
  | stop=>rfl
  | step h1=>exact absurd h0 h1
 | step h0 _ ih =>
  intro r' h';cases h' with
  | stop h1=>exact absurd h1 h0
  | step _ h2=>rw[ih _ h2]
theorem word_ok:PySem.PyData.strOk wIn=true/\PySem.PyData.strOk wOut=true/\PySem.PyData.strOk wOpen=true:=⟨by decide +kernel,by decide +kernel,by decide +kernel⟩
def zAn(H:Hp)(ns:List Str)(qs:List PA2)(Q:VK):Prop:=∀l rs H',Same H H'->H l=none->RL H' l rs->RSeq ns (D6 qs) (P9 qs) (fun _=>none) 1 (rs.map fun q=>q.2)->rs.length<=100->Q (.ref l) H'
end
theorem Xd{H H':Hp}{d b:Addr}{o:HO}(k:Sm [d] H H')(e:H' d=some o)(h:H' b=none):H b=none:=by
 cases e':H b with
 | none=>rfl
 | some o' =>
  have:=Sm1 k e' (B0 e h).symm;rw[h]at this;cases this
theorem Same.smd{H0 H H':Hp}{d:Addr}(s:Same H0 H)(h:H0 d=none)(k:Sm [d] H H'):Same H0 H':=fun b o e=>Sm1 k (s b o e) (B0 e h)
section
variable{P:Program}{w:World}{K:PySem.W.Frag}{mg:Str->Option Value}{base:Heap}
def Fg(C:Addr):Sp:=fun vs H Q _=>∃(H0:Hp) (x d:Addr) (num:Int) (ns:List Str) (qs:List PA2) (kvs:List (Key×V)) (f:Str->Option Str),vs = [.ref x,.ref d,.int num]/\Same H0 H/\H0 d=none/\WebAt C H0 x ns qs/\H d=some (.dK kvs)/\WD kvs f/\kvs.length<=1000 /\
 ∀l rs kvs' H',Sm [d] H H'->H l=none->RL H' l rs->rs.map (fun q=>q.2)=U8 ns (D6 qs) (P9 qs) f num->H' d=some (.dK kvs')->WD kvs' (nxt ns (D6 qs) (P9 qs) f)->kvs'.length<=kvs.length+rs.length->Q (.ref l) H'
theorem o0:FnScope ["web", "words", "number", "ins", "outs"] ["web", "words", "number"] (B5 s_one_round):=fsc
set_option maxHeartbeats 4000000 in
theorem Hs(T:Tx K mg):FnOk P w K mg base CX0 4 T.aL.f T.aL.fd ["web", "words", "number"] (Fg T.ab):=by
 have G_wordless:=Aw (P:=P) (w:=w) (base:=base) T;have G_all_out:=Nx (P:=P) (w:=w) (base:=base) T;have G_one_in:=Ug (P:=P) (w:=w) (base:=base) T;have sc:=o0;refine T.aL.F.ok o0 (fun vs H Q E h=>?_) (fun cdv A outer s H vs Q E hr h=>?_)
 .obtain⟨H0,x,d,num,ns,qs,kvs,f,rfl,_⟩:=h;rfl
 .obtain⟨H0,x,d,num,ns,qs,kvs,f,rfl,s0,hd0,hW,hd,hf,hk,k⟩:=h;refine⟨_,(B3 (De (i:=3) (N':=["name", "web", "words"]) (cap:=[none,some 0,some 1]) (cl:=[("words",_),("web",_)]) sc.nd rfl (.inl rfl) (E7 ⟨⟨rfl,rfl,rfl,rfl⟩,⟨⟨rfl,rfl,rfl,rfl⟩,trivial⟩⟩ ⟨rfl,⟨rfl,trivial⟩⟩) rfl (piL K (C7 T.aJ G_wordless (Rm hr) (A8 (pv 0) (A8 (pv 1) B2)))) (fun _ _ _ _=>by exact⟨(pgC 0),(O8 (K6 (C7 T.bc G_all_out (Rm hr) (A8 (pv 1) (A8 (pv 2) (A8 (pv 0) B2)))))),(pv 0)⟩))
   (B3 (E9 (Qa (pv 1) (En (N':=["name"]) (cap:=[none]) (cl:=[]) (E7 trivial trivial) rfl (piL K (pv 3)) (fun _ _ _ _=>by exact⟨(pgC 0),C3,(pv 0),I0⟩)) ⟨rfl,rfl,rfl,rfl⟩))
   (B3 (De (i:=4) (N':=["name", "web", "words"]) (cap:=[none,some 0,some 1]) (cl:=[("words",_),("web",_)]) sc.nd rfl (.inl rfl) (E7 ⟨⟨rfl,rfl,rfl,rfl⟩,⟨⟨rfl,rfl,rfl,rfl⟩,trivial⟩⟩ ⟨rfl,⟨rfl,trivial⟩⟩) rfl (piL K (C7 T.aJ G_wordless (Rm hr) (A8 (pv 0) (A8 (pv 1) B2)))) (fun _ _ _ _=>by exact⟨(pgC 0),(O8 (K6 (C7 T.bi G_one_in (Rm hr) (A8 (pv 1) (A8 (pv 2) (A8 (pv 0) B2)))))),(pv 0)⟩))
   (B3 (E9 (Qa (pv 1) (En (N':=["name"]) (cap:=[none]) (cl:=[]) (E7 trivial trivial) rfl (piL K (pv 4)) (fun _ _ _ _=>by exact⟨(pgC 0),C3,(pv 0),I0⟩)) ⟨rfl,rfl,rfl,rfl⟩))
   (B4 (B9 (E8 Mq (J7 (N':=["name", "number"]) (cap:=[none,some 2]) (cl:=[("number",_)]) (E7 ⟨⟨rfl,rfl,rfl,rfl⟩,trivial⟩ ⟨rfl,trivial⟩) rfl (piL K (pv 3)) (fun _ _ _ _=>by exact⟨(pgC 0),C3,(M7 (A8 (pv 0) (A8 I0 (A8 (pv 1) B2))))⟩)) (J7 (N':=["name", "number"]) (cap:=[none,some 2]) (cl:=[("number",_)]) (E7 ⟨⟨rfl,rfl,rfl,rfl⟩,trivial⟩ ⟨rfl,trivial⟩) rfl (piL K (pv 4)) (fun _ _ _ _=>by exact⟨(pgC 0),C3,(M7 (A8 (pv 0) (A8 I0 (A8 (pv 1) B2))))⟩))))))))),?_⟩
  have ok:=hW.ok;have ln:=ok.len;have nn:=ok.nd;have lfl:∀g:Str->Option Str,(wl ns g).length<=100:=fun g=>Nat.le_trans (BM ..) ln;have li:(D9 ns (D6 qs) f).length<=100:=Nat.le_trans (BM ..) (lfl _);have lo:(D9 ns (P9 qs) (Q2 ns (D6 qs) f)).length<=100:=Nat.le_trans (BM ..) (lfl _);refine B7 fun N1 hN1=>?_;refine ex1 rfl (ex1 rfl ⟨x,d,ns,qs,kvs,f,rfl,hW.same s0,hd,hf,fun l1 H1 s1 hl1 e1=>?_⟩);refine⟨l1,rfl,⟨_,SqL.of e1⟩,fun D1 hD1=>?_⟩;refine y7 (D6 qs f) e1 (Nat.le_trans (lfl f) (by decide)) hD1 (fun y hy G sg Q' hQ=>?_) (fun σ H2 s2 e2=>?_) _
  .refine ex1 rfl (ex1 rfl (ex1 rfl ⟨x,d,y,ns,qs,kvs,f,rfl,(hW.same s0).same (s1.trans sg),(mem_wl.mp hy).1,(s1.trans sg) _ _ hd,hf,fun G' sg'=>⟨_,rfl,hQ G' sg'⟩⟩))
  have e2:H2 D1=some (.lst ((D9 ns (D6 qs) f).map V.str)):=e2;have s12:=s1.trans s2;have hd2:=s12 _ _ hd;refine hN1 _ _ (B7 fun N2 hN2=>?_);refine ex1 rfl ⟨d,rfl,.inl ⟨_,.inl hd2⟩,ex1 rfl ⟨D1,rfl,⟨_,SqL.of e2⟩,fun E1 hE1=>?_⟩⟩;refine Mp e2 ((nn.filter _).filter _) (Nat.le_trans li (by decide)) hE1 (fun σ H3 s3 e3=>?_) _;have hd3:=s3 _ _ hd2;have k1:=hf.mrg (w:=wIn) (l:=D9 ns (D6 qs) f);have m1:=S0 kvs ((D9 ns (D6 qs) f).map fun n=>(Sum.inr n,V.str wIn));rw[AA]at m1;refine⟨E1,kvs,_,rfl,hd3,e3,(B0 hd2 hE1),by rw[AA,sizeLine_eq];omega,hN2 _ _ (B7 fun N3 hN3=>?_)⟩;have n1:D1≠d:=Q8 (s3 _ _ e2) hd3 (by intro z;cases z);have k4:Sm [d] H (upd H3 d (.dK (w8 kvs ((D9 ns (D6 qs) f).map fun n=>(Sum.inr n,V.str wIn))))):=(s12.trans s3).sm.upd (by simp);have d4:(upd H3 d (.dK (w8 kvs ((D9 ns (D6 qs) f).map fun n=>(Sum.inr n,V.str wIn))))) d=some (.dK (w8 kvs ((D9 ns (D6 qs) f).map fun n=>(Sum.inr n,V.str wIn)))):=A9;have e4:(upd H3 d (.dK (w8 kvs ((D9 ns (D6 qs) f).map fun n=>(Sum.inr n,V.str wIn))))) D1=some (.lst ((D9 ns (D6 qs) f).map V.str)):=(B6 n1).trans (s3 _ _ e2);generalize w8 kvs ((D9 ns (D6 qs) f).map fun n=>(Sum.inr n,V.str wIn))=kv1 at k1 m1 k4 d4 e4⊢;generalize upd H3 d (.dK kv1)=H4 at k4 d4 e4⊢;have W4:=hW.same (Same.smd s0 hd0 k4);have k1:WD kv1 (Q2 ns (D6 qs) f):=k1;clear s1 s2 s12 s3 e1 e2 e3 hd2 hd3 hl1 hD1 hE1;refine ex1 rfl (ex1 rfl ⟨x,d,ns,qs,kv1,Q2 ns (D6 qs) f,rfl,W4,d4,k1,fun l2 H5 s5 hl2 e5=>?_⟩);refine⟨l2,rfl,⟨_,SqL.of e5⟩,fun D2 hD2=>?_⟩;refine y7 (P9 qs (Q2 ns (D6 qs) f)) e5 (Nat.le_trans (lfl _) (by decide)) hD2 (fun y hy G sg Q' hQ=>?_) (fun σ H6 s6 e6=>?_) _
  .refine ex1 rfl (ex1 rfl (ex1 rfl ⟨x,d,y,ns,qs,kv1,Q2 ns (D6 qs) f,rfl,W4.same (s5.trans sg),(mem_wl.mp hy).1,(s5.trans sg) _ _ d4,k1,fun G' sg'=>⟨_,rfl,hQ G' sg'⟩⟩))
  have e6:H6 D2=some (.lst ((D9 ns (P9 qs) (Q2 ns (D6 qs) f)).map V.str)):=e6;have s56:=s5.trans s6;have hd6:=s56 _ _ d4;refine hN3 _ _ (B7 fun N4 hN4=>?_);refine ex1 rfl ⟨d,rfl,.inl ⟨_,.inl hd6⟩,ex1 rfl ⟨D2,rfl,⟨_,SqL.of e6⟩,fun E2 hE2=>?_⟩⟩;refine Mp e6 ((nn.filter _).filter _) (Nat.le_trans lo (by decide)) hE2 (fun σ H7 s7 e7=>?_) _;have hd7:=s7 _ _ hd6;have k2:=k1.mrg (w:=wOut) (l:=D9 ns (P9 qs) (Q2 ns (D6 qs) f));have m2:=S0 kv1 ((D9 ns (P9 qs) (Q2 ns (D6 qs) f)).map fun n=>(Sum.inr n,V.str wOut));rw[AA]at m2;refine⟨E2,kv1,_,rfl,hd7,e7,(B0 hd6 hE2),by rw[AA,sizeLine_eq];omega,hN4 _ _ ?_⟩;have n2:D2≠d:=Q8 (s7 _ _ e6) hd7 (by intro z;cases z);have k8:Sm [d] H (upd H7 d (.dK (w8 kv1 ((D9 ns (P9 qs) (Q2 ns (D6 qs) f)).map fun n=>(Sum.inr n,V.str wOut))))):=(k4.trans (s56.trans s7).sm).upd (by simp);have d8:(upd H7 d (.dK (w8 kv1 ((D9 ns (P9 qs) (Q2 ns (D6 qs) f)).map fun n=>(Sum.inr n,V.str wOut))))) d=some (.dK (w8 kv1 ((D9 ns (P9 qs) (Q2 ns (D6 qs) f)).map fun n=>(Sum.inr n,V.str wOut)))):=A9;have a8:(upd H7 d (.dK (w8 kv1 ((D9 ns (P9 qs) (Q2 ns (D6 qs) f)).map fun n=>(Sum.inr n,V.str wOut))))) D1=some (.lst ((D9 ns (D6 qs) f).map V.str)):=(B6 n1).trans (s7 _ _ (s56 _ _ e4));have b8:(upd H7 d (.dK (w8 kv1 ((D9 ns (P9 qs) (Q2 ns (D6 qs) f)).map fun n=>(Sum.inr n,V.str wOut))))) D2=some (.lst ((D9 ns (P9 qs) (Q2 ns (D6 qs) f)).map V.str)):=(B6 n2).trans (s7 _ _ e6);generalize w8 kv1 ((D9 ns (P9 qs) (Q2 ns (D6 qs) f)).map fun n=>(Sum.inr n,V.str wOut))=kv2 at k2 m2 k8 d8 a8 b8⊢;generalize upd H7 d (.dK kv2)=H8 at k8 d8 a8 b8⊢;have k2:WD kv2 (nxt ns (D6 qs) (P9 qs) f):=k2;refine ex1 rfl ⟨D1,rfl,⟨_,SqL.of a8⟩,fun R1 hR1=>?_⟩;refine Jf (v3:=.int num) (fun _=>true) a8 (Nat.le_trans li (by decide)) hR1 (fun y G Q' hq=>⟨_,rfl,hq⟩) (fun y hy G sg Q' hq=>hq) (fun σ rs1 H9 s9 L9 q9=>?_) _;rw[i9]at q9;refine ex1 rfl ⟨D2,rfl,⟨_,SqL.of (s9 _ _ b8)⟩,fun R2 hR2=>?_⟩;refine Jf (v3:=.int num) (fun _=>true) (s9 _ _ b8) (Nat.le_trans lo (by decide)) hR2 (fun y G Q' hq=>⟨_,rfl,hq⟩) (fun y hy G sg Q' hq=>hq) (fun σ rs2 HA sA LA qA=>?_) _;rw[i9]at qA;have L9:=L9.same sA;have lr1:=congrArg List.length q9;have lr2:=congrArg List.length qA;rw[AA,AA]at lr1 lr2;refine⟨R1,R2,_,_,rfl,rfl,L9.1,LA.1,by rw[AA,AA,sizeLine_eq];omega,fun c hc=>?_⟩;have uB:=Same.new (o:=.lst ((rs1.map fun q=>V.ref q.1)++rs2.map fun q=>V.ref q.1)) hc;have s8A:=s9.trans sA;refine k c (rs1++rs2) kv2 _ (k8.trans (s8A.trans uB).sm) (Xd (k8.trans s8A.sm) (s8A _ _ d8) hc) (L9.app LA A9 fun q o e=>uB _ _ e) ?_ (uB _ _ (s8A _ _ d8)) k2 (by rw[BB];omega);rw[AK,q9,qA];rfl
end
theorem RL.smd{H H':Hp}{l d:Addr}{rs:List (Addr×Row)}{kvs:List (Key×V)}(h:RL H l rs)(e:H d=some (.dK kvs))(k:Sm [d] H H'):RL H' l rs :=
 ⟨Sm1 k h.1 (Q8 h.1 e (by intro z;cases z)),fun q hq=>Sm1 k (h.2 q hq) (Q8 (h.2 q hq) e (by intro z;cases z))⟩
section
variable{P:Program}{w:World}{K:PySem.W.Frag}{mg:Str->Option Value}{base:Heap}
def Sz(C:Addr):Sp:=fun vs H Q _=>∃(x d0:Addr) (ns:List Str) (qs:List PA2),vs = [.ref x,.ref d0]/\WebAt C H x ns qs/\H d0=some (.dK [])/\zAn H ns qs Q
theorem S2:FnScope ["web", "known", "words", "rows", "number", "fresh"] ["web", "known"] (B5 s_rounds_beside):=fsc
set_option maxHeartbeats 4000000 in
theorem u6(T:Tx K mg):FnOk P w K mg base CX0 5 T.aF.f T.aF.fd ["web", "known"] (Sz T.ab):=by
 have G_wordless:=Aw (P:=P) (w:=w) (base:=base) T;have G_one_round:=Hs (P:=P) (w:=w) (base:=base) T;have sc:=S2;refine T.aF.F.ok S2 (fun vs H Q E h=>?_) (fun cdv A outer s H vs Q E hr h=>?_)
 .obtain⟨x,d0,ns,qs,rfl,_⟩:=h;rfl
 .obtain⟨x,d0,ns,qs,rfl,hW,hd0,k⟩:=h;refine⟨_,(B3 (C5 (i:=2) sc.nd rfl (.inl rfl) (Oh zAa T.bz Tu (A8 (pv 1) B2)))
   (B3 (C5 (i:=3) sc.nd rfl (.inl rfl) (S6 B2))
   (B3 (C5 (i:=4) sc.nd rfl (.inl rfl) B8)
   (B3 (C5 (i:=5) sc.nd rfl (.inl rfl) (C7 T.aL G_one_round (Rm hr) (A8 (pv 0) (A8 (pv 2) (A8 (pv 4) B2)))))
   (B3 (Dv PassesOwn.never (ptV K (pv 5)) (B3 (E9 (Nl K PySem.F.plainAttrs_list PySem.F.slot_list_extend PySem.F.type_list_extend Pe (pv 3) (A8 (pv 5) B2)))
   (B3 (Xn (i:=4) sc.nd rfl (Or.inl rfl) B8 zDq)
   (B4 (C5 (i:=5) sc.nd rfl (.inl rfl) (C7 T.aL G_one_round (Rm hr) (A8 (pv 0) (A8 (pv 2) (A8 (pv 4) B2)))))))))
   (B4 (B9 (E8 Mq (pv 3) (J7 (N':=["name"]) (cap:=[none]) (cl:=[]) (E7 trivial trivial) rfl (piL K (C7 T.aJ G_wordless (Rm hr) (A8 (pv 0) (A8 (pv 2) B2)))) (fun _ _ _ _=>by exact⟨(pgC 0),C3,(M7 (A8 (pv 0) (A8 I0 (A8 Xo B2))))⟩)))))))))),?_⟩
  have ok:=hW.ok;have ln:=ok.len;have nn:=ok.nd;unfold zAn at k;generalize hA:D6 qs=A at k;generalize hO:P9 qs=O at k;have lwl:∀g:Str->Option Str,(wl ns g).length<=100:=fun g=>Nat.le_trans (BM ..) ln;refine B7 fun N1 hN1=>?_;refine ex1 rfl ⟨d0,_,rfl,hd0,fun d hd=>?_⟩;have u1:=Same.new (o:=.dK []) hd;have f1:(upd H d (.dK [])) d=some (.dK []):=A9;generalize upd H d (.dK [])=H1 at u1 f1⊢;refine hN1 _ _ (B7 fun N2 hN2=>?_);refine⟨CC _,fun r hr0=>?_⟩;have u2:=Same.new (o:=.lst []) hr0;have f2:(upd H1 r (.lst [])) r=some (.lst []):=A9;generalize upd H1 r (.lst [])=H2 at u2 f2⊢;have hr':=u1.free hr0;refine hN2 _ _ (B7 fun N3 hN3=>?_);refine hN3 _ _ (B7 fun N4 hN4=>?_);refine ex1 rfl (ex1 rfl (ex1 rfl ⟨H,x,d,1,ns,qs,[],fun _=>none,rfl,u1.trans u2,hd,hW,u2 _ _ f1,fun n=>rfl,CC _,fun l rs kvs H3 k3 hl L3 q3 e3 wd3 len3=>?_⟩));rw[hA,hO]at q3 wd3;have L2:RL H2 r []:=⟨f2,fun q h=>absurd h BP⟩;have lr:l≠r:=(B0 f2 hl).symm;have rw0:=Pb (ns:=ns) (A:=A) (O:=O) (f:=fun _=>none) (num:=1) nn;have lw0:=lwl fun _=>none;have lq:=congrArg List.length q3;rw[AA]at lq;rw[GA,D_]at len3;refine hN4 _ _ (B7 fun N5 hN5=>?_);refine⟨fun m σ H4=>∃(num:Int) (l:Addr) (kvs:List (Key×V)) (f:Str->Option Str) (rd rs:List (Addr×Row)),σ = [some (.ref x),some (.ref d0),some (.ref d),some (.ref r),some (.int num),some (.ref l)]/\Same H H4/\H4 d=some (.dK kvs)/\WD kvs (nxt ns A O f)/\RL H4 r rd/\RL H4 l rs/\l≠r /\
   rs.map (fun q=>q.2)=U8 ns A O f num/\(∀t,RSeq ns A O f num t->RSeq ns A O (fun _=>none) 1 ((rd.map fun q=>q.2)++t))/\m =(wl ns (nxt ns A O f)).length+rs.length/\kvs.length +(wl ns (nxt ns A O f)).length<=100/\rd.length+m<=100,⟨_,1,l,kvs,_,[],rs,rfl,Same.smd (u1.trans u2) hd k3,e3,wd3,L2.smd (u2 _ _ f1) k3,L3,lr,q3,fun t h=>h,rfl,by omega,by show 0+_<=_;omega⟩,?_⟩
  rintro m σ H4 ⟨num,l,kvs,f,rd,rs,rfl,s4,e4,wd4,Lr,Ll,nlr,q4,W4,rfl,len4,ld4⟩;refine ex1 rfl ⟨_,.inl ⟨_,SqL.of Ll.1,rfl⟩,?_⟩;cases rs with
  | nil =>
   refine X0 (hN5 _ _ ?_);have q4:=q4.symm;rw[Vn q4]at wd4 len4 ld4;refine ex1 rfl (ex1 rfl (ex1 rfl ⟨x,d,ns,qs,kvs,f,rfl,hW.same s4,e4,wd4,fun l1 H5 s5 hl1 e5=>⟨l1,rfl,⟨_,SqL.of e5⟩,fun D hD=>?_⟩⟩));refine Jf (v3:=.non) (r:=[]) (fun _=>true) e5 (Nat.le_trans (lwl f) (by decide)) hD (fun y G Q' hq=>hq) (fun y hy G sg Q' hq=>hq) (fun σ rs2 H6 s6 L6 q6=>?_) _;rw[i9]at q6;have s56:=s5.trans s6;have Lr:=Lr.same s56;have l2:=congrArg List.length q6;rw[AA,AA]at l2;have l2:rs2.length =(wl ns f).length:=l2;have l0:([]:List (Addr×Row)).length=0:=rfl;refine⟨r,D,_,_,rfl,rfl,Lr.1,L6.1,by rw[AA,AA,sizeLine_eq];omega,fun c hc=>?_⟩;have u7:=Same.new (o:=.lst ((rd.map fun q=>V.ref q.1)++rs2.map fun q=>V.ref q.1)) hc;have s46:=s4.trans s56;exact k c (rd++rs2) _ (s46.trans u7) (s46.free hc) (Lr.app L6 A9 fun q o e=>u7 _ _ e) (by rw[AK,q6];exact W4 _ (.stop q4)) (by rw[BB];omega)
  | cons q0 rs' =>
   refine Um ⟨_,fun _ _ z=>z,B7 fun M1 hM1=>?_⟩;refine ex1 rfl ⟨.inl ⟨rfl,_,SqL.of Lr.1⟩,ex1 rfl ⟨r,l,_,_,rfl,rfl,Lr.1,Ll.1,by rw[AA,AA,sizeLine_eq];omega,hM1 _ _ (B7 fun M2 hM2=>?_)⟩⟩;have s5:=s4.upd (o:=.lst ((rd.map fun q=>V.ref q.1) ++(q0::rs').map fun q=>V.ref q.1)) hr';have nrd:r≠d:=Q8 Lr.1 e4 (by intro z;cases z);have e5:(upd H4 r (.lst ((rd.map fun q=>V.ref q.1) ++(q0::rs').map fun q=>V.ref q.1))) d=some (.dK kvs):=(B6 nrd.symm).trans e4;have L5:RL (upd H4 r (.lst ((rd.map fun q=>V.ref q.1) ++(q0::rs').map fun q=>V.ref q.1))) r (rd++q0::rs'):=Lr.app Ll A9 fun q o e=>(B6 (Q8 e Lr.1 (by intro z;cases z))).trans e;have ne:U8 ns A O f num≠[]:=fun c=>by rw[c]at q4;cases q4
   generalize upd H4 r (.lst ((rd.map fun q=>V.ref q.1) ++(q0::rs').map fun q=>V.ref q.1))=H5 at s5 e5 L5⊢;have lc:(q0::rs').length=rs'.length+1:=rfl;refine ex1 rfl ⟨_,_,rfl,rfl,hM2 _ _ ?_⟩;refine ex1 rfl (ex1 rfl (ex1 rfl ⟨H,x,d,num+1,ns,qs,kvs,_,rfl,s5,hd,hW,e5,wd4,by omega,fun l' rs2 kv2 H6 k6 hl6 L6 q6 e6 wd6 len6=>?_⟩));rw[hA,hO]at q6 wd6;have rwl:=Pb (ns:=ns) (A:=A) (O:=O) (f:=nxt ns A O f) (num:=num+1) nn;have l6:=congrArg List.length q6;rw[AA]at l6;refine⟨(wl ns (nxt ns A O (nxt ns A O f))).length+rs2.length,by omega,_,l',kv2,nxt ns A O f,rd++q0::rs',rs2,rfl,Same.smd s5 hd k6,e6,wd6,L5.smd e5 k6,L6,(B0 L5.1 hl6).symm,q6,fun t ht=>?_,rfl,by omega,by rw[BB];omega⟩;rw[AK,q4,BI];exact W4 _ (.step ne ht)
def Pf(C:Addr):Sp:=fun vs H Q _=>∃(x:Addr) (ns:List Str) (qs:List PA2),vs = [.ref x]/\WebAt C H x ns qs/\zAn H ns qs Q
theorem Gh:FnScope ["web"] ["web"] (B5 s_rounds):=fsc
theorem Hd(T:Tx K mg):FnOk P w K mg base CX0 6 T.a9.f T.a9.fd ["web"] (Pf T.ab):=by
 have G_rounds_beside:=u6 (P:=P) (w:=w) (base:=base) T;have sc:=Gh;refine T.a9.F.ok Gh (fun vs H Q E h=>?_) (fun cdv A outer s H vs Q E hr h=>?_)
 .obtain⟨x,ns,qs,rfl,_⟩:=h;rfl
 .obtain⟨x,ns,qs,rfl,hW,k⟩:=h;refine⟨_,(B4 (B9 (C7 T.aF G_rounds_beside (Rm hr) (A8 (pv 0) (A8 Wz B2))))),?_⟩;refine ex1 rfl fun D hD=>?_;have u1:=Same.new (o:=.dK []) hD;exact⟨x,D,ns,qs,rfl,hW.same u1,A9,fun l rs H' s' hl L R z=>k l rs H' (u1.trans s') (u1.free hl) L R z⟩
end
def Nv(rr:List Row):List Str:=(rr.filter fun q=>decide (q.2.1=wIn)).map fun q=>q.1
theorem Gz(rr:List Row)(q:Row):Nv (rr ++ [q])=Nv rr++if q.2.1=wIn then [q.1]else []:=by
 unfold Nv;rw[DM,AK,CT,FF];by_cases c:q.2.1=wIn
 .rw[AR (AJ c),AR c];rfl
 .rw[AM fun y=>c (AZ y),AM c];rfl
theorem Kw(rr:List Row):(Nv rr).length<=rr.length:=by unfold Nv;rw[AA];exact BM ..
section
variable{P:Program}{w:World}{K:PySem.W.Frag}{mg:Str->Option Value}{base:Heap}
def zHc(H:Hp)(ns:List Str)(qs:List PA2)(Q:VK):Prop:=∀(l:Addr) (ts:List Str) (rr:List Row) (H':Hp),Same H H'->H l=none->H' l=some (.lst (ts.map V.str))->RSeq ns (D6 qs) (P9 qs) (fun _=>none) 1 rr->ts.Perm (Nv rr)->ts.Pairwise leS->ts.length<=100->Q (.ref l) H'
def Vb(C:Addr):Sp:=fun vs H Q _=>∃(x:Addr) (ns:List Str) (qs:List PA2),vs = [.ref x]/\WebAt C H x ns qs/\zHc H ns qs Q
theorem Mb:FnScope ["web"] ["web"] (B5 s_least):=fsc
set_option maxHeartbeats 2000000 in
theorem Vq(T:Tx K mg):FnOk P w K mg base CX0 7 T.bh.f T.bh.fd ["web"] (Vb T.ab):=by
 have G_rounds:=Hd (P:=P) (w:=w) (base:=base) T;have sc:=Mb;refine T.bh.F.ok Mb (fun vs H Q E h=>?_) (fun cdv A outer s H vs Q E hr h=>?_)
 .obtain⟨x,ns,qs,rfl,_⟩:=h;rfl
 .obtain⟨x,ns,qs,rfl,hW,k⟩:=h;refine⟨_,(B4 (B9 (E5 (X3 K) T.am I9 (A8 (J7 (N':=["name", "word", "number"]) (cap:=[none,none,none]) (cl:=[]) (E7 trivial trivial) rfl (piL K (C7 T.a9 G_rounds (Rm hr) (A8 (pv 0) B2))) (fun _ _ _ _=>by exact⟨(pgT K (n:=3) (C8 (pgC 0) (C8 (pgC 1) (C8 (pgC 2) P5)))),(O8 (C6 T0 (pv 1) I0 (D8 _))),(pv 0)⟩)) B2)))),?_⟩;refine ex1 rfl ⟨x,ns,qs,rfl,hW,fun l rs H1 s1 hl L1 R1 len=>?_⟩;refine⟨l,rfl,⟨_,SqL.of L1.1⟩,fun D hD=>?_⟩;refine G0 (asL (K:=K) (SqL.of L1.1)) (fun i σ H3=>(∃v0 v1 v2,σ = [v0,v1,v2])/\Same H1 H3/\H3 D=some (.lst ((Nv ((rs.map fun q=>q.2).take i)).map V.str)))
   ⟨⟨_,_,_,rfl⟩,Same.new hD,A9⟩ (fun i σ H1 _ ⟨_,s1,_⟩=>s1.at l) ?_ ?_
  .rintro i σ H3 v N hx ⟨⟨v0,v1,v2,rfl⟩,s3,e3⟩ hN;rw[AI]at hx;obtain⟨q,hq,rfl⟩:=BL.mp hx;have ez:=L1.2 q (AV hq);have hq2:(rs.map fun q=>q.2)[i]?=some q.2:=by rw[AI,hq];rfl
   have li:=Kw ((rs.map fun q=>q.2).take i);rw[AN,AA]at li;refine⟨q.1,ex1 rfl ⟨SqT.of (s3 _ _ ez),rfl,_,ex1 rfl ⟨_,ex1 rfl (C4 rfl rfl ?_)⟩⟩⟩;refine ex1 rfl ⟨rfl,ex1 rfl (U0 (fun c=>?_) (fun c=>?_))⟩
   .have c:q.2.2.1=wIn:=by injection AZ c
    refine ex1 rfl ⟨_,e3,by rw[AA,sizeLine_eq];omega,hN _ _ ⟨⟨_,_,_,rfl⟩,s3.upd hD,?_⟩⟩;rw[A9,take_succ hq2,Gz,AR c,AK];rfl
   .have c:¬q.2.2.1=wIn:=fun y=>c (AJ (congrArg V.str y));exact hN _ _ ⟨⟨_,_,_,rfl⟩,s3,by rw[take_succ hq2,Gz,AM c,DB];exact e3⟩
  .rintro σ H3 ⟨_,s3,e3⟩;rw[AA,CI (by rw[AA];exact Nat.le_refl _)]at e3;have s13:=s1.trans s3;refine⟨D,_,rfl,SqL.of e3,fun m ts hm pm so=>?_⟩;have li:=Kw (rs.map fun q=>q.2);rw[AA]at li;exact k m ts _ _ (s13.trans (Same.new hm)) (s13.free hm) A9 R1 pm so (by rw[pm.length_eq];omega)
end
abbrev Mk:Type:=Option (Bool×Int)
def wdM:Mk->Str
 | none=>wOpen
 | some (true,_)=>wIn
 | some (false,_)=>wOut
def nmM:Mk->V
 | none=>.non
 | some (_,i)=>.int i
def Kt(q:Str×Mk):Row:=(q.1,wdM q.2,nmM q.2)
def K7(D:List (Str×Mk))(n:Str):Mk:=((D.find? fun q=>decide (q.1=n)).map fun q=>q.2).getD none
def zAd(m:Mk):Bool:=match m with | some (true,_)=>true | _=>false
def ltM(k:Int)(m:Mk):Bool:=match m with | some (false,j)=>decide (j<k) | _=>false
def leM(k:Int)(m:Mk):Bool:=match m with | some (true,j)=>decide (j<=k) | _=>false
def grd(ys:List Str)(M:Str->Mk)(n:Str):Bool:=match M n with
 | some (true,k)=>ys.all fun y=>ltM k (M y)
 | some (false,k)=>ys.any fun y=>leM k (M y)
 | none=>(!ys.any fun y=>zAd (M y))&&ys.any fun y=>(M y).isNone
theorem Q1{D:List (Str×Mk)}(nd:(D.map fun q=>q.1).Nodup){n:Str}{m:Mk}(h:(n,m)∈D):K7 D n=m:=by
 induction D with
 | nil=>exact absurd h BP
 | cons q r ih =>
  rw[BA]at nd;obtain⟨n1,n2⟩:=DG.mp nd;unfold K7;rw[DU];rcases A_.mp h with rfl | h
  .rw[AJ rfl];rfl
  .have:¬q.1=n:=fun e=>n1 (e▸AE.mpr ⟨_,h,rfl⟩);rw[AQ this];exact ih n2 h
theorem Y7{D:List (Str×Mk)}(nd:(D.map fun q=>q.1).Nodup){n:Str}(h:n∈D.map fun q=>q.1):(n,K7 D n)∈D:=by
 obtain⟨⟨m,k⟩,hq,rfl⟩:=AE.mp h;rw[Q1 nd hq];exact hq
theorem Vc:wIn≠wOut:=by decide +kernel
theorem wd_in{m:Mk}:decide (V.str (wdM m)=V.str wIn)=zAd m:=by
 match m with
 | none=>decide +kernel
 | some (true,i)=>exact AJ rfl
 | some (false,i)=>exact AQ (fun z=>Vc (by injection z with z;exact z.symm))
def zAw(m:Mk):Bool:=match m with | some (false,_)=>true | _=>false
theorem wd_out{m:Mk}:decide (V.str (wdM m)=V.str wOut)=zAw m:=by
 match m with
 | none=>decide +kernel
 | some (true,i)=>exact AQ (fun z=>Vc (by injection z))
 | some (false,i)=>exact AJ rfl
theorem wd_open{m:Mk}:decide (V.str (wdM m)=V.str wOpen)=m.isNone:=by
 match m with
 | none=>exact AJ rfl
 | some (true,i)=>exact AQ (fun z=>absurd (show wIn=wOpen by injection z) (by decide +kernel))
 | some (false,i)=>exact AQ (fun z=>absurd (show wOut=wOpen by injection z) (by decide +kernel))
theorem Qs{m:Mk}(h:zAw m=true):∃j,m=some (false,j):=by
 match m,h with
 | some (false,j),_=>exact⟨j,rfl⟩
theorem Mc{m:Mk}(h:zAd m=true):∃j,m=some (true,j):=by
 match m,h with
 | some (true,j),_=>exact⟨j,rfl⟩
theorem zEs{k:Int}{m:Mk}(h:¬zAw m=true):ltM k m=false:=by
 match m with
 | none=>rfl
 | some (true,j)=>rfl
 | some (false,j)=>exact absurd rfl h
theorem zCe{k:Int}{m:Mk}(h:¬zAd m=true):leM k m=false:=by
 match m with
 | none=>rfl
 | some (false,j)=>rfl
 | some (true,j)=>exact absurd rfl h
theorem zFa{m:Mk}:wdM m=wIn↔zAd m=true:=by
 rw[<-wd_in,BS];exact⟨fun e=>congrArg V.str e,fun e=>by injection e⟩
theorem Xc{m:Mk}:wdM m=wOpen↔m.isNone=true:=by
 rw[<-wd_open,BS];exact⟨fun e=>congrArg V.str e,fun e=>by injection e⟩
theorem Zq(ys:List Str)(M:Str->Mk):inV (.str wIn) (ys.map fun y=>V.str (wdM (M y)))=ys.any fun y=>zAd (M y):=by
 rw[show(ys.map fun y=>V.str (wdM (M y))) =(ys.map fun y=>wdM (M y)).map V.str by rw[AY];rfl,j0,CV,BS,AE,DQ];exact exists_congr fun y=>and_congr_right fun _=>zFa
theorem Sk(ys:List Str)(M:Str->Mk):inV (.str wOpen) (ys.map fun y=>V.str (wdM (M y)))=ys.any fun y=>(M y).isNone:=by
 rw[show(ys.map fun y=>V.str (wdM (M y))) =(ys.map fun y=>wdM (M y)).map V.str by rw[AY];rfl,j0,CV,BS,AE,DQ];exact exists_congr fun y=>and_congr_right fun _=>Xc
def WM(kvs:List (Key×V))(D:List (Str×Mk)):Prop:=∀n,n∈D.map (fun q=>q.1)->P8 kvs (.inr n)=some (.str (wdM (K7 D n)))
def NM(kvs:List (Key×V))(D:List (Str×Mk)):Prop:=∀n,n∈D.map (fun q=>q.1)->P8 kvs (.inr n)=some (nmM (K7 D n))
theorem Yu{H:Hp}{d:Addr}{kvs:List (Key×V)}{n:Str}{v:V}(e:Rd H d (.dK kvs))(h:P8 kvs (.inr n)=some v):DGet H d (.str n) (some v):=.inl ⟨kvs,.inr n,e,rfl,h.symm⟩
theorem Ed{H H':Hp}{d:Addr}{u:HO}(s:Same H H')(h:Rd H d u):Rd H' d u:=h.elim (fun e=>.inl (s _ _ e)) fun⟨o,e⟩=>.inr ⟨o,s _ _ e⟩
section
variable{P:Program}{w:World}{K:PySem.W.Frag}{mg:Str->Option Value}{base:Heap}
theorem U9:FnScope ["web", "words", "numbers", "name", "strikers", "against"] ["web", "words", "numbers", "name"] (B5 s_is_grounded):=fsc
def Jj(C:Addr):Sp:=fun vs H Q _=>∃(x dw dn:Addr) (n:Str) (ns:List Str) (qs:List PA2) (kw kn:List (Key×V)) (D:List (Str×Mk)),vs = [.ref x,.ref dw,.ref dn,.str n]/\WebAt C H x ns qs/\n∈ns/\Rd H dw (.dK kw)/\Rd H dn (.dK kn)/\WM kw D/\NM kn D /\
 (∀m∈ns,m∈D.map fun q=>q.1)/\∀H',Same H H'->Q (.bl (grd (B1 qs n) (K7 D) n)) H'
set_option maxHeartbeats 1000000 in
theorem Bz(T:Tx K mg):FnOk P w K mg base CX0 3 T.aN.f T.aN.fd ["web", "words", "numbers", "name"] (Jj T.ab):=by
 have G_Web_strikers:=G8 (P:=P) (w:=w) (base:=base) T;have sc:=U9;refine T.aN.F.ok U9 (fun vs H Q E h=>?_) (fun cdv A outer s H vs Q E hr h=>?_)
 .obtain⟨x,dw,dn,n,ns,qs,kw,kn,D,rfl,_⟩:=h;rfl
 .obtain⟨x,dw,dn,n,ns,qs,kw,kn,D,rfl,hW,hn,ew,en,wm,nm,hD,q⟩:=h;have hu:=T9 hr;refine⟨_,(B3 (C5 (i:=4) sc.nd rfl (.inl rfl) (G7 (pv 0) T.ag T.ad.m G_Web_strikers (Rm hr) T.ad.b .nil K0 (A8 (pv 3) B2)))
   (B3 (K4 (C6 T0 (F0 hu (pv 1) (pv 3) (fun _ _=>rfl)) I0 (D8 _)) (B4 (B9 (E5 (Q9 K) T.av Q7 (A8 (J7 (N':=["one", "words", "numbers", "name"]) (cap:=[none,some 1,some 2,some 3]) (cl:=[("words",_),("numbers",_),("name",_)]) (E7 ⟨⟨rfl,rfl,rfl,rfl⟩,⟨⟨rfl,rfl,rfl,rfl⟩,⟨⟨rfl,rfl,rfl,rfl⟩,trivial⟩⟩⟩ ⟨rfl,⟨rfl,⟨rfl,trivial⟩⟩⟩) rfl (piL K (pv 4)) (fun _ _ _ _=>by exact⟨(pgC 0),C3,(X2 (E4 T0 (F0 hu (pv 1) (pv 0) (fun _ _=>rfl)) I0 (D8 _)) (X9 (E4 zCm (F0 hu (pv 2) (pv 0) (fun _ _=>rfl)) (F0 hu (pv 2) (pv 3) (fun _ _=>rfl)) (D8 _))))⟩)) B2)))) D0)
   (B3 (K4 (C6 T0 (F0 hu (pv 1) (pv 3) (fun _ _=>rfl)) I0 (D8 _)) (B4 (B9 (E5 (Ts K) T.bs Qm (A8 (J7 (N':=["one", "words", "numbers", "name"]) (cap:=[none,some 1,some 2,some 3]) (cl:=[("words",_),("numbers",_),("name",_)]) (E7 ⟨⟨rfl,rfl,rfl,rfl⟩,⟨⟨rfl,rfl,rfl,rfl⟩,⟨⟨rfl,rfl,rfl,rfl⟩,trivial⟩⟩⟩ ⟨rfl,⟨rfl,⟨rfl,trivial⟩⟩⟩) rfl (piL K (pv 4)) (fun _ _ _ _=>by exact⟨(pgC 0),C3,(X2 (E4 T0 (F0 hu (pv 1) (pv 0) (fun _ _=>rfl)) I0 (D8 _)) (X9 (E4 Zv (F0 hu (pv 2) (pv 0) (fun _ _=>rfl)) (F0 hu (pv 2) (pv 3) (fun _ _=>rfl)) (D8 _))))⟩)) B2)))) D0)
   (B3 (De (i:=5) (N':=["one", "words"]) (cap:=[none,some 1]) (cl:=[("words",_)]) sc.nd rfl (.inl rfl) (E7 ⟨⟨rfl,rfl,rfl,rfl⟩,trivial⟩ ⟨rfl,trivial⟩) rfl (piL K (pv 4)) (fun _ _ _ _=>by exact⟨(pgC 0),C3,(F0 hu (pv 1) (pv 0) (fun _ _=>rfl))⟩))
   (B4 (B9 (X2 (E4 (y0 K) I0 (pv 5) rfl) (X9 (E4 (By K) I0 (pv 5) rfl))))))))),?_⟩
  refine B7 fun N1 hN1=>?_;obtain⟨ok,dx,a1,b,c,d',kc,kd,e2,_⟩:=id hW;have lq:=ok.lenq;have ls:(B1 qs n).length<=qs.length:=by unfold B1;rw[AA];exact BM ..
  refine ex1 rfl ⟨x,dx,ex1 rfl ⟨e2,rfl,ex1 rfl ⟨x,n,ns,qs,rfl,hW,hn,fun l2 hl2=>?_⟩⟩⟩;have s2:=Same.new (o:=.lst ((B1 qs n).map V.str)) hl2;have f2:(upd H l2 (.lst ((B1 qs n).map V.str))) l2=some (.lst ((B1 qs n).map V.str)):=A9;generalize upd H l2 (.lst ((B1 qs n).map V.str))=H2 at s2 f2⊢;have ew:=Ed s2 ew;have en:=Ed s2 en;have ms:∀y∈B1 qs n,y∈D.map fun q=>q.1:=fun y hy=>hD y (by
   obtain⟨q,hq,rfl⟩:=AE.mp hy;exact(ok.mem q (BF.mp hq).1).1)
  have gw:∀{H3:Hp},Same H2 H3->∀y∈D.map (fun q=>q.1),DGet H3 dw (.str y) (some (.str (wdM (K7 D y)))):=fun s3 y hy=>Yu (Ed s3 ew) (wm y hy);have gn:∀{H3:Hp},Same H2 H3->∀y∈D.map (fun q=>q.1),DGet H3 dn (.str y) (some (nmM (K7 D y))):=fun s3 y hy=>Yu (Ed s3 en) (nm y hy);have hnD:=hD n hn;have rf:Same H2 H2:=fun b o e=>e;refine hN1 _ _ (B7 fun N2 hN2=>?_);refine ex1 rfl (ex1 rfl ⟨dw,_,rfl,gw rf n hnD,rfl,ex1 rfl ?_⟩);refine U0 (fun c=>?_) (fun c=>?_)
  .obtain⟨k,hk⟩:=Mc (wd_in.symm.trans c);unfold grd at q;rw[hk]at q;refine ex1 rfl ⟨l2,rfl,⟨_,SqL.of f2⟩,fun C hC=>?_⟩;refine u8 (fun y=>ltM k (K7 D y)) f2 (by omega) hC (fun y hy H3 s3 Q' hQ=>?_) (fun σ H3 s3 e3=>⟨C,_,rfl,SqL.of e3,by rw[FM];exact q H3 (s2.trans s3)⟩) _;refine ex1 rfl (ex1 rfl ⟨dw,_,rfl,gw s3 y (ms y hy),rfl,ex1 rfl (U0 (fun d=>?_) (fun d=>?_))⟩)
   .obtain⟨j,hj⟩:=Qs (wd_out.symm.trans d);have g1:=gn s3 y (ms y hy);have g2:=gn s3 n hnD;rw[hj]at g1;rw[hk]at g2;refine ex1 rfl (ex1 rfl ⟨dn,_,rfl,g1,ex1 rfl (ex1 rfl ⟨dn,_,rfl,g2,C4 rfl rfl ?_⟩)⟩);have:=hQ H3 fun b o e=>e;rw[hj]at this;exact this
   .have:=hQ H3 fun b o e=>e;rw[zEs fun z=>d (wd_out.trans z)]at this;exact this
  .refine hN2 _ _ (B7 fun N3 hN3=>?_);refine ex1 rfl (ex1 rfl ⟨dw,_,rfl,gw rf n hnD,rfl,ex1 rfl ?_⟩);refine U0 (fun c'=>?_) (fun c'=>?_)
   .obtain⟨k,hk⟩:=Qs (wd_out.symm.trans c');unfold grd at q;rw[hk]at q;refine ex1 rfl ⟨l2,rfl,⟨_,SqL.of f2⟩,fun C hC=>?_⟩;refine u8 (fun y=>leM k (K7 D y)) f2 (by omega) hC (fun y hy H3 s3 Q' hQ=>?_) (fun σ H3 s3 e3=>⟨C,_,rfl,SqL.of e3,by rw[List.any_map];exact q H3 (s2.trans s3)⟩) _;refine ex1 rfl (ex1 rfl ⟨dw,_,rfl,gw s3 y (ms y hy),rfl,ex1 rfl (U0 (fun d=>?_) (fun d=>?_))⟩)
    .obtain⟨j,hj⟩:=Mc (wd_in.symm.trans d);have g1:=gn s3 y (ms y hy);have g2:=gn s3 n hnD;rw[hj]at g1;rw[hk]at g2;refine ex1 rfl (ex1 rfl ⟨dn,_,rfl,g1,ex1 rfl (ex1 rfl ⟨dn,_,rfl,g2,C4 rfl rfl ?_⟩)⟩);have:=hQ H3 fun b o e=>e;rw[hj]at this;exact this
    .have:=hQ H3 fun b o e=>e;rw[zCe fun z=>d (wd_in.trans z)]at this;exact this
   .have hk:K7 D n=none:=by
     match hm:K7 D n with
     | none=>rfl
     | some (true,k)=>rw[hm]at c;exact absurd (wd_in (m:=some (true,k))) (fun z=>c z)
     | some (false,k)=>rw[hm]at c';exact absurd (wd_out (m:=some (false,k))) (fun z=>c' z)
    unfold grd at q;rw[hk]at q;refine hN3 _ _ (B7 fun N4 hN4=>?_);refine ex1 rfl ⟨l2,rfl,⟨_,SqL.of f2⟩,fun C hC=>?_⟩;refine Yh (fun y=>V.str (wdM (K7 D y))) f2 (by omega) hC (fun y hy H3 s3 Q' hQ=>?_) (fun σ H3 s3 e3=>?_) _
    .exact ex1 rfl (ex1 rfl ⟨dw,_,rfl,gw s3 y (ms y hy),hQ H3 fun b o e=>e⟩)
    refine hN4 _ _ (ex1 rfl ?_);have fl:((B1 qs n).map fun y=>V.str (wdM (K7 D y))).all Al=true:=BU.mpr fun z hz=>by
     obtain⟨y,_,rfl⟩:=AE.mp hz;rfl
    have q:=q H3 (s2.trans s3);refine⟨C,_,rfl,.inl (SqL.of e3),rfl,fl,?_⟩;rw[AR rfl,show Str.ofString "in" = wIn from rfl,Zq];refine ex1 rfl (U0 (fun d=>?_) (fun d=>?_))
    .rw[d,G_]at q;refine ex1 rfl ⟨C,_,rfl,.inl (SqL.of e3),rfl,fl,?_⟩;rw[AM (by decide),show Str.ofString "open" = wOpen from rfl,Sk];exact q
    .rw[BO.mpr d,DN]at q;exact q
end
def tyB(b:Bool):Value:=.type (bif b then "list" else "tuple")
theorem zGf{K:PySem.W.Frag}:∀b,PySem.W.kitAny K (tyB b) (["list", "tuple"].map Value.type)=some true
 | true=>rfl
 | false=>rfl
def LT(b:Bool)(xs:List V):HO:=bif b then .lst xs else .tup xs
theorem zGv{K:PySem.W.Frag}{H:Hp}{l:Addr}{xs:List V}:∀{b:Bool},H l=some (LT b xs)->TyOf K H (.ref l) (tyB b)
 | true,h=>.lst h
 | false,h=>.tup h
theorem zFd{H:Hp}{l:Addr}{xs:List V}:∀{b:Bool},H l=some (LT b xs)->H l=some (.lst xs)\/H l=some (.tup xs)
 | true,h=>.inl h
 | false,h=>.inr h
theorem Lg{K:PySem.W.Frag}{H:Hp}{l:Addr}{xs:List V}{b:Bool}(h:H l=some (LT b xs)):Sqs K H l xs:=(zFd h).imp SqL.of SqT.of
def zGd(K:PySem.W.Frag):List V->Hp->VK->Prop:=fun xs H Q=>zAo K xs H Q\/∃(x:V) (p:Addr) (ns:List String) (b:Bool) (T:String),xs = [x,.ref p]/\H p=some (.tup (ns.map V.ty))/\((x = .non/\T = "NoneType")\/∃i,x = .int i/\T = "int")/\PySem.W.kitAny K (.type T) (ns.map Value.type)=some b/\Q (.bl b) H
theorem Wu{X:Cx}(K:PySem.W.Frag)(hK:X.K=K:=by rfl):G6 X (.builtin "isinstance") (zGd K):=by
 subst hK;intro pins s σ H xs us Q I r h;rcases h with h | ⟨x,p,ns,b,T,rfl,hp,ht,he,q⟩
 .exact Wk X.K rfl pins s σ H xs us Q I r h
 obtain⟨u,v,rfl,ru,rv⟩:=r.two;cases rv;obtain⟨its,rv,⟨⟨oc,od,odt,osl⟩,ho,hc,n,hd⟩,hz⟩:=I.tuple (SqT.of hp);rw[Jd rv]at hd;cases hc;cases hd;rcases ht with⟨rfl,rfl⟩ | ⟨i,rfl,rfl⟩
 .cases ru;exact PySem.W.kia_tup PySem.W.kitx_none I.kIn True.intro ho he (fun z=>nomatch z) fun tk=>⟨.bl b,H,I.tok _,rfl,q⟩
 .obtain⟨t,rfl⟩:=(show ∃t,u=Value.int i t from ru);exact PySem.W.kia_tup PySem.W.kitx_int I.kIn True.intro ho he (fun z=>nomatch z) fun tk=>⟨.bl b,H,I.tok _,rfl,q⟩
def RS(H:Hp)(b:Bool)(a:Addr)(rs:List (Addr×Row)):Prop:=H a=some (LT b (rs.map fun q=>V.ref q.1))/\∀q∈rs,H q.1=some (.tup [.str q.2.1,.str q.2.2.1,q.2.2.2])
theorem RS.same{H H':Hp}{b:Bool}{a:Addr}{rs:List (Addr×Row)}(h:RS H b a rs)(s:Same H H'):RS H' b a rs:=⟨s _ _ h.1,fun q hq=>s _ _ (h.2 q hq)⟩
theorem Yw{α:Type}{J:It}{a D:Addr}{rs:List (Addr×α)}{r:St}{te:TE}{H:Hp}{Q:St->Hp->Prop}(g:α->V)(as:AsSeq J (rs.map fun q=>V.ref q.1) a H)(len:rs.length<=1000)(hD:H D=none)
  (ht:∀q∈rs,∀H1,Same H H1->∀Q':VK,(∀H2,Same H1 H2->Q' (g q.2) H2)->te (some (.ref q.1)::r) H1 Q') (h:∀σ H2,Same H H2->H2 D=some (.lst ((rs.map fun q=>q.2).map g))->Q σ H2) (v0:Option V) :
  V0 (J5 0) S9 (R0 D te) J (v0::r) (upd H D (.lst [])) Q:=by
 refine G0 as (fun i σ H3=>(∃v,σ=v::r)/\Same H H3/\H3 D=some (.lst (((rs.map fun q=>q.2).take i).map g)))
  ⟨⟨_,rfl⟩,Same.new hD,A9⟩ (fun i σ H1 _ ⟨_,s1,_⟩=>s1.at a) ?_ ?_
 .rintro i σ H3 v N hx ⟨⟨v0,rfl⟩,s3,e3⟩ hN;rw[AI]at hx;obtain⟨y,hy,rfl⟩:=BL.mp hx;have hi:=(AG.mp hy).1;have hy2:(rs.map fun q=>q.2)[i]?=some y.2:=by rw[AI,hy];rfl
  refine M9 (ht y (AV hy) H3 s3 _ fun H4 s4=>⟨_,s4 _ _ e3,by rw[AA,AN,sizeLine_eq];omega,hN _ _ ⟨⟨_,rfl⟩,(s3.trans s4).upd hD,?_⟩⟩);rw[A9,take_succ hy2,AK];rfl
 .rintro σ H3 ⟨_,s3,e3⟩;rw[AA,CI (by rw[AA];exact Nat.le_refl _)]at e3;exact h σ H3 s3 e3
theorem Yi{K:PySem.W.Frag}{J:It}{a C:Addr}{rs:List (Addr×Row)}{D:List (Str×Mk)}{te:TE}{H:Hp}{Q:St->Hp->Prop}(g:Mk->V)(as:AsSeq J (rs.map fun q=>V.ref q.1) a H)(hR:∀q∈rs,H q.1=some (.tup [.str q.2.1,.str q.2.2.1,q.2.2.2]))(eD:(rs.map fun q=>q.2)=D.map Kt)(nd:(D.map fun q=>q.1).Nodup)(len:D.length<=1000)(hC:H C=none)
  (ht:∀(d:Str×Mk) (H1:Hp) (Q':VK),Q' (g d.2) H1->te [some (.str d.1),some (.str (wdM d.2)),some (nmM d.2)] H1 Q') (h:∀σ H2,Same H H2->H2 C=some (.dK (D.map fun d=>((Sum.inr d.1:Key),g d.2)))->Q σ H2) (v0 v1 v2:Option V) :
  V0 (zFu K 3 (Vo (J5 0) (Vo (J5 1) (Vo (J5 2) zHg)))) S9 (Jg C (Bo 0) te) J [v0,v1,v2] (upd H C (.dK [])) Q:=by
 have lr:rs.length=D.length:=by
  have:=congrArg List.length eD
  rwa [AA,AA]at this
 refine G0 as (fun i σ H3=>(∃v0 v1 v2,σ = [v0,v1,v2])/\Same H H3/\H3 C=some (.dK ((D.take i).map fun d=>((Sum.inr d.1:Key),g d.2))))
  ⟨⟨_,_,_,rfl⟩,Same.new hC,A9⟩ (fun i σ H1 _ ⟨_,s1,_⟩=>s1.at a) ?_ ?_
 .rintro i σ H3 v N hx ⟨⟨v0,v1,v2,rfl⟩,s3,e3⟩ hN;rw[AI]at hx;obtain⟨y,hy,rfl⟩:=BL.mp hx;have hi:=(AG.mp hy).1;have hd:D[i]?=some D[i]:=AH (by omega);have ey:y.2=Kt D[i]:=by
   have:(rs.map fun q=>q.2)[i]? =(D.map Kt)[i]?:=by rw[eD]
   rw[AI,AI,hy,hd]at this;exact BH this
  have ez:=s3 _ _ (hR y (AV hy));rw[ey]at ez;refine⟨y.1,ex1 rfl ⟨SqT.of ez,rfl,_,ex1 rfl ⟨_,ex1 rfl (C4 rfl rfl ?_)⟩⟩⟩;have vn:P8 ((D.take i).map fun d=>((Sum.inr d.1:Key),g d.2)) (Sum.inr D[i].1:Key)=none:=by
   cases e:P8 ((D.take i).map fun d=>((Sum.inr d.1:Key),g d.2)) (Sum.inr D[i].1:Key)with
   | none=>rfl
   | some v =>
    obtain⟨p,hp,e1⟩:=AE.mp (Zo e);obtain⟨d,hd1,rfl⟩:=AE.mp hp;have e1:d.1=D[i].1:=Sum.inr.inj e1;have nm:(D.map fun q=>q.1)[i]?=some D[i].1:=by rw[AI,hd];rfl
    exact absurd (by rw[<-List.map_take];exact AE.mpr ⟨d,hd1,e1⟩) (U4 nd nm)
  show Jg C (Bo 0) te [some (.str D[i].1),some (.str (wdM D[i].2)),some (nmM D[i].2)] H3 N;refine ex1 rfl (ht D[i] H3 _ ⟨_,Sum.inr D[i].1,e3,rfl,by rw[AA,AN,sizeLine_eq];omega,hN _ _ ⟨⟨_,_,_,rfl⟩,s3.upd hC,?_⟩⟩);rw[A9,Mo _ vn,take_succ hd,AK];rfl
 .rintro σ H3 ⟨_,s3,e3⟩;rw[AA,lr,BN]at e3;exact h σ H3 s3 e3
theorem Pr(D:List (Str×Mk))(g:Mk->V){n:Str}(h:n∈D.map fun q=>q.1):P8 (D.map fun d=>((Sum.inr d.1:Key),g d.2)) (.inr n)=some (g (K7 D n)):=by
 induction D with
 | nil=>exact absurd h BP
 | cons d r ih =>
  rw[BA];by_cases e:d.1=n
  .rw[J6 (congrArg Sum.inr e)];unfold K7;rw[DU,AJ e];rfl
  .rw[J3 (fun z=>e (Sum.inr.inj z)),ih (by
    rw[BA]at h;exact(A_.mp h).resolve_left fun z=>e z.symm)]
   unfold K7;rw[DU,AQ e]
theorem zBj{d C:Addr}{o:Obj}{kvs:List (Key×V)}{ks:List Str}{r:St}{te:TE}{H:Hp}{Q:St->Hp->Prop}(p:Str->Bool)(hd:H d=some (.frz o (.dK kvs)))(hk:(kvs.map fun q=>q.1)=ks.map Sum.inr)(len:kvs.length<=1000)(hC:H C=none)
  (ht:∀y∈ks,∀H1,Same H H1->∀Q':VK,(∀H2,Same H1 H2->Q' (.bl (p y)) H2)->te (some (.str y)::r) H1 Q') (h:∀σ H2,Same H H2->H2 C=some (.lst ((ks.map p).map V.bl))->Q σ H2) (v0:Option V) :
  V0 (J5 0) S9 (R0 C te) (Itd d o kvs) (v0::r) (upd H C (.lst [])) Q:=by
 have lk:kvs.length=ks.length:=by
  have:=congrArg List.length hk
  rwa [AA,AA]at this
 refine Cf (n:=kvs.length) (fun i σ H3=>(∃v,σ=v::r)/\Same H H3/\H3 C=some (.lst (((ks.take i).map p).map V.bl)))
  ⟨⟨_,rfl⟩,Same.new hC,A9⟩ (fun i σ H1 hi ⟨_,s1,_⟩=>⟨s1 _ _ hd,hi⟩) (fun σ H1 ⟨_,s1,_⟩=>⟨s1 _ _ hd,Nat.le_refl _⟩) ?_ ?_
 .rintro i σ H3 x H' N hi ⟨⟨v,rfl⟩,s3,e3⟩ ⟨eH,k,v,ek,rfl⟩ hN;subst H';have hy:ks[i]?=some ks[i]:=AH (by omega);have ek:k = .inr ks[i]:=by
   have:(kvs.map fun q=>q.1)[i]? =(ks.map Sum.inr)[i]?:=by rw[hk]
   rw[AI,AI,ek,hy]at this;exact BH this
  subst ek;refine M9 (ht ks[i] (AV hy) H3 s3 _ fun H4 s4=>⟨_,s4 _ _ e3,by rw[AA,AA,AN,sizeLine_eq];omega,hN _ _ ⟨⟨_,rfl⟩,(s3.trans s4).upd hC,?_⟩⟩);rw[A9,take_succ hy,AK,AK];rfl
 .rintro σ H3 ⟨_,s3,e3⟩;rw[lk,BN]at e3;exact h σ H3 s3 e3
section
variable{P:Program}{w:World}{K:PySem.W.Frag}{mg:Str->Option Value}{base:Heap}
theorem l5:FnScope ["thing"] ["thing"] (B5 s_is_number):=fsc
def Qo:Sp:=fun vs H Q _=>∃i:Int,vs = [.int i]/\Q (.bl true) H
theorem Gi(T:Tx K mg):FnOk P w K mg base CX0 1 T.aU.f T.aU.fd ["thing"] Qo:=by
 have sc:=l5;refine T.aU.F.ok l5 (fun vs H Q E h=>?_) (fun cdv A outer s H vs Q E hr h=>?_)
 .obtain⟨i,rfl,_⟩:=h;rfl
 .obtain⟨i,rfl,q⟩:=h;refine⟨_,(B4 (B9 (X2 (E5 (Ao K) T.au J4 (A8 (pv 0) (A8 (Jl T.bD Yl) B2))) (X9 (zDf (E5 (Ao K) T.au J4 (A8 (pv 0) (A8 (Jl T.bI zAi) B2)))))))),?_⟩;refine ex1 rfl ⟨.int i, "int",_,true,rfl,.int i,rfl,ex1 rfl (Um ?_)⟩;exact ex1 rfl ⟨.int i, "bool",_,false,rfl,.int i,rfl,ex1 rfl q⟩
theorem m9:FnScope ["thing"] ["thing"] (B5 s_is_listed):=fsc
def Sn:Sp:=fun vs H Q _=>∃(a:Addr) (b:Bool) (xs:List V),vs = [.ref a]/\H a=some (LT b xs)/\∀H',Same H H'->Q (.bl true) H'
theorem Fh(T:Tx K mg):FnOk P w K mg base CX0 1 T.aV.f T.aV.fd ["thing"] Sn:=by
 have sc:=m9;refine T.aV.F.ok m9 (fun vs H Q E h=>?_) (fun cdv A outer s H vs Q E hr h=>?_)
 .obtain⟨a,b,xs,rfl,_⟩:=h;rfl
 .obtain⟨a,b,xs,rfl,hS,q⟩:=h;refine⟨_,(B4 (B9 (E5 (Wu K) T.au J4 (A8 (pv 0) (A8 (M7 (A8 (Jl T.bn Dz) (A8 (Jl T.bo Ei) B2))) B2))))),?_⟩;refine ex1 rfl ⟨by show 2<=sizeLine;decide,fun t ht=>?_⟩;have s1:=Same.new (o:=.tup [.ty "list",.ty "tuple"]) ht;have m1:=s1 _ _ hS;exact .inl ⟨.ref a,t,["list", "tuple"],_,true,rfl,A9,zGv m1,.inr ⟨a,_,rfl,zFd m1⟩,zGf b,q _ s1⟩
theorem m8:FnScope ["thing", "many"] ["thing", "many"] (B5 s_is_row_of):=fsc
def Ti:Sp:=fun vs H Q _=>∃(p:Addr) (x y z:V),vs = [.ref p,.int 3]/\H p=some (.tup [x,y,z])/\Q (.bl true) H
theorem Hr(T:Tx K mg):FnOk P w K mg base CX0 1 T.aW.f T.aW.fd ["thing", "many"] Ti:=by
 have sc:=m8;refine T.aW.F.ok m8 (fun vs H Q E h=>?_) (fun cdv A outer s H vs Q E hr h=>?_)
 .obtain⟨p,x,y,z,rfl,_⟩:=h;rfl
 .obtain⟨p,x,y,z,rfl,hp,q⟩:=h;refine⟨_,(B4 (B9 (X2 (E5 (Ao K) T.au J4 (A8 (pv 0) (A8 (Jl T.bo Ei) B2))) (X9 (E4 T0 (E5 (Ad K) T.aT o7 (A8 (pv 0) B2)) (pv 1) (D8 _)))))),?_⟩;refine ex1 rfl ⟨.ref p, "tuple",_,true,rfl,.tup hp,rfl,ex1 rfl (Um ?_)⟩;exact ex1 rfl (C4 (a:=p) rfl (.inr (SqT.of hp)) (ex1 rfl ⟨rfl,q⟩))
theorem Gn:FnScope ["names", "row"] ["names", "row"] (B5 s_is_row):=fsc
def Qd:Sp:=fun vs H Q _=>∃(l p:Addr) (ns:List Str) (d:Str×Mk),vs = [.ref l,.ref p]/\H l=some (.lst (ns.map V.str))/\H p=some (.tup [.str d.1,.str (wdM d.2),nmM d.2])/\d.1∈ns/\∀H',Same H H'->Q (.bl true) H'
set_option maxHeartbeats 1000000 in
theorem Rl(T:Tx K mg):FnOk P w K mg base CX0 2 T.bj.f T.bj.fd ["names", "row"] Qd:=by
 have G_is_row_of:=Hr (P:=P) (w:=w) (base:=base) T;have G_is_number:=Gi (P:=P) (w:=w) (base:=base) T;have sc:=Gn;refine T.bj.F.ok Gn (fun vs H Q E h=>?_) (fun cdv A outer s H vs Q E hr h=>?_)
 .obtain⟨l,p,ns,d,rfl,_⟩:=h;rfl
 .obtain⟨l,p,ns,d,rfl,hl,hp,hm,q⟩:=h;refine⟨_,(B3 (K4 (PW.pt (Bs (S8 (K6 (C7 T.aW G_is_row_of (Rm hr) (A8 (pv 1) (A8 B8 B2))))) (V4 (C6 (y0 K) (Q0 (ixT K) (pv 1) B8 (fun _ _=>rfl)) (pv 0) rfl)))) (B4 (B9 T5)) D0)
   (B3 (K4 (C6 T0 (Q0 (ixT K) (pv 1) B8 (fun _ _=>rfl)) I0 (D8 _)) (B4 (B9 (E4 zFe (Q0 (ixT K) (pv 1) B8 (fun _ _=>rfl)) Xo (D8 _)))) D0)
   (B4 (B9 (X2 (E4 (By K) (Q0 (ixT K) (pv 1) B8 (fun _ _=>rfl)) (M7 (A8 I0 (A8 I0 B2))) rfl) (X9 (C7 T.aU G_is_number (Rm hr) (A8 (Q0 (ixT K) (pv 1) B8 (fun _ _=>rfl)) B2)))))))),?_⟩
  have fl:(ns.map V.str).all Al=true:=BU.mpr fun z hz=>by
   obtain⟨y,_,rfl⟩:=AE.mp hz;rfl
  refine B7 fun N1 hN1=>?_;refine ex1 rfl ⟨p,_,_,_,rfl,hp,ex1 rfl (X0 ?_)⟩;refine ex1 rfl ⟨p,_,C4 rfl rfl ⟨SqT.of hp,rfl,ex1 rfl ⟨l,_,rfl,.inl (SqL.of hl),rfl,fl,?_⟩⟩⟩;rw[AR rfl,j0,AJ hm];refine ex1 rfl (X0 ?_);refine hN1 _ _ (B7 fun N2 hN2=>?_);refine ex1 rfl ⟨p,_,C4 rfl rfl ⟨SqT.of hp,rfl,rfl,ex1 rfl (U0 (fun c=>?_) (fun c=>?_))⟩⟩
  .have hk:d.2=none:=Option.isNone_iff_eq_none.mp (wd_open.symm.trans c);rw[hk]at hp;exact ex1 rfl ⟨p,_,C4 rfl rfl ⟨SqT.of hp,rfl,rfl,q _ fun b o e=>e⟩⟩
  .refine hN2 _ _ ?_;obtain⟨b,i,hk⟩:∃b i,d.2=some (b,i):=by
    match hm:d.2 with
    | none=>rw[hm]at c;exact absurd (wd_open (m:=none)) fun z=>c z
    | some (b,i)=>exact⟨b,i,rfl⟩
   refine ex1 rfl ⟨p,_,C4 rfl rfl ⟨SqT.of hp,rfl,by show 2<=sizeLine;decide,fun t ht=>?_⟩⟩;have s1:=Same.new (o:=.tup [.str wIn,.str wOut]) ht;refine⟨t,_,rfl,.inr (SqT.of A9),rfl,rfl,?_⟩;have hp':=s1 _ _ hp;rw[hk]at hp';have e:inV (V.str (wdM d.2)) [.str wIn,.str wOut]=true:=by
    rw[hk,show([.str wIn,.str wOut]:List V) = [wIn,wOut].map V.str from rfl,j0];cases b
    .exact AJ (AU _ (AF.mpr rfl))
    .exact AJ (BE ..)
   rw[AM (by decide),show [V.str (Str.ofString "in"),V.str (Str.ofString "out")] = [.str wIn,.str wOut]from rfl,e];refine ex1 rfl (Um ?_);exact ex1 rfl ⟨p,_,C4 rfl rfl ⟨SqT.of hp',rfl,i,rfl,q _ s1⟩⟩
theorem Ac:FnScope ["web", "rows", "names"] ["web", "rows"] (B5 s_are_rows):=fsc
def Jm(C:Addr):Sp:=fun vs H Q _=>∃(x a:Addr) (b:Bool) (ns:List Str) (qs:List PA2) (rs:List (Addr×Row)) (D:List (Str×Mk)),vs = [.ref x,.ref a]/\WebAt C H x ns qs/\RS H b a rs/\(rs.map fun q=>q.2)=D.map Kt/\(D.map fun q=>q.1).Perm ns/\(∀y∈ns,K8 y=true)/\∀H',Same H H'->Q (.bl true) H'
set_option maxHeartbeats 1000000 in
theorem Iw(T:Tx K mg):FnOk P w K mg base CX0 3 T.a1.f T.a1.fd ["web", "rows"] (Jm T.ab):=by
 have G_Web_all_names:=J0 (P:=P) (w:=w) (base:=base) T;have G_is_listed:=Fh (P:=P) (w:=w) (base:=base) T;have G_is_row:=Rl (P:=P) (w:=w) (base:=base) T;have sc:=Ac;refine T.a1.F.ok Ac (fun vs H Q E h=>?_) (fun cdv A outer s H vs Q E hr h=>?_)
 .obtain⟨x,a,b,ns,qs,rs,D,rfl,_⟩:=h;rfl
 .obtain⟨x,a,b,ns,qs,rs,D,rfl,hW,hR,eD,pn,okn,q⟩:=h;refine⟨_,(B3 (C5 (i:=2) sc.nd rfl (.inr rfl) (Y1 (pv 0) T.ag T.ae.m G_Web_all_names (Rm hr) T.ae.b .nil K0))
   (B3 (K4 (PW.pt (Bs (S8 (K6 (C7 T.aV G_is_listed (Rm hr) (A8 (pv 1) B2)))) (V4 (S8 (K6 (E5 (Q9 K) T.av Q7 (A8 (J7 (N':=["row", "names"]) (cap:=[none,some 2]) (cl:=[("names",_)]) (E7 ⟨⟨rfl,rfl,rfl,rfl⟩,trivial⟩ ⟨rfl,trivial⟩) rfl (piS K (pv 1)) (fun _ _ _ _=>by exact⟨(pgC 0),C3,(C7 T.bj G_is_row (Rm hr) (A8 (pv 1) (A8 (pv 0) B2)))⟩)) B2))))))) (B4 (B9 T5)) D0)
   (B4 (B9 (E4 (zCc K hr.units) (E5 (X3 K) T.am I9 (A8 (J7 (N':=["row"]) (cap:=[none]) (cl:=[]) (E7 trivial trivial) rfl (piS K (pv 1)) (fun _ _ _ _=>by exact⟨(pgC 0),C3,(Q0 (ixT K) (pv 0) B8 (fun _ _=>rfl))⟩)) B2)) (pv 2) (D8 _)))))),?_⟩
  obtain⟨ok,dx,a1,b',c,d',kc,kd,e2,_⟩:=id hW;refine B7 fun N1 hN1=>?_;refine ex1 rfl ⟨x,dx,ex1 rfl ⟨e2,rfl,x,ns,qs,rfl,hW,fun l hl=>?_⟩⟩;have s1:=Same.new (o:=.lst (ns.map V.str)) hl;have l1:(upd H l (.lst (ns.map V.str))) l=some (.lst (ns.map V.str)):=A9;have R1:=hR.same s1;have lrs:rs.length<=100:=by
   have a1:=congrArg List.length eD;have a2:=pn.length_eq;rw[AA,AA]at a1;rw[AA]at a2;have:=ok.len;omega
  have atD:∀q∈rs,∃d:Str×Mk,q.2=Kt d/\d.1∈ns:=fun q hq=>by
   have h1:q.2∈D.map Kt:=eD▸AE.mpr ⟨q,hq,rfl⟩;obtain⟨d,hd,e⟩:=AE.mp h1;exact⟨d,e.symm,pn.mem_iff.mp (AE.mpr ⟨d,hd,rfl⟩)⟩
  show N1 _ (upd H l (.lst (ns.map V.str)));generalize upd H l (.lst (ns.map V.str))=H1 at s1 l1 R1⊢;refine hN1 _ _ (B7 fun N2 hN2=>?_);refine ex1 rfl ⟨a,b,_,rfl,R1.1,fun H2 s2=>ex1 rfl (X0 ?_)⟩;have R2:=R1.same s2;dsimp only[zHo,tB,tCB,T6];refine R9 rfl (Lg R2.1) fun J as C hC=>?_;refine Yw (fun _=>.bl true) as (by omega) hC (fun y hy H3 s3 Q' hQ=>?_) (fun σ H3 s3 e3=>?_) _
  .obtain⟨d,e,hd⟩:=atD y hy;have ey:=s3 _ _ (R2.2 y hy);rw[e]at ey;exact ex1 rfl (ex1 rfl ⟨l,y.1,ns,d,rfl,s3 _ _ (s2 _ _ l1),ey,hd,fun H4 s4=>hQ H4 s4⟩)
  refine⟨C,(rs.map fun _=>true),rfl,SqL.of (by rw[e3,AY,AY];rfl),?_⟩;rw[show((rs.map fun _=>true).all id)=true from BU.mpr fun z hz=>by obtain⟨_,_,rfl⟩:=AE.mp hz;rfl];refine ex1 rfl (X0 ?_);have R3:=R2.same s3;have s13:=(s1.trans s2).trans s3;have l3:=s3 _ _ (s2 _ _ l1);clear s1 s2 s3 l1 R1 R2 e3 hC as;refine hN2 _ _ ?_;dsimp only[Xl,tOp,tCB,T6];refine R9 rfl (Lg R3.1) fun J as C2 hC2=>?_;refine Yw (fun r=>.str r.1) as (by omega) hC2 (fun y hy H4 s4 Q' hQ=>?_) (fun σ H4 s4 e4=>?_) _
  .exact ex1 rfl ⟨y.1,_,C4 rfl rfl ⟨SqT.of (s4 _ _ (R3.2 y hy)),rfl,hQ H4 fun b o e=>e⟩⟩
  refine⟨C2,D.map (fun q=>q.1),rfl,SqL.of (by rw[e4,eD,AY,AY];rfl),fun m ts hm pt so=>?_⟩;have e5:ts=ns:=O3 so ok.srt (pt.trans pn);subst e5;have u5:=Same.new (o:=.lst (ts.map V.str)) hm;exact ex1 rfl (zAc (M0 (SqL.of A9)) (M0 (SqL.of (u5 _ _ (s4 _ _ l3)))) (T7 okn) (q _ (s13.trans (s4.trans u5))))
theorem V5:FnScope ["web", "rows", "words", "numbers"] ["web", "rows"] (B5 s_shows_least):=fsc
def Vl(C:Addr):Sp:=fun vs H Q _=>∃(x a:Addr) (b:Bool) (ns:List Str) (qs:List PA2) (rs:List (Addr×Row)) (D:List (Str×Mk)),vs = [.ref x,.ref a]/\WebAt C H x ns qs/\RS H b a rs/\(rs.map fun q=>q.2)=D.map Kt/\(D.map fun q=>q.1).Perm ns/\(∀y∈ns,K8 y=true)/\∀H',Same H H'->Q (.bl ((D.map fun q=>q.1).all fun n=>grd (B1 qs n) (K7 D) n)) H'
set_option maxHeartbeats 1000000 in
theorem Bw(T:Tx K mg):FnOk P w K mg base CX0 4 T.aM.f T.aM.fd ["web", "rows"] (Vl T.ab):=by
 have G_are_rows:=Iw (P:=P) (w:=w) (base:=base) T;have G_is_grounded:=Bz (P:=P) (w:=w) (base:=base) T;have sc:=V5;refine T.aM.F.ok V5 (fun vs H Q E h=>?_) (fun cdv A outer s H vs Q E hr h=>?_)
 .obtain⟨x,a,b,ns,qs,rs,D,rfl,_⟩:=h;rfl
 .obtain⟨x,a,b,ns,qs,rs,D,rfl,hW,hR,eD,pn,okn,q⟩:=h;refine⟨_,(B3 (K4 (S8 (K6 (C7 T.a1 G_are_rows (Rm hr) (A8 (pv 0) (A8 (pv 1) B2))))) (B4 (B9 T5)) D0)
   (B3 (C5 (i:=2) sc.nd rfl (.inr rfl) (En (N':=["name", "word", "number"]) (cap:=[none,none,none]) (cl:=[]) (E7 trivial trivial) rfl (piS K (pv 1)) (fun _ _ _ _=>by exact⟨(pgT K (n:=3) (C8 (pgC 0) (C8 (pgC 1) (C8 (pgC 2) P5)))),C3,(pv 0),(pv 1)⟩)))
   (B3 (C5 (i:=3) sc.nd rfl (.inr rfl) (En (N':=["name", "word", "number"]) (cap:=[none,none,none]) (cl:=[]) (E7 trivial trivial) rfl (piS K (pv 1)) (fun _ _ _ _=>by exact⟨(pgT K (n:=3) (C8 (pgC 0) (C8 (pgC 1) (C8 (pgC 2) P5)))),C3,(pv 0),(pv 2)⟩)))
   (B4 (B9 (E5 (Q9 K) T.av Q7 (A8 (J7 (N':=["name", "web", "words", "numbers"]) (cap:=[none,some 0,some 2,some 3]) (cl:=[("words",_),("web",_),("numbers",_)]) (E7 ⟨⟨rfl,rfl,rfl,rfl⟩,⟨⟨rfl,rfl,rfl,rfl⟩,⟨⟨rfl,rfl,rfl,rfl⟩,trivial⟩⟩⟩ ⟨rfl,⟨rfl,⟨rfl,trivial⟩⟩⟩) rfl (Uk (pv 2)) (fun _ _ _ _=>by exact⟨(pgC 0),C3,(C7 T.aN G_is_grounded (Rm hr) (A8 (pv 1) (A8 (pv 2) (A8 (pv 3) (A8 (pv 0) B2)))))⟩)) B2))))))),?_⟩
  refine B7 fun N1 hN1=>?_;refine ex1 rfl (ex1 rfl ⟨x,a,b,ns,qs,rs,D,rfl,hW,hR,eD,pn,okn,fun H1 s1=>ex1 rfl (X0 ?_)⟩);refine hN1 _ _ (B7 fun N2 hN2=>?_);have ok:=hW.ok;have nd:(D.map fun q=>q.1).Nodup:=pn.nodup_iff.mpr ok.nd;have lD:D.length<=100:=by
   have a2:=pn.length_eq;rw[AA]at a2;have:=ok.len;omega
  have R1:=hR.same s1;dsimp only[Ul];refine R9 rfl (Lg R1.1) fun J as dw hdw=>?_;refine Yi (fun m=>.str (wdM m)) as R1.2 eD nd (by omega) hdw (fun d H' Q' hq=>⟨_,rfl,hq⟩) (fun σ H2 s2 e2=>?_) _ _ _;have hdw0:H dw=none:=s1.free hdw;have s12:=s1.trans s2;have R2:=R1.same s2;clear as R1 s1 s2 hdw;refine hN2 _ _ (B7 fun N3 hN3=>?_);dsimp only[Ul];refine R9 rfl (Lg R2.1) fun J as dn hdn=>?_;refine Yi (fun m=>nmM m) as R2.2 eD nd (by omega) hdn (fun d H' Q' hq=>⟨_,rfl,hq⟩) (fun σ H3 s3 e3=>?_) _ _ _;have nwn:dw≠dn:=B0 e2 hdn;have e2:=s3 _ _ e2;have s13:=s12.trans s3;clear as R2 s12 s3;refine hN3 _ _ ?_;refine ex1 rfl ⟨dw,_,rfl,.inl e2,fun o C hC=>?_⟩;have s4:Same H (upd H3 dw (.frz o (.dK (D.map fun d=>((Sum.inr d.1:Key),V.str (wdM d.2)))))):=s13.upd hdw0;have w4:(upd H3 dw (.frz o (.dK (D.map fun d=>((Sum.inr d.1:Key),V.str (wdM d.2)))))) dw=some (.frz o (.dK (D.map fun d=>((Sum.inr d.1:Key),V.str (wdM d.2))))):=A9;have n4:(upd H3 dw (.frz o (.dK (D.map fun d=>((Sum.inr d.1:Key),V.str (wdM d.2)))))) dn=some (.dK (D.map fun d=>((Sum.inr d.1:Key),nmM d.2))):=(B6 nwn.symm).trans e3;generalize upd H3 dw (.frz o (.dK (D.map fun d=>((Sum.inr d.1:Key),V.str (wdM d.2)))))=H4 at s4 w4 n4 hC⊢;refine zBj (ks:=D.map fun q=>q.1) (fun n=>grd (B1 qs n) (K7 D) n) w4 (by rw[AY,AY];rfl) (by rw[AA];omega) hC (fun y hy H5 s5 Q' hQ=>?_) (fun σ H5 s5 e5=>⟨C,_,rfl,SqL.of e5,by rw[FM];exact q H5 (s4.trans s5)⟩) _;exact ex1 rfl (ex1 rfl (ex1 rfl (ex1 rfl ⟨x,dw,dn,y,ns,qs,_,_,D,rfl,hW.same (s4.trans s5),pn.mem_iff.mp hy,.inr ⟨o,s5 _ _ w4⟩,.inl (s5 _ _ n4),fun n hn=>Pr D (fun m=>.str (wdM m)) hn,fun n hn=>Pr D nmM hn,fun m hm=>pn.mem_iff.mpr hm,hQ⟩)))
end
section
variable{ns:List Str}{A O:(Str->Option Str)->Str->Bool}{f:Str->Option Str}{num:Int}{sr:Str->List Str}
theorem Re{l:List Str}{w:Str}(hl:∀n∈l,n∈ns/\f n=none)(nd:l.Nodup)(nn:ns.Nodup):(l++wl ns (Ws f l w)).Perm (wl ns f):=by
 refine(CZ (DT.mpr ⟨nd,nn.filter _,fun a ha b hb e=>?_⟩) (nn.filter _)).mpr fun x=>?_
 .have:=(mem_wl.mp hb).2;rw[<-e,K2 ha]at this;cases this
 .rw[AO];refine Iff.trans ?_ mem_wl.symm;constructor
  .rintro(c | c)
   .exact hl x c
   .obtain⟨c1,c2⟩:=mem_wl.mp c;refine⟨c1,?_⟩;by_cases d:x∈l
    .rw[K2 d]at c2;cases c2
    .rw[G5 d]at c2;exact c2
  .rintro⟨c1,c2⟩;by_cases d:x∈l
   .exact .inl d
   .exact .inr (mem_wl.mpr ⟨c1,by rw[G5 d];exact c2⟩)
structure RG(sr:Str->List Str)(f:Str->Option Str)(num:Int)(D:List (Str×Mk)):Prop where
 inn:∀n k,(n,some (true,k))∈D->num<=k/\∀y∈sr n,f y=some wOut\/∃j,(y,some (false,j))∈D/\j<k
 out:∀n k,(n,some (false,k))∈D->num<=k/\∃z∈sr n,f z=some wIn\/∃j,(z,some (true,j))∈D/\j<=k
 opn:∀n,(n,none)∈D->(∀z∈sr n,f z≠some wIn/\∀j,(z,some (true,j))∉D)/\∃y∈sr n,f y≠some wOut/\∀j,(y,some (false,j))∉D
theorem RSeq.marks(hA:∀f n,A f n=true↔∀y∈sr n,f y=some wOut)(hO:∀f n,O f n=true↔∃y∈sr n,f y=some wIn)(nn:ns.Nodup){t:List Row}(h:RSeq ns A O f num t):∃D:List (Str×Mk),t=D.map Kt/\(D.map fun q=>q.1).Perm (wl ns f)/\RG sr f num D:=by
 induction h with
 | @stop f num h0 =>
  refine⟨(wl ns f).map fun n=>(n,none),by rw[AY];rfl,by rw[AY];show((wl ns f).map id).Perm _;rw[List.map_id],⟨fun n k h=>?_,fun n k h=>?_,fun n h=>?_⟩⟩
  .obtain⟨_,_,e⟩:=AE.mp h;cases e
  .obtain⟨_,_,e⟩:=AE.mp h;cases e
  .obtain⟨m,hm,e⟩:=AE.mp h;cases e;obtain⟨h1,h2⟩:=List.append_eq_nil_iff.mp h0;have h1:=GU.mp h1;have h2:=GU.mp h2;have e1:Q2 ns A f=f:=by unfold Q2;rw[h1];exact funext fun n=>G5 BP
   rw[e1]at h2;have a1:¬A f n=true:=fun c=>absurd (BF.mpr ⟨hm,c⟩) (by unfold D9 at h1;rw[h1];exact BP);have a2:¬O f n=true:=fun c=>absurd (BF.mpr ⟨hm,c⟩) (by unfold D9 at h2;rw[h2];exact BP);have none_:∀z b j,(z,some (b,j))∉(wl ns f).map fun n=>((n,none):Str×Mk):=fun z b j c=>by obtain⟨_,_,e⟩:=AE.mp c;cases e
   rw[hA]at a1;rw[hO]at a2;refine⟨fun z hz=>⟨fun c=>a2 ⟨z,hz,c⟩,fun j=>none_ z true j⟩,?_⟩;obtain⟨y,hy⟩:=Classical.not_forall.mp a1;obtain⟨hy,c⟩:=Classical.not_imp.mp hy;exact⟨y,hy,c,fun j=>none_ y false j⟩
 | @step f num t h0 _ ih =>
  obtain⟨D,rfl,pm,G⟩:=ih;have i1:∀n∈D9 ns A f,n∈ns/\f n=none:=fun n hn=>Ka hn;have o1:∀n∈D9 ns O (Q2 ns A f),n∈ns/\Q2 ns A f n=none:=fun n hn=>Ka hn;have i2:(D9 ns A f).Nodup:=(nn.filter _).filter _;have o2:(D9 ns O (Q2 ns A f)).Nodup:=(nn.filter _).filter _;have fin:∀z,nxt ns A O f z=some wIn↔z∈D9 ns A f\/f z=some wIn:=fun z=>by
   unfold nxt;by_cases c:z∈D9 ns O (Q2 ns A f)
   .rw[K2 c];have hn:=(o1 z c).2;constructor
    .intro e;exact absurd (BH e).symm Vc
    .intro e;rcases e with e | e
     .unfold Q2 at hn;rw[K2 e]at hn;cases hn
     .unfold Q2 at hn;by_cases d:z∈D9 ns A f
      .rw[K2 d]at hn;cases hn
      .rw[G5 d,e]at hn;cases hn
   .rw[G5 c];unfold Q2;by_cases d:z∈D9 ns A f
    .rw[K2 d];exact⟨fun _=>.inl d,fun _=>rfl⟩
    .rw[G5 d];exact⟨.inr,fun e=>e.resolve_left d⟩
  have fout:∀z,nxt ns A O f z=some wOut↔z∈D9 ns O (Q2 ns A f)\/f z=some wOut:=fun z=>by
   unfold nxt;by_cases c:z∈D9 ns O (Q2 ns A f)
   .rw[K2 c];exact⟨fun _=>.inl c,fun _=>rfl⟩
   .rw[G5 c];unfold Q2;by_cases d:z∈D9 ns A f
    .rw[K2 d];constructor
     .intro e;exact absurd (BH e) Vc
     .intro e;rcases e with e | e
      .exact absurd e c
      .rw[(i1 z d).2]at e;cases e
    .rw[G5 d];exact⟨.inr,fun e=>e.resolve_left c⟩
  refine⟨((D9 ns A f).map fun n=>((n,some (true,num)):Str×Mk)) ++((D9 ns O (Q2 ns A f)).map fun n=>((n,some (false,num)):Str×Mk))++D,?_,?_,?_⟩
  .unfold U8;rw[AK,AK,AY,AY];rfl
  .rw[AK,AK,AY,AY];show(((D9 ns A f).map id) ++((D9 ns O (Q2 ns A f)).map id)++D.map fun q=>q.1).Perm _;rw[List.map_id,List.map_id,BI];refine(DA _ ((DA _ pm).trans ?_)).trans (Re (w:=wIn) i1 i2 nn);exact Re (f:=Q2 ns A f) (w:=wOut) o1 o2 nn
  .have mi:∀n k,(n,some (true,k))∈((D9 ns A f).map fun n=>((n,some (true,num)):Str×Mk)) ++((D9 ns O (Q2 ns A f)).map fun n=>((n,some (false,num)):Str×Mk))++D↔(n∈D9 ns A f/\k=num)\/(n,some (true,k))∈D:=fun n k=>by
    rw[AO,AO];constructor
    .rintro((c | c) | c)
     .obtain⟨_,hm,e⟩:=AE.mp c;cases e;exact .inl ⟨hm,rfl⟩
     .obtain⟨_,hm,e⟩:=AE.mp c;cases e
     .exact .inr c
    .rintro(⟨c,rfl⟩ | c)
     .exact .inl (.inl (AE.mpr ⟨n,c,rfl⟩))
     .exact .inr c
   have mo:∀n k,(n,some (false,k))∈((D9 ns A f).map fun n=>((n,some (true,num)):Str×Mk)) ++((D9 ns O (Q2 ns A f)).map fun n=>((n,some (false,num)):Str×Mk))++D↔(n∈D9 ns O (Q2 ns A f)/\k=num)\/(n,some (false,k))∈D:=fun n k=>by
    rw[AO,AO];constructor
    .rintro((c | c) | c)
     .obtain⟨_,hm,e⟩:=AE.mp c;cases e
     .obtain⟨_,hm,e⟩:=AE.mp c;cases e;exact .inl ⟨hm,rfl⟩
     .exact .inr c
    .rintro(⟨c,rfl⟩ | c)
     .exact .inl (.inr (AE.mpr ⟨n,c,rfl⟩))
     .exact .inr c
   refine⟨fun n k h=>?_,fun n k h=>?_,fun n h=>?_⟩
   .rcases(mi n k).mp h with⟨c,rfl⟩ | c
    .exact⟨Int.le_refl _,fun y hy=>.inl ((hA f n).mp (BF.mp c).2 y hy)⟩
    .obtain⟨g1,g2⟩:=G.inn n k c;refine⟨by omega,fun y hy=>?_⟩;rcases g2 y hy with e | ⟨j,e,lt⟩
     .rcases(fout y).mp e with e | e
      .exact .inr ⟨num,(mo y num).mpr (.inl ⟨e,rfl⟩),by omega⟩
      .exact .inl e
     .exact .inr ⟨j,(mo y j).mpr (.inr e),lt⟩
   .rcases(mo n k).mp h with⟨c,rfl⟩ | c
    .obtain⟨z,hz,e⟩:=(hO (Q2 ns A f) n).mp (BF.mp c).2;refine⟨Int.le_refl _,z,hz,?_⟩;unfold Q2 at e;by_cases d:z∈D9 ns A f
     .exact .inr ⟨k,(mi z k).mpr (.inl ⟨d,rfl⟩),Int.le_refl _⟩
     .rw[G5 d]at e;exact .inl e
    .obtain⟨g1,z,hz,g2⟩:=G.out n k c;refine⟨by omega,z,hz,?_⟩;rcases g2 with e | ⟨j,e,le⟩
     .rcases(fin z).mp e with e | e
      .exact .inr ⟨num,(mi z num).mpr (.inl ⟨e,rfl⟩),by omega⟩
      .exact .inl e
     .exact .inr ⟨j,(mi z j).mpr (.inr e),le⟩
   .have hD:(n,none)∈D:=by
     rcases AO.mp h with c | c
     .rcases AO.mp c with c | c
      .obtain⟨_,hm,e⟩:=AE.mp c;cases e
      .obtain⟨_,hm,e⟩:=AE.mp c;cases e
     .exact c
    obtain⟨g1,y,hy,g2,g3⟩:=G.opn n hD;refine⟨fun z hz=>⟨fun e=>(g1 z hz).1 ((fin z).mpr (.inr e)),fun j c=>?_⟩,y,hy,fun e=>g2 ((fout y).mpr (.inr e)),fun j c=>?_⟩
    .rcases(mi z j).mp c with⟨c,_⟩ | c
     .exact(g1 z hz).1 ((fin z).mpr (.inl c))
     .exact(g1 z hz).2 j c
    .rcases(mo y j).mp c with⟨c,_⟩ | c
     .exact g2 ((fout y).mpr (.inl c))
     .exact g3 j c
end
structure Gd(sr:Str->List Str)(D:List (Str×Mk)):Prop where
 inn:∀n k,(n,some (true,k))∈D->∀y∈sr n,∃j,(y,some (false,j))∈D/\j<k
 out:∀n k,(n,some (false,k))∈D->∃z∈sr n,∃j,(z,some (true,j))∈D/\j<=k
 opn:∀n,(n,none)∈D->(∀z∈sr n,∀j,(z,some (true,j))∉D)/\∃y∈sr n,(y,none)∈D
section
variable{sr:Str->List Str}{D D':List (Str×Mk)}
theorem RG.gd{ns:List Str}{num:Int}(h:RG sr (fun _=>none) num D)(pm:(D.map fun q=>q.1).Perm ns)(hs:∀n∈ns,∀y∈sr n,y∈ns):Gd sr D:=by
 refine⟨fun n k hk y hy=>?_,fun n k hk=>?_,fun n hn=>?_⟩
 .exact((h.inn n k hk).2 y hy).resolve_left (fun e=>by cases e)
 .obtain⟨_,z,hz,e⟩:=h.out n k hk;exact⟨z,hz,e.resolve_left (fun e=>by cases e)⟩
 .obtain⟨h1,y,hy,_,h3⟩:=h.opn n hn;refine⟨fun z hz j=>(h1 z hz).2 j,y,hy,?_⟩;have ym:y∈D.map fun q=>q.1:=pm.mem_iff.mpr (hs n (pm.mem_iff.mp (AE.mpr ⟨_,hn,rfl⟩)) y hy);obtain⟨⟨y',m⟩,hq,rfl⟩:=AE.mp ym
  match m,hq with
  | none,hq=>exact hq
  | some (true,j),hq=>exact absurd hq ((h1 _ hy).2 j)
  | some (false,j),hq=>exact absurd hq (h3 j)
theorem Gd.all(h:Gd sr D)(nd:(D.map fun q=>q.1).Nodup):((D.map fun q=>q.1).all fun n=>grd (sr n) (K7 D) n)=true:=by
 refine BU.mpr fun n hn=>?_;have hm:=Y7 nd hn;unfold grd
 match e:K7 D n with
 | some (true,k) =>
  rw[e]at hm;refine BU.mpr fun y hy=>?_;obtain⟨j,a,b⟩:=h.inn n k hm y hy;rw[Q1 nd a];exact AJ b
 | some (false,k) =>
  rw[e]at hm;obtain⟨z,hz,j,a,b⟩:=h.out n k hm;refine DQ.mpr ⟨z,hz,?_⟩;rw[Q1 nd a];exact AJ b
 | none =>
  rw[e]at hm;obtain⟨a,y,hy,b⟩:=h.opn n hm;refine Bool.and_eq_true_iff.mpr ⟨?_,DQ.mpr ⟨y,hy,by rw[Q1 nd b];rfl⟩⟩;rw[EV,BO];intro c;obtain⟨z,hz,c⟩:=DQ.mp c;obtain⟨j,ej⟩:=Mc c;by_cases d:z∈D.map fun q=>q.1
  .have:=Y7 nd d;rw[ej]at this;exact a z hz j this
  .have:K7 D z=none:=by
    unfold K7;rw[HG.mpr fun q hq c=>d (AE.mpr ⟨q,hq,AZ c⟩)];rfl
   rw[this]at ej;cases ej
theorem Ln:∀D:List (Str×Mk),∃m:Int,∀n b k,(n,some (b,k))∈D->m<=k
 | []=>⟨0,fun _ _ _ h=>absurd h BP⟩
 | (x,none)::r=>by
  obtain⟨m,hm⟩:=Ln r;exact⟨m,fun n b k h=>(A_.mp h).elim (fun e=>by cases e) (hm n b k)⟩
 | (x,some (c,i))::r=>by
  obtain⟨m,hm⟩:=Ln r;by_cases d:m<=i
  .exact⟨m,fun n b k h=>(A_.mp h).elim (fun e=>by cases e;exact d) (hm n b k)⟩
  .exact⟨i,fun n b k h=>(A_.mp h).elim (fun e=>by cases e;exact Int.le_refl _) fun h=>by have:=hm n b k h;omega⟩
theorem Gd.one(h:Gd sr D)(h':Gd sr D')(nd':(D'.map fun q=>q.1).Nodup)(sub:∀n∈D.map (fun q=>q.1),n∈D'.map fun q=>q.1)(n:Str)(b:Bool)(k:Int)(hk:(n,some (b,k))∈D):∃j,(n,some (b,j))∈D':=by
 obtain⟨m,hm⟩:=Ln D;have one:∀{n:Str} {a c:Mk},(n,a)∈D'->(n,c)∈D'->a=c:=fun h1 h2=>(Q1 nd' h1).symm.trans (Q1 nd' h2);have main:∀t:Nat,∀n b k,(n,some (b,k))∈D->(k-m).toNat*2 +(if b=true then 0 else 1)<t->∃j,(n,some (b,j))∈D':=by
  intro t
  induction t with
  | zero=>exact fun n b k _ h=>absurd h (HF _)
  | succ t ih =>
   intro n b k hk lt;have hn':=Y7 nd' (sub n (AE.mpr ⟨_,hk,rfl⟩));have lk:=hm n b k hk;cases b with
   | true =>
    have ho:∀y∈sr n,∃j,(y,some (false,j))∈D':=fun y hy=>by
     obtain⟨j,e,lj⟩:=h.inn n k hk y hy;have:=hm y false j e;refine ih y false j e ?_;rw[AM (by decide)];rw[AR rfl]at lt;omega
    match e:K7 D' n with
    | some (true,j)=>exact⟨j,e▸hn'⟩
    | some (false,j) =>
     rw[e]at hn';obtain⟨z,hz,i,ei,_⟩:=h'.out n j hn';obtain⟨i',ei'⟩:=ho z hz;cases one ei ei'
    | none =>
     rw[e]at hn';obtain⟨_,y,hy,ey⟩:=h'.opn n hn';obtain⟨i',ei'⟩:=ho y hy;cases one ey ei'
   | false =>
    obtain⟨z,hz,j,ej,le⟩:=h.out n k hk;have lz:=hm z true j ej;obtain⟨i,ei⟩:=ih z true j ej (by rw[AR rfl];rw[AM (by decide)]at lt;omega)
    match e:K7 D' n with
    | some (false,j)=>exact⟨j,e▸hn'⟩
    | some (true,j) =>
     rw[e]at hn';obtain⟨i',ei',_⟩:=h'.inn n j hn' z hz;cases one ei ei'
    | none =>
     rw[e]at hn';exact absurd ei ((h'.opn n hn').1 z hz i)
 exact main _ n b k hk (EM _)
def zDd(D:List (Str×Mk)):List Str:=(D.filter fun q=>zAd q.2).map fun q=>q.1
theorem y4{n:Str}:n∈zDd D↔∃k,(n,some (true,k))∈D:=by
 unfold zDd;rw[AE];constructor
 .rintro⟨⟨m,q⟩,hq,rfl⟩;obtain⟨h1,h2⟩:=BF.mp hq;obtain⟨j,rfl⟩:=Mc h2;exact⟨j,h1⟩
 .rintro⟨k,hk⟩;exact⟨_,BF.mpr ⟨hk,rfl⟩,rfl⟩
theorem Gd.ins(h:Gd sr D)(h':Gd sr D')(nd:(D.map fun q=>q.1).Nodup)(p:(D'.map fun q=>q.1).Perm (D.map fun q=>q.1)):(zDd D').Perm (zDd D):=by
 have nd':=p.nodup_iff.mpr nd;have sub:∀D:List (Str×Mk),(zDd D).Sublist (D.map fun q=>q.1):=fun D=>CN.map _;refine(CZ ((sub D').nodup nd') ((sub D).nodup nd)).mpr fun n=>?_;rw[y4,y4];exact⟨fun⟨k,hk⟩=>h'.one h nd (fun n hn=>p.mem_iff.mp hn) n true k hk,fun⟨k,hk⟩=>h.one h' nd' (fun n hn=>p.mem_iff.mpr hn) n true k hk⟩
end
theorem Gq{qs:List PA2}{a b:Str}:Y4 qs a b↔(a,b)∈qs.map fun q=>q.2:=by
 unfold Y4;rw[AE];constructor
 .rintro⟨q,h,rfl,rfl⟩;exact⟨q,h,rfl⟩
 .rintro⟨q,h,e⟩;exact⟨q,h,congrArg Prod.fst e,congrArg Prod.snd e⟩
theorem w9{ns:List Str}{ps:List PA2}{B:List Nat}(M:MB ns (ps.map fun q=>q.2) B){i j:Nat}{x y:Str}(hi:ns[i]?=some x)(hj:ns[j]?=some y):(B.getD i 0).testBit j=true↔Y4 ps x y:=by
 rw[M.bit,Gq];constructor
 .rintro⟨k,h,h1,h2⟩;rw[hi]at h1;rw[hj]at h2;rw[BH h1,BH h2];exact h
 .intro h;exact⟨(x,y),h,hi,hj⟩
theorem Ef{ns:List Str}{ks:List (Str×Str)}{B:List Nat}(M:MB ns ks B){i j:Nat}(h:(B.getD i 0).testBit j=true):∃x y,ns[i]?=some x/\ns[j]?=some y:=by
 obtain⟨k,_,h1,h2⟩:=(M.bit i j).mp h;exact⟨_,_,h1,h2⟩
theorem Gb{ns:List Str}{ps:List PA2}{A:List Nat}(M:MB ns ((ps.map fun q=>q.2).map fun k=>(k.2,k.1)) A){i j:Nat}{x y:Str}(hi:ns[i]?=some x)(hj:ns[j]?=some y):(A.getD i 0).testBit j=true↔Y4 ps y x:=by
 rw[M.bit,Gq];constructor
 .rintro⟨k,h,h1,h2⟩;obtain⟨k',h',rfl⟩:=AE.mp h;rw[hi]at h1;rw[hj]at h2;have e:k' =(y,x):=Prod.ext (BH h2).symm (BH h1).symm;rw[<-e];exact h'
 .intro h;exact⟨(x,y),AE.mpr ⟨(y,x),h,rfl⟩,hi,hj⟩
theorem Se{ns rs:List Str}{ps:List PA2}{B:List Nat}{m:Nat}(M:MB ns (ps.map fun q=>q.2) B)(pr:rs.Perm (setOf ns m)){j:Nat}{y:Str}(hj:ns[j]?=some y):Ke B m j↔∃x∈rs,Y4 ps x y:=by
 constructor
 .rintro⟨k,hk,hb⟩;obtain⟨x,y',ex,ey⟩:=Ef M hb;refine⟨x,pr.mem_iff.mpr (mem_setOf.mpr ⟨k,hk,ex⟩),(w9 M ex hj).mp hb⟩
 .rintro⟨x,hx,hs⟩;obtain⟨k,hk,ex⟩:=mem_setOf.mp (pr.mem_iff.mp hx);exact⟨k,hk,(w9 M ex hj).mpr hs⟩
theorem Vs{ns rs:List Str}{ps:List PA2}{A B:List Nat}{m:Nat}(MA:MB ns ((ps.map fun q=>q.2).map fun k=>(k.2,k.1)) A)(M:MB ns (ps.map fun q=>q.2) B)(pr:rs.Perm (setOf ns m))(hin:∀x y,Y4 ps x y->x∈ns){j:Nat}{y:Str}(hj:ns[j]?=some y) :
  Eu ns.length A B m j↔∀x,Y4 ps x y->∃z∈rs,Y4 ps z x:=by
 constructor
 .rintro⟨_,h⟩ x hx;obtain⟨i,hi⟩:=List.mem_iff_getElem?.mp (hin x y hx);exact(Se M pr hi).mp (h i ((Gb MA hj hi).mpr hx))
 .intro h;refine⟨(AG.mp hj).1,fun b hb=>?_⟩;obtain⟨_,x,_,hx⟩:=Ef MA hb;exact(Se M pr hx).mpr (h x ((Gb MA hj hx).mp hb))
theorem Fv{ns:List Str}{ps:List PA2}{B:List Nat}{m:Nat}(M:MB ns (ps.map fun q=>q.2) B):Mr ps (setOf ns m)↔Ql B m:=by
 constructor
 .intro h i j hi hj hb;obtain⟨x,y,ex,ey⟩:=Ef M hb;exact h x (mem_setOf.mpr ⟨i,hi,ex⟩) y (mem_setOf.mpr ⟨j,hj,ey⟩) ((w9 M ex ey).mp hb)
 .intro h x hx y hy hs;obtain⟨i,hi,ex⟩:=mem_setOf.mp hx;obtain⟨j,hj,ey⟩:=mem_setOf.mp hy;exact h i j hi hj ((w9 M ex ey).mpr hs)
theorem Fo{ns:List Str}{ps:List PA2}{A B:List Nat}{m:Nat}(nd:ns.Nodup)(MA:MB ns ((ps.map fun q=>q.2).map fun k=>(k.2,k.1)) A)(M:MB ns (ps.map fun q=>q.2) B)(lo:Low ns.length m)(hin:∀x y,Y4 ps x y->x∈ns):Y6 ns.length A B m↔y6 ns ps (setOf ns m):=by
 have at_:∀{j:Nat} {y:Str},ns[j]?=some y->(m.testBit j=true↔y∈setOf ns m):=fun{j y} hj=>by
  rw[mem_setOf];refine⟨fun h=>⟨j,h,hj⟩,fun⟨k,hk,e⟩=>?_⟩;have:=(List.getElem?_inj (AG.mp hj).1 nd).mp (hj.trans e.symm);rw[this];exact hk
 have kp:∀{j:Nat} {y:Str},ns[j]?=some y->(Eu ns.length A B m j↔Zj ps (setOf ns m) y):=fun hj=>Vs MA M (FS _) hin hj;constructor
 .rintro⟨⟨_,q,b⟩,k⟩;refine⟨⟨(Fv M).mpr q,fun x n hn hx=>?_⟩,fun n hn=>?_⟩
  .obtain⟨j,hj,e⟩:=mem_setOf.mp hn;exact(kp e).mp (b j hj) x hx
  .obtain⟨j,e⟩:=List.mem_iff_getElem?.mp hn;rw[<-at_ e,<-kp e];exact⟨b j,k j⟩
 .rintro⟨⟨q,b⟩,k⟩;have key:∀j,j<ns.length->(m.testBit j=true↔Eu ns.length A B m j):=fun j hj=>by
   have e:ns[j]?=some ns[j]:=AH hj;rw[at_ e,kp e];exact k _ (FV hj)
  exact⟨⟨lo,(Fv M).mp q,fun j hj=>(key j (lo j hj)).mp hj⟩,fun j hj=>(key j hj.1).mpr hj⟩
section
variable{ns:List Str}{qs:List PA2}{D:List (Str×Mk)}{gs ss:List Str}
theorem Gd.whole(h:Gd (B1 qs) D)(nd:(D.map fun q=>q.1).Nodup)(pm:(D.map fun q=>q.1).Perm ns)(hin:∀x y,Y4 qs x y->x∈ns)(mg:∀n,n∈gs↔∃k,(n,some (true,k))∈D):y6 ns qs gs:=by
 have one:∀{n:Str} {a c:Mk},(n,a)∈D->(n,c)∈D->a=c:=fun h1 h2=>(Q1 nd h1).symm.trans (Q1 nd h2);have back:∀{n k},(n,some (true,k))∈D->∀x,Y4 qs x n->∃m∈gs,Y4 qs m x:=fun hn x hx=>by
  obtain⟨j,hj,_⟩:=h.inn _ _ hn x (strk_strikers.mpr hx);obtain⟨z,hz,i,hi,_⟩:=h.out _ _ hj;exact⟨z,(mg z).mpr ⟨i,hi⟩,strk_strikers.mp hz⟩
 refine⟨⟨fun m hm n hn s=>?_,fun x n hn hx=>?_⟩,fun n hn=>⟨fun hg=>?_,fun kp=>?_⟩⟩
 .obtain⟨k,hk⟩:=(mg n).mp hn;obtain⟨i,hi⟩:=(mg m).mp hm;obtain⟨j,hj,_⟩:=h.inn _ _ hk m (strk_strikers.mpr s);cases one hi hj
 .obtain⟨k,hk⟩:=(mg n).mp hn;exact back hk x hx
 .obtain⟨k,hk⟩:=(mg n).mp hg;exact fun x hx=>back hk x hx
 .have ho:∀y∈B1 qs n,∃j,(y,some (false,j))∈D:=fun y hy=>by
   have sy:=strk_strikers.mp hy;obtain⟨z,hz,s⟩:=kp y sy;obtain⟨i,hi⟩:=(mg z).mp hz;have my:=Y7 nd (pm.mem_iff.mpr (hin y n sy))
   match e:K7 D y with
   | some (false,j)=>exact⟨j,e▸my⟩
   | some (true,j) =>
    rw[e]at my;obtain⟨j',hj',_⟩:=h.inn _ _ my z (strk_strikers.mpr s);cases one hi hj'
   | none =>
    rw[e]at my;exact absurd hi ((h.opn y my).1 z (strk_strikers.mpr s) i)
  have mn:=Y7 nd (pm.mem_iff.mpr hn)
  match e:K7 D n with
  | some (true,j)=>exact(mg n).mpr ⟨j,e▸mn⟩
  | some (false,j) =>
   rw[e]at mn;obtain⟨z,hz,i,hi,_⟩:=h.out n j mn;obtain⟨j',hj'⟩:=ho z hz;cases one hi hj'
  | none =>
   rw[e]at mn;obtain⟨_,y,hy,ey⟩:=h.opn n mn;obtain⟨j',hj'⟩:=ho y hy;cases one ey hj'
theorem Gd.least(h:Gd (B1 qs) D)(pm:(D.map fun q=>q.1).Perm ns)(W:y6 ns qs ss):∀n k,(n,some (true,k))∈D->n∈ss:=by
 obtain⟨m,hm⟩:=Ln D;have main:∀t:Nat,∀n k,(n,some (true,k))∈D->(k-m).toNat<t->n∈ss:=by
  intro t
  induction t with
  | zero=>exact fun n k _ h=>absurd h (HF _)
  | succ t ih =>
   intro n k hk lt;refine(W.2 n (pm.mem_iff.mp (AE.mpr ⟨_,hk,rfl⟩))).mpr fun x hx=>?_;obtain⟨j,hj,lj⟩:=h.inn n k hk x (strk_strikers.mpr hx);obtain⟨z,hz,i,hi,li⟩:=h.out x j hj;have:=hm z true i hi;have:=hm n true k hk;exact⟨z,ih z i hi (by omega),strk_strikers.mp hz⟩
 exact fun n k hk=>main _ n k hk (EM _)
theorem zEb{n:Str}(h:n∈ss):wrd qs ss n=wIn:=AR h
theorem Zs{n z:Str}(h:n∉ss)(hz:z∈ss)(s:Y4 qs z n):wrd qs ss n=wOut:=by
 unfold wrd T8;rw[AM h,AR (HW.mpr ⟨z,hz,strk_struck.mpr s⟩)]
theorem Wn{n:Str}(h:n∉ss)(hz:∀z∈ss,¬Y4 qs z n):wrd qs ss n=wOpen:=by
 unfold wrd T8;rw[AM h,AM fun c=>let⟨z,a,b⟩:=HW.mp c;hz z a (strk_struck.mp b)]
theorem Gd.word(h:Gd (B1 qs) D)(pm:(D.map fun q=>q.1).Perm ns)(W:y6 ns qs ss):∀n b k,(n,some (b,k))∈D->wrd qs ss n=wdM (some (b,k)):=by
 rintro n (_ | _) k hk
 .obtain⟨z,hz,i,hi,_⟩:=h.out n k hk;have s:=strk_strikers.mp hz;have zs:=h.least pm W z i hi;exact Zs (fun c=>W.1.1 z zs n c s) zs s
 .exact zEb (h.least pm W n k hk)
theorem Gd.words(h:Gd (B1 qs) D)(nd:(D.map fun q=>q.1).Nodup)(pm:(D.map fun q=>q.1).Perm ns)(hin:∀x y,Y4 qs x y->x∈ns)(mg:∀n,n∈gs↔∃k,(n,some (true,k))∈D):∀q∈D,wrd qs gs q.1=wdM q.2:=by
 rintro⟨n,m⟩ hq
 match m,hq with
 | some (b,k),hq=>exact h.word pm (h.whole nd pm hin mg) n b k hq
 | none,hq =>
  refine Wn (fun c=>?_) fun z hz s=>?_
  .obtain⟨k,hk⟩:=(mg n).mp c;cases(Q1 nd hk).symm.trans (Q1 nd hq)
  .obtain⟨k,hk⟩:=(mg z).mp hz;exact(h.opn n hq).1 z (strk_strikers.mpr s) k hk
theorem Gd.more{sr sr':Str->List Str}{z:Str}(h:Gd sr D)(hz:z∉D.map fun q=>q.1)(h0:∀y,y∉sr' z)(hm:∀n y,y∈sr' n↔y∈sr n)(hs:∀n y,y∈sr n->y∈D.map fun q=>q.1):Gd sr' (D ++ [(z,some (true,1))]):=by
 have ne:∀{n m},(n,m)∈D->n≠z:=fun hd e=>hz (e▸AE.mpr ⟨_,hd,rfl⟩);have mem:∀{n:Str} {m:Mk},(n,m)∈D ++ [(z,some (true,1))]->n≠z->(n,m)∈D:=fun hd e=>(AO.mp hd).elim id fun c=>by cases AF.mp c;exact absurd rfl e
 have nz:∀{n y},y∈sr' n->y≠z:=fun hy e=>hz (e▸hs _ _ ((hm _ _).mp hy));refine⟨fun n k hk y hy=>?_,fun n k hk=>?_,fun n hn=>?_⟩
 .have e:n≠z:=fun e=>h0 y (e▸hy);obtain⟨j,a,b⟩:=h.inn n k (mem hk e) y ((hm _ _).mp hy);exact⟨j,CS _ a,b⟩
 .have hk:(n,some (false,k))∈D:=(AO.mp hk).elim id fun c=>by cases AF.mp c
  obtain⟨y,hy,j,a,b⟩:=h.out n k hk;exact⟨y,(hm _ _).mpr hy,j,CS _ a,b⟩
 .have hn:(n,none)∈D:=(AO.mp hn).elim id fun c=>by cases AF.mp c
  obtain⟨a,y,hy,b⟩:=h.opn n hn;exact⟨fun y hy j c=>a y ((hm _ _).mp hy) j (mem c (nz hy)),y,(hm _ _).mpr hy,CS _ b⟩
end
theorem Sr(ns:List Str):wl ns (fun _=>none)=ns:=DX.mpr fun _ _=>rfl
theorem Kz{D:List (Str×Mk)}{n:Str}:n∈Nv (D.map Kt)↔∃k,(n,some (true,k))∈D:=by
 unfold Nv;rw[AE];constructor
 .rintro⟨q,hq,rfl⟩;obtain⟨h1,h2⟩:=BF.mp hq;obtain⟨⟨m,a⟩,hm,rfl⟩:=AE.mp h1
  match a,hm,h2 with
  | some (true,k),hm,_=>exact⟨k,hm⟩
  | some (false,k),_,h2=>exact absurd (show decide (wOut=wIn)=true from h2) (by decide)
  | none,_,h2=>exact absurd (show decide (wOpen=wIn)=true from h2) (by decide)
 .rintro⟨k,hk⟩;exact⟨Kt (n,some (true,k)),BF.mpr ⟨AE.mpr ⟨_,hk,rfl⟩,rfl⟩,rfl⟩
theorem Tl{D:List (Str×Mk)}(nd:(D.map fun q=>q.1).Nodup):(Nv (D.map Kt)).Nodup:=by
 unfold Nv;refine List.Sublist.nodup (l₂:=(D.map Kt).map fun q=>q.1) (CN.map _) ?_;rw[AY];exact nd
theorem Vw{a b:Nat}(h:Sub a b)(h':Sub b a):a=b:=ED fun j=>CV.mpr ⟨h j,h' j⟩
theorem Gs{ns:List Str}{a b:Nat}(nd:ns.Nodup)(la:Low ns.length a):((setOf ns a).all fun x=>decide (x∈setOf ns b))=true↔Sub a b:=by
 rw[BU];constructor
 .intro h j hj;have jl:=la j hj;have e:ns[j]?=some ns[j]:=AH jl;obtain⟨k,hk,ek⟩:=mem_setOf.mp (AZ (h _ (mem_setOf.mpr ⟨j,hj,e⟩)));rw[(List.getElem?_inj (la j hj) nd).mp (e.trans ek.symm)];exact hk
 .intro h x hx;obtain⟨k,hk,e⟩:=mem_setOf.mp hx;exact AJ (mem_setOf.mpr ⟨k,h k hk,e⟩)
theorem Ss{ns:List Str}{a b:Nat}(nd:ns.Nodup)(la:Low ns.length a)(lb:Low ns.length b)(e:setOf ns a=setOf ns b):a=b:=by
 have h1:=(Gs (b:=b) nd la).mp (by rw[e];exact BU.mpr fun x hx=>AJ hx);have h2:=(Gs (b:=a) nd lb).mp (by rw[e];exact BU.mpr fun x hx=>AJ hx);exact Vw h1 h2
theorem j4{ns ss:List Str}(sub:ss.Sublist ns)(nd:ns.Nodup):(ns.filter fun n=>decide (n∈ss))=ss:=by
 induction sub with
 | slnil=>rfl
 | @cons l₁ l₂ a s ih =>
  obtain⟨h1,h2⟩:=DG.mp nd;rw[CT,AM (by simpa using fun z=>h1 (s.subset z)),ih h2]
 | @cons_cons l₁ l₂ a s ih =>
  obtain⟨h1,h2⟩:=DG.mp nd;rw[CT,AR (by simp)];congr 1;refine Eq.trans (List.filter_congr fun n hn=>?_) (ih h2);rw[CV,BS,BS,A_];exact⟨fun z=>z.resolve_left fun e=>h1 (e▸hn),.inr⟩
theorem Px{ns:List Str}{m j:Nat}{y:Str}(nd:ns.Nodup)(hj:ns[j]?=some y):m.testBit j=true↔y∈setOf ns m:=by
 rw[mem_setOf];refine⟨fun h=>⟨j,h,hj⟩,fun⟨k,hk,e⟩=>?_⟩;rw[(List.getElem?_inj (AG.mp hj).1 nd).mp (hj.trans e.symm)];exact hk
theorem Qi(p:Nat->Prop):∀n,∃m,Low n m/\∀j,j<n->(m.testBit j=true↔p j)
 | 0=>⟨0,Low.zero 0,fun j h=>absurd h (HF _)⟩
 | n+1=>by
  obtain⟨m,lo,h⟩:=Qi p n;by_cases c:p n
  .refine⟨m ||| 2^n,fun j hj=>?_,fun j hj=>?_⟩
   .rcases(Av m n j).mp hj with z | z
    .exact DD (lo j z)
    .omega
   .rw[Av];by_cases e:j=n
    .subst e;exact⟨fun _=>c,fun _=>.inr rfl⟩
    .rw[h j (by omega)];exact⟨fun z=>z.resolve_right e,.inl⟩
  .refine⟨m,fun j hj=>DD (lo j hj),fun j hj=>?_⟩;by_cases e:j=n
   .subst e;exact⟨fun z=>absurd (lo j z) (CQ _),fun z=>absurd z c⟩
   .exact h j (by omega)
theorem zBu{ns ss:List Str}(nd:ns.Nodup)(sub:ss.Sublist ns):∃m,Low ns.length m/\setOf ns m=ss:=by
 obtain⟨m,lo,h⟩:=Qi (fun j=>∃y∈ss,ns[j]?=some y) ns.length;refine⟨m,lo,?_⟩;rw[<-j4 (Ab ns m) nd]
 conv=>rhs;rw[<-j4 sub nd]
 refine List.filter_congr fun y hy=>?_;obtain⟨j,hj⟩:=List.mem_iff_getElem?.mp hy;rw[CV,BS,BS,<-Px nd hj,h j (AG.mp hj).1];refine⟨fun⟨z,hz,e⟩=>?_,fun hz=>⟨y,hz,hj⟩⟩;rw[hj]at e;cases e;exact hz
theorem Cg{ns rs:List Str}(nd:ns.Nodup)(srt:ns.Pairwise leS)(ndr:rs.Nodup)(srr:rs.Pairwise leS)(h:∀x∈rs,x∈ns):rs.Sublist ns:=by
 have e:rs=ns.filter fun x=>decide (x∈rs):=O3 srr (srt.sublist CN) ((CZ ndr (nd.sublist CN)).mpr fun x=>by
  rw[BF,BS];exact⟨fun z=>⟨h x z,z⟩,(·.2)⟩)
 rw[e];exact CN
def lld(ls:List (List Str)):PyData:=.list (ls.map sd)
theorem zEo{K:PySem.W.Frag}{H:Hp}{r:Addr}{ts:List (Addr×List Str)}(hr:H r=some (.lst (ts.map fun t=>V.ref t.1)))(ht:∀t∈ts,H t.1=some (.lst (t.2.map V.str))):Rp K H (lld (ts.map fun t=>t.2)) (.ref r):=by
 unfold lld;simp only[Rp];refine⟨r,_,rfl,SqL.of hr,?_⟩;clear hr
 induction ts with
 | nil=>simp[Rps]
 | cons t ts ih =>
  show Rps K H (sd t.2 ::(ts.map fun t=>t.2).map sd) (V.ref t.1::ts.map fun t=>V.ref t.1);simp only[Rps];exact⟨_,_,rfl,M0 (SqL.of (ht t (BE ..))),ih fun u hu=>ht u (AU _ hu)⟩
theorem zCy{ls:List (List Str)}(h:∀l∈ls,∀y∈l,K8 y=true):Pl (lld ls):=by
 have h1:∀ls:List (List Str),(∀l∈ls,∀y∈l,K8 y=true)->PyData.canLayAll0 (ls.map sd)=true/\PyData.depthAll (ls.map sd)<=10:=fun ls=>by
  induction ls with
  | nil=>exact fun _=>⟨rfl,by simp[PyData.depthAll]⟩
  | cons l ls ih =>
   intro h;obtain⟨i1,i2⟩:=ih fun u hu=>h u (AU _ hu);have p:=T7 (h l (BE ..));have d:(sd l).depth<=10:=by
    unfold sd;rw[PyData.depth];have:=g9 l;omega
   rw[BA,PyData.canLayAll0,PyData.depthAll,p.1,i1];exact⟨rfl,by omega⟩
 obtain⟨a,b⟩:=h1 ls h;refine⟨by unfold lld;rw[PyData.canLay0];exact a,?_⟩;unfold lld;rw[PyData.depth];omega
theorem Xv(x:List Str):∀zs:List (List Str),((zs.map sd).any fun z=>PyData.eqv z (sd x))=decide (x∈zs)
 | []=>by simp
 | z::r=>by
  rw[BA,FO,Xv x r,Xi];by_cases c:z=x
  .rw[AJ c,Bool.true_or];exact(AJ (by rw[c];exact BE ..)).symm
  .rw[AQ c,GX];exact GQ.mpr ⟨fun h=>AU _ h,fun h=>(A_.mp h).elim (fun e=>absurd e.symm c) id⟩
structure Lst(H:Hp)(ns:List Str)(r:Addr)(ts:List (Addr×List Str))(p:List Str->Prop):Prop where
 er:H r=some (.lst (ts.map fun t=>V.ref t.1))
 at_:∀t∈ts,H t.1=some (.lst (t.2.map V.str))
 srt:ts.Pairwise fun a b=>TS.lexB (TS.kyS b.2) (TS.kyS a.2)=false
 mem:∀s,s∈ts.map (fun t=>t.2)↔(∃m,Low ns.length m/\s=setOf ns m)/\p s
 nd:(ts.map fun t=>t.2).Nodup
 len:ts.length<=300
theorem Lst.same{H H':Hp}{ns:List Str}{r:Addr}{ts:List (Addr×List Str)}{p:List Str->Prop}(h:Lst H ns r ts p)(s:Same H H'):Lst H' ns r ts p:=⟨s _ _ h.er,fun t ht=>s _ _ (h.at_ t ht),h.srt,h.mem,h.nd,h.len⟩
theorem Lst.of{H0 H:Hp}{ns:List Str}{r:Addr}{ts:List (Addr×List Str)}{p:List Str->Prop}{Ms:List Nat}{Tg:Nat->Prop}(nd:ns.Nodup)(er:H r=some (.lst (ts.map fun t=>V.ref t.1)))(LL:LLn H0 H ts)(pm:(ts.map fun t=>t.2).Perm (Ms.map (setOf ns)))(srt:ts.Pairwise fun a b=>TS.lexB (TS.kyS b.2) (TS.kyS a.2)=false)
  (ndM:Ms.Nodup) (mm:∀m,m∈Ms↔Tg m) (tl:∀m,Tg m->Low ns.length m) (h:∀m,Low ns.length m->(Tg m↔p (setOf ns m))) (le:Ms.length<=300):Lst H ns r ts p:=by
 refine⟨er,LL.at_,srt,fun s=>?_,?_,?_⟩
 .rw[pm.mem_iff,AE];constructor
  .rintro⟨m,hm,rfl⟩;have t:=(mm m).mp hm;exact⟨⟨m,tl m t,rfl⟩,(h m (tl m t)).mp t⟩
  .rintro⟨⟨m,lo,rfl⟩,hp⟩;exact⟨m,(mm m).mpr ((h m lo).mpr hp),rfl⟩
 .refine pm.nodup_iff.mpr ?_;rw[List.Nodup,BW];exact(DY.mp ndM).imp fun{a b} ⟨ha,hb,n⟩ e=>n (Ss nd (tl a ((mm a).mp ha)) (tl b ((mm b).mp hb)) e)
 .have:=pm.length_eq;rw[AA,AA]at this;omega
section
variable{H:Hp}{ns:List Str}{r:Addr}{ts:List (Addr×List Str)}{p:List Str->Prop}
theorem Lst.get(h:Lst H ns r ts p){t:Addr×List Str}(ht:t∈ts):(∃m,Low ns.length m/\t.2=setOf ns m)/\p t.2:=(h.mem t.2).mp (AE.mpr ⟨t,ht,rfl⟩)
theorem Lst.sub(h:Lst H ns r ts p){t:Addr×List Str}(ht:t∈ts):t.2.Sublist ns:=by
 obtain⟨⟨m,_,e⟩,_⟩:=h.get ht;rw[e];exact Ab ns m
theorem Lst.nm(h:Lst H ns r ts p)(nmn:∀y∈ns,K8 y=true):∀l∈ts.map (fun t=>t.2),∀y∈l,K8 y=true:=fun l hl y hy=>by
 obtain⟨t,ht,rfl⟩:=AE.mp hl;exact nmn y ((h.sub ht).subset hy)
end
theorem zBf{ls:List (List Str)}(h:∀l∈ls,∀y∈l,K8 y=true):PyData.canLayAll0 (ls.map sd)=true:=by
 have:=(zCy h).1;unfold lld at this;rw[PyData.canLay0]at this;exact this
section
variable{K:PySem.W.Frag}
theorem Su{α:Type}{J:It}{ys:List α}{r:α->V}{a D:Addr}{H:Hp}{te:TE}{c:St}{v0:Option V}{Q:St->Hp->Prop}(as:AsSeq J (ys.map r) a H)(len:ys.length<=5000)(hD:H D=none)
  (he:∀y∈ys,∀G,Same H G->∀M:VK,(∀G',Same G G'->M (.bl true) G')->te (some (r y)::c) G M)
  (q:∀σ G (bs:List Bool),Same H G->G D=some (.lst (bs.map V.bl))->bs.all id=true->Q σ G):V0 (J5 0) S9 (R0 D te) J (v0::c) (upd H D (.lst [])) Q :=
 Op (fun _=>V.bl true) as (fun _=>true) len hD (fun y _ G sG M hM=>hM G fun b o e=>e) he fun σ G sG eG=>q σ G (ys.map fun _=>true) sG (by rw[eG,DX.mpr fun _ _=>rfl,AY];rfl) (BU.mpr fun b hb=>by
  obtain⟨_,_,rfl⟩:=AE.mp hb;rfl)
theorem zCn{xs rs:List Str}{a l D:Addr}{H:Hp}{v0:Option V}{Q:St->Hp->Prop}(hl:H l=some (.lst (xs.map V.str)))(ha:H a=some (.lst (rs.map V.str)))(len:xs.length<=5000)(hD:H D=none)
  (q:∀σ G,Same H G->G D=some (.lst ((xs.map fun x=>decide (x∈rs)).map V.bl))->Q σ G):V0 (J5 0) S9 (R0 D (tOp (rIn K false) (Bo 0) (Bo 1))) (Itl K l) [v0,some (.ref a)] (upd H D (.lst [])) Q :=
 Op (fun x=>V.bl (decide (x∈rs))) (asL (SqL.of hl)) (fun _=>true) len hD (fun y _ G sG M hM=>hM G fun b o e=>e) (fun y _ G sG M hM=>ex1 rfl (ex1 rfl (T2 (.inl (SqL.of (sG _ _ ha))) (hM G fun b o e=>e)))) fun σ G sG eG=>q σ G sG (by rw[eG,DX.mpr fun _ _=>rfl,AY];rfl)
end
section
variable{P:Program}{w:World}{K:PySem.W.Frag}{mg:Str->Option Value}{base:Heap}
theorem X4:FnScope ["_law_some", "_law_sets"] ["_law_some", "_law_sets"] (B5 s_law_within):=fsc
def Uh:Sp:=fun vs H Q _=>∃(a r:Addr) (xs:List Str) (ts:List (Addr×List Str)),vs = [.ref a,.ref r]/\H a=some (.lst (xs.map V.str))/\H r=some (.lst (ts.map fun t=>V.ref t.1))/\(∀t∈ts,H t.1=some (.lst (t.2.map V.str)))/\xs.length<=100/\ts.length<=300/\(∀t∈ts,∀x∈xs,x∈t.2)/\∀H',Same H H'->Q (.bl true) H'
theorem Ec(T:Tx K mg):FnOk P w K mg base CX0 1 T.aR.f T.aR.fd ["_law_some", "_law_sets"] Uh:=by
 have sc:=X4;refine T.aR.F.ok X4 (fun vs H Q E h=>?_) (fun cdv A outer s H vs Q E hr h=>?_)
 .obtain⟨a,r,xs,ts,rfl,_⟩:=h;rfl
 .obtain⟨a,r,xs,ts,rfl,ha,hr,ht,lx,lt,sub,q⟩:=h;refine⟨_,(B4 (B9 (E5 (Q9 K) T.av Q7 (A8 (Xw (N':=["_law_one", "_law_some"]) (cap:=[none,some 0]) (cl:=[("_law_some",_)]) (zEg (fun _=>⟨⟨rfl,rfl,rfl,rfl⟩,trivial⟩) ⟨rfl,trivial⟩) rfl (piL K (pv 1)) (fun _ _ _ _=>by exact⟨(pgD 0),C3,(E5 (Q9 K) T.av Q7 (A8 (J7 (N':=["_law_name", "_law_one"]) (cap:=[none,some 0]) (cl:=[("_law_one",_)]) (E7 ⟨⟨rfl,rfl,rfl,rfl⟩,trivial⟩ ⟨rfl,trivial⟩) rfl (piL K (pv 1)) (fun _ _ _ _=>by exact⟨(pgC 0),C3,(E4 (By K) (pv 0) (pv 1) rfl)⟩)) B2))⟩)) B2)))),?_⟩;refine ex1 rfl ⟨r,rfl,⟨_,SqL.of hr⟩,fun D hD=>?_⟩;refine Su (r:=fun t:Addr×List Str=>V.ref t.1) (asL (SqL.of hr)) (by omega) hD (fun t mt G sG M hM=>?_) fun σ' G bs sG eb ab=>⟨D,bs,rfl,SqL.of eb,by rw[ab];exact q G sG⟩;refine ex1 rfl ⟨a,rfl,⟨_,SqL.of (sG _ _ ha)⟩,fun D2 hD2=>?_⟩;refine zCn (sG _ _ ha) (sG _ _ (ht t mt)) (by omega) hD2 fun σ2 G2 s2 e2=>⟨D2,_,rfl,SqL.of e2,?_⟩;have e:((xs.map fun x=>decide (x∈t.2)).all id)=true:=by
   rw[FM,BU];exact fun x hx=>AJ (sub t mt x hx)
  rw[e];exact hM G2 s2
end
theorem Kp:∀{more acc:List (Key×V)},((acc++more).map fun k=>k.1).Nodup->w8 acc more=acc++more
 | [],acc,_=>(DB acc).symm
 | a::r,acc,h=>by
  have e:An acc a.1 a.2=acc ++ [a]:=by
   unfold An;rw[AM];rw[DQ];rintro⟨k,hk,c⟩;rw[AK]at h;exact(DT.mp h).2.2 k.1 (AE.mpr ⟨k,hk,rfl⟩) a.1 (AE.mpr ⟨a,BE ..,rfl⟩) (AZ c)
  show w8 (An acc a.1 a.2) r=_;rw[e,Kp (by rw[BI];exact h),BI];rfl
theorem Gy{g:Str->Str}:∀{ns:List Str} {n:Str},n∈ns->P8 (ns.map fun n=>((Sum.inr n:Key),V.str (g n))) (.inr n)=some (.str (g n))
 | x::r,n,h=>by
  rw[BA];by_cases e:x=n
  .subst e;exact J6 rfl
  .exact(J3 (by intro z;exact e (Sum.inr.inj z))).trans (Gy ((A_.mp h).resolve_left fun z=>e z.symm))
section
variable{P:Program}{w:World}{K:PySem.W.Frag}{mg:Str->Option Value}{base:Heap}
theorem X5:FnScope ["_law_rows", "_law_words", "_law_told"] ["_law_rows", "_law_words"] (B5 s_law_agrees):=fsc
def Tr:Sp:=fun vs H Q _=>∃(l d:Addr) (rs:List (Addr×Row)) (ps:List PA2) (ns:List Str) (g:Str->Str),vs = [.ref l,.ref d]/\RL H l rs/\LPIn H (d,ps)/\nw ps=ns.map (fun n=>(n,g n))/\ns.Nodup/\ns.length<=100/\rs.length<=100/\(∀q∈rs,q.2.1∈ns/\(q.2.2.1≠wOpen->g q.2.1=q.2.2.1))/\∀H',Same H H'->Q (.bl true) H'
set_option maxHeartbeats 2000000 in
theorem Dn(T:Tx K mg):FnOk P w K mg base CX0 1 T.aS.f T.aS.fd ["_law_rows", "_law_words"] Tr:=by
 have sc:=X5;refine T.aS.F.ok X5 (fun vs H Q E h=>?_) (fun cdv A outer s H vs Q E hr h=>?_)
 .obtain⟨l,d,rs,ps,ns,g,rfl,_⟩:=h;rfl
 .obtain⟨l,d,rs,ps,ns,g,rfl,hL,hP,eP,nd,ln,lr,hg,q⟩:=h;have hu:=T9 hr;refine⟨_,(B3 (C5 (i:=2) sc.nd rfl (.inr rfl) (Oh Xa T.bz Tu (A8 (pv 1) B2)))
   (B4 (B9 (E5 (Q9 K) T.av Q7 (A8 (J7 (N':=["_law_name", "_law_word", "_law_number", "_law_told"]) (cap:=[none,none,none,some 2]) (cl:=[("_law_told",_)]) (E7 ⟨⟨rfl,rfl,rfl,rfl⟩,trivial⟩ ⟨rfl,trivial⟩) rfl (piL K (pv 0)) (fun _ _ _ _=>by exact⟨(pgT K (n:=3) (C8 (pgC 0) (C8 (pgC 1) (C8 (pgC 2) P5)))),(O8 (C6 zBg (pv 1) I0 (D8 _))),(E4 T0 (F0 hu (pv 3) (pv 0) (fun _ _=>rfl)) (pv 1) (D8 _))⟩)) B2))))),?_⟩
  have lp:ps.length=ns.length:=by
   have:=congrArg List.length eP;unfold nw at this;rw[AA,AA]at this;exact this
  have ek:(ps.map fun q=>((Sum.inr q.2.1:Key),V.str q.2.2))=ns.map fun n=>((Sum.inr n:Key),V.str (g n)):=by
   have:=congrArg (List.map fun k:Str×Str=>((Sum.inr k.1:Key),V.str k.2)) eP;unfold nw at this;rw[AY,AY]at this;exact this
  refine B7 fun N1 hN1=>?_;refine ex1 rfl ⟨d,ps.map fun q=>(q.1,(Sum.inr q.2.1:Key),V.str q.2.2),rfl,by rw[AY];exact hP.1,fun z hz=>?_,by rw[AA];omega,fun dd hdd=>?_⟩
  .obtain⟨x,hx,rfl⟩:=AE.mp hz;exact hP.2 x hx
  have em:w8 [] ((ps.map fun q=>(q.1,(Sum.inr q.2.1:Key),V.str q.2.2)).map fun q=>q.2)=ns.map fun n=>((Sum.inr n:Key),V.str (g n)):=by
   rw[AY,<-ek,Kp]
   .rfl
   .rw[List.nil_append];show((ps.map fun q=>((Sum.inr q.2.1:Key),V.str q.2.2)).map fun k=>k.1).Nodup;rw[ek,AY];exact BW.mpr (nd.imp fun h z=>h (Sum.inr.inj z))
  rw[em];have ud:=Same.new (o:=.dK (ns.map fun n=>((Sum.inr n:Key),V.str (g n)))) hdd;have fd:(upd H dd (.dK (ns.map fun n=>((Sum.inr n:Key),V.str (g n))))) dd=some (.dK (ns.map fun n=>((Sum.inr n:Key),V.str (g n)))):=A9;generalize upd H dd (.dK (ns.map fun n=>((Sum.inr n:Key),V.str (g n))))=H1 at ud fd⊢;have L1:=hL.same ud;refine hN1 _ _ ?_;refine ex1 rfl ⟨l,rfl,⟨_,SqL.of L1.1⟩,fun D hD=>?_⟩;refine G0 (asL (K:=K) (SqL.of L1.1)) (fun i σ H3=>(∃v0 v1 v2,σ = [v0,v1,v2,some (.ref dd)])/\Same H1 H3/\∃bs:List Bool,H3 D=some (.lst (bs.map V.bl))/\bs.all id=true/\bs.length<=i)
   ⟨⟨_,_,_,rfl⟩,Same.new hD,[],A9,rfl,Nat.le_refl _⟩ (fun i σ H1 _ ⟨_,s1,_⟩=>s1.at l) ?_ ?_
  .rintro i σ H3 v N hx ⟨⟨v0,v1,v2,rfl⟩,s3,bs,e3,ab,lb⟩ hN;rw[AI]at hx;obtain⟨q,hq,rfl⟩:=BL.mp hx;have mq:=AV hq;have li:=(AG.mp hq).1;have ez:=L1.2 q mq;obtain⟨g1,g2⟩:=hg q mq;refine⟨q.1,ex1 rfl ⟨SqT.of (s3 _ _ ez),rfl,_,ex1 rfl ⟨_,ex1 rfl (C4 rfl rfl ?_)⟩⟩⟩;refine ex1 rfl ⟨rfl,ex1 rfl (U0 (fun c=>?_) (fun c=>?_))⟩
   .have c:q.2.2.1≠wOpen:=fun z=>by rw[z]at c;exact absurd c (by decide)
    refine ex1 rfl (ex1 rfl ⟨dd,_,rfl,.inl ⟨_,.inr q.2.1,.inl (s3 _ _ fd),rfl,(Gy g1).symm⟩,ex1 rfl ⟨rfl,?_⟩⟩);rw[g2 c,AJ rfl];refine⟨_,e3,by rw[AA,sizeLine_eq];omega,hN _ _ ⟨⟨_,_,_,rfl⟩,s3.upd hD,bs ++ [true],by rw[A9,AK];rfl,by rw[List.all_append,ab];rfl,by rw[BB];show _+1<=_;omega⟩⟩
   .exact hN _ _ ⟨⟨_,_,_,rfl⟩,s3,bs,e3,ab,by omega⟩
  .rintro σ H3 ⟨_,s3,bs,e3,ab,_⟩;refine⟨D,bs,rfl,SqL.of e3,?_⟩;rw[ab];exact q H3 (ud.trans s3)
end
theorem zBc{a b:List PA2}(h1:a.Pairwise leP)(h2:b.Pairwise leP)(h:(a.map fun q=>q.2).Perm (b.map fun q=>q.2)):(a.map fun q=>q.2)=b.map fun q=>q.2 :=
 List.Perm.eq_of_pairwise (le:=leK) (fun _ _ _ _=>Ux) (BW.mpr h1) (BW.mpr h2) h
abbrev zz8:Str := "zzzzzzzz"
theorem zDl{q r:PA2}(h:leS q.2.1 r.2.1)(n:q.2.1≠r.2.1):leP q r:=by
 show TS.pairLt (Ow r) (Ow q)=false;refine BO.mpr fun z=>?_;rcases TS.pairLt_iff.mp z with z | ⟨z,_⟩
 .exact h z
 .exact n (Lc z).symm
theorem zAf{K:PySem.W.Frag}{l D:Addr}{rs:List (Addr×Row)}{r:St}{v0:Option V}{H:Hp}{Q:St->Hp->Prop}(L:RL H l rs)(len:rs.length<=1000)(hD:H D=none)
  (h:∀σ (ps:List PA2) G,Same H G->G D=some (.lst (ps.map fun q=>V.ref q.1))->(∀q∈ps,G9 G q)->(ps.map fun q=>q.2)=rs.map (fun q=>(q.2.1,q.2.2.1))->Q σ G) :
  V0 (J5 0) S9 (R0 D (tSl (zHa K) (Bo 0) Qb (zDm (tC (V.int 2))))) (Itl K l) (v0::r) (upd H D (.lst [])) Q:=by
 refine G0 (asL (K:=K) (SqL.of L.1)) (fun i σ G=>(∃v,σ=v::r)/\Same H G/\∃ps:List PA2,G D=some (.lst (ps.map fun q=>V.ref q.1))/\(∀q∈ps,G9 G q)/\(ps.map fun q=>q.2) =(rs.take i).map (fun q=>(q.2.1,q.2.2.1)))
  ⟨⟨_,rfl⟩,Same.new hD,[],A9,fun q h=>absurd h BP,rfl⟩ (fun i σ G _ ⟨_,s,_⟩=>s.at l) ?_ ?_
 .rintro i σ G v N hx ⟨⟨v0,rfl⟩,sG,ps,eG,pG,mG⟩ hN;rw[AI]at hx;obtain⟨q,hq,rfl⟩:=BL.mp hx;have li:=(AG.mp hq).1;have eq:=sG _ _ (L.2 q (AV hq));have lp:=congrArg List.length mG;rw[AA,AA,AN]at lp;refine M9 (ex1 rfl (ex1 rfl ⟨q.1,_,rfl,SqT.of eq,?_,fun t ht=>?_⟩))
  .show ¬(HT.sIx 3 0 none=0/\HT.sIx 3 3 (some 2)=3);decide
  have ec:Ly [V.str q.2.1,V.str q.2.2.1,q.2.2.2] none (some 2) = [V.str q.2.1,V.str q.2.2.1]:=rfl;rw[ec];have u:=Same.new (o:=.tup [V.str q.2.1,V.str q.2.2.1]) ht;have nt:t≠D:=(B0 eG ht).symm;refine⟨_,u _ _ eG,by rw[AA,sizeLine_eq];omega,hN _ _ ⟨⟨_,rfl⟩,(sG.trans u).upd hD,ps ++ [(t,q.2.1,q.2.2.1)],by rw[A9,AK];rfl,fun z hz=>?_,by rw[AK,mG,take_succ hq,AK];rfl⟩⟩;rcases AO.mp hz with z' | z'
  .exact(B6 (Q8 (pG z z') eG (by intro y;cases y))).trans (u _ _ (pG z z'))
  .rw[AF.mp z'];exact(B6 nt).trans A9
 .rintro σ G ⟨_,sG,ps,eG,pG,mG⟩;rw[AA,BN]at mG;exact h σ ps G sG eG pG mG
theorem Vy(ns:List Str)(i:Nat):Ly (ns.map V.str) none (some ((i:Int)+1)) =(ns.take (i+1)).map V.str:=by
 unfold Ly;rw[HT.sIx_none,show((i:Int)+1) =((i+1:Nat):Int) by push_cast;rfl,HT.sIx_nat,ET,Nat.sub_zero,AA,<-List.map_take];congr 1;rw[<-HK,BN]
theorem zIe(ss:List Str):Ly (ss.map V.str) none (some 8) =(ss.take 8).map V.str:=Vy ss 7
section
variable{P:Program}{w:World}{K:PySem.W.Frag}{mg:Str->Option Value}{base:Heap}
theorem Ys:FnScope ["_law_script", "_law_k", "_law_left_here", "_law_names_here", "_law_strikes_here", "_law_web", "_law_rows", "_law_some", "_law_sets"] ["_law_script"] (B5 s_law):=fsc
def Lh(K:PySem.W.Frag):Sp:=fun vs H Q _=>∃(u:Addr) (xs:List Int),vs = [.ref u]/\SqL K H u (xs.map V.int)/\xs.length<=63/\∀H',Q (.bl true) H'
set_option maxHeartbeats 8000000 in
theorem zEc(T:Tx K mg){f:Addr}{fd:FuncData}(F:Fun K "law" "law" s_law f fd):FnOk P w K mg base CX0 20 f fd ["_law_script"] (Lh K):=by
 have G_law_left:=Jk (P:=P) (w:=w) (base:=base) T;have G_law_names:=Hm (P:=P) (w:=w) (base:=base) T;have G_law_size:=Jh (P:=P) (w:=w) (base:=base) T;have G_law_strikes:=Ca (P:=P) (w:=w) (base:=base) T;have G_Web___init__:=Je (P:=P) (w:=w) (base:=base) T;have G_law_within:=Ec (P:=P) (w:=w) (base:=base) T;have G_law_agrees:=Dn (P:=P) (w:=w) (base:=base) T;have G_rounds:=Hd (P:=P) (w:=w) (base:=base) T;have G_least:=Vq (P:=P) (w:=w) (base:=base) T;have G_is_whole:=Il (P:=P) (w:=w) (base:=base) T;have G_whole_sets:=b9 (P:=P) (w:=w) (base:=base) T;have G_tellings:=Kh (P:=P) (w:=w) (base:=base) T;have G_shows_least:=Bw (P:=P) (w:=w) (base:=base) T;have G_words_by:=z9 (P:=P) (w:=w) (base:=base) T;have sc:=Ys;refine F.ok Ys (fun vs H Q E h=>?_) (fun cdv A outer s H vs Q E hr h=>?_)
 .obtain⟨u,xs,rfl,_⟩:=h;rfl
 .obtain⟨u,xs,rfl,hS,hlen,q⟩:=h;have hu:=T9 hr;refine⟨_,(B3 (f9 PassesOwn.never rfl (zHr T.bu (A8 (E8 Z8 (E5 (Rv rfl) T.bK zDv (A8 B8 (A8 (E5 (Ad K) T.aT o7 (A8 (pv 0) B2)) B2))) B8) B2)) (J2 (i:=1) sc.nd rfl (.inl rfl))
   (B3 (C5 (i:=2) sc.nd rfl (.inl rfl) (C7 T.a5 G_law_left (Rm hr) (A8 (pv 0) (A8 (pv 1) B2))))
   (B3 (Fe (E8 Z8 (Q0 (ixL K) (pv 2) B8 (fun _ _=>rfl)) B8) (Rn (pv 2) B8 Es))
   (B3 (C5 (i:=3) sc.nd rfl (.inl rfl) (Lk (slL K) (C7 T.aY G_law_names (Rm hr) (A8 (pv 2) (A8 (C7 T.a6 G_law_size (Rm hr) (A8 (pv 2) B2)) B2))) Tq (Rf B8)))
   (B3 (C5 (i:=4) sc.nd rfl (.inl rfl) (C7 T.aP G_law_strikes (Rm hr) (A8 (pv 2) (A8 (pv 3) B2))))
   (B3 (C5 (i:=5) sc.nd rfl (.inl rfl) (Io T.bB G_Web___init__ (Rm hr) rfl T.bA T.bg .nil K0 (A8 (pv 3) (A8 (pv 4) B2))))
   (B3 (C5 (i:=6) sc.nd rfl (.inr rfl) (C7 T.a9 G_rounds (Rm hr) (A8 (pv 5) B2)))
   (B3 (C5 (i:=7) sc.nd rfl (.inl rfl) (C7 T.bh G_least (Rm hr) (A8 (pv 5) B2)))
   (B3 (K4 (PW.pt (Bs (C6 (Vu K hr.units) (pv 7) (E5 (X3 K) T.am I9 (A8 (J7 (N':=["_law_row"]) (cap:=[none]) (cl:=[]) (E7 trivial trivial) rfl (piL K (pv 6)) (fun _ _ _ _=>by exact⟨(pgC 0),(O8 (C6 T0 (Q0 (ixT K) (pv 0) B8 (fun _ _=>rfl)) I0 (D8 _))),(Q0 (ixT K) (pv 0) B8 (fun _ _=>rfl))⟩)) B2)) (D8 _)) (V4 (C6 Qu (C7 T.a3 G_is_whole (Rm hr) (A8 (pv 5) (A8 (pv 7) B2))) T5 (D8 _))))) (B4 (B9 T5)) D0)
   (B3 (C5 (i:=8) sc.nd rfl (.inr rfl) (C7 T.aH G_whole_sets (Rm hr) (A8 (pv 5) B2)))
   (B3 (K4 (PW.pt (Bs (C6 (w5 K hr.units) (pv 7) (pv 8) rfl) (V4 (S8 (K6 (C7 T.aR G_law_within (Rm hr) (A8 (pv 7) (A8 (pv 8) B2)))))))) (B4 (B9 T5)) D0)
   (B3 (K4 (C6 (Vu K hr.units) (Xw (N':=["_law_name", "_law_sets"]) (cap:=[none,some 8]) (cl:=[("_law_sets",_)]) (zEg (fun _=>⟨⟨rfl,rfl,rfl,rfl⟩,trivial⟩) ⟨rfl,trivial⟩) rfl (piL K (E5 (X3 K) T.am I9 (A8 (pv 3) B2))) (fun _ _ _ _=>by exact⟨(pgD 0),(O8 (K6 (E5 (Q9 K) T.av Q7 (A8 (J7 (N':=["_law_one", "_law_name"]) (cap:=[none,some 0]) (cl:=[("_law_name",_)]) (E7 ⟨⟨rfl,rfl,rfl,rfl⟩,trivial⟩ ⟨rfl,trivial⟩) rfl (piL K (pv 1)) (fun _ _ _ _=>by exact⟨(pgC 0),C3,(E4 (By K) (pv 1) (pv 0) rfl)⟩)) B2)))),(pv 0)⟩)) (pv 7) (D8 _)) (B4 (B9 T5)) D0)
   (B3 (K4 (PW.pt (Bs (S8 (K6 (E5 (Q9 K) T.av Q7 (A8 (J7 (N':=["_law_words", "_law_rows"]) (cap:=[none,some 6]) (cl:=[("_law_rows",_)]) (E7 ⟨⟨rfl,rfl,rfl,rfl⟩,trivial⟩ ⟨rfl,trivial⟩) rfl (piL K (C7 T.a4 G_tellings (Rm hr) (A8 (pv 5) B2))) (fun _ _ _ _=>by exact⟨(pgC 0),C3,(C7 T.aS G_law_agrees (Rm hr) (A8 (pv 1) (A8 (pv 0) B2)))⟩)) B2)))) (V4 (C6 Qu (C7 T.aM G_shows_least (Rm hr) (A8 (pv 5) (A8 (pv 6) B2))) T5 (D8 _))))) (B4 (B9 T5)) D0)
   (B3 (K4 (C6 (Vu K hr.units) (C7 T.aQ G_words_by (Rm hr) (A8 (pv 5) (A8 (pv 7) B2))) (E5 (Ks K) T.am I9 (A8 (J7 (N':=["_law_row"]) (cap:=[none]) (cl:=[]) (E7 trivial trivial) rfl (piL K (pv 6)) (fun _ _ _ _=>by exact⟨(pgC 0),C3,(Lk (slT K) (pv 0) Tq (Rf B8))⟩)) B2)) (D8 _)) (B4 (B9 T5)) D0)
   (B4 (K4 (C6 (Vu K hr.units) (C7 T.bh G_least (Rm hr) (A8 (Io T.bB G_Web___init__ (Rm hr) rfl T.bA T.bg .nil K0 (A8 (E8 Mq (pv 3) (S6 (A8 I0 B2))) (A8 (pv 4) B2))) B2)) (E8 Mq (pv 7) (S6 (A8 I0 B2))) (D8 _)) (B4 (B9 T5)) D0))))))))))))))))
   (B4 (B9 T5))),?_⟩
  refine⟨_,rfl,u,_,rfl,.inl hS,_,_,rfl,?_⟩;have hz:∀l:Int,0<=l->∃z:Nat,(if l <(6:Int)then l else 6)+1 =(z:Int)/\z<=11:=fun l h0=>by
   by_cases h1:l <(6:Int)
   .rw[AR h1];exact⟨l.toNat+1,by omega,by omega⟩
   .rw[AM h1];exact⟨7,by decide,by decide⟩
  obtain⟨z,ez,hz⟩:=hz ((xs.map V.int).length:Int) (by omega);refine C4 rfl rfl (ex1 (a:=(z:Int)) (congrArg (fun t=>[V.int t]) ez) ⟨by omega,by omega,?_⟩);rw[EW];refine Da (fun i σ H1=>(∃v1 v2 v3 v4 v5 v6 v7 v8,σ = [some (.ref u),v1,v2,v3,v4,v5,v6,v7,v8])/\Same H H1) ?_ ?_ ?_
  .exact⟨⟨_,_,_,_,_,_,_,_,rfl⟩,fun b o e=>e⟩
  .rintro i σ H0 hi ⟨⟨v1,v2,v3,v4,v5,v6,v7,v8,rfl⟩,s0⟩ D1 hD1 _;rw[Int.zero_add];refine zFv fun N1 hN1=>?_;refine ex1 rfl (ex1 rfl ⟨u,xs,i,rfl,(s0.at u).seqL hS,by omega,fun p H1 hp s1 L1=>?_⟩);refine hN1 _ _ (B7 fun N2 hN2=>?_);obtain⟨la0,lb0,e1,_⟩:=L1;refine ex1 rfl ⟨p,_,C4 rfl rfl ⟨SqL.of e1,rfl,_,_,rfl,rfl,ex1 rfl ⟨p,_,_,1,rfl,rfl,e1,rfl,?_⟩⟩⟩;have s2:Same H0 (upd H1 p (.lst (List.set [V.int la0,V.int lb0,V.int 0] 1 (V.int (lb0+800))))):=s1.upd hp;have L2:LeftAt (upd H1 p (.lst (List.set [V.int la0,V.int lb0,V.int 0] 1 (V.int (lb0+800))))) p 0:=⟨la0,lb0+800,A9,Int.le_refl _⟩;refine hN2 _ _ (B7 fun N3 hN3=>?_);refine ex1 rfl (ex1 rfl ⟨p,0,rfl,L2,by decide,fun sz H3 hsz k3 L3=>?_⟩);refine⟨p,_,sz,rfl,L3,by omega,by omega,fun n ss H4 hn k4 e4 l4 N4 z4 L4=>?_⟩;refine ex1 rfl ⟨n,_,rfl,SqL.of e4,fun n8 hn8=>?_⟩;have un:=Same.new (o:=.lst (Ly (ss.map V.str) none (some 8))) hn8;have e8:(upd H4 n8 (.lst (Ly (ss.map V.str) none (some 8)))) n8=some (.lst ((ss.take 8).map V.str)):=by rw[A9,zIe]
   have N5:V8 (ss.take 8):=⟨fun x hx=>N4.1 x (CB hx),N4.2.1.sublist (EE _ _),by rw[AN];omega⟩;have l8:(ss.take 8).length<=8:=by rw[AN];omega
   have z5:∀x∈ss.take 8,x≠ "zzzzzzzz"/\leS x "zzzzzzzz":=fun x hx=>z4 x (CB hx);have k5:Same H0 (upd H4 n8 (.lst (Ly (ss.map V.str) none (some 8)))):=fun b o e=>un _ _ (k4 b o (k3 b o (s2 b o e) (by simpa using B0 e hp)) (by simpa using B0 e hp));have L5:=L4.same un;generalize upd H4 n8 (.lst (Ly (ss.map V.str) none (some 8)))=H5 at e8 k5 L5⊢;clear e4 N4 z4 un;generalize ss.take 8=ss' at e8 N5 l8 z5;refine hN3 _ _ (B7 fun N4 hN4=>?_);refine ex1 rfl (ex1 rfl ⟨p,n8,_,ss',rfl,L5,by omega,e8,N5,by omega,fun a ps c6 G ha k6 eG pinG O5 hc6 L6=>?_⟩);have e4:=Sm1 k6 e8 (L5.ne e8);have s4:Same H0 G:=fun b o e=>k6 b o (k5 b o e) (by simpa using B0 e hp);clear L6 k6 L5 k5 e8;refine hN4 _ _ (B7 fun N5' hN5=>?_);refine ex1 rfl (ex1 rfl ?_);intro x dx nx ndx nex;have sx:Same G (upd (upd G dx (.own x)) x (.ins T.ab dx [])):=fun b o e=>by
    rw[B6 (B0 e nx),B6 (B0 e ndx)];exact e
   refine zEn (a:=x) (b:=dx) (c:=n8) (d:=ss') (e:=a) (f:=ps) rfl A9 (sx _ _ e4) N5 (sx _ _ eG) (J1 sx pinG) O5 fun ns qs H5 pn srn pq srq k5 W5=>⟨rfl,?_⟩;have s5:Same G H5:=fun b o e=>k5 b o (sx b o e) (by simpa using B0 e nx);have sH5:Same H0 H5:=s4.trans s5;have nmn:∀y∈ns,K8 y=true:=fun y hy=>N5.1 y (pn.mem_iff.mp hy);have ln:ns.length<=8:=by rw[pn.length_eq];exact l8
   have nd:=W5.ok.nd;have mem:=W5.ok.mem;have e5:=s5 _ _ e4;have d5:=s5 _ _ eG;have pin5:=J1 s5 pinG;have hin:∀y z,Y4 qs y z->y∈ns:=fun y z ⟨q,h,e,_⟩=>e▸(mem q h).1;refine hN5 _ _ (B7 fun N6 hN6=>?_);refine ex1 rfl ⟨x,ns,qs,rfl,W5,fun l rs H6 s6 hl L6 R6 lr6=>?_⟩;refine hN6 _ _ (B7 fun N7 hN7=>?_);refine ex1 rfl ⟨x,ns,qs,rfl,W5.same s6,fun g gs rr H7 s7 hg eg R7 pm7 sr7 lg7=>?_⟩;have er:rr=rs.map fun q=>q.2:=R7.one _ R6;subst er;obtain⟨Dm,eD,pD,gD⟩:=R6.marks (sr:=B1 qs) (fun f n=>Cr (f:=f) (n:=n)) (fun f n=>Hc (f:=f) (n:=n)) nd;rw[Sr]at pD;have hs:∀n y,y∈B1 qs n->y∈ns:=fun n y hy=>hin y n (strk_strikers.mp hy);have GD:Gd (B1 qs) Dm:=gD.gd pD fun n _ y hy=>hs n y hy;have ndD:(Dm.map fun q=>q.1).Nodup:=pD.nodup_iff.mpr nd;have mg:∀n,n∈gs↔∃k,(n,some (true,k))∈Dm:=fun n=>by rw[pm7.mem_iff,eD];exact Kz
   have ndg:gs.Nodup:=by rw[pm7.nodup_iff,eD];exact Tl ndD
   have gn:∀n∈gs,n∈ns:=fun n hn=>by
    obtain⟨k,hk⟩:=(mg n).mp hn;exact pD.mem_iff.mp (AE.mpr ⟨_,hk,rfl⟩)
   have gnm:∀y∈gs,K8 y=true:=fun y hy=>nmn y (gn y hy);have gW:y6 ns qs gs:=GD.whole ndD pD hin mg;have L7:=L6.same s7;have W7:=W5.same (s6.trans s7);have s7:=s6.trans s7;refine hN7 _ _ (B7 fun N8 hN8=>?_);have ep:(fun q:Addr×Row=>decide (V.str q.2.2.1=V.str wIn))=fun q=>decide (q.2.2.1=wIn):=funext fun q=>GQ.mpr ⟨V.str.inj,congrArg V.str⟩;refine ex1 rfl (ex1 rfl ⟨l,rfl,⟨_,SqL.of L7.1⟩,fun D hD=>?_⟩);refine Op (r:=fun q:Addr×Row=>V.ref q.1) (fun q=>V.str q.2.1) (asL (SqL.of L7.1)) (fun q=>decide (V.str q.2.2.1=V.str wIn)) (by omega) hD (fun y my G sG M hM=>?_) (fun y my G sG M hM=>?_) fun σ' H8 s8 e8=>?_
   .exact ex1 rfl ⟨y.1,_,C4 rfl rfl ⟨SqT.of (sG _ _ (L7.2 y my)),rfl,rfl,_,rfl,hM G fun b o e=>e⟩⟩
   .exact ex1 rfl ⟨y.1,_,C4 rfl rfl ⟨SqT.of (sG _ _ (L7.2 y my)),rfl,hM G fun b o e=>e⟩⟩
   have e8:H8 D=some (.lst ((Nv (rs.map fun q=>q.2)).map V.str)):=by
    rw[e8,ep];unfold Nv;rw[List.filter_map,AY,AY];rfl
   refine⟨D,_,rfl,SqL.of e8,fun m ms hm pmm srm=>?_⟩;have em:ms=gs:=O3 srm sr7 (pmm.trans pm7.symm);subst em;have s9:=s8.trans (Same.new (o:=.lst (ms.map V.str)) hm);have em:(upd H8 m (.lst (ms.map V.str))) m=some (.lst (ms.map V.str)):=A9;generalize upd H8 m (.lst (ms.map V.str))=H9 at s9 em⊢;have eg:=s9 _ _ eg;have L9:=L7.same s9;have W9:=W7.same s9;have s9:=s7.trans s9;refine Dl (M0 (SqL.of eg)) (M0 (SqL.of em)) (T7 gnm) ⟨_,rfl,X0 ?_⟩;refine ex1 rfl (ex1 rfl ⟨x,g,ms,ns,qs,rfl,W9,.inl (SqL.of eg),gn,lg7,ndg,nmn,fun b H10 hb s10=>?_⟩);have hb:b=true:=hb.mpr gW;subst hb;refine⟨true,true,rfl,rfl,_,rfl,X0 ?_⟩;have eg:=s10 _ _ eg;have L10:=L9.same s10;have W10:=W9.same s10;have s10:=s9.trans s10;clear em W9 L9 s9 W7 L7 s7 L6 s6;refine hN8 _ _ (B7 fun N9 hN9=>?_);have p8:2^ns.length<=2^8:=Nat.pow_le_pow_right (by decide) ln;have few8:∀{Tg:Tgt} {A B Ms:List Nat},(∀m,Tg ns.length A B m->Low ns.length m)->Ms.Nodup->(∀m,m∈Ms↔Tg ns.length A B m)->¬300<Ms.length:=fun{Tg A B Ms} tl ndM mm=>by
    have:=few ndM fun m hm=>tl m ((mm m).mp hm);omega
   refine ex1 rfl ⟨x,ns,qs,rfl,W10,by omega,fun A B Ms mA mB ndM mm=>⟨fun rW tW H11 le s11 hrW erW LW nrW pmW srtW=>?_,few8 (Tg:=Y6) (fun m h=>h.1.1) ndM mm⟩⟩;have LW:Lst H11 ns rW tW (y6 ns qs):=Lst.of nd erW LW pmW srtW ndM mm (fun m h=>h.1.1) (fun m lo=>Fo nd mA mB lo hin) le;have eg:=s11 _ _ eg;have L11:=L10.same s11;have W11:=W10.same s11;have s11:=s10.trans s11;clear W10 L10 s10;refine hN9 _ _ (B7 fun N10 hN10=>?_);have gin:ms∈tW.map fun t=>t.2:=by
    obtain⟨m,lo,e⟩:=zBu nd (Cg nd srn ndg sr7 gn);exact(LW.mem _).mpr ⟨⟨m,lo,e.symm⟩,gW⟩
   have gsub:∀t∈tW,∀y∈ms,y∈t.2:=fun t ht y hy=>by
    obtain⟨k,hk⟩:=(mg y).mp hy;exact GD.least pD (LW.get ht).2 y k hk
   refine ex1 rfl (ex1 rfl ⟨sd ms,_,M0 (SqL.of eg),.inl (zEo LW.er LW.at_),T7 gnm,zBf (LW.nm nmn),?_⟩);rw[AR rfl,Xv,AJ gin];refine⟨_,rfl,X0 ?_⟩;refine ex1 rfl (ex1 rfl ⟨g,rW,ms,tW,rfl,eg,LW.er,LW.at_,lg7,LW.len,gsub,fun H12 s12=>⟨_,rfl,X0 ?_⟩⟩);have eg:=s12 _ _ eg;have L12:=L11.same s12;have W12:=W11.same s12;have LW:=LW.same s12;have s12:=s11.trans s12;clear W11 L11 s11;refine hN10 _ _ (B7 fun N11 hN11=>?_);refine ex1 rfl ⟨n8,ss',rfl,SqL.of (s12 _ _ e5),fun m2 ns2 hm2 pm2 sr2=>?_⟩;have en:ns2=ns:=O3 sr2 srn (pm2.trans pn.symm);subst en;have u2:=Same.new (o:=.lst (ns2.map V.str)) hm2;have em2:(upd H12 m2 (.lst (ns2.map V.str))) m2=some (.lst (ns2.map V.str)):=A9;generalize upd H12 m2 (.lst (ns2.map V.str))=H13 at u2 em2⊢;refine⟨m2,rfl,⟨_,SqL.of em2⟩,fun D2 hD2=>?_⟩;refine Op (r:=V.str) V.str (asL (SqL.of em2)) (fun n=>tW.all fun t=>decide (n∈t.2)) (by omega) hD2 (fun y my G sG M hM=>?_) (fun y my G sG M hM=>ex1 rfl (hM G fun b o e=>e)) fun σ' H14 s14 e14=>?_
   .have LG:=LW.same (u2.trans sG);refine ex1 rfl ⟨rW,rfl,⟨_,SqL.of LG.er⟩,fun D3 hD3=>?_⟩;refine Op (r:=fun t:Addr×List Str=>V.ref t.1) (fun t=>V.bl (decide (y∈t.2))) (asL (SqL.of LG.er)) (fun _=>true) (by have:=LG.len;omega) hD3 (fun y _ G sG M hM=>hM G fun b o e=>e) (fun t mt G3 s3 M3 hM3=>ex1 rfl (ex1 rfl (T2 (.inl (SqL.of ((LG.same s3).at_ t mt))) (hM3 G3 fun b o e=>e)))) fun σ3 G3 s3 e3=>?_;have e3:G3 D3=some (.lst ((tW.map fun t=>decide (y∈t.2)).map V.bl)):=by
     rw[e3,DX.mpr fun _ _=>rfl,AY];rfl
    refine⟨D3,_,rfl,SqL.of e3,_,rfl,?_⟩;have:((tW.map fun t=>decide (y∈t.2)).all id)=tW.all fun t=>decide (y∈t.2):=by rw[FM];rfl
    rw[this];exact hM G3 s3
   have ef:(ns2.filter fun n=>tW.all fun t=>decide (n∈t.2))=ms:=by
    refine Eq.trans (List.filter_congr fun n hn=>?_) (j4 (Cg nd srn ndg sr7 gn) nd);rw[CV,BU,BS];constructor
    .intro h;obtain⟨t,ht,e⟩:=AE.mp gin;have:=AZ (h t ht);rw[e]at this;exact this
    .exact fun h t ht=>AJ (gsub t ht n h)
   rw[ef]at e14;have s14:=u2.trans s14;have eg:=s14 _ _ eg;have L14:=L12.same s14;have W14:=W12.same s14;have s14:=s12.trans s14;refine ex1 rfl (Dl (M0 (SqL.of e14)) (M0 (SqL.of eg)) (T7 gnm) ⟨_,rfl,X0 ?_⟩);clear em2 u2 e14 W12 L12 s12;refine hN11 _ _ (B7 fun N12 hN12=>?_);refine ex1 rfl ⟨x,ns2,qs,rfl,W14,ln,fun A' B' Ms' mA' mB' ndM' mm' rT tT H15 s15 hrT erT LT15 nrT pmT srtT=>?_⟩;have L15:=L14.same s15;have row:∀q∈rs,∃d∈Dm,q.2=Kt d:=fun q hq=>by
    have:q.2∈Dm.map Kt:=eD▸AE.mpr ⟨q,hq,rfl⟩;obtain⟨d,hd,e⟩:=AE.mp this;exact⟨d,hd,e.symm⟩
   refine⟨rT,rfl,⟨_,SqL.of erT⟩,fun D4 hD4=>?_⟩;have lT:tT.length<=300:=by
    have h1:=pmT.length_eq;rw[AA,AA]at h1;have h2:=few ndM' fun m hm=>((mm' m).mp hm).1.1;omega
   refine Su (r:=fun t:LP=>V.ref t.1) (asL (SqL.of erT)) (by omega) hD4 (fun t mt G sG M hM=>?_) fun σ' H16 bs s16 eb ab=>⟨D4,bs,rfl,SqL.of eb,?_⟩
   .have hw:nw t.2∈Ms'.map fun m=>Ep ns2 qs (setOf ns2 m):=pmT.mem_iff.mp (AE.mpr ⟨t,mt,rfl⟩);obtain⟨m,hm,e⟩:=AE.mp hw;have hm:=(mm' m).mp hm;have hW:=(Fo nd mA' mB' hm.1.1 hin).mp hm;refine ex1 rfl (ex1 rfl ⟨l,t.1,rs,t.2,ns2,wrd qs (setOf ns2 m),rfl,L15.same sG,Iv (LT15.at_ t mt) sG,e.symm,nd,by omega,lr6,fun q hq=>?_,hM⟩);obtain⟨⟨n,mk⟩,hd,e⟩:=row q hq;rw[e];refine⟨pD.mem_iff.mp (AE.mpr ⟨_,hd,rfl⟩),fun no=>?_⟩
    match mk,hd,no with
    | some (b,k),hd,_=>exact GD.word pD hW n b k hd
    | none,_,no=>exact absurd rfl no
   rw[ab];refine⟨_,rfl,X0 ?_⟩;have L16:=L15.same s16;have s16:=s15.trans s16;have eg:=s16 _ _ eg;have W16:=W14.same s16;have s16:=s14.trans s16;clear erT LT15 eb W14 L14 s14 L15;refine ex1 rfl (ex1 rfl ⟨x,l,true,ns2,qs,rs,Dm,rfl,W16,L16,eD,pD,nmn,fun H17 s17=>?_⟩);rw[GD.all ndD];refine⟨true,true,rfl,rfl,_,rfl,X0 ?_⟩;have L17:=L16.same s17;have eg:=s17 _ _ eg;have W17:=W16.same s17;have s17:=s16.trans s17;clear W16 L16 s16;refine hN12 _ _ (B7 fun N13 hN13=>?_);refine ex1 rfl (ex1 rfl ⟨x,g,ms,ns2,qs,rfl,W17,.inl (SqL.of eg),gn,fun lw hs2 H18 hlw s18 hh WL18=>?_⟩);have L18:=L17.same s18;have eg:=s18 _ _ eg;have W18:=W17.same s18;have s18:=s17.trans s18;clear W17 L17 s17;refine ex1 rfl ⟨l,rfl,⟨_,SqL.of L18.1⟩,fun D5 hD5=>?_⟩;refine zAf L18 (by omega) hD5 fun σ' ps2 H19 s19 e19 p19 m19=>⟨D5,ps2,rfl,SqL.of e19,p19,fun m3 ps3 hm3 pm3 sr3=>?_⟩;have u3:=s19.trans (Same.new (o:=.lst (ps3.map fun q=>V.ref q.1)) hm3);have WL20:=WL18.same u3;obtain⟨pw,ew,pinw,mw⟩:=WL20;have mw:(pw.map fun q=>q.2)=ns2.map fun n=>(n,wrd qs ms n):=mw.trans (FQ fun n _=>by rw[Xx hh]);have pin3:=J1 (Same.new (o:=.lst (ps3.map fun q=>V.ref q.1)) hm3) fun q hq=>p19 q (pm3.mem_iff.mp hq);have e3:(upd H19 m3 (.lst (ps3.map fun q=>V.ref q.1))) m3=some (.lst (P1 ps3)):=A9;generalize upd H19 m3 (.lst (ps3.map fun q=>V.ref q.1))=H20 at u3 ew pinw pin3 e3⊢;have ek:(ps3.map fun q=>q.2)=pw.map fun q=>q.2:=by
    refine zBc sr3 ?_ ?_
    .have:(pw.map fun q=>q.2).Pairwise fun k k'=>leS k.1 k'.1/\k.1≠k'.1:=by
      rw[mw,BW];exact(srn.and nd).imp fun h=>h
     exact(BW.mp this).imp fun h=>zDl h.1 h.2
    .refine(pm3.map _).trans ?_;rw[m19,mw];have h1:(rs.map fun q=>(q.2.1,q.2.2.1)) =(Dm.map fun q=>q.1).map fun n=>(n,wrd qs ms n):=by
      have:=congrArg (List.map fun r:Row=>(r.1,r.2.1)) eD;rw[AY,AY]at this;rw[AY];refine this.trans (FQ fun q hq=>?_);show(q.1,wdM q.2) =(q.1,wrd qs ms q.1);rw[GD.words ndD pD hin mg q hq]
     rw[h1];exact pD.map _
   have wok:∀q∈pw,PySem.PyData.strOk q.2.1=true/\PySem.PyData.strOk q.2.2=true:=fun q hq=>by
    have:q.2∈ns2.map fun n=>(n,wrd qs ms n):=mw▸AE.mpr ⟨q,hq,rfl⟩;obtain⟨n,hn,e⟩:=AE.mp this;rw[<-e];refine⟨Di (nmn n hn),?_⟩;obtain⟨⟨n',mk⟩,hd,e'⟩:=AE.mp (pD.mem_iff.mpr hn);cases e';show PySem.PyData.strOk (wrd qs ms n')=true;rw[GD.words ndD pD hin mg _ hd]
    match mk with
    | some (true,_)=>exact word_ok.1
    | some (false,_)=>exact word_ok.2.1
    | none=>exact word_ok.2.2
   have r1:=Ew (K:=K) ew pinw;have r2:=Ew (K:=K) e3 pin3;have ed:(ps3.map fun q=>pd q.2)=pw.map fun q=>pd q.2:=by
    have:=congrArg (List.map pd) ek;rw[AY,AY]at this;exact this
   rw[ed]at r2;refine Dl r1 r2 ⟨by rw[PyData.canLay0];exact Jp wok,by rw[PyData.depth];have:=Ay pw;omega⟩ ⟨_,rfl,X0 ?_⟩;have eg:=u3 _ _ eg;have W20:=W18.same u3;have s20:=s18.trans u3;clear e19 p19 m19 ew pinw pin3 e3 r1 r2 W18 L18 s18;refine hN13 _ _ ?_;refine ex1 rfl ⟨by show 1<=sizeLine;decide,fun z1 hz1=>?_⟩;have uz1:=Same.new (o:=.lst [.str zz8]) hz1;refine⟨n8,z1,ss'.map V.str,[.str zz8],rfl,rfl,uz1 _ _ (s20 _ _ e5),A9,by rw[AA,sizeLine_eq];show ss'.length+1<=_;omega,fun n9 hn9=>?_⟩;have u9:=uz1.trans (Same.new (o:=.lst (ss'.map V.str ++ [.str zz8])) hn9);have e9:(upd (upd H20 z1 (.lst [.str zz8])) n9 (.lst (ss'.map V.str ++ [.str zz8]))) n9=some (.lst ((ss' ++ [zz8]).map V.str)):=by rw[A9,AK];rfl
   generalize upd (upd H20 z1 (.lst [.str zz8])) n9 (.lst (ss'.map V.str ++ [.str zz8]))=H21 at u9 e9⊢;have eg:=u9 _ _ eg;have s21:=s20.trans u9;clear uz1 u9 W20 s20;have a21:=s21 _ _ d5;have pin21:=J1 s21 pin5;have zn:zz8∉ss':=fun h=>(z5 _ h).1 rfl;have N9:V8 (ss' ++ [zz8]):=⟨fun y hy=>(AO.mp hy).elim (N5.1 y) fun h=>by rw[AF.mp h];decide +kernel,DT.mpr ⟨N5.2.1,DI _ _,fun y hy z hz e=>zn (by rw[<-AF.mp hz,<-e];exact hy)⟩,by rw[BB];show ss'.length+1<=_;omega⟩;have O9:StrkOk (ss' ++ [zz8]) ps:=⟨fun q hq=>⟨CS _ (O5.nm q hq).1,CS _ (O5.nm q hq).2⟩,O5.nd,O5.len⟩;refine ex1 rfl ?_;intro x2 dx2 nx2 ndx2 nex2;have sx2:Same H21 (upd (upd H21 dx2 (.own x2)) x2 (.ins T.ab dx2 [])):=fun b o e=>by
    rw[B6 (B0 e nx2),B6 (B0 e ndx2)];exact e
   refine zEn (a:=x2) (b:=dx2) (c:=n9) (d:=ss' ++ [zz8]) (e:=a) (f:=ps) rfl A9 (sx2 _ _ e9) N9 (sx2 _ _ a21) (J1 sx2 pin21) O9 fun ns3 qs3 H22 pn3 srn3 pq3 srq3 k22 W22=>⟨rfl,?_⟩;have s22:Same H21 H22:=fun b o e=>k22 b o (sx2 b o e) (by simpa using B0 e nx2);refine⟨x2,ns3,qs3,rfl,W22,fun g2 gs2 rr2 H23 s23 hg2 eg2 R2 pmg srg lg2=>?_⟩;have s23:=s22.trans s23;have eg:=s23 _ _ eg;have s23:=s21.trans s23;have nd3:=W22.ok.nd;have mem3:=W22.ok.mem;have hin3:∀y z,Y4 qs3 y z->y∈ns3:=fun y z ⟨q,h,e,_⟩=>e▸(mem3 q h).1;obtain⟨D2,eD2,pD2,gD2⟩:=R2.marks (sr:=B1 qs3) (fun f n=>Cr (f:=f) (n:=n)) (fun f n=>Hc (f:=f) (n:=n)) nd3;rw[Sr]at pD2;have GD2:Gd (B1 qs3) D2:=gD2.gd pD2 fun n _ y hy=>hin3 y n (strk_strikers.mp hy);have ndD2:(D2.map fun q=>q.1).Nodup:=pD2.nodup_iff.mpr nd3;have zD:zz8∉Dm.map fun q=>q.1:=fun h=>zn (pn.mem_iff.mp (pD.mem_iff.mp h));have GM:Gd (B1 qs3) (Dm ++ [(zz8,some (true,1))]):=GD.more zD (fun y hy=>by
     obtain⟨q,hq,_,e⟩:=strk_strikers.mp hy;exact zn (e▸(O5.nm q (pq3.mem_iff.mp hq)).2)) (fun n y=>by
     rw[strk_strikers,strk_strikers];exact⟨fun⟨q,h,e⟩=>⟨q,pq.mem_iff.mpr (pq3.mem_iff.mp h),e⟩,fun⟨q,h,e⟩=>⟨q,pq3.mem_iff.mpr (pq.mem_iff.mp h),e⟩⟩) fun n y hy=>pD.mem_iff.mpr (hs n y hy)
   have pM:(D2.map fun q=>q.1).Perm ((Dm ++ [((zz8,some (true,1)):Str×Mk)]).map fun q:Str×Mk=>q.1):=by
    rw[AK];exact(pD2.trans pn3).trans ((pD.trans pn).symm.append_right _)
   have iM:=GM.ins GD2 (pM.nodup_iff.mp ndD2) pM;have mg2:∀n,n∈gs2↔n∈ms ++ [zz8]:=fun n=>by
    rw[pmg.mem_iff,eD2,Kz,<-y4,iM.mem_iff,y4,AO,mg n,AF];constructor
    .rintro⟨k,hk⟩;rcases AO.mp hk with h | h
     .exact .inl ⟨k,h⟩
     .cases AF.mp h;exact .inr rfl
    .rintro(⟨k,hk⟩ | rfl)
     .exact⟨k,CS _ hk⟩
     .exact⟨1,BT _ (AF.mpr rfl)⟩
   have ndg2:gs2.Nodup:=by rw[pmg.nodup_iff,eD2];exact Tl ndD2
   have zg:zz8∉ms:=fun h=>zn (pn.mem_iff.mp (gn _ h));have ndz:(ms ++ [zz8]).Nodup:=DT.mpr ⟨ndg,DI _ _,fun y hy z hz e=>zg (by rw[<-AF.mp hz,<-e];exact hy)⟩;have srz:(ms ++ [zz8]).Pairwise leS:=CJ.mpr ⟨sr7,DI _ _,fun y hy z hz=>by rw[AF.mp hz];exact(z5 y (pn.mem_iff.mp (gn y hy))).2⟩;have e2:gs2=ms ++ [zz8]:=O3 srg srz ((CZ ndg2 ndz).mpr mg2);subst e2;refine ex1 rfl ⟨by show 1<=sizeLine;decide,fun z2 hz2=>?_⟩;have uz2:=Same.new (o:=.lst [.str zz8]) hz2;refine⟨g,z2,ms.map V.str,[.str zz8],rfl,rfl,uz2 _ _ eg,A9,by rw[AA,sizeLine_eq];show ms.length+1<=_;omega,fun m4 hm4=>?_⟩;have u4:=uz2.trans (Same.new (o:=.lst (ms.map V.str ++ [.str zz8])) hm4);have e4':(upd (upd H23 z2 (.lst [.str zz8])) m4 (.lst (ms.map V.str ++ [.str zz8]))) m4=some (.lst ((ms ++ [zz8]).map V.str)):=by rw[A9,AK];rfl
   refine Dl (M0 (SqL.of (u4 _ _ eg2))) (M0 (SqL.of e4')) (T7 fun y hy=>(AO.mp hy).elim (gnm y) fun h=>by rw[AF.mp h];decide +kernel) ⟨_,rfl,X0 ?_⟩;exact hD1 _ _ ⟨⟨_,_,_,_,_,_,_,_,rfl⟩,s0.trans (sH5.trans (s23.trans u4))⟩
  .rintro σ H1 _;exact q H1
end
section
variable{K:PySem.W.Frag}{h:Heap}{mg:Str->Option Value}
def fn_mk{x:Str}{st:Stmt}{ps:List Str}{f:Addr}{oc:Value}{od an:Option Addr}{osl:Array (Option Value)}{kV doc pm cdv ct:Value}(X:K.In h)(G:h.Ns mainGlobals mg)(a:PySem.W.nsIn K mainGlobals x=some (some (.ref f)))
  (l:K.lookup f=some ⟨oc,od,.func (PySem.W.fnOf x x (P4 st) (O4 st) (B5 st) .none kV doc pm an cdv ct),osl⟩) (c:PySem.W.codeIn K cdv x=true) (k:PySem.W.keepIn K (.ref f)=true)
  (hb:∀(kV doc pm:Value) (an:Option Addr) (cdv ct:Value) (us:List Value),us.length=ps.length->bindArgs (PySem.W.fnOf x x (P4 st) (O4 st) (B5 st) .none kV doc pm an cdv ct) ⟨us,[]⟩=pure (ps.zip us)):Fn K mg x st ps :=
 ⟨f,_,fun_mk l c k,(fun_mk l c k).binds hb,PySem.W.mg_of X G a⟩
def mt_mk{C:Addr}{x q:Str}{st:Stmt}{ps:List Str}{f:Addr}{oc:Value}{od an:Option Addr}{osl:Array (Option Value)}{kV doc pm cdv ct:Value}(a:PySem.W.findIn K (.ref C) x=some (some (.ref f)))(i:PySem.W.isFn K (.ref f)=true)
  (l:K.lookup f=some ⟨oc,od,.func (PySem.W.fnOf x q (P4 st) (O4 st) (B5 st) .none kV doc pm an cdv ct),osl⟩) (c:PySem.W.codeIn K cdv q=true) (k:PySem.W.keepIn K (.ref f)=true)
  (hb:∀(kV doc pm:Value) (an:Option Addr) (cdv ct:Value) (us:List Value),us.length=ps.length->bindArgs (PySem.W.fnOf x q (P4 st) (O4 st) (B5 st) .none kV doc pm an cdv ct) ⟨us,[]⟩=pure (ps.zip us)):Mt K C x q st ps :=
 ⟨f,_,fun_mk l c k,(fun_mk l c k).binds hb,⟨a,i,k⟩⟩
theorem str_mk{x z:Str}{v:Value}(X:K.In h)(G:h.Ns mainGlobals mg)(a:PySem.W.nsIn K mainGlobals x=some (some v))(e:∃t,v = .str z t):∃t,mg x=some (.str z t):=by
 obtain⟨t,rfl⟩:=e;exact⟨t,PySem.W.mg_of X G a⟩
theorem int_mk{x:Str}{z:Int}{v:Value}(X:K.In h)(G:h.Ns mainGlobals mg)(a:PySem.W.nsIn K mainGlobals x=some (some v))(e:∃t,v = .int z t):∃t,mg x=some (.int z t):=by
 obtain⟨t,rfl⟩:=e;exact⟨t,PySem.W.mg_of X G a⟩
theorem len1{us:List Value}(h:us.length=1):∃a,us = [a]:=List.length_eq_one_iff.mp h
theorem len2{us:List Value}(h:us.length=2):∃a b,us = [a,b]:=by
 cases us with
 | nil=>cases h
 | cons a r=>obtain⟨b,rfl⟩:=len1 (Nat.succ.inj h);exact⟨a,b,rfl⟩
theorem len3{us:List Value}(h:us.length=3):∃a b c,us = [a,b,c]:=by
 cases us with
 | nil=>cases h
 | cons a r=>obtain⟨b,c,rfl⟩:=len2 (Nat.succ.inj h);exact⟨a,b,c,rfl⟩
theorem len4{us:List Value}(h:us.length=4):∃a b c d,us = [a,b,c,d]:=by
 cases us with
 | nil=>cases h
 | cons a r=>obtain⟨b,c,d,rfl⟩:=len3 (Nat.succ.inj h);exact⟨a,b,c,d,rfl⟩
theorem zGc{us:List Value}(h:us.length=5):∃a b c d e,us = [a,b,c,d,e]:=by
 cases us with
 | nil=>cases h
 | cons a r=>obtain⟨b,c,d,e,rfl⟩:=len4 (Nat.succ.inj h);exact⟨a,b,c,d,e,rfl⟩
theorem len6{us:List Value}(h:us.length=6):∃a b c d e f,us = [a,b,c,d,e,f]:=by
 cases us with
 | nil=>cases h
 | cons a r=>obtain⟨b,c,d,e,f,rfl⟩:=zGc (Nat.succ.inj h);exact⟨a,b,c,d,e,f,rfl⟩
theorem noattr_mk{C:Addr}{f:Str}(h:PySem.W.findIn K (.ref C) f=some none):NoAttr K C f:=h
end
theorem all_mk{l:PySem.W.OpenLaw}{w:World}{K:PySem.W.Frag}{h:Heap}{mg:Str->Option Value}{fa f:Addr}{oc:Value}{od an:Option Addr}{osl:Array (Option Value)}{kV doc pm cdv ct:Value}(X:K.In h)(G:h.Ns mainGlobals mg)(hfa:mg "law" = some (.ref fa))
  (T:Tx K mg) (a:PySem.W.nsIn K mainGlobals "law" = some (some (.ref f))) (lk:K.lookup f=some ⟨oc,od,.func (PySem.W.fnOf "law" "law" (P4 s_law) (O4 s_law) (B5 s_law) .none kV doc pm an cdv ct),osl⟩) (c:PySem.W.codeIn K cdv "law" = true) (k:PySem.W.keepIn K (.ref f)=true) :
  ∃fd:FuncData,(∀(s:Shared) (v:Value),BindsTo s fd ⟨[v],[]⟩ [("_law_script",v)])/\∀base:Heap,K.In base->base.Ns mainGlobals mg->FnOk l.prog w K mg base CX0 20 fa fd ["_law_script"] (Lh K):=by
 have e:=hfa.symm.trans (PySem.W.mg_of X G a);cases e;exact⟨PySem.W.fnOf "law" "law" (P4 s_law) (O4 s_law) (B5 s_law) .none kV doc pm an cdv ct,fun s v=>.of_eq rfl,fun base _ _=>zEc T (fun_mk lk c k)⟩
theorem walk{l:PySem.W.OpenLaw}{q:Program}{loose:List Str}{XP:(Str->Option Value)->Heap->Prop}{YP:World->Heap->Prop}{d:DefRec}{K:Params->PySem.W.Frag}(hn:l.most=some 63)(hdf:d.params.defaults = [])
  (hY:∀(w:World) (h:Heap),YP w h->(K w.params).In h)
  (F:∀(w:World) (mg:Str->Option Value) (fa:Addr) (h:Heap),(K w.params).In h->h.Ns mainGlobals mg->mg d.name=some (.ref fa) ->
   ∃fd:FuncData,(∀(s:Shared) (u:Value),BindsTo s fd ⟨[u],[]⟩ [("_law_script",u)])/\∀base:Heap,(K w.params).In base->base.Ns mainGlobals mg->FnOk l.prog w (K w.params) mg base CX0 20 fa fd ["_law_script"] (Lh (K w.params))) :
  PySem.W.WalkO q loose XP YP l.row.toRowW d [] (fun f vs=>PySem.call f vs) :=
 L2.walk_of (n:=63) (k:=20) (x := "_law_script") (CX:=fun _=>CX0) (sp:=fun w=>Lh (K w.params)) hn (by decide) hdf ⟨rfl,by decide,by decide⟩ hY F (fun _ _ a ns hl _ hS=>⟨a,ns,rfl,hS,hl,fun _=>rfl⟩) fun _ _ _ _ _ z=>z
end Sw
open PySem PySem.W PyProof.Rows
set_option maxRecDepth 100000 in
set_option maxHeartbeats 0 in
theorem PySem.Challenge.cw_strikeweave_k82_whole_least_within_all_holds : PySem.Challenge.rw_strikeweave_k82_whole_least_within_all.Holds := by
 w_on;o_law;k_head;(case hw=>w_witness2)
 k_fill
 refine Sw.walk (l:=PySem.Challenge.rw_strikeweave_k82_whole_least_within_all) rfl rfl (fun w h Y=>PySem.W.kIn_of Y) ?F
 case F =>
  intro w mg fa h KX G hmg;refine' Sw.all_mk KX G hmg (Sw.Tx.mk (Sw.fn_mk KX G ?a1 ?l2 ?c3 ?k4 (fun _ _ _ _ _ _ us hl=>by obtain⟨a,rfl⟩:=Sw.len1 hl;rfl))
   (Sw.fn_mk KX G ?a5 ?l6 ?c7 ?k8 (fun _ _ _ _ _ _ us hl=>by obtain⟨a,rfl⟩:=Sw.len1 hl;rfl))
   (Sw.fn_mk KX G ?a9 ?l10 ?c11 ?k12 (fun _ _ _ _ _ _ us hl=>by obtain⟨a,b,rfl⟩:=Sw.len2 hl;rfl))
   (Sw.fn_mk KX G ?a13 ?l14 ?c15 ?k16 (fun _ _ _ _ _ _ us hl=>by obtain⟨a,rfl⟩:=Sw.len1 hl;rfl))
   (Sw.fn_mk KX G ?a17 ?l18 ?c19 ?k20 (fun _ _ _ _ _ _ us hl=>by obtain⟨a,b,rfl⟩:=Sw.len2 hl;rfl))
   (Sw.fn_mk KX G ?a21 ?l22 ?c23 ?k24 (fun _ _ _ _ _ _ us hl=>by obtain⟨a,b,c,rfl⟩:=Sw.len3 hl;rfl))
   (Sw.fn_mk KX G ?a25 ?l26 ?c27 ?k28 (fun _ _ _ _ _ _ us hl=>by obtain⟨a,b,rfl⟩:=Sw.len2 hl;rfl))
   (Sw.fn_mk KX G ?a29 ?l30 ?c31 ?k32 (fun _ _ _ _ _ _ us hl=>by obtain⟨a,b,c,rfl⟩:=Sw.len3 hl;rfl))
   (Sw.fn_mk KX G ?a33 ?l34 ?c35 ?k36 (fun _ _ _ _ _ _ us hl=>by obtain⟨a,b,c,rfl⟩:=Sw.len3 hl;rfl))
   (Sw.fn_mk KX G ?a37 ?l38 ?c39 ?k40 (fun _ _ _ _ _ _ us hl=>by obtain⟨a,rfl⟩:=Sw.len1 hl;rfl))
   (Sw.fn_mk KX G ?a41 ?l42 ?c43 ?k44 (fun _ _ _ _ _ _ us hl=>by obtain⟨a,b,rfl⟩:=Sw.len2 hl;rfl))
   (Sw.fn_mk KX G ?a45 ?l46 ?c47 ?k48 (fun _ _ _ _ _ _ us hl=>by obtain⟨a,b,rfl⟩:=Sw.len2 hl;rfl))
   (Sw.fn_mk KX G ?a49 ?l50 ?c51 ?k52 (fun _ _ _ _ _ _ us hl=>by obtain⟨a,b,rfl⟩:=Sw.len2 hl;rfl))
   (Sw.fn_mk KX G ?a53 ?l54 ?c55 ?k56 (fun _ _ _ _ _ _ us hl=>by obtain⟨a,b,c,d,rfl⟩:=Sw.len4 hl;rfl))
   (Sw.fn_mk KX G ?a57 ?l58 ?c59 ?k60 (fun _ _ _ _ _ _ us hl=>by obtain⟨a,b,rfl⟩:=Sw.len2 hl;rfl))
   (Sw.fn_mk KX G ?a61 ?l62 ?c63 ?k64 (fun _ _ _ _ _ _ us hl=>by obtain⟨a,b,rfl⟩:=Sw.len2 hl;rfl))
   (Sw.fn_mk KX G ?a65 ?l66 ?c67 ?k68 (fun _ _ _ _ _ _ us hl=>by obtain⟨a,b,rfl⟩:=Sw.len2 hl;rfl))
   (Sw.fn_mk KX G ?a69 ?l70 ?c71 ?k72 (fun _ _ _ _ _ _ us hl=>by obtain⟨a,b,rfl⟩:=Sw.len2 hl;rfl))
   (Sw.fn_mk KX G ?a73 ?l74 ?c75 ?k76 (fun _ _ _ _ _ _ us hl=>by obtain⟨a,b,rfl⟩:=Sw.len2 hl;rfl))
   (Sw.fn_mk KX G ?a77 ?l78 ?c79 ?k80 (fun _ _ _ _ _ _ us hl=>by obtain⟨a,b,rfl⟩:=Sw.len2 hl;rfl))
   (Sw.fn_mk KX G ?a81 ?l82 ?c83 ?k84 (fun _ _ _ _ _ _ us hl=>by obtain⟨a,b,rfl⟩:=Sw.len2 hl;rfl))
   (Sw.fn_mk KX G ?a85 ?l86 ?c87 ?k88 (fun _ _ _ _ _ _ us hl=>by obtain⟨a,b,rfl⟩:=Sw.len2 hl;rfl))
   (Sw.fn_mk KX G ?a89 ?l90 ?c91 ?k92 (fun _ _ _ _ _ _ us hl=>by obtain⟨a,rfl⟩:=Sw.len1 hl;rfl))
   (Sw.fn_mk KX G ?a93 ?l94 ?c95 ?k96 (fun _ _ _ _ _ _ us hl=>by obtain⟨a,rfl⟩:=Sw.len1 hl;rfl))
   (Sw.fn_mk KX G ?a97 ?l98 ?c99 ?k100 (fun _ _ _ _ _ _ us hl=>by obtain⟨a,rfl⟩:=Sw.len1 hl;rfl))
   (Sw.fn_mk KX G ?a101 ?l102 ?c103 ?k104 (fun _ _ _ _ _ _ us hl=>by obtain⟨a,rfl⟩:=Sw.len1 hl;rfl))
   (Sw.fn_mk KX G ?a105 ?l106 ?c107 ?k108 (fun _ _ _ _ _ _ us hl=>by obtain⟨a,b,c,rfl⟩:=Sw.len3 hl;rfl))
   (Sw.fn_mk KX G ?a109 ?l110 ?c111 ?k112 (fun _ _ _ _ _ _ us hl=>by obtain⟨a,b,c,d,e,f,rfl⟩:=Sw.len6 hl;rfl))
   (Sw.fn_mk KX G ?a113 ?l114 ?c115 ?k116 (fun _ _ _ _ _ _ us hl=>by obtain⟨a,b,c,rfl⟩:=Sw.len3 hl;rfl))
   (Sw.fn_mk KX G ?a117 ?l118 ?c119 ?k120 (fun _ _ _ _ _ _ us hl=>by obtain⟨a,b,c,rfl⟩:=Sw.len3 hl;rfl))
   (Sw.fn_mk KX G ?a121 ?l122 ?c123 ?k124 (fun _ _ _ _ _ _ us hl=>by obtain⟨a,rfl⟩:=Sw.len1 hl;rfl))
   (Sw.fn_mk KX G ?a125 ?l126 ?c127 ?k128 (fun _ _ _ _ _ _ us hl=>by obtain⟨a,rfl⟩:=Sw.len1 hl;rfl))
   (Sw.fn_mk KX G ?a129 ?l130 ?c131 ?k132 (fun _ _ _ _ _ _ us hl=>by obtain⟨a,b,rfl⟩:=Sw.len2 hl;rfl))
   (Sw.fn_mk KX G ?a133 ?l134 ?c135 ?k136 (fun _ _ _ _ _ _ us hl=>by obtain⟨a,b,rfl⟩:=Sw.len2 hl;rfl))
   (Sw.fn_mk KX G ?a137 ?l138 ?c139 ?k140 (fun _ _ _ _ _ _ us hl=>by obtain⟨a,b,rfl⟩:=Sw.len2 hl;rfl))
   (Sw.fn_mk KX G ?a141 ?l142 ?c143 ?k144 (fun _ _ _ _ _ _ us hl=>by obtain⟨a,b,rfl⟩:=Sw.len2 hl;rfl))
   (Sw.fn_mk KX G ?a145 ?l146 ?c147 ?k148 (fun _ _ _ _ _ _ us hl=>by obtain⟨a,b,rfl⟩:=Sw.len2 hl;rfl))
   (Sw.fn_mk KX G ?a149 ?l150 ?c151 ?k152 (fun _ _ _ _ _ _ us hl=>by obtain⟨a,b,rfl⟩:=Sw.len2 hl;rfl))
   (Sw.fn_mk KX G ?a153 ?l154 ?c155 ?k156 (fun _ _ _ _ _ _ us hl=>by obtain⟨a,rfl⟩:=Sw.len1 hl;rfl))
   (Sw.fn_mk KX G ?a157 ?l158 ?c159 ?k160 (fun _ _ _ _ _ _ us hl=>by obtain⟨a,b,rfl⟩:=Sw.len2 hl;rfl))
   (Sw.fn_mk KX G ?a161 ?l162 ?c163 ?k164 (fun _ _ _ _ _ _ us hl=>by obtain⟨a,b,rfl⟩:=Sw.len2 hl;rfl))
   (Sw.fn_mk KX G ?a165 ?l166 ?c167 ?k168 (fun _ _ _ _ _ _ us hl=>by obtain⟨a,b,rfl⟩:=Sw.len2 hl;rfl))
   _
   ⟨?g170,?g171,?g172,?g173⟩
   (PySem.W.mg_of KX G ?q169)
   (Sw.noattr_mk ?n174)
   (Sw.noattr_mk ?n175)
   (Sw.noattr_mk ?n176)
   (Sw.noattr_mk ?n177)
   (Sw.noattr_mk ?n178)
   (Sw.noattr_mk ?n179)
   _
   _
   (L2.fun_mk ?l182 ?c183 ?k184)
   (L2.Fun.binds (L2.fun_mk ?l182 ?c183 ?k184) (fun _ _ _ _ _ _ us hl=>by obtain⟨a,b,rfl⟩:=Sw.len2 hl;rfl))
   ⟨?g185,?a180,?i181,?k186⟩
   (Sw.mt_mk ?a187 ?i188 ?l189 ?c190 ?k191 (fun _ _ _ _ _ _ us hl=>by obtain⟨a,b,rfl⟩:=Sw.len2 hl;rfl))
   (Sw.mt_mk ?a192 ?i193 ?l194 ?c195 ?k196 (fun _ _ _ _ _ _ us hl=>by obtain⟨a,b,rfl⟩:=Sw.len2 hl;rfl))
   (Sw.mt_mk ?a197 ?i198 ?l199 ?c200 ?k201 (fun _ _ _ _ _ _ us hl=>by obtain⟨a,b,rfl⟩:=Sw.len2 hl;rfl))
   (Sw.mt_mk ?a202 ?i203 ?l204 ?c205 ?k206 (fun _ _ _ _ _ _ us hl=>by obtain⟨a,b,rfl⟩:=Sw.len2 hl;rfl))
   (Sw.mt_mk ?a207 ?i208 ?l209 ?c210 ?k211 (fun _ _ _ _ _ _ us hl=>by obtain⟨a,b,rfl⟩:=Sw.len2 hl;rfl))
   (Sw.mt_mk ?a212 ?i213 ?l214 ?c215 ?k216 (fun _ _ _ _ _ _ us hl=>by obtain⟨a,b,rfl⟩:=Sw.len2 hl;rfl))
   (Sw.mt_mk ?a217 ?i218 ?l219 ?c220 ?k221 (fun _ _ _ _ _ _ us hl=>by obtain⟨a,b,rfl⟩:=Sw.len2 hl;rfl))
   (Sw.mt_mk ?a222 ?i223 ?l224 ?c225 ?k226 (fun _ _ _ _ _ _ us hl=>by obtain⟨a,b,rfl⟩:=Sw.len2 hl;rfl))
   _
   ⟨?g228,?g229,?g230,?g231⟩
   (PySem.W.mg_of KX G ?q227)
   (Sw.noattr_mk ?n232)
   (Sw.noattr_mk ?n233)
   (Sw.noattr_mk ?n234)
   (Sw.noattr_mk ?n235)
   _
   _
   (L2.fun_mk ?l238 ?c239 ?k240)
   (L2.Fun.binds (L2.fun_mk ?l238 ?c239 ?k240) (fun _ _ _ _ _ _ us hl=>by obtain⟨a,b,c,rfl⟩:=Sw.len3 hl;rfl))
   ⟨?g241,?a236,?i237,?k242⟩
   (Sw.mt_mk ?a243 ?i244 ?l245 ?c246 ?k247 (fun _ _ _ _ _ _ us hl=>by obtain⟨a,rfl⟩:=Sw.len1 hl;rfl))
   (Sw.mt_mk ?a248 ?i249 ?l250 ?c251 ?k252 (fun _ _ _ _ _ _ us hl=>by obtain⟨a,rfl⟩:=Sw.len1 hl;rfl))
   (Sw.mt_mk ?a253 ?i254 ?l255 ?c256 ?k257 (fun _ _ _ _ _ _ us hl=>by obtain⟨a,b,rfl⟩:=Sw.len2 hl;rfl))
   (Sw.mt_mk ?a258 ?i259 ?l260 ?c261 ?k262 (fun _ _ _ _ _ _ us hl=>by obtain⟨a,b,rfl⟩:=Sw.len2 hl;rfl))
   (Sw.mt_mk ?a263 ?i264 ?l265 ?c266 ?k267 (fun _ _ _ _ _ _ us hl=>by obtain⟨a,b,rfl⟩:=Sw.len2 hl;rfl))
   (Sw.int_mk KX G ?v268 ?e269)
   (Sw.str_mk KX G ?v270 ?e271)
   (Sw.int_mk KX G ?v272 ?e273)
   (PySem.W.mg_none_of KX G ?z274)
   (PySem.W.mg_none_of KX G ?z275)
   (PySem.W.mg_none_of KX G ?z276)
   (PySem.W.mg_none_of KX G ?z277)
   (PySem.W.mg_none_of KX G ?z278)
   (PySem.W.mg_none_of KX G ?z279)
   (PySem.W.mg_none_of KX G ?z280)
   (PySem.W.mg_none_of KX G ?z281)
   (PySem.W.mg_none_of KX G ?z282)
   (PySem.W.mg_none_of KX G ?z283)
   (PySem.W.mg_none_of KX G ?z284)
   (PySem.W.mg_none_of KX G ?z285)
   (PySem.W.mg_none_of KX G ?z286)
   (PySem.W.mg_none_of KX G ?z287)
   (PySem.W.mg_none_of KX G ?z288)
   (PySem.W.mg_none_of KX G ?z289)
   (PySem.W.mg_none_of KX G ?z290)
   (PySem.W.mg_none_of KX G ?z291)) ?aL ?lL ?cL ?kL
  case a1|l2|c3|k4|a5|l6|c7|k8|a9|l10|c11|k12|a13|l14|c15|k16|a17|l18|c19|k20|a21|l22|c23|k24|a25|l26|c27|k28|a29|l30|c31|k32|a33|l34|c35|k36|a37|l38|c39|k40|a41|l42|c43|k44|a45|l46|c47|k48|a49|l50|c51|k52|a53|l54|c55|k56|a57|l58|c59|k60|a61|l62|c63|k64|a65|l66|c67|k68|a69|l70|c71|k72|a73|l74|c75|k76|a77|l78|c79|k80|a81|l82|c83|k84|a85|l86|c87|k88|a89|l90|c91|k92|a93|l94|c95|k96|a97|l98|c99|k100|a101|l102|c103|k104|a105|l106|c107|k108|a109|l110|c111|k112|a113|l114|c115|k116|a117|l118|c119|k120|a121|l122|c123|k124|a125|l126|c127|k128|a129|l130|c131|k132|a133|l134|c135|k136|a137|l138|c139|k140|a141|l142|c143|k144|a145|l146|c147|k148|a149|l150|c151|k152|a153|l154|c155|k156|a157|l158|c159|k160|a161|l162|c163|k164|a165|l166|c167|k168|q169|g170|g171|g172|g173|n174|n175|n176|n177|n178|n179|a180|i181|l182|c183|k184|g185|k186|a187|i188|l189|c190|k191|a192|i193|l194|c195|k196|a197|i198|l199|c200|k201|a202|i203|l204|c205|k206|a207|i208|l209|c210|k211|a212|i213|l214|c215|k216|a217|i218|l219|c220|k221|a222|i223|l224|c225|k226|q227|g228|g229|g230|g231|n232|n233|n234|n235|a236|i237|l238|c239|k240|g241|k242|a243|i244|l245|c246|k247|a248|i249|l250|c251|k252|a253|i254|l255|c256|k257|a258|i259|l260|c261|k262|a263|i264|l265|c266|k267|v268=>k_is
  case e269=>exact⟨_,rfl⟩
  case v270=>k_is
  case e271=>exact⟨_,rfl⟩
  case v272=>k_is
  case e273=>exact⟨_,rfl⟩
  case z274|z275|z276|z277|z278|z279|z280|z281|z282|z283|z284|z285|z286|z287|z288|z289|z290|z291|aL|lL|cL|kL=>k_is
