import PyProof.Rows.All
import Wide.All
import OpenK.AllK
import Wide.FinOn
import PyProof.Rows.SortShellK
import KE.KSortTup
import Lean
import PyProof.EqAt
import PyProof.EqKinds
import PyProof.TupleCall
import PyProof.SetRoads
import PyProof.DictRoadsH
import PyProof.IsRules
import PyProof.CollectWalk
import PyProof.FactsAll.set
import PyProof.NeData
import PyProof.P3In
import PyProof.TupleOfSeq
import PyProof.ZipIter
import PyProof.Rows.ZipGen
import KE.KDictOf
import PyProof.AttrMissHeap
import PyProof.Rows.SumAny
import PyProof.DictIter
import PyProof.DictWalks
import PyProof.DictValues
import PyProof.ListRange
import PyProof.ListStr
import PyProof.DictTruth
import PySem.Challenge.RW_strikeweave_k42_granted
namespace PySem.W.Fast
def tw1380007956976720429:=0
def tw9157860728636471888:=0
def tw5521466914320441519:=0
def tw6763716376539045278:=0
def tw13526329415726443479:=0
def tw18161151321145246431:=0
def tw13127557090797691322:=0
def tw3664314271801907863:=0
def tw18081499846377699102:=0
def tw11452122469532763141:=0
def tw15406827814854019039:=0
def tw906373364584565971:=0
def tw10538657549120793075:=0
def tw9055850500071306830:=0
def tw11202207312524883481:=0
def tw8911977983542356006:=0
def tw3380958960806325229:=0
def tw10531444374110380304:=0
def tw4819549342666093718:=0
def tw8343120206646398175:=0
def tw15007071829092125825:=0
def tw5178646492441812503:=0
def tw986703406719206396:=0
def tw18334305259299476662:=0
def tw6952515276988283982:=0
def tw4044530507432036679:=0
def tw10481001473276750759:=0
def tw1588907064822431102:=0
def tw1385542038730231952:=0
def tw13502762655597157399:=0
def tw16825089962113980959:=0
def tw4824533679149997335:=0
def tw3673100334713342529:=0
def tw12838473797963012391:=0
def tw18422660344359992982:=0
def tw12947640429327315542:=0
def tw10572336072852268586:=0
def tw2913564125517918455:=0
def tw5120020363514850549:=0
def tw15184294155404566677:=0
def tw11428333521336898046:=0
def tw18389203165561324591:=0
def tw1069927158807600075:=0
def tw11499949613805161909:=0
def tw9326605352445541364:=0
def tw12109999535835361790:=0
def tw1080407089151747498:=0
def tw11575517974583616497:=0
def tw5647557833783822027:=0
def tw5878967202761847278:=0
def tw3069182281058581312:=0
def tw8656661103566875196:=0
def tw1167192432977747972:=0
def tw10912777584216379511:=0
def tw15888792561874974638:=0
def tw1508465724847129906:=0
def tw4626315368651522511:=0
def tw10596205694074597710:=0
def tw3944253865777287718:=0
def tw10084195089463587467:=0
def tw9808517857366614748:=0
def tw7011235384701321514:=0
def tw3609406863666298860:=0
def tw16941945697582495910:=0
def tw15689369522343888901:=0
def tw3911069283233429184:=0
def tw8224681595552746144:=0
def tw5829411783565756551:=0
def tw13121076910530129041:=0
def tw1514481113574642947:=0
def tw3805849113126663826:=0
def tw8377692024545576851:=0
def tw12318898150864237110:=0
def tw14349513526056581692:=0
def tw9963838805169590600:=0
def tw9500987304056339193:=0
def tw9273963460437343702:=0
def tw15079161917573648580:=0
def tw18207453893838757583:=0
def tw10614179228304782043:=0
def tw12067056762363044207:=0
def tw1603435327825111750:=0
def tw7784277304229043999:=0
def tw17767052696236503149:=0
def tw9299213308403036166:=0
def tw501868867899456783:=0
def tw2842997941645452621:=0
def tw12198698957897556396:=0
def tw483337696467205520:=0
def tw6734595960581598875:=0
def tw10695706412951830646:=0
def tw14545343404551592683:=0
def tw4529366043993273768:=0
def tw13726888731956239811:=0
def tw5227108948672288640:=0
def tw15846501761976180295:=0
def tw4050095930048061205:=0
def tw7306619138438424441:=0
def tw10964444498903995726:=0
def tw15466730377418884450:=0
def tw8512955166099639191:=0
def tw6964494566876847001:=0
def tw6828318149221397175:=0
def tw10823270581205252445:=0
def tw18228129792438517203:=0
def tw17714871736912203438:=0
def tw5566579116410651992:=0
def tw15119791980299938595:=0
def tw874114631739265933:=0
def tw3871469333313028522:=0
def tw10737274489837239865:=0
def tw8925240884778719140:=0
def tw17882121518788576487:=0
def tw11190277226376256122:=0
def tw5220656169102206329:=0
def tw4455862791841317543:=0
def tw12765629744298575735:=0
def tw17319405123614669622:=0
def tw12296868694059037745:=0
def tw3857133307858002108:=0
def tw7355675070117358254:=0
def tw16496425911763810003:=0
def tw567459453510901195:=0
def tw483482899328842177:=0
def tw2081653306976626187:=0
def tw3073175922171933579:=0
def tw1417033010425949727:=0
def tw18211577084059228910:=0
def tw9188926417594651116:=0
def tw13806370923264489936:=0
def tw15568463935434632542:=0
def tw4008221218626650922:=0
def tw2976642077015780889:=0
def tw2885113906553471376:=0
def tw8623615025856393612:=0
def tw3190020377330047727:=0
def tw13206161934513011539:=0
def tw9333037751791854965:=0
def tw13849611720298595667:=0
def tw15178171196711929420:=0
def tw7423464578648340835:=0
def tw5592948089714572744:=0
def tw8795464305152240863:=0
def tw4407240946886103324:=0
def tw264308001289794622:=0
def tw10237557799272439044:=0
def tw2033424726458530097:=0
def tw2297305369235472258:=0
def tw15166948214294968859:=0
def tw610181010169420809:=0
def tw16635399752056460835:=0
def tw15819654962552199273:=0
def tw10801915741508542515:=0
def tw693470880513551700:=0
def tw17715769889994033946:=0
def tw5290192917265454740:=0
def tw1421075496469067102:=0
def tw7040441777681545289:=0
def tw44769576559883962:=0
def tw13836112305663753087:=0
def tw11427527487641932344:=0
def tw2974404531500204055:=0
def tw1808247869955039656:=0
def tw8725055918384887114:=0
def tw3931780518099880528:=0
def tw6684948096791210150:=0
def tw6566044649407336253:=0
def tw2991125374718666405:=0
def tw500933719440966193:=0
def tw1676129948170472999:=0
def tw14441128025039477694:=0
def tw12626943731207881706:=0
def tw9286910205168876948:=0
def tw899286563830384017:=0
def tw13883728674005923078:=0
def tw10136657708901512161:=0
def tw10784055948599548165:=0
def tw14698624113938089560:=0
def tw11203885126792661683:=0
def tw2881766329542991407:=0
def tw1740229323656636990:=0
def tw4472620410091850125:=0
def tw9338414960240862033:=0
def tw1830172285723928248:=0
def tw15553771208716001222:=0
def tw4711935101401418091:=0
def tw3393474963382031112:=0
def tw6311193293558592940:=0
def tw12694416164828150135:=0
def tw10906153782721387043:=0
def tw12650994124560236552:=0
def tw1826154436073789764:=0
def tw2788629472666713607:=0
def tw10069210669837546038:=0
def tw12591100145916477629:=0
def tw3140929705263481062:=0
def tw172886892659116064:=0
def tw10250764298360490807:=0
def tw4635875091778030171:=0
def tw17138444760838504033:=0
def tw856467700052172613:=0
def tw3005503391587083238:=0
def tw3785570132615158434:=0
def tw1437462156516565953:=0
def tw14084800716603580995:=0
def tw489857754167200030:=0
def tw15535307345018459574:=0
def tw12687126354450980145:=0
def tw6614325672996250427:=0
def tw16436457169249303221:=0
def tw12799875941329536945:=0
def tw14944475535420001461:=0
def tw2536560249763812286:=0
def tw17637187330525059349:=0
def tw11767552559524331915:=0
def tw16360073251707461632:=0
def tw17555993025436332005:=0
def tw2694762820082151891:=0
def tw2788091667386259935:=0
def tw14613960825810920252:=0
def tw10608942772237414186:=0
def tw14613875461142531758:=0
def tw6403528377375107194:=0
def tw6530167842517881640:=0
def tw5126169143406399833:=0
def tw16556169628829335453:=0
def tw14045826775159363738:=0
def tw11195842490204347180:=0
def tw250256167953211547:=0
def tw5028473941890578674:=0
def tw17044085650087867261:=0
def tw4710477383670153798:=0
def tw17523339063424795787:=0
def tw10132313486712415339:=0
def tw5388875975617683107:=0
def tw5410163968911868880:=0
def tw13350819197895351556:=0
def tw1071162083552153:=0
def tw4083162605165889497:=0
def tw12103058115053846945:=0
def tw4196705291435053414:=0
def tw438580386141518867:=0
def tw14928790241429293889:=0
def tw4474074961068736306:=0
def tw14833010805487379774:=0
def tw3385556079012431256:=0
def tw6081845218187561877:=0
def tw4755392345591741704:=0
def tw6027010079862353186:=0
def tw7873557241255912507:=0
def tw10256861902658602206:=0
def tw13456977151660675696:=0
def tw15362693632000676266:=0
def tw2875532621142884698:=0
def tw4760166713400466099:=0
def tw10044942741581625360:=0
def tw10330665190616088731:=0
def tw5151334152915277942:=0
def tw2121263270984163285:=0
def tw10636997670162731362:=0
def tw3289688660688173240:=0
def tw3616193667685113951:=0
def tw10777247107167910670:=0
def tw18408589157391348560:=0
def tw10645895232803535454:=0
def tw3715417593295655811:=0
def tw18064079792935804767:=0
def tw14414632974029508578:=0
def tw11937008180972757653:=0
def tw13085363400333681322:=0
def tw10418635860361345759:=0
def tw10991460822378351981:=0
def tw4250701001030941283:=0
def tw1538691527953144594:=0
def tw6686103273335842353:=0
def tw17625987899754805188:=0
def tw17294792000244628733:=0
def tw385585750194514639:=0
def tw7268724570378782282:=0
def tw4971319646164837911:=0
def tw16715851187200316871:=0
def tw8257162582423082048:=0
def tw13163949639608350534:=0
def tw16487788170825091636:=0
def tw10895872498577251229:=0
def tw6737829593049596472:=0
def tw12108991265734137503:=0
def tw15064019055952103342:=0
def tw3823119502195994524:=0
def tw4442452882324970678:=0
def tw10817404623952262963:=0
def tw13513677976568181625:=0
def tw3079689042831729708:=0
def tw12775504453257669059:=0
def tw6519875017786507027:=0
def tw1701303432515555082:=0
def tw17707285499274536001:=0
def tw5915571139940453363:=0
def tw96908214196082212:=0
def tw16815502019799971946:=0
def tw13245771073260550530:=0
def tw13646069985772099599:=0
def tw5411294094480534701:=0
def tw17761673990060367180:=0
def tw14193359110387977635:=0
def tw3814664053436939300:=0
def tw13270970723439045455:=0
def tw6952886337316380623:=0
def tw5720073834230636691:=0
def tw6989611350934211377:=0
def tw6050234985880397341:=0
def tw4121721318142790922:=0
def tw2443549632440898479:=0
def tw7556951185463575696:=0
def tw12960384217713852162:=0
def tw15035561119861376179:=0
def tw1519641607946917050:=0
def tw15664206527868437699:=0
def tw8288723430947935966:=0
def tw702906841804144126:=0
def tw6080021256095433101:=0
def tw2693781441080904857:=0
def tw11152923007970703209:=0
def tw16931004515944042250:=0
def tw12432815032294344169:=0
def tw12252104292251570920:=0
def tw7176653544072536727:=0
def tw3797738501110849537:=0
def tw3270191046466153515:=0
def tw1848888731072158953:=0
def tw11861276290447564859:=0
def tw14003585286818435898:=0
def tw15307783917069111564:=0
def tw8491892179331361679:=0
def tw18288973585875343925:=0
def tw14248471788840792738:=0
def tw7379075038331232761:=0
def tw7696069795146178277:=0
def tw11619376856508605262:=0
def tw17674861544103652181:=0
def tw16430452531830660056:=0
def tw1796407179114999253:=0
def tw9138525301076671535:=0
def tw7776380113396114865:=0
def tw8093106127631134900:=0
def tw9207924959990118609:=0
def tw14927879731974423185:=0
def tw4615442386898277819:=0
def tw6746183058175718470:=0
def tw14787788581852812642:=0
def tw14198253839625674439:=0
def tw3252053821510763768:=0
def tw6837303618869651677:=0
def tw139503850508685567:=0
def tw9186884490859824129:=0
def tw12501043532004864031:=0
def tw9341214833239252960:=0
def tw14727521895460446826:=0
def tw9161777237346846971:=0
def tw9941957697069159408:=0
def tw11746442641089200906:=0
def tw14585447038928130497:=0
def tw17124133649638071809:=0
def tw12094298669412534977:=0
def tw2698482272575353011:=0
def tw3012227824786480054:=0
def tw8707033944631503038:=0
def tw16122503756273663331:=0
def tw5112146529607858361:=0
def tw8402152023369017962:=0
def tw6075742100123789813:=0
def tw7598936361109927840:=0
def tw14548012769817662666:=0
def tw18143699010170191987:=0
def tw13772596700379361360:=0
def tw3539700792605196024:=0
def tw17394304960226039539:=0
def tw6704346491322754104:=0
def tw1831303837520503935:=0
def tw17794519448120071414:=0
def tw17437357903617216446:=0
def tw8706831076105374259:=0
def tw5108508645836947199:=0
def tw11541244220036556323:=0
def tw15264215445652192407:=0
def tw1801563249875976277:=0
def tw5200092786088718584:=0
def tw3518680702504667111:=0
def tw7906671403375537850:=0
def tw10840688548164549093:=0
def tw584347045858634073:=0
def tw2625692546065178901:=0
def tw1445786441444651536:=0
def tw10699294993126188519:=0
def tw15557012335728854476:=0
def tw11888222752947665225:=0
def tw15902230162383104357:=0
def tw14148560357822453324:=0
def tw1423379966373274167:=0
def tw7716937476171222728:=0
def tw10544826430893708219:=0
def tw11641613889468525646:=0
def tw7031238299204266270:=0
def tw9640256198476937238:=0
def tw6517884908430485440:=0
def tw8005980003071572176:=0
def tw5514469726165557968:=0
def tw9532233483162412256:=0
def tw539792711610850159:=0
def tw227334526191704403:=0
def tw3183597367686060638:=0
def tw10463612273570096237:=0
def tw3940305134237810878:=0
def tw6387617000127598284:=0
def tw10224373308657302209:=0
def tw13034820299000681191:=0
def tw12547182615502169938:=0
def tw11307547789082601486:=0
def tw14483740904468312944:=0
def tw7786092371200846695:=0
def tw12084787925000604733:=0
def tw6633409950684521535:=0
def tw983324128423403068:=0
def tw3053741112947499549:=0
def tw6549743532565034046:=0
end PySem.W.Fast
set_option autoImplicit false
set_option genSizeOf false
set_option genSizeOfSpec false
set_option bootstrap.genMatcherCode false
set_option compiler.extract_closed false
set_option linter.all false
set_option maxRecDepth 100000
section
open PySem PySem.Spec PyProof.Rows
abbrev A1:=@List
abbrev A2:=Value
abbrev A3:=Addr
abbrev A4:=Shared
abbrev A5:=@Option
abbrev A7:=Program
abbrev CM:=Keyed
abbrev CW:=@Array
abbrev F8:=World
abbrev IJ:=SortSt
abbrev IM:=Heap
abbrev IQ:=Expr
abbrev IR:=Around
abbrev IY:=SetTable
abbrev I7:=Stmt
abbrev JA:=FuncData
abbrev JH:=Scope
abbrev KB:=SortKind
abbrev KH:=NameKind
abbrev PR:=Env
end
section
open PySem PySem.Spec PyProof.Rows
def AA:=@wpAny_bind
def AB:=@List.length_map
def AC:=@List.getElem?_eq_getElem
def AD:=@List.mem_singleton
def AE:=@List.getElem?_eq_some_iff
def AF:=@wpAny_pure
def AG:=@Heap.get?_push_of_some
def AH:=@List.getElem?_map
def AI:=@List.mem_of_getElem?
def AJ:=@if_neg
def AK:=@List.mem_cons
def AL:=@if_pos
def AM:=@Heap.lt_size
def AN:=@List.map_append
def AO:=@List.mem_append
def AQ:=@Option.map_eq_some_iff
def AR:=@List.length_cons
def AS:=@Heap.get?_push_size
def AU:=@Array.length_toList
def AV:=@List.size_toArray
def AW:=@List.length_append
def AX:=@List.mem_map
def AY:=@List.getD_eq_getElem?_getD
def AZ:=@List.length_take
def A_:=@Bool.false_eq_true
def BA:=@Bool.false_ne_true
def BB:=@decide_eq_true
def BC:=@List.mem_filter
def BD:=@List.mem_cons_of_mem
def BE:=@List.append_assoc
def BF:=@decide_eq_false
def BG:=@List.mem_append_right
def BH:=@Option.some.inj
def BI:=@Nat.ne_of_lt
def BJ:=@Nat.lt_of_lt_of_le
def BK:=@List.map_cons
def BL:=@List.map_map
def BM:=@List.length_filter_le
def BN:=@decide_eq_true_iff
def BO:=@List.mem_cons_self
def BP:=@Array.getElem?_toList
def BQ:=@List.take_length
def BR:=@Array.toList_append
def BS:=@Nat.eq_of_testBit_eq
def BT:=@List.take_append_drop
def BU:=@List.append_nil
def BV:=@of_decide_eq_true
def BW:=@Bool.and_eq_true
def BX:=@List.nodup_cons
def BZ:=@List.length_range
def B_:=@wpAny_mono
def CA:=@wpAny_holding
def CB:=@List.mem_range
def CC:=@Bool.eq_iff_iff
def CD:=@List.not_mem_nil
def CF:=@Nat.testBit_two_pow
def CG:=@List.mem_flatten
def CH:=@List.mem_of_mem_take
def CI:=@wpAny_setState_of
def CJ:=@Heap.get?_update_other
def CK:=@Int.toNat_natCast
def CL:=@Nat.zero_le
def CN:=@Array.getD_eq_getD_getElem?
def CO:=@List.pairwise_append
def CP:=@List.mem_append_left
def CQ:=@Nat.testBit_zero
def CS:=@List.pairwise_map
def CT:=@List.perm_append_comm
def CU:=@Nat.lt_irrefl
def CV:=@List.filter_sublist
def CY:=@if_false
def CZ:=@Nat.zero_testBit
def C_:=@Nat.testBit_and
def DA:=@List.take_of_length_le
def DB:=@Bool.eq_false_iff
def DC:=@Heap.get?_update_self
def DD:=@wpAny_call_entry
def DE:=@Array.getElem?_eq_some_iff
def DF:=@Nat.testBit_succ
def DG:=@List.findSome?_eq_none_iff
def DH:=@Array.toList_push
def DI:=@wpAny_truthy_bool
def DJ:=@wpAny_newObj_type
def DK:=@List.nodup_append
def DL:=@Nat.le_of_lt
def DM:=@Heap.size_push
def DN:=@wpAny_seqItems
def DP:=@List.getElem?_take_of_lt
def DQ:=@List.filter_cons
def DR:=@List.filterMap_cons
def DT:=@Heap.SameBut.update
def DU:=@List.Perm.append_left
def DV:=@List.getElem?_cons_succ
def DW:=@List.getElem?_append_right
def DX:=@Nat.testBit_or
def DY:=@Bool.or_eq_true
def DZ:=@List.Perm.append_right
def D_:=@List.length_drop
def EA:=@List.getElem?_append_left
def EB:=@List.replicate_succ
def EC:=@Nat.lt_succ_of_lt
def ED:=@List.flatten_cons
def EE:=@Option.isSome_iff_exists
def EF:=@wpAny_ite_false
def EG:=@wpAny_rule
def EH:=@List.all_eq_true
def EI:=@wpAny_callSpecial?_slot
def EJ:=@Bool.false_and
def EK:=@List.map_nil
def EL:=@Nat.add_le_add_left
def EM:=@List.map_eq_nil_iff
def EN:=@Nat.le_succ
def EO:=@List.length_nil
def EQ:=@List.range_succ
def ER:=@List.drop_eq_getElem_cons
def ES:=@List.extract_eq_take_drop
def ET:=@List.getElem?_eq_none
def EU:=@Nat.le_add_right
def EV:=@List.mem_filterMap
def EW:=@Nat.lt_succ_self
def EX:=@wpAny_Call_Name_kw
def EY:=@List.filter_append
def EZ:=@Bool.not_true
def E_:=@List.filterMap_cons_some
def FA:=@List.mem_of_mem_drop
def FB:=@Array.toList_extract
def FC:=@wpAny_field
def FD:=@List.take_sublist
def FE:=@List.find?_cons
def FF:=@List.drop_eq_nil_of_le
def FG:=@Nat.zero_add
def FH:=@Array.getElem?_eq_none
def FI:=@wpAny_standAt
def FJ:=@List.drop_drop
def FK:=@List.drop_zero
def FM:=@Int.emod_lt_of_pos
def FN:=@List.find?_eq_none
def FO:=@wpAny_setField
def FP:=@Classical.byContradiction
def FQ:=@wpAny_passesOwn
def FR:=@List.of_mem_zip
def FS:=@Nat.not_lt_zero
def FT:=@List.drop_sublist
def FU:=@List.mem_iff_getElem
def FV:=@Array.toList_reverse
def FW:=@List.ext_getElem?
def FX:=@wpAny_of_eq
def FY:=@List.Pairwise.imp_of_mem
def FZ:=@List.getElem_of_mem
def F_:=@List.filter_eq_self
def GA:=@List.pairwise_singleton
def GB:=@List.getElem_mem
def GC:=@wpAny_tryCatch
def GE:=@List.length_eq_zero_iff
def GF:=@List.nodup_nil
def GG:=@Nat.zero_lt_succ
def GH:=@if_true
def GI:=@Nat.lt_of_le_of_ne
def GJ:=@Nat.eq_zero_of_not_pos
def GK:=@List.getElem?_drop
def GL:=@Array.size_extract
def GM:=@List.zip_cons_cons
def GN:=@wpAny_setField_rec
def GO:=@Nat.min_eq_left
def GP:=@Int.emod_nonneg
def GQ:=@List.any_cons
def GR:=@List.length_replicate
def GS:=@List.length_singleton
def GT:=@List.getElem?_toArray
def GU:=@List.mem_iff_getElem?
def GV:=@List.getElem_take
def GW:=@Nat.lt_of_succ_lt
def GY:=@List.drop_take
def GZ:=@List.perm_ext_iff_of_nodup
def G_:=@Nat.succ_le_succ
def HA:=@wpAny_askSetting
def HB:=@List.nodup_range
def HC:=@List.mem_of_find?_eq_some
def HD:=@List.reverse_append
def HE:=@List.map_congr_left
def HF:=@Array.size_setIfInBounds
def HG:=@List.filterMap_cons_none
def HH:=@List.sum_cons
def HI:=@Nat.testBit_two_pow_self
def HJ:=@List.idxOf_lt_length_iff
def HK:=@Nat.zero_lt_one
def HL:=@Option.map_some
def HM:=@List.forIn_cons
def HN:=@codeAny_builtin
def HP:=@wpAny_updateSeq
def HQ:=@List.filter_nil
def HR:=@Nat.testBit_mod_two_pow
def HS:=@wpAny_newTuple
def HU:=@Array.size_map
def HV:=@List.getElem?_set_self
def HW:=@wpAny_pyIter_list
def HX:=@Bool.and_false
def HY:=@Bool.not_false
def HZ:=@wpAny_storeSet_of
def H_:=@Heap.size_update
def IA:=@List.le_antisymm
def IB:=@List.lookup_cons
def IC:=@wpAny_isInstance
def ID:=@Heap.ExtBut.push
def IE:=@wpAny_pyIter_zip
def IG:=@wpAny_attempt
def IH:=@wpAny_newList
def II:=@wpAny_letGo
end
noncomputable section
namespace TS
def Yy{k x l r:Nat}(h:l<r)(a:r-l<=k-x):(l+r) / 2-l<=k-(x+1) :=
 Nat.le_trans (Nat.le_pred_of_lt (Nat.sub_lt_sub_right ((Nat.le_div_iff_mul_le (by decide)).mpr (by rw[Nat.mul_two];exact EL (DL h) l)) ((Nat.div_lt_iff_lt_mul (by decide)).mpr (by rw[Nat.mul_two];exact Nat.add_lt_add_right h r)))) (Nat.pred_le_pred a)
def Xo{n x l r m:Nat}(h:l<=m)(a:r-l<=n-x):r-(m+1)<=n-(x+1):=Nat.le_trans (Nat.sub_le_sub_left (G_ h) r) (Nat.pred_le_pred a)
def zAz{k x l r:Nat}(h:l<r)(a:r-l<=k-x):r-((l+r) / 2+1)<=k-(x+1) :=
 Xo ((Nat.le_div_iff_mul_le (by decide)).mpr (by rw[Nat.mul_two];exact EL (DL h) l)) a
def zEe{n x l r:Nat}(h:l<r)(a:r-l<=n-x):l +(r-l) / 2-l<=n-(x+1):=by
 rw[Nat.add_sub_cancel_left];exact Nat.le_trans (Nat.le_pred_of_lt (Nat.div_lt_self (Nat.sub_pos_of_lt h) (by decide))) (Nat.pred_le_pred a)
def zIb{lo x q k:Nat}(h:q+1<=x)(a:lo+x-(q+1)<=k):x-(q+1)<=k-lo:=Nat.le_sub_of_add_le' (by rw[Nat.add_sub_assoc h]at a;exact a)
open PySem PyProof.Rows
def kk(κ:KeyKind)(p:CM):κ.α:=(κ.keyOf p.1).getD κ.dflt
def RL(κ:KeyKind)(p:CM):Prop:=∃a,κ.keyOf p.1=some a
def le(κ:KeyKind)(p q:CM):Prop:=κ.kle (kk κ p) (kk κ q)
def LF(κ:KeyKind)(l:A1 CM):Prop:=l.Pairwise (le κ)
structure Q_(prog:A7)(w:F8)(A:IR)(s:A4)(κ:KeyKind)(kd:KB):Prop where
 lt:∀(x y:A2) (a b:κ.α) (Q:Bool->A4->Prop) (E:A2->A4->Prop),κ.keyOf x=some a->κ.keyOf y=some b->Q (κ.blt a b) s->wpAny (model prog w) A (keyLt' kd x y) Q E s
section
variable{prog:A7}{w:F8}{A:IR}{E:A2->A4->Prop}{s:A4}{κ:KeyKind}{kd:KB}
theorem Ir(C:Q_ prog w A s κ kd){st:IJ}{x y:CM}{Q:A5 Bool->IJ->Prop}(e:kindOf st=kd)(f:RL κ x)(g:RL κ y)
  (h:Q (some (κ.blt (kk κ x) (kk κ y))) st):wpS (model prog w) A E s (lt' x y) Q st:=by
 obtain⟨a,c⟩:=f;obtain⟨b,d⟩:=g;have i:kk κ x=a:=by unfold kk;rw[c];rfl
 have j:kk κ y=b:=by unfold kk;rw[d];rfl
 rw[i,j]at h;rw[lt'_eq];refine wpS_bind (wpS_get ?_);rw[e];refine wpS_bind (wpS_lift (IG (C.lt x.1 y.1 a b _ _ c d ⟨rfl,?_⟩)));exact wpS_pure h
theorem D9{st:IJ}{a:CW CM}{i:Nat}{p:CM}{Q:CM->IJ->Prop}(hi:a[i]?=some p)(h:Q p st):wpS (model prog w) A E s (elem' a i) Q st:=by
 rw[elem'_eq,hi];exact wpS_pure h
def V2:Bool->CM->CW CM->Nat->Nat->Nat->StateT IJ Sem (A5 Nat):=sortPriv% PySem.Builtin.gallop
def SS(JK:Bool)(a:CM)(b:CW CM)(bs:Nat)(i:Nat):StateT IJ Sem (A5 Bool):=do
 let x <-elem' b (bs+i)
 if JK then lt' x a else return(<-lt' a x).map (!·)
theorem Ol(JK:Bool)(c:CM)(d:CW CM)(bs n b:Nat):V2 JK c d bs n b =(do
  let mut la:=0
  let mut a:=1
  let mut lo:=0
  let mut hi:=0
  let some g <-SS JK c d bs b | return none
  if g then
   let e:=n-b
   for _ in [0:n] do
    if a ≥ e then break
    let some f <-SS JK c d bs (b+a) | return none
    if !f then break
    la:=a
    a:=2*a+1
   lo:=b+la+1
   hi:=b+min a e
  else
   let e:=b+1
   for _ in [0:n] do
    if a ≥ e then break
    let some h <-SS JK c d bs (b-a) | return none
    if h then break
    la:=a
    a:=2*a+1
   lo:=b+1-min a e
   hi:=b-la
  for _ in [0:n] do
   if lo ≥ hi then break
   let m:=lo +(hi-lo) / 2
   let some f <-SS JK c d bs m | return none
   if f then lo:=m+1 else hi:=m
  return some hi):=rfl
def PB(κ:KeyKind)(JK:Bool)(a:CM)(p:CM):Bool:=if JK then κ.blt (kk κ p) (kk κ a)else !κ.blt (kk κ a) (kk κ p)
theorem Zp(C:Q_ prog w A s κ kd){st:IJ}{JK:Bool}{b p:CM}{c:CW CM}{bs i:Nat}{Q:A5 Bool->IJ->Prop}(d:kindOf st=kd)(a:RL κ b)(e:RL κ p)(hi:c[bs+i]?=some p)
  (h:Q (some (PB κ JK b p)) st):wpS (model prog w) A E s (SS JK b c bs i) Q st:=by
 unfold SS;refine wpS_bind (D9 hi ?_);cases JK with
 | true=>exact Ir C d e a h
 | false =>
  simp only[A_,CY];refine wpS_bind (Ir C d a e ?_);exact wpS_pure h
theorem Og(C:Q_ prog w A s κ kd){st:IJ}{JK:Bool}{L:CM}{O:CW CM}{bs n g:Nat}{Q:A5 Nat->IJ->Prop}(hk:kindOf st=kd)(R:RL κ L)
  (P:Nat->Bool) (hP:∀i,i<n->∃p,O[bs+i]?=some p/\RL κ p/\PB κ JK L p=P i) (o:∀i j,i<=j->j<n->P j=true->P i=true) (T:g<n)
  (h:∀k,k<=n->(∀i,i<k->P i=true)->(∀i,k<=i->i<n->P i=false)->Q (some k) st):wpS (model prog w) A E s (V2 JK L O bs n g) Q st:=by
 have B:∀{a:IJ} {i:Nat} {Q:A5 Bool->IJ->Prop},a=st->i<n->Q (some (P i)) a->wpS (model prog w) A E s (SS JK L O bs i) Q a:=by
  intro a i Q e hi q;subst e;obtain⟨p,U,V,W⟩:=hP i hi;exact Zp C hk R V U (by rw[W];exact q)
 have m:∀i j,i<=j->j<n->P i=false->P j=false:=by
  intro i j X hj hi;cases e:P j with
  | false=>rfl
  | true=>rw[o i j X hj e]at hi;cases hi
 rw[Ol];dsimp only;refine wpS_bind (B rfl T ?_);dsimp only;have S:∀{lo hi:Nat} {f:Nat->(A5 (A5 Nat)×Nat×Nat)->StateT IJ Sem (ForInStep (A5 (A5 Nat)×Nat×Nat))},
   (∀x l h,wpS (model prog w) A E s (f x (none,l,h)) (λr a=>a=st/\(if h<=l then r = .done (none,l,h)else if P (l +(h-l) / 2)=true then r = .yield (none,l +(h-l) / 2+1,h)else r = .yield (none,l,l +(h-l) / 2))) st\/¬(h<=l\/l +(h-l) / 2<n)) ->
   lo<=hi->hi<=n->(∀i,i<lo->P i=true)->(∀i,hi<=i->i<n->P i=false) ->
   wpS (model prog w) A E s (forIn [0:n] (none,lo,hi) f) (λc a=>a=st/\∃k,c =(none,k,k)/\k<=n/\(∀i,i<k->P i=true)/\(∀i,k<=i->i<n->P i=false)) st:=by
  intro lo hi f hf U V W h4;refine wpS_forRange (I:=λx c a=>a=st/\∃l r,c =(none,l,r)/\l<=r/\r<=n/\r-l<=n-x/\(∀i,i<l->P i=true)/\(∀i,r<=i->i<n->P i=false)) ?_ ?_ ⟨rfl,lo,hi,rfl,U,V,by lia,W,h4⟩
  .rintro x c a _ hx ⟨rfl,l,r,rfl,hl,K,Y,M,N⟩;have Z:r<=l\/l +(r-l) / 2<n:=by lia
   rcases hf x l r with q | q
   .refine wpS_mono q λz st2 ⟨e,F⟩=>?_;subst e;by_cases b:r<=l
    .rw[AL b]at F;subst F;have:l=r:=by lia
     subst this;exact⟨rfl,l,rfl,K,M,N⟩
    .rw[AJ b]at F;cases u:P (l +(r-l) / 2)with
     | true =>
      rw[AL u]at F;subst F;exact⟨rfl,_,_,rfl,by lia,by lia,Xo (EU ..) Y,λi hi=>o i (l +(r-l) / 2) (by lia) (by lia) u,N⟩
     | false =>
      rw[AJ (by rw[u];exact BA)]at F;subst F;exact⟨rfl,_,_,rfl,by lia,by lia,zEe (Nat.lt_of_not_le b) Y,M,λi G y=>m (l +(r-l) / 2) i G y u⟩
   .exact absurd Z q
  .rintro c a ⟨rfl,l,r,rfl,hl,K,Y,M,N⟩;have:l=r:=by lia
   subst this;exact⟨rfl,l,rfl,K,M,N⟩
 cases K:P g with
 | true =>
  rw[AL rfl];refine wpS_bind (wpS_mono (wpS_forRange (I:=λx c a=>a=st/\∃la d,c =(none,la,d)/\la<d/\x+1<=d/\g+la<n/\P (g+la)=true)
   (Q:=λc a=>a=st/\∃la d,c =(none,la,d)/\la<d/\g+la<n/\P (g+la)=true/\(n-g<=d\/(g+d<n/\P (g+d)=false))) ?st ?en ⟨rfl,0,1,rfl,by lia,by lia,by lia,K⟩) ?po)
  case en =>
   rintro c a ⟨rfl,la,d,rfl,D,a2,v,t⟩;exact⟨rfl,la,d,rfl,D,v,t,.inl (by lia)⟩
  case st =>
   rintro x c a _ hx ⟨rfl,la,d,rfl,D,a2,v,t⟩;dsimp only;by_cases b:d ≥ n-g
   .rw[AL b];exact wpS_pure ⟨rfl,la,d,rfl,D,v,t,.inl b⟩
   .rw[AJ b];refine wpS_bind (B rfl (show g+d<n by lia) ?_);cases u:P (g+d)with
    | true=>exact wpS_pure ⟨rfl,d,2*d+1,rfl,by lia,by lia,by lia,u⟩
    | false=>exact wpS_pure ⟨rfl,la,d,rfl,D,v,t,.inr ⟨by lia,u⟩⟩
  case po =>
   rintro c a ⟨rfl,la,d,rfl,D,v,t,H⟩;dsimp only;refine wpS_bind (wpS_mono (S (lo:=g+la+1) (hi:=g+min d (n-g)) (λx l J=>by
    dsimp only;by_cases b:J<=l
    .refine .inl ?_;rw[AL b];exact wpS_pure ⟨rfl,by rw[AL b]⟩
    .by_cases hn:l +(J - l) / 2<n
     .refine .inl ?_;rw[AJ b];refine wpS_bind (B rfl hn ?_);dsimp only;cases u:P (l +(J - l) / 2)with
      | true =>
       simp only[GH];exact wpS_pure ⟨rfl,by rw[AJ b]⟩
      | false =>
       simp only[A_,CY];exact wpS_pure ⟨rfl,by rw[AJ b]⟩
     .exact .inr (by lia)) (by lia) (by lia) (λi hi=>o i (g+la) (by lia) v t) λi G y=>?_) λc a ⟨e,k,e2,b1,b2,b3⟩=>?_)
   .rcases H with H | ⟨H,a6⟩
    .lia
    .exact m (g+d) i (by lia) y a6
   .subst e e2;exact wpS_pure (h k b1 b2 b3)
 | false =>
  rw[AJ BA];refine wpS_bind (wpS_mono (wpS_forRange (I:=λx c a=>a=st/\∃la d,c =(none,la,d)/\la<d/\x+1<=d/\la<=g/\P (g-la)=false)
   (Q:=λc a=>a=st/\∃la d,c =(none,la,d)/\la<d/\la<=g/\P (g-la)=false/\(g+1<=d\/(d<=g/\P (g-d)=true))) ?st ?en ⟨rfl,0,1,rfl,by lia,by lia,by lia,K⟩) ?po)
  case en =>
   rintro c a ⟨rfl,la,d,rfl,D,a2,v,t⟩;exact⟨rfl,la,d,rfl,D,v,t,.inl (by lia)⟩
  case st =>
   rintro x c a _ hx ⟨rfl,la,d,rfl,D,a2,v,t⟩;dsimp only;by_cases b:d ≥ g+1
   .rw[AL b];exact wpS_pure ⟨rfl,la,d,rfl,D,v,t,.inl b⟩
   .rw[AJ b];refine wpS_bind (B rfl (show g-d<n by lia) ?_);cases u:P (g-d)with
    | false=>exact wpS_pure ⟨rfl,d,2*d+1,rfl,by lia,by lia,by lia,u⟩
    | true=>exact wpS_pure ⟨rfl,la,d,rfl,D,v,t,.inr ⟨by lia,u⟩⟩
  case po =>
   rintro c a ⟨rfl,la,d,rfl,D,v,t,H⟩;dsimp only;refine wpS_bind (wpS_mono (S (lo:=g+1-min d (g+1)) (hi:=g-la) (λx l J=>by
    dsimp only;by_cases b:J<=l
    .refine .inl ?_;rw[AL b];exact wpS_pure ⟨rfl,by rw[AL b]⟩
    .by_cases hn:l +(J - l) / 2<n
     .refine .inl ?_;rw[AJ b];refine wpS_bind (B rfl hn ?_);dsimp only;cases u:P (l +(J - l) / 2)with
      | true =>
       simp only[GH];exact wpS_pure ⟨rfl,by rw[AJ b]⟩
      | false =>
       simp only[A_,CY];exact wpS_pure ⟨rfl,by rw[AJ b]⟩
     .exact .inr (by lia)) (by lia) (by lia) (λi hi=>?_) λi G y=>m (g-la) i (by lia) y t) λc a ⟨e,k,e2,b1,b2,b3⟩=>?_)
   .rcases H with H | ⟨H,a6⟩
    .lia
    .exact o i (g-d) (by lia) (by lia) a6
   .subst e e2;exact wpS_pure (h k b1 b2 b3)
end
end TS
namespace TS
open PySem PyProof.Rows
section
variable{κ:KeyKind}
theorem RY(p:CM):le κ p p:=KeyOrd.kle_refl _
theorem JG{p q r:CM}(h1:le κ p q)(h2:le κ q r):le κ p r:=KeyOrd.kle_trans h1 h2
structure ML(κ:KeyKind)(a b:A1 CM)(o:A1 CM)(i j:Nat):Prop where
 perm:o.Perm (a.take i++b.take j)
 sor:LF κ o
 la:∀x∈o,∀y∈a.drop i,le κ x y
 lb:∀x∈o,∀y∈b.drop j,le κ x y
theorem ML.sym{a b o:A1 CM}{i j:Nat}(m:ML κ a b o i j):ML κ b a o j i:=⟨m.perm.trans CT,m.sor,m.lb,m.la⟩
theorem Jd{l:A1 CM}(k:Nat)(h:LF κ l):∀x∈l.take k,∀y∈l.drop k,le κ x y:=by
 have a:LF κ (l.take k++l.drop k):=by rw[BT];exact h
 exact(CO.mp a).2.2
theorem ML.addA{a b o:A1 CM}{i j:Nat}(m:ML κ a b o i j)(e:LF κ a)(k:Nat)(f:∀y∈(a.drop i).take k,∀z∈b.drop j,le κ y z):ML κ a b (o ++(a.drop i).take k) (i+k) j:=by
 have d:LF κ (a.drop i):=e.sublist (FT _ _);refine⟨?_,?_,λx hx y c=>?_,λx hx y c=>?_⟩
 .rw[List.take_add];refine(DZ _ m.perm).trans ?_;rw[BE,BE];exact DU _ CT
 .refine CO.mpr ⟨m.sor,d.sublist (FD _ _),λx hx y c=>m.la x hx y (CH c)⟩
 .rw[<-FJ]at c;rcases AO.mp hx with hx | hx
  .exact m.la x hx y (FA c)
  .exact Jd k d x hx y c
 .rcases AO.mp hx with hx | hx
  .exact m.lb x hx y c
  .exact f x hx y c
theorem ML.addB{a b o:A1 CM}{i j:Nat}(m:ML κ a b o i j)(c:LF κ b)(k:Nat)(d:∀y∈(b.drop j).take k,∀z∈a.drop i,le κ y z):ML κ a b (o ++(b.drop j).take k) i (j+k) :=
 (m.sym.addA c k d).sym
theorem ML.endA{a b o:A1 CM}{i j:Nat}(m:ML κ a b o i j)(e:LF κ a)(f:LF κ b)(h:∀y∈a.drop i,∀z∈b.drop j,le κ y z):LF κ (o++a.drop i++b.drop j)/\(o++a.drop i++b.drop j).Perm (a++b):=by
 refine⟨?_,?_⟩
 .refine CO.mpr ⟨CO.mpr ⟨m.sor,e.sublist (FT _ _),m.la⟩,f.sublist (FT _ _),λx hx y c=>?_⟩;rcases AO.mp hx with hx | hx
  .exact m.lb x hx y c
  .exact h x hx y c
 .have g:(o++a.drop i++b.drop j).Perm ((a.take i++b.take j)++a.drop i++b.drop j):=DZ _ (DZ _ m.perm);refine g.trans ?_;have d:((a.take i++b.take j)++a.drop i++b.drop j).Perm ((a.take i++a.drop i) ++(b.take j++b.drop j)):=by
   rw[BE,BE,BE];refine DU _ ?_;rw[<-BE,<-BE];exact DZ _ CT
  rw[BT,BT]at d;exact d
theorem ML.endB{a b o:A1 CM}{i j:Nat}(m:ML κ a b o i j)(c:LF κ a)(d:LF κ b)(h:∀y∈b.drop j,∀z∈a.drop i,le κ y z):LF κ (o++b.drop j++a.drop i)/\(o++b.drop j++a.drop i).Perm (a++b) :=
 ⟨(m.sym.endA d c h).1,(m.sym.endA d c h).2.trans CT⟩
structure MH(κ:KeyKind)(a b:A1 CM)(o:A1 CM)(i j:Nat):Prop where
 perm:o.Perm (a.drop i++b.drop j)
 sor:LF κ o
 la:∀x∈o,∀y∈a.take i,le κ y x
 lb:∀x∈o,∀y∈b.take j,le κ y x
theorem MH.sym{a b o:A1 CM}{i j:Nat}(m:MH κ a b o i j):MH κ b a o j i:=⟨m.perm.trans CT,m.sor,m.lb,m.la⟩
theorem MH.addA{a b o:A1 CM}{i j:Nat}(m:MH κ a b o i j)(g:LF κ a)(k:Nat)(d:k<=i)(h:∀y∈(a.take i).drop k,∀z∈b.take j,le κ z y):MH κ a b ((a.take i).drop k++o) k j:=by
 have f:LF κ (a.take i):=g.sublist (FD _ _);have e:a.drop k =(a.take i).drop k++a.drop i:=by
  conv=>lhs;rw[<-BT i a]
  rw[List.drop_append];by_cases l:i<=a.length
  .rw[AZ,GO l,Nat.sub_eq_zero_of_le d,FK]
  .have:a.drop i = []:=FF (by lia);rw[this,List.drop_nil]
 have n:(a.take i).take k=a.take k:=by rw[List.take_take,GO d]
 refine⟨?_,?_,λx hx y c=>?_,λx hx y c=>?_⟩
 .rw[e,BE];exact DU _ m.perm
 .exact CO.mpr ⟨f.sublist (FT _ _),m.sor,λx hx y c=>m.la y c x (FA hx)⟩
 .rw[<-n]at c;rcases AO.mp hx with hx | hx
  .exact Jd k f y c x hx
  .exact m.la x hx y (CH c)
 .rcases AO.mp hx with hx | hx
  .exact h x hx y c
  .exact m.lb x hx y c
theorem MH.addB{a b o:A1 CM}{i j:Nat}(m:MH κ a b o i j)(d:LF κ b)(k:Nat)(c:k<=j)(e:∀y∈(b.take j).drop k,∀z∈a.take i,le κ z y):MH κ a b ((b.take j).drop k++o) i k :=
 (m.sym.addA d k c e).sym
theorem MH.endA{a b o:A1 CM}{i j:Nat}(m:MH κ a b o i j)(e:LF κ a)(f:LF κ b)(h:∀y∈a.take i,∀z∈b.take j,le κ y z):LF κ (a.take i++b.take j++o)/\(a.take i++b.take j++o).Perm (a++b):=by
 refine⟨?_,?_⟩
 .refine CO.mpr ⟨CO.mpr ⟨e.sublist (FD _ _),f.sublist (FD _ _),h⟩,m.sor,λx hx y c=>?_⟩;rcases AO.mp hx with hx | hx
  .exact m.la y c x hx
  .exact m.lb y c x hx
 .have g:(a.take i++b.take j++o).Perm (a.take i++b.take j ++(a.drop i++b.drop j)):=DU _ m.perm;refine g.trans ?_;have d:(a.take i++b.take j ++(a.drop i++b.drop j)).Perm ((a.take i++a.drop i) ++(b.take j++b.drop j)):=by
   rw[BE,BE];refine DU _ ?_;rw[<-BE,<-BE];exact DZ _ CT
  rw[BT,BT]at d;exact d
theorem MH.endB{a b o:A1 CM}{i j:Nat}(m:MH κ a b o i j)(c:LF κ a)(d:LF κ b)(h:∀y∈b.take j,∀z∈a.take i,le κ y z):LF κ (b.take j++a.take i++o)/\(b.take j++a.take i++o).Perm (a++b) :=
 ⟨(m.sym.endA d c h).1,(m.sym.endA d c h).2.trans CT⟩
end
section
variable{prog:A7}{w:F8}{A:IR}{E:A2->A4->Prop}{s:A4}{κ:KeyKind}{kd:KB}
def Bi(g:Nat):StateT IJ Sem Unit:=modify λs=>SortSt.mk' (kindOf s) (arrOf s) (pendingOf s) g (failedOf s)
def Ei:CW CM->CW CM->StateT IJ Sem (CW CM):=sortPriv% PySem.Builtin.mergeLo
theorem Jy(a b:CW CM):Ei a b =(do
  rule "list.sort.merge-lo"
  let d:=a.size+b.size
  let c (o:CW CM) (i j:Nat):=o++a.extract i a.size++b.extract j b.size
  let g (o:CW CM) (i j:Nat):=o++b.extract j b.size++a.extract i a.size
  let mut o:CW CM:=#[<-elem' b 0]
  let mut i:=0
  let mut j:=1
  if j == b.size then return c o i j
  if i+1 == a.size then return g o i j
  let mut mg:=gallopOf (<-get)
  for _ in [0:d] do
   let mut e:=0
   let mut f:=0
   for _ in [0:d] do
    let some h <-lt' (<-elem' b j) (<-elem' a i) | return c o i j
    if h then
     o:=o.push (<-elem' b j);j:=j+1;f:=f+1;e:=0
     if j == b.size then return c o i j
     if f ≥ mg then break
    else
     o:=o.push (<-elem' a i);i:=i+1;e:=e+1;f:=0
     if i+1 == a.size then return g o i j
     if e ≥ mg then break
   rule "list.sort.gallop"
   mg:=mg+1
   for _ in [0:d] do
    if mg>1 then mg:=mg-1
    Bi mg
    let some k <-V2 false (<-elem' b j) a i (a.size-i) 0 | return c o i j
    e:=k
    if k>0 then
     o:=o++a.extract i (i+k);i:=i+k
     if i+1 == a.size then return g o i j
     if i == a.size then return c o i j
    o:=o.push (<-elem' b j);j:=j+1
    if j == b.size then return c o i j
    let some k <-V2 true (<-elem' a i) b j (b.size-j) 0 | return c o i j
    f:=k
    if k>0 then
     o:=o++b.extract j (j+k);j:=j+k
     if j == b.size then return c o i j
    o:=o.push (<-elem' a i);i:=i+1
    if i+1 == a.size then return g o i j
    if e<7&&f<7 then break
   mg:=mg+1
   Bi mg
  unsupported "internal:list.sort.merge-bound"):=rfl
def Sm(st a:IJ):Prop:=kindOf a=kindOf st/\arrOf a=arrOf st/\pendingOf a=pendingOf st/\failedOf a=failedOf st
theorem Sm.refl(st:IJ):Sm st st:=⟨rfl,rfl,rfl,rfl⟩
theorem X9{st st0:IJ}{g:Nat}{Q:Unit->IJ->Prop}(b:Sm st0 st)(h:∀a,Sm st0 a->Q () a):wpS (model prog w) A E s (Bi g) Q st :=
 wpS_modify (h _ ⟨b.1,b.2.1,b.2.2.1,b.2.2.2⟩)
theorem Di{l:A1 CM}{i k:Nat}{y:CM}(h:y∈(l.drop i).take k):∃t,t<k/\l[i+t]?=some y:=by
 obtain⟨t,a,e⟩:=FU.mp h;rw[AZ,D_]at a;refine⟨t,by lia,?_⟩;rw[GV,List.getElem_drop]at e;rw[<-e];exact AC (by lia)
theorem Kf{l:A1 CM}{i:Nat}{y:CM}(h:y∈l.drop i):∃t,i+t<l.length/\l[i+t]?=some y:=by
 obtain⟨t,a,e⟩:=FU.mp h;rw[D_]at a;refine⟨t,by lia,?_⟩;rw[List.getElem_drop]at e;rw[<-e];exact AC (by lia)
theorem Nv{l:A1 CM}{i:Nat}{y:CM}(h:y∈l.take i):∃t,t<i/\t<l.length/\l[t]?=some y:=by
 obtain⟨t,a,e⟩:=FU.mp h;rw[AZ]at a;refine⟨t,by lia,by lia,?_⟩;rw[GV]at e;rw[<-e];exact AC (by lia)
theorem Yb{l:A1 CM}{i k:Nat}{y:CM}(h:y∈(l.take i).drop k):∃t,k<=t/\t<i/\l[t]?=some y:=by
 obtain⟨t,b,a⟩:=Kf h;rw[AZ]at b;rw[DP (by lia)]at a;exact⟨k+t,by lia,by lia,a⟩
theorem Aj{l:A1 CM}(h:LF κ l){i j:Nat}{p q:CM}(a:i<=j)(b:l[i]?=some p)(c:l[j]?=some q):le κ p q:=by
 obtain⟨d,rfl⟩:=AE.mp b;obtain⟨e,rfl⟩:=AE.mp c;rcases Nat.lt_or_eq_of_le a with z | z
 .exact List.pairwise_iff_getElem.mp h i j d e z
 .subst z;exact RY _
theorem Ee{l:A1 CM}(h:LF κ l){i:Nat}{p:CM}(a:l[i]?=some p):∀z∈l.drop i,le κ p z:=λz b=>by
 obtain⟨t,_,e⟩:=Kf b;exact Aj h (EU _ _) a e
theorem IT{a:CW CM}{i:Nat}{p:CM}:a[i]?=some p↔a.toList[i]?=some p:=by rw[BP]
theorem i7{a:CW CM}{i:Nat}(h:i<a.size):∃p,a[i]?=some p:=⟨a[i],getElem?_pos a i h⟩
theorem Rh{l:A1 CM}{i:Nat}{p:CM}(h:l[i]?=some p):(l.drop i).take 1 = [p]:=by
 obtain⟨a,rfl⟩:=AE.mp h;rw[ER a];rfl
theorem Dw(a:CW CM)(i k:Nat):(a.extract i (i+k)).toList =(a.toList.drop i).take k:=by
 rw[FB,ES,Nat.add_sub_cancel_left]
theorem y9(a:CW CM)(i:Nat):(a.extract i a.size).toList=a.toList.drop i:=by
 rw[FB,ES,DA];rw[D_,AU];exact Nat.le_refl _
theorem u0(a:CW CM)(i:Nat):(a.extract 0 i).toList=a.toList.take i:=by
 rw[FB,ES,FK,Nat.sub_zero]
def Rm(κ:KeyKind)(a b r:CW CM):Prop:=LF κ r.toList/\r.toList.Perm (a.toList++b.toList)
structure NP(κ:KeyKind)(a b:CW CM):Prop where
 sa:LF κ a.toList
 sb:LF κ b.toList
 ka:∀(i:Nat) p,a[i]?=some p->RL κ p
 kb:∀(i:Nat) p,b[i]?=some p->RL κ p
 na:1<=a.size
 nb:1<=b.size
 first:∀q,b[0]?=some q->∀z∈a.toList,le κ q z
 last:∀p,a[a.size-1]?=some p->∀z∈b.toList,le κ z p
section
variable{a b o:CW CM}{i j k:Nat}{p q:CM}
theorem NP.pushB(P:NP κ a b)(m:ML κ a.toList b.toList o.toList i j)(c:b[j]?=some q)(h:∀z∈a.toList.drop i,le κ q z):ML κ a.toList b.toList (o.push q).toList i (j+1):=by
 have d:=m.addB P.sb 1 (by rw[Rh (IT.mp c)];intro y e;rw[AD.mp e];exact h);rw[Rh (IT.mp c)]at d;rw[DH];exact d
theorem NP.pushA(P:NP κ a b)(m:ML κ a.toList b.toList o.toList i j)(c:a[i]?=some p)(h:∀z∈b.toList.drop j,le κ p z):ML κ a.toList b.toList (o.push p).toList (i+1) j:=by
 have d:=m.addA P.sa 1 (by rw[Rh (IT.mp c)];intro y e;rw[AD.mp e];exact h);rw[Rh (IT.mp c)]at d;rw[DH];exact d
theorem NP.extA(P:NP κ a b)(m:ML κ a.toList b.toList o.toList i j)(h:∀y∈(a.toList.drop i).take k,∀z∈b.toList.drop j,le κ y z):ML κ a.toList b.toList (o++a.extract i (i+k)).toList (i+k) j:=by
 rw[BR,Dw];exact m.addA P.sa k h
theorem NP.extB(P:NP κ a b)(m:ML κ a.toList b.toList o.toList i j)(h:∀y∈(b.toList.drop j).take k,∀z∈a.toList.drop i,le κ y z):ML κ a.toList b.toList (o++b.extract j (j+k)).toList i (j+k):=by
 rw[BR,Dw];exact m.addB P.sb k h
theorem NP.doneB(P:NP κ a b)(m:ML κ a.toList b.toList o.toList i j)(d:j=b.size):Rm κ a b (o++a.extract i a.size++b.extract j b.size):=by
 unfold Rm;rw[BR,BR,y9,y9];refine m.endA P.sa P.sb λy _ z c=>?_;rw[FF (by rw[AU];lia)]at c;exact absurd c (by simp)
theorem NP.doneA(P:NP κ a b)(m:ML κ a.toList b.toList o.toList i j)(hi:i=a.size):Rm κ a b (o++a.extract i a.size++b.extract j b.size):=by
 unfold Rm;rw[BR,BR,y9,y9];refine m.endA P.sa P.sb λy c z _=>?_;rw[FF (by rw[AU];lia)]at c;exact absurd c (by simp)
theorem NP.lastA(P:NP κ a b)(m:ML κ a.toList b.toList o.toList i j)(hi:i+1=a.size):Rm κ a b (o++b.extract j b.size++a.extract i a.size):=by
 unfold Rm;rw[BR,BR,y9,y9];refine m.endB P.sa P.sb λy d z f=>?_;obtain⟨t,g,c⟩:=Kf f;rw[AU]at g;have e:i+t=a.size-1:=by lia
 rw[e]at c;exact P.last z (IT.mpr c) y (FA d)
end
theorem Sm.knd{st a:IJ}(h:Sm st a){k:KB}(b:kindOf st=k):kindOf a=k:=h.1.trans b
theorem w9(C:Q_ prog w A s κ kd){st:IJ}{JK:Bool}{d:CM}{b:CW CM}{bs n e:Nat}{Q:A5 Nat->IJ->Prop}(D:kindOf st=kd)(f:RL κ d)
  (hsz:bs+n<=b.size) (F:∀(i:Nat) p,b[i]?=some p->RL κ p) (G:∀(u v:Nat) p q,u<=v->v<n->b[bs+u]?=some p->b[bs+v]?=some q->le κ p q) (g:e<n)
  (h:∀k,k<=n->(∀(t:Nat) p,t<k->b[bs+t]?=some p->PB κ JK d p=true)->(∀(t:Nat) p,k<=t->t<n->b[bs+t]?=some p->PB κ JK d p=false)->Q (some k) st) :
  wpS (model prog w) A E s (V2 JK d b bs n e) Q st:=by
 have c:∀t,t<n->∃p,b[bs+t]?=some p:=λt e=>i7 (by lia);refine Og C D f (λt=>match b[bs+t]? with | some p=>PB κ JK d p | none=>false) (λi H=>?_) (λi j m y a=>?_) g λk o I J=>?_
 .obtain⟨p,a⟩:=c i H;exact⟨p,a,F _ p a,by rw[a]⟩
 .obtain⟨p,z⟩:=c i (by lia);obtain⟨q,B⟩:=c j y;rw[B]at a;rw[z];have l:=G i j p q m y z B;dsimp only at a⊢;unfold PB at a⊢;cases JK with
  | true =>
   simp only[GH]at a⊢;exact KeyOrd.klt_of_kle_of_klt l a
  | false =>
   simp only[A_,CY,Bool.not_eq_true']at a⊢;exact KeyOrd.kle_trans l a
 .refine h k o (λt p e a=>?_) λt p r x a=>?_
  .have:=I t e;rw[a]at this;exact this
  .have:=J t r x;rw[a]at this;exact this
theorem Ew{a p:CM}(h:PB κ false a p=true):le κ p a:=by
 unfold PB at h;show κ.blt (kk κ a) (kk κ p)=false;simpa using h
theorem Bv{a p:CM}(h:PB κ false a p=false):κ.klt (kk κ a) (kk κ p):=by
 unfold PB at h;show κ.blt (kk κ a) (kk κ p)=true;simpa using h
theorem Kd{a p:CM}(h:PB κ true a p=true):κ.klt (kk κ p) (kk κ a):=by
 unfold PB at h;show κ.blt (kk κ p) (kk κ a)=true;simpa using h
theorem Eh{a p:CM}(h:PB κ true a p=false):le κ a p:=by
 unfold PB at h;show κ.blt (kk κ p) (kk κ a)=false;simpa using h
section
variable{α:Type}{Q:α->IJ->Prop}{st:IJ}
theorem U1{c:Prop}{_:Decidable c}{t e:StateT IJ Sem α}(h1:c->wpS (model prog w) A E s t Q st)(h2:¬c->wpS (model prog w) A E s e Q st):wpS (model prog w) A E s (if c then t else e) Q st:=by
 split
 .rename_i h;exact h1 h
 .rename_i h;exact h2 h
theorem P0{x y:Nat}{t e:StateT IJ Sem α}(h1:x=y->wpS (model prog w) A E s t Q st)(h2:x≠y->wpS (model prog w) A E s e Q st):wpS (model prog w) A E s (if(x == y)=true then t else e) Q st :=
 U1 (λh=>h1 (eq_of_beq h)) λh=>h2 λz=>h (beq_iff_eq.mpr z)
theorem Tw{c:Prop}{_:Decidable c}{t:StateT IJ Sem α}{F:Nat->StateT IJ Sem α}(x:Nat){y:Nat}(h:∀g,wpS (model prog w) A E s (F g) Q st)(e:t=F x):wpS (model prog w) A E s (if c then t else F y) Q st:=by
 subst e;exact U1 (λ_=>h _) λ_=>h _
theorem Eo{c:Prop}{_:Decidable c}{t:StateT IJ Sem α}{F:CW CM->Nat->StateT IJ Sem α}{o:CW CM}{i:Nat}(R:CW CM->Nat->Prop)(h:∀o i,R o i->wpS (model prog w) A E s (F o i) Q st)
  (a:(∀o i,R o i->wpS (model prog w) A E s (F o i) Q st)->c->wpS (model prog w) A E s t Q st) (b:¬c->R o i):wpS (model prog w) A E s (if c then t else F o i) Q st:=U1 (a h) λz=>h _ _ (b z)
end
theorem Ud{α β:Type}{h:Sem Unit}{i:StateT IJ Sem CM}{x0:CM}{b e:Prop}{_:Decidable b}{_:Decidable e}{j k:CM->StateT IJ Sem α}{d:CM->IJ->β}{n:Nat}{f:Nat->β->StateT IJ Sem (ForInStep β)}{g:β->StateT IJ Sem α}{Q:α->IJ->Prop}{st:IJ}
  (m:∀R:Unit->IJ->Prop,R () st->wpS (model prog w) A E s (liftM h:StateT IJ Sem Unit) R st) (o:∀R:CM->IJ->Prop,R x0 st->wpS (model prog w) A E s i R st) (h1:b->wpS (model prog w) A E s (j x0) Q st) (h2:¬b->e->wpS (model prog w) A E s (k x0) Q st)
  (p:¬b->¬e->wpS (model prog w) A E s (forIn [0:n] (d x0 st) f) (λc a=>wpS (model prog w) A E s (g c) Q a) st) :
  wpS (model prog w) A E s ((liftM h:StateT IJ Sem Unit) >>= λ_=>i >>= λx=>if b then j x else if e then k x else get >>= λa=>forIn [0:n] (d x a) f >>= g) Q st :=
 wpS_bind (m _ (wpS_bind (o _ (U1 h1 λl=>U1 (h2 l) λq=>wpS_bind (wpS_get (wpS_bind (p l q)))))))
def MR(κ:KeyKind)(a b:CW CM)(st:IJ){β:Type}(c:A5 (CW CM)×β)(d:IJ):Prop:=Sm st d/\∃r,c.1=some r/\Rm κ a b r
theorem MR.mk{a b r:CW CM}{st d:IJ}{β:Type}{c:β}(e:Sm st d)(h:Rm κ a b r):MR κ a b st (some r,c) d:=⟨e,r,rfl,h⟩
structure QI(κ:KeyKind)(a b:CW CM)(n:Nat)(o:CW CM)(i j:Nat):Prop where
 m:ML κ a.toList b.toList o.toList i j
 hi:i+1<a.size
 hj:j<b.size
 hn:n<=i+j
theorem QI.putB{a b o c:CW CM}{n i j:Nat}(h:QI κ a b n o i j)(m:ML κ a.toList b.toList c.toList i (j+1))(e:j+1≠b.size):QI κ a b (n+1) c i (j+1):=⟨m,h.hi,GI h.hj e,G_ h.hn⟩
theorem QI.putA{a b o c:CW CM}{n i j:Nat}(h:QI κ a b n o i j)(m:ML κ a.toList b.toList c.toList (i+1) j)(e:i+1+1≠a.size):QI κ a b (n+1) c (i+1) j:=⟨m,GI h.hi e,h.hj,by rw[Nat.add_right_comm];exact G_ h.hn⟩
theorem QI.mono{a b o:CW CM}{n c i j:Nat}(h:QI κ a b n o i j)(l:c<=n):QI κ a b c o i j:=⟨h.m,h.hi,h.hj,Nat.le_trans l h.hn⟩
def zIf(κ:KeyKind)(a b:CW CM)(st:IJ)(n:Nat)(c:A5 (CW CM)×CW CM×Nat×Nat×Nat)(d:IJ):Prop:=Sm st d/\∃o i j e,c =(none,o,i,j,e)/\QI κ a b n o i j
def PZ(κ:KeyKind)(a b:CW CM)(st:IJ)(n:Nat)(c:A5 (CW CM)×CW CM×Nat×Nat×Nat×Nat)(d:IJ):Prop:=Sm st d/\∃o i j e f,c =(none,o,i,j,e,f)/\QI κ a b n o i j
def QJ(κ:KeyKind)(a b:CW CM)(st:IJ)(n:Nat)(c:A5 (CW CM)×CW CM×Nat×Nat×Nat×Nat×Nat)(d:IJ):Prop:=Sm st d/\∃o i j e f g,c =(none,o,i,j,e,f,g)/\QI κ a b n o i j
theorem PZ.mk{a b o:CW CM}{st c:IJ}{n i j d e:Nat}(f:Sm st c)(h:QI κ a b n o i j):PZ κ a b st n (none,o,i,j,d,e) c:=⟨f,_,_,_,_,_,rfl,h⟩
theorem QJ.mk{a b o:CW CM}{st c:IJ}{n i j mg d e:Nat}(f:Sm st c)(h:QI κ a b n o i j):QJ κ a b st n (none,o,i,j,mg,d,e) c:=⟨f,_,_,_,_,_,_,rfl,h⟩
theorem La(C:Q_ prog w A s κ kd){st:IJ}{a b:CW CM}{Q:CW CM->IJ->Prop}(hk:kindOf st=kd)(P:NP κ a b)
  (h:∀r d,Sm st d->Rm κ a b r->Q r d):wpS (model prog w) A E s (Ei a b) Q st:=by
 rw[Jy];obtain⟨b0,O⟩:=i7 (a:=b) (i:=0) P.nb;have m0:ML κ a.toList b.toList (#[]:CW CM).toList 0 0:=⟨by simp,List.Pairwise.nil,λx hx=>absurd hx (by simp),λx hx=>absurd hx (by simp)⟩;have m1:ML κ a.toList b.toList (#[b0]:CW CM).toList 0 1:=by
  have:=P.pushB m0 O (by rw[FK];exact P.first b0 O);simpa using this
 apply Ud (x0:=b0) (λR z=>wpS_lift (EG ⟨rfl,z⟩)) (λR z=>D9 O z)
 case h1=>exact λS=>wpS_pure (h _ _ (Sm.refl _) (P.doneB m1 (eq_of_beq S)))
 case h2=>exact λ_ T=>wpS_pure (h _ _ (Sm.refl _) (P.lastA m1 (eq_of_beq T)))
 intro S T;have p1:QI κ a b 1 #[b0] 0 1:=⟨m1,GI P.na λz=>T (beq_iff_eq.mpr z),GI P.nb λz=>S (beq_iff_eq.mpr z),Nat.le_refl _⟩;refine wpS_mono (wpS_forRange (I:=λx=>zIf κ a b st (x+1)) (Q:=MR κ a b st) ?st ?en ⟨Sm.refl _,_,_,_,_,rfl,p1⟩) ?po
 case po =>
  rintro⟨c1,c2⟩ d ⟨sm,r,e,Z⟩;cases e;exact wpS_pure (h r d sm Z)
 case en =>
  rintro c d ⟨sm,o,i,j,mg,rfl,p⟩;obtain⟨_,h1,h2,h3⟩:=p;exfalso;lia
 case st =>
  rintro x c d _ hx ⟨sm,o,i,j,mg,rfl,p⟩;refine wpS_bind (wpS_mono (wpS_forRange (I:=λ_=>PZ κ a b st (x+1)) (Q:=λc d=>MR κ a b st c d\/PZ κ a b st (x+1) c d) ?st1 ?en1 (PZ.mk sm p)) ?po1)
  case en1=>exact λc st2 z=>.inr z
  case st1 =>
   rintro x2 c st2 _ _ ⟨f,o,i',j',ac,bc,rfl,N⟩;obtain⟨bj,l⟩:=i7 (a:=b) (i:=j') N.hj;obtain⟨ai,n⟩:=i7 (a:=a) (i:=i') (GW N.hi);refine wpS_bind (D9 l (wpS_bind (D9 n (wpS_bind (Ir C (f.knd hk) (P.kb _ _ l) (P.ka _ _ n) ?_)))));refine U1 (λU=>wpS_bind (D9 l ?_)) λU=>wpS_bind (D9 n ?_)
   .have m3:=P.pushB N.m l λz H=>JG (KeyOrd.kle_of_klt U) (Ee P.sa (IT.mp n) z H);refine P0 (λG=>wpS_pure (.inl (MR.mk f (P.doneB m3 G)))) λG=>?_;have D:=(N.putB m3 G).mono (EN _);exact U1 (λ_=>wpS_pure (.inr (PZ.mk f D))) λ_=>wpS_pure (PZ.mk f D)
   .have m3:=P.pushA N.m n λz H=>JG (show le κ ai bj from DB.mpr U) (Ee P.sb (IT.mp l) z H);refine P0 (λG=>wpS_pure (.inl (MR.mk f (P.lastA m3 G)))) λG=>?_;have D:=(N.putA m3 G).mono (EN _);exact U1 (λ_=>wpS_pure (.inr (PZ.mk f D))) λ_=>wpS_pure (PZ.mk f D)
  case po1 =>
   rintro⟨c1,c2⟩ st2 (⟨f,r,e,Z⟩ | ⟨f,o2,i2,j2,ac,bc,e,N⟩)
   .cases e;exact wpS_pure (MR.mk f Z)
   .cases e;refine wpS_bind (wpS_lift (EG ⟨rfl,?_⟩));refine wpS_bind (wpS_mono (wpS_forRange (I:=λx3=>QJ κ a b st (x+1+x3)) (Q:=λc d=>MR κ a b st c d\/QJ κ a b st (x+1+1) c d) ?st2 ?en2 (QJ.mk f N)) ?po2)
    case en2 =>
     rintro c st3 ⟨F,o',i',j',mg',ac,bc,rfl,D⟩;refine .inr (QJ.mk F (D.mono ?_));have:=P.na;lia
    case po2 =>
     rintro⟨c1,c2⟩ st3 (⟨F,r,e,Z⟩ | ⟨F,o',i',j',mg',ac,bc,e,D⟩)
     .cases e;exact wpS_pure (MR.mk F Z)
     .cases e;refine wpS_bind (X9 F λst4 B=>?_);exact wpS_pure ⟨B,_,_,_,_,rfl,D⟩
    case st2 =>
     rintro x3 c st3 _ _ ⟨F,o3,V,j3,mg3,ac3,bc3,rfl,D⟩;obtain⟨bj,l⟩:=i7 (a:=b) (i:=j3) D.hj;have hi3:V +(a.size-V)<=a.size:=by rw[Nat.add_sub_cancel' (DL (GW D.hi))];exact Nat.le_refl _
     have hj3:=D.hj;apply Tw (mg3-1) (y:=mg3)
     case e=>exact rfl
     intro g;refine wpS_bind (X9 F λst4 B=>?_);refine wpS_bind (D9 l (wpS_bind (w9 C (B.knd hk) (P.kb _ _ l) hi3 P.ka (λu v p q W _ G Y=>Aj P.sa (EL W _) (IT.mp G) (IT.mp Y)) (Nat.sub_pos_of_lt (GW D.hi)) λk hk1 k1 k2=>?_)));have m4:ML κ a.toList b.toList (o3++a.extract V (V+k)).toList (V+k) j3:=P.extA D.m λy hy z H=>by
      obtain⟨t,X,e⟩:=Di hy;exact JG (Ew (k1 t y X (IT.mpr e))) (Ee P.sb (IT.mp l) z H)
     have K:∀z∈a.toList.drop (V+k),le κ bj z:=λz H=>by
      obtain⟨t,X,e⟩:=Kf H;rw[AU]at X;exact KeyOrd.kle_of_klt (Bv (k2 (k+t) z (EU _ _) (by lia) (by rw[<-Nat.add_assoc];exact IT.mpr e)))
     apply Eo (o:=o3) (i:=V) (λo i=>QI κ a b (x+1+x3) o i j3/\∀z∈a.toList.drop i,le κ bj z)
     .rintro o4 i4 ⟨p4,K⟩;refine wpS_bind (D9 l ?_);have m5:=P.pushB p4.m l K;refine P0 (λe3=>wpS_pure (.inl (MR.mk B (P.doneB m5 e3)))) λe3=>?_;have L:=p4.putB m5 e3;generalize o4.push bj=o5 at m5 L⊢;generalize j3+1=j5 at m5 L⊢;obtain⟨ai,n⟩:=i7 (a:=a) (i:=i4) (GW L.hi);refine wpS_bind (D9 n (wpS_bind (w9 C (B.knd hk) (P.ka _ _ n) (by rw[Nat.add_sub_cancel' (DL L.hj)];exact Nat.le_refl _) P.kb (λu v p q W _ G Y=>Aj P.sb (EL W _) (IT.mp G) (IT.mp Y)) (Nat.sub_pos_of_lt L.hj) λk' hk1' k1' k2'=>?_)));have M:∀z∈b.toList.drop (j5+k'),le κ ai z:=λz H=>by
       obtain⟨t,X,e⟩:=Kf H;rw[AU]at X;exact Eh (k2' (k'+t) z (EU _ _) (by lia) (by rw[<-Nat.add_assoc];exact IT.mpr e))
      apply Eo (o:=o5) (i:=j5) (λo j=>QI κ a b (x+1+x3+1) o i4 j/\∀z∈b.toList.drop j,le κ ai z)
      .rintro o6 j6 ⟨p6,M⟩;refine wpS_bind (D9 n ?_);have m7:=P.pushA p6.m n M;refine P0 (λe5=>wpS_pure (.inl (MR.mk B (P.lastA m7 e5)))) λe5=>?_;have p7:=p6.putA m7 e5;exact U1 (λ_=>wpS_pure (.inr (QJ.mk B (p7.mono (by lia))))) λ_=>wpS_pure (QJ.mk B (p7.mono (by lia)))
      .intro hF J;have m6:ML κ a.toList b.toList (o5++b.extract j5 (j5+k')).toList i4 (j5+k'):=P.extB m5 λy hy z H=>by
        obtain⟨t,X,e⟩:=Di hy;exact JG (KeyOrd.kle_of_klt (Kd (k1' t y X (IT.mpr e)))) (Ee P.sa (IT.mp n) z H)
       have hj5:=L.hj;exact P0 (λe4=>wpS_pure (.inl (MR.mk B (P.doneB m6 e4)))) λe4=>hF _ _ ⟨⟨m6,L.hi,by lia,Nat.le_trans L.hn (by lia)⟩,M⟩
      .intro J;have z0:k'=0:=GJ J;subst z0;exact⟨L,M⟩
     .intro hF J;have hi:=D.hi;exact P0 (λG=>wpS_pure (.inl (MR.mk B (P.lastA m4 G)))) λG=>P0 (λY=>wpS_pure (.inl (MR.mk B (P.doneA m4 Y)))) λY=>hF _ _ ⟨⟨m4,by lia,D.hj,Nat.le_trans D.hn (by lia)⟩,K⟩
     .intro J;have z0:k=0:=GJ J;subst z0;exact⟨D,K⟩
end
section
variable{prog:A7}{w:F8}{A:IR}{E:A2->A4->Prop}{s:A4}{κ:KeyKind}{kd:KB}
def Ev:CW CM->CW CM->StateT IJ Sem (CW CM):=sortPriv% PySem.Builtin.mergeHi
theorem Kt(a b:CW CM):Ev a b =(do
  rule "list.sort.merge-hi"
  let e:=a.size+b.size
  let d (o:CW CM) (i j:Nat):=a.extract 0 i++b.extract 0 j++o.reverse
  let h (o:CW CM) (i j:Nat):=b.extract 0 j++a.extract 0 i++o.reverse
  let mut i:=a.size-1
  let mut j:=b.size
  let mut o:CW CM:=#[<-elem' a i]
  if i == 0 then return d o i j
  if j == 1 then return h o i j
  let mut mg:=gallopOf (<-get)
  for _ in [0:e] do
   let mut f:=0
   let mut g:=0
   for _ in [0:e] do
    let some l <-lt' (<-elem' b (j-1)) (<-elem' a (i-1)) | return d o i j
    if l then
     i:=i-1;o:=o.push (<-elem' a i);f:=f+1;g:=0
     if i == 0 then return d o i j
     if f ≥ mg then break
    else
     j:=j-1;o:=o.push (<-elem' b j);g:=g+1;f:=0
     if j == 1 then return h o i j
     if g ≥ mg then break
   rule "list.sort.gallop"
   mg:=mg+1
   for _ in [0:e] do
    if mg>1 then mg:=mg-1
    Bi mg
    let some c <-V2 false (<-elem' b (j-1)) a 0 i (i-1) | return d o i j
    let k:=i-c
    f:=k
    if k>0 then
     o:=o ++(a.extract c i).reverse;i:=c
     if i == 0 then return d o i j
    j:=j-1;o:=o.push (<-elem' b j)
    if j == 1 then return h o i j
    let some c <-V2 true (<-elem' a (i-1)) b 0 j (j-1) | return d o i j
    let k:=j-c
    g:=k
    if k>0 then
     o:=o ++(b.extract c j).reverse;j:=c
     if j == 1 then return h o i j
     if j == 0 then return d o i j
    i:=i-1;o:=o.push (<-elem' a i)
    if i == 0 then return d o i j
    if f<7&&g<7 then break
   mg:=mg+1
   Bi mg
  unsupported "internal:list.sort.merge-bound"):=rfl
abbrev PH(κ:KeyKind)(a b o:CW CM)(i j:Nat):Prop:=MH κ a.toList b.toList o.toList.reverse i j
section
variable{a b o:CW CM}{i j k:Nat}{p q:CM}
theorem td1{l:A1 CM}{i:Nat}{p:CM}(hi:1<=i)(h:l[i-1]?=some p):(l.take i).drop (i-1) = [p]:=by
 rw[GY,show i-(i-1)=1 by lia];exact Rh h
theorem Jk(a:CW CM)(k i:Nat):(a.extract k i).toList =(a.toList.take i).drop k:=by
 rw[FB,ES,GY]
theorem Fw{l:A1 CM}(h:LF κ l){i:Nat}{p:CM}(a:l[i-1]?=some p):∀z∈l.take i,le κ z p:=λz b=>by
 obtain⟨t,c,_,e⟩:=Nv b;exact Aj h (by lia) e a
theorem NP.hpA(P:NP κ a b)(m:PH κ a b o i j)(hi:1<=i)(c:a[i-1]?=some p)(h:∀z∈b.toList.take j,le κ z p):PH κ a b (o.push p) (i-1) j:=by
 have d:=m.addA P.sa (i-1) (by lia) (by rw[td1 hi (IT.mp c)];intro y e;rw[AD.mp e];exact h);rw[td1 hi (IT.mp c)]at d;unfold PH;rw[DH,HD];exact d
theorem NP.hpB(P:NP κ a b)(m:PH κ a b o i j)(c:1<=j)(d:b[j-1]?=some q)(h:∀z∈a.toList.take i,le κ z q):PH κ a b (o.push q) i (j-1):=by
 have e:=m.addB P.sb (j-1) (by lia) (by rw[td1 c (IT.mp d)];intro y f;rw[AD.mp f];exact h);rw[td1 c (IT.mp d)]at e;unfold PH;rw[DH,HD];exact e
theorem NP.heA(P:NP κ a b)(m:PH κ a b o i j)(c:k<=i)(h:∀y∈(a.toList.take i).drop k,∀z∈b.toList.take j,le κ z y):PH κ a b (o ++(a.extract k i).reverse) k j:=by
 unfold PH;rw[BR,FV,HD,List.reverse_reverse,Jk];exact m.addA P.sa k c h
theorem NP.heB(P:NP κ a b)(m:PH κ a b o i j)(c:k<=j)(h:∀y∈(b.toList.take j).drop k,∀z∈a.toList.take i,le κ z y):PH κ a b (o ++(b.extract k j).reverse) i k:=by
 unfold PH;rw[BR,FV,HD,List.reverse_reverse,Jk];exact m.addB P.sb k c h
theorem NP.hdA(P:NP κ a b)(m:PH κ a b o i j)(hi:i=0):Rm κ a b (a.extract 0 i++b.extract 0 j++o.reverse):=by
 unfold Rm;rw[BR,BR,FV,u0,u0];refine m.endA P.sa P.sb λy c z _=>?_;rw[hi,List.take_zero]at c;exact absurd c (by simp)
theorem NP.hdB(P:NP κ a b)(m:PH κ a b o i j)(d:j=0):Rm κ a b (a.extract 0 i++b.extract 0 j++o.reverse):=by
 unfold Rm;rw[BR,BR,FV,u0,u0];refine m.endA P.sa P.sb λy _ z c=>?_;rw[d,List.take_zero]at c;exact absurd c (by simp)
theorem NP.hfB(P:NP κ a b)(m:PH κ a b o i j)(g:j=1):Rm κ a b (b.extract 0 j++a.extract 0 i++o.reverse):=by
 unfold Rm;rw[BR,BR,FV,u0,u0];refine m.endB P.sa P.sb λy c z d=>?_;obtain⟨t,h,_,e⟩:=Nv c;have f:t=0:=by lia
 rw[f]at e;exact P.first y (IT.mpr e) z (CH d)
end
structure PF(κ:KeyKind)(a b:CW CM)(n:Nat)(o:CW CM)(i j:Nat):Prop where
 m:PH κ a b o i j
 hi:1<=i
 hj:2<=j
 ia:i<=a.size
 jb:j<=b.size
 hn:n+i+j<=a.size+b.size
theorem PF.putA{a b o c:CW CM}{n i j:Nat}(h:PF κ a b n o i j)(m:PH κ a b c (i-1) j)(e:i-1≠0):PF κ a b (n+1) c (i-1) j:=by
 obtain⟨_,g,d,k,f,l⟩:=h;exact⟨m,by lia,d,by lia,f,by lia⟩
theorem PF.putB{a b o c:CW CM}{n i j:Nat}(h:PF κ a b n o i j)(m:PH κ a b c i (j-1))(e:j-1≠1):PF κ a b (n+1) c i (j-1):=by
 obtain⟨_,d,g,f,k,l⟩:=h;exact⟨m,d,by lia,f,by lia,by lia⟩
theorem PF.mono{a b o:CW CM}{n c i j:Nat}(h:PF κ a b n o i j)(l:c<=n):PF κ a b c o i j:=⟨h.m,h.hi,h.hj,h.ia,h.jb,Nat.le_trans (Nat.add_le_add_right (Nat.add_le_add_right l _) _) h.hn⟩
theorem PF.la{a b o:CW CM}{n i j:Nat}(h:PF κ a b n o i j):i-1<a.size:=BJ (Nat.sub_lt h.hi (HK)) h.ia
theorem PF.lb{a b o:CW CM}{n i j:Nat}(h:PF κ a b n o i j):j-1<b.size:=BJ (Nat.sub_lt (GW h.hj) (HK)) h.jb
theorem PF.hj1{a b o:CW CM}{n i j:Nat}(h:PF κ a b n o i j):1<=j:=Nat.le_of_succ_le h.hj
def zHt(κ:KeyKind)(a b:CW CM)(st:IJ)(n:Nat)(c:A5 (CW CM)×Nat×Nat×CW CM×Nat)(d:IJ):Prop:=Sm st d/\∃i j o e,c =(none,i,j,o,e)/\PF κ a b n o i j
def P6(κ:KeyKind)(a b:CW CM)(st:IJ)(n:Nat)(c:A5 (CW CM)×Nat×Nat×CW CM×Nat×Nat)(d:IJ):Prop:=Sm st d/\∃i j o e f,c =(none,i,j,o,e,f)/\PF κ a b n o i j
def QK(κ:KeyKind)(a b:CW CM)(st:IJ)(n:Nat)(c:A5 (CW CM)×Nat×Nat×CW CM×Nat×Nat×Nat)(d:IJ):Prop:=Sm st d/\∃i j o e f g,c =(none,i,j,o,e,f,g)/\PF κ a b n o i j
theorem P6.mk{a b o:CW CM}{st c:IJ}{n i j d e:Nat}(f:Sm st c)(h:PF κ a b n o i j):P6 κ a b st n (none,i,j,o,d,e) c:=⟨f,_,_,_,_,_,rfl,h⟩
theorem QK.mk{a b o:CW CM}{st c:IJ}{n i j mg d e:Nat}(f:Sm st c)(h:PF κ a b n o i j):QK κ a b st n (none,i,j,o,mg,d,e) c:=⟨f,_,_,_,_,_,_,rfl,h⟩
theorem Jn(C:Q_ prog w A s κ kd){st:IJ}{a b:CW CM}{Q:CW CM->IJ->Prop}(hk:kindOf st=kd)(P:NP κ a b)
  (h:∀r f,Sm st f->Rm κ a b r->Q r f):wpS (model prog w) A E s (Ev a b) Q st:=by
 rw[Kt];have hna:=P.na;have hnb:=P.nb;obtain⟨b0,U⟩:=i7 (a:=a) (i:=a.size-1) (Nat.sub_lt hna HK);have m0:PH κ a b (#[]:CW CM) a.size b.size:=⟨by simp,List.Pairwise.nil,λx hx=>absurd hx (by simp),λx hx=>absurd hx (by simp)⟩;have m1:PH κ a b (#[b0]:CW CM) (a.size-1) b.size:=by
  have:=P.hpA m0 hna U (λz J=>P.last b0 U z (CH J));simpa using this
 apply Ud (x0:=b0) (λR z=>wpS_lift (EG ⟨rfl,z⟩)) (λR z=>D9 U z)
 case h1=>exact λN=>wpS_pure (h _ _ (Sm.refl _) (P.hdA m1 (eq_of_beq N)))
 case h2=>exact λ_ O=>wpS_pure (h _ _ (Sm.refl _) (P.hfB m1 (eq_of_beq O)))
 intro N O;have N:¬a.size-1=0:=λz=>N (beq_iff_eq.mpr z);have O:¬b.size=1:=λz=>O (beq_iff_eq.mpr z);have p1:PF κ a b 1 #[b0] (a.size-1) b.size:=⟨m1,by lia,by lia,by lia,by lia,by lia⟩;refine wpS_mono (wpS_forRange (I:=λx=>zHt κ a b st (x+1)) (Q:=MR κ a b st) ?st ?en ⟨Sm.refl _,_,_,_,_,rfl,p1⟩) ?po
 case po =>
  rintro⟨c1,c2⟩ f ⟨sm,r,e,hr⟩;cases e;exact wpS_pure (h r f sm hr)
 case en =>
  rintro c f ⟨sm,i,j,o,mg,rfl,p⟩;obtain⟨_,h1,h2,_,_,h3⟩:=p;exfalso;lia
 case st =>
  rintro x c f _ hx ⟨sm,i,j,o,mg,rfl,p⟩;refine wpS_bind (wpS_mono (wpS_forRange (I:=λ_=>P6 κ a b st (x+1)) (Q:=λc f=>MR κ a b st c f\/P6 κ a b st (x+1) c f) ?st1 ?en1 (P6.mk sm p)) ?po1)
  case en1=>exact λc st2 z=>.inr z
  case st1 =>
   rintro x2 c st2 _ _ ⟨l,i',j',o,ac,bc,rfl,M⟩;obtain⟨bj,n⟩:=i7 (a:=b) (i:=j' - 1) M.lb;obtain⟨ai,B⟩:=i7 (a:=a) (i:=i' - 1) M.la;refine wpS_bind (D9 n (wpS_bind (D9 B (wpS_bind (Ir C (l.knd hk) (P.kb _ _ n) (P.ka _ _ B) ?_)))));refine U1 (λV=>wpS_bind (D9 B ?_)) λV=>wpS_bind (D9 n ?_)
   .have m3:=P.hpA M.m M.hi B λz J=>JG (Fw P.sb (IT.mp n) z J) (KeyOrd.kle_of_klt V);refine P0 (λH=>wpS_pure (.inl (MR.mk l (P.hdA m3 H)))) λH=>?_;have F:=(M.putA m3 H).mono (EN _);exact U1 (λ_=>wpS_pure (.inr (P6.mk l F))) λ_=>wpS_pure (P6.mk l F)
   .have m3:=P.hpB M.m M.hj1 n λz J=>JG (Fw P.sa (IT.mp B) z J) (show le κ ai bj from DB.mpr V);refine P0 (λH=>wpS_pure (.inl (MR.mk l (P.hfB m3 H)))) λH=>?_;have F:=(M.putB m3 H).mono (EN _);exact U1 (λ_=>wpS_pure (.inr (P6.mk l F))) λ_=>wpS_pure (P6.mk l F)
  case po1 =>
   rintro⟨c1,c2⟩ st2 (⟨l,r,e,hr⟩ | ⟨l,i2,j2,o2,ac,bc,e,M⟩)
   .cases e;exact wpS_pure (MR.mk l hr)
   .cases e;refine wpS_bind (wpS_lift (EG ⟨rfl,?_⟩));refine wpS_bind (wpS_mono (wpS_forRange (I:=λx3=>QK κ a b st (x+1+x3)) (Q:=λc f=>MR κ a b st c f\/QK κ a b st (x+1+1) c f) ?st2 ?en2 (QK.mk l M)) ?po2)
    case en2 =>
     rintro c st3 ⟨G,i',j',o',mg',ac,bc,rfl,F⟩;exact .inr (QK.mk G (F.mono (by lia)))
    case po2 =>
     rintro⟨c1,c2⟩ st3 (⟨G,r,e,hr⟩ | ⟨G,i',j',o',mg',ac,bc,e,F⟩)
     .cases e;exact wpS_pure (MR.mk G hr)
     .cases e;refine wpS_bind (X9 G λst4 D=>?_);exact wpS_pure ⟨D,_,_,_,_,rfl,F⟩
    case st2 =>
     rintro x3 c st3 _ _ ⟨G,i3,j3,o3,mg3,ac3,bc3,rfl,F⟩;obtain⟨bj,n⟩:=i7 (a:=b) (i:=j3-1) F.lb;apply Tw (mg3-1) (y:=mg3)
     case e=>exact rfl
     intro g;refine wpS_bind (X9 G λst4 D=>?_);refine wpS_bind (D9 n (wpS_bind (w9 C (D.knd hk) (P.kb _ _ n) (by rw[FG];exact F.ia) P.ka (λu v p q W _ H e2=>Aj P.sa (EL W _) (IT.mp H) (IT.mp e2)) (Nat.sub_lt F.hi HK) λk X k1 k2=>?_)));dsimp only;have m4:PH κ a b (o3 ++(a.extract k i3).reverse) k j3:=P.heA F.m X λy hy z J=>by
      obtain⟨t,Y,Z,e⟩:=Yb hy;exact JG (Fw P.sb (IT.mp n) z J) (KeyOrd.kle_of_klt (Bv (k2 t y Y Z (by rw[FG];exact IT.mpr e))))
     have S:∀z∈a.toList.take k,le κ z bj:=λz J=>by
      obtain⟨t,ht,_,e⟩:=Nv J;exact Ew (k1 t z ht (by rw[FG];exact IT.mpr e))
     generalize hd:i3-k=d;apply Eo (o:=o3) (i:=i3) (λo i=>PF κ a b (x+1+x3) o i j3/\∀z∈a.toList.take i,le κ z bj)
     .rintro o4 i4 ⟨p4,S⟩;refine wpS_bind (D9 n ?_);have m5:=P.hpB p4.m p4.hj1 n S;refine P0 (λe3=>wpS_pure (.inl (MR.mk D (P.hfB m5 e3)))) λe3=>?_;have p5:=p4.putB m5 e3;generalize o4.push bj=o5 at m5 p5⊢;generalize j3-1=j5 at m5 p5⊢;obtain⟨ai,B⟩:=i7 (a:=a) (i:=i4-1) p5.la;refine wpS_bind (D9 B (wpS_bind (w9 C (D.knd hk) (P.ka _ _ B) (by rw[FG];exact p5.jb) P.kb (λu v p q W _ H e2=>Aj P.sb (EL W _) (IT.mp H) (IT.mp e2)) (Nat.sub_lt p5.hj1 HK) λk' K k1' k2'=>?_)));dsimp only;have T:∀z∈b.toList.take k',le κ z ai:=λz J=>by
       obtain⟨t,ht,_,e⟩:=Nv J;exact KeyOrd.kle_of_klt (Kd (k1' t z ht (by rw[FG];exact IT.mpr e)))
      generalize hd':j5-k'=d';apply Eo (o:=o5) (i:=j5) (λo j=>PF κ a b (x+1+x3+1) o i4 j/\∀z∈b.toList.take j,le κ z ai)
      .rintro o6 j6 ⟨p6,T⟩;refine wpS_bind (D9 B ?_);have m7:=P.hpA p6.m p6.hi B T;refine P0 (λe5=>wpS_pure (.inl (MR.mk D (P.hdA m7 e5)))) λe5=>?_;have p7:=p6.putA m7 e5;exact U1 (λ_=>wpS_pure (.inr (QK.mk D (p7.mono (by lia))))) λ_=>wpS_pure (QK.mk D (p7.mono (by lia)))
      .intro hF L;have m6:PH κ a b (o5 ++(b.extract k' j5).reverse) i4 k':=P.heB m5 K λy hy z J=>by
        obtain⟨t,Y,Z,e⟩:=Yb hy;exact JG (Fw P.sa (IT.mp B) z J) (Eh (k2' t y Y Z (by rw[FG];exact IT.mpr e)))
       obtain⟨_,h1,h2,h3,h4,h5⟩:=p5;exact P0 (λe4=>wpS_pure (.inl (MR.mk D (P.hfB m6 e4)))) λe4=>P0 (λe5=>wpS_pure (.inl (MR.mk D (P.hdB m6 e5)))) λe5=>hF _ _ ⟨⟨m6,h1,by lia,h3,Nat.le_trans K h4,by lia⟩,T⟩
      .intro L;have z0:k'=j5:=Nat.le_antisymm K (Nat.le_of_sub_eq_zero (hd'.trans (GJ L)));subst z0;exact⟨p5,T⟩
     .intro hF L;obtain⟨_,h1,h2,h3,h4,h5⟩:=F;exact P0 (λH=>wpS_pure (.inl (MR.mk D (P.hdA m4 H)))) λH=>hF _ _ ⟨⟨m4,by lia,h2,Nat.le_trans X h3,h4,by lia⟩,S⟩
     .intro L;have z0:k=i3:=Nat.le_antisymm X (Nat.le_of_sub_eq_zero (hd.trans (GJ L)));subst z0;exact⟨F,S⟩
end
section
variable{prog:A7}{w:F8}{A:IR}{E:A2->A4->Prop}{s:A4}{κ:KeyKind}{kd:KB}
def JU(l:A1 CM)(lo n:Nat):A1 CM:=(l.drop lo).take n
theorem Tj(m:A1 CM)(lo:Nat):∀(n:Nat) (a:CW CM),lo+n+m.length<=a.size ->
  ((m.zipIdx n).foldl (λa (x:CM×Nat)=>a.setIfInBounds (lo+x.2) x.1) a).size=a.size /\
  ∀t:Nat,((m.zipIdx n).foldl (λa (x:CM×Nat)=>a.setIfInBounds (lo+x.2) x.1) a)[t]?=if lo+n<=t/\t<lo+n+m.length then m[t-(lo+n)]? else a[t]?:=by
 induction m with
 | nil =>
  intro n a h;refine⟨rfl,λt=>?_⟩;rw[AJ (by simp only[EO];lia)];rfl
 | cons p m d =>
  intro n a h;rw[AR]at h;rw[List.zipIdx_cons,List.foldl_cons];obtain⟨e,f⟩:=d (n+1) (a.setIfInBounds (lo+n) p) (by rw[HF];lia);refine⟨e.trans HF,λt=>?_⟩;rw[f t,AR];by_cases b:lo+n=t
  .subst b;rw[AJ (by lia),AL (by lia),Array.getElem?_setIfInBounds_self_of_lt (by lia),Nat.sub_self];rfl
  .by_cases c:lo +(n+1)<=t/\t<lo +(n+1)+m.length
   .rw[AL c,AL (by lia),show t-(lo+n) =(t-(lo +(n+1)))+1 by lia,DV]
   .rw[AJ c,AJ (by lia),Array.getElem?_setIfInBounds_ne b]
theorem Cm(m:A1 CM)(lo:Nat)(a:CW CM)(h:lo+m.length<=a.size) :
  (m.zipIdx.foldl (λa (x:CM×Nat)=>a.setIfInBounds (lo+x.2) x.1) a).toList=a.toList.take lo++m++a.toList.drop (lo+m.length):=by
 obtain⟨e,c⟩:=Tj m lo 0 a (by lia);refine FW λt=>?_;rw[BP,c t];have b:(a.toList.take lo).length=lo:=by rw[AZ,AU];lia
 by_cases d:t<lo
 .rw[AJ (by lia),BE,EA (by lia),DP d,BP]
 .by_cases f:t<lo+m.length
  .rw[AL (by lia),EA (by rw[AW];lia),DW (by lia),b];rfl
  .rw[AJ (by lia),DW (by rw[AW];lia),AW,b,GK,BP];congr 1;lia
theorem Qa(l:A1 CM)(lo n:Nat):l=l.take lo++JU l lo n++l.drop (lo+n):=by
 unfold JU;rw[BE,<-FJ,BT,BT]
theorem Lf(l:A1 CM)(lo n m:Nat):JU l lo (n+m)=JU l lo n++JU l (lo+n) m:=by
 unfold JU;rw[List.take_add,FJ]
structure LU(κ:KeyKind)(l l':A1 CM)(lo n:Nat):Prop where
 perm:l'.Perm l
 front:l'.take lo=l.take lo
 back:l'.drop (lo+n)=l.drop (lo+n)
theorem LU.refl(l:A1 CM)(lo n:Nat):LU κ l l lo n:=⟨List.Perm.refl _,rfl,rfl⟩
theorem LU.seg_front{l a:A1 CM}{lo n:Nat}(h:LU κ l a lo n){u m:Nat}(b:u+m<=lo):JU a u m=JU l u m:=by
 have:∀x:A1 CM,JU x u m =((x.take lo).drop u).take m:=λx=>by
  unfold JU;rw[GY,List.take_take,GO (by lia)]
 rw[this,this,h.front]
theorem LU.seg_back{l a:A1 CM}{lo n:Nat}(h:LU κ l a lo n){u m:Nat}(b:lo+n<=u):JU a u m=JU l u m:=by
 have:∀x:A1 CM,JU x u m =((x.drop (lo+n)).drop (u-(lo+n))).take m:=λx=>by
  unfold JU;rw[FJ,show lo+n +(u-(lo+n))=u by lia]
 rw[this,this,h.back]
theorem LU.of{l z:A1 CM}{lo n:Nat}(a:z.Perm (JU l lo n))(d:lo+n<=l.length):LU κ l (l.take lo++z++l.drop (lo+n)) lo n/\JU (l.take lo++z++l.drop (lo+n)) lo n=z:=by
 have b:(l.take lo).length=lo:=by rw[AZ];lia
 have c:z.length=n:=by
  rw[a.length_eq];unfold JU;rw[AZ,D_];lia
 refine⟨⟨?_,?_,?_⟩,?_⟩
 .conv=>rhs;rw[Qa l lo n]
  exact DZ _ (DU _ a)
 .rw[BE,List.take_append_of_le_length (by lia),DA (by lia)]
 .rw[List.drop_append,FF (by rw[AW];lia),List.nil_append,AW,b,c,Nat.sub_self,FK]
 .unfold JU;rw[BE,List.drop_append,FF (by lia),List.nil_append,b,Nat.sub_self,FK,List.take_append_of_le_length (by lia),DA (by lia)]
structure St(κ:KeyKind)(kd:KB)(a₀:CW CM)(st:IJ):Prop where
 perm:(arrOf st).toList.Perm a₀.toList
 kind:kindOf st=kd
 failed:failedOf st=none
theorem St.size{a₀:CW CM}{st:IJ}(h:St κ kd a₀ st):(arrOf st).size=a₀.size:=by
 have:=h.perm.length_eq;simpa using this
theorem St.has{a₀:CW CM}{st:IJ}(h:St κ kd a₀ st)(b:KeysOf κ a₀)(i:Nat)(p:CM)(e:(arrOf st)[i]?=some p):RL κ p :=
 b p (h.perm.mem_iff.mp (AI (IT.mp e)))
theorem Q8{l:A1 CM}{lo n t:Nat}(a:t<n):(JU l lo n)[t]?=l[lo+t]?:=by
 unfold JU;rw[DP a,GK]
theorem Jz(i:Nat):mergeAt' i =(do
  let u <-get
  let(some (b,c,f),some (e,d,_)):=((pendingOf u)[i]?,(pendingOf u)[i+1]?) | unsupported "internal:list.sort.pending"
  set (setPending u (((pendingOf u).setIfInBounds i (b,c+d,f)).eraseIdxIfInBounds (i+1)))
  let some k <-V2 false (<-elem' (arrOf u) e) (arrOf u) b c 0 | return false
  let(b,c):=(b+k,c-k)
  if c == 0 then return true
  let some d <-V2 true (<-elem' (arrOf u) (b+c-1)) (arrOf u) e d (d-1) | return false
  if d == 0 then return true
  let x:=(arrOf u).extract b e
  let y:=(arrOf u).extract e (e+d)
  let g <-if c<=d then Ei x y else Ev x y
  modify λv=>setArr v (g.toList.zipIdx.foldl (λa (z:CM×Nat)=>a.setIfInBounds (b+z.2) z.1) (arrOf v))
  return(failedOf (<-get)).isNone):=rfl
theorem zAp{st st2:IJ}{Q:PUnit->IJ->Prop}(h:Q ⟨⟩ st2):wpS (model prog w) A E s (set st2:StateT IJ Sem PUnit) Q st:=by
 unfold wpS;rw[StateT.run_set];exact AF ⟨rfl,h⟩
theorem Jp(C:Q_ prog w A s κ kd){a₀:CW CM}(L:KeysOf κ a₀){st:IJ}{i b c pw sb f pw2:Nat}{Q:Bool->IJ->Prop}(j:St κ kd a₀ st)
  (hi:(pendingOf st)[i]?=some (b,c,pw)) (hj:(pendingOf st)[i+1]?=some (sb,f,pw2)) (hsb:sb=b+c) (hsz:sb+f<=a₀.size) (hna:1<=c) (hnb:1<=f)
  (N:LF κ (JU (arrOf st).toList b c)) (O:LF κ (JU (arrOf st).toList sb f))
  (h:∀n,St κ kd a₀ n->LU κ (arrOf st).toList (arrOf n).toList b (c+f)->LF κ (JU (arrOf n).toList b (c+f)) ->
   pendingOf n =((pendingOf st).setIfInBounds i (b,c+f,pw)).eraseIdxIfInBounds (i+1)->Q true n):wpS (model prog w) A E s (mergeAt' i) Q st:=by
 subst hsb;have hL:(arrOf st).toList.length=a₀.size:=by rw[AU];exact j.size
 have hsz':=j.size;rw[Jz];refine wpS_bind (wpS_get ?_);rw[hi,hj];dsimp only;refine wpS_bind (zAp ?_);obtain⟨R,D⟩:=i7 (a:=arrOf st) (i:=b+c) (by lia);have S:∀u v p q,u<=v->v<c->(arrOf st)[b+u]?=some p->(arrOf st)[b+v]?=some q->le κ p q:=λu v p q H hv T F =>
  Aj N H (by rw[Q8 (by lia)];exact IT.mp T) (by rw[Q8 hv];exact IT.mp F)
 have U:∀u v p q,u<=v->v<f->(arrOf st)[b+c+u]?=some p->(arrOf st)[b+c+v]?=some q->le κ p q:=λu v p q H hv T F =>
  Aj O H (by rw[Q8 (by lia)];exact IT.mp T) (by rw[Q8 hv];exact IT.mp F)
 refine wpS_bind (D9 D (wpS_bind (w9 C j.kind (j.has L _ _ D) (by lia) (j.has L) S (by lia) λk hk1 k1 k2=>?_)));dsimp only;have V:∀z∈JU (arrOf st).toList (b+c) f,le κ R z:=λz I=>by
  obtain⟨t,l,e⟩:=Di I;exact U 0 t R z (by lia) l D (IT.mpr e)
 have xk:∀x∈(JU (arrOf st).toList b c).take k,le κ x R:=λx hx=>by
  obtain⟨t,l,o,e⟩:=Nv hx;unfold JU at o;rw[AZ]at o;rw[Q8 (by lia)]at e;exact Ew (k1 t x l (IT.mpr e))
 have kx:∀x∈(JU (arrOf st).toList b c).drop k,le κ R x:=λx hx=>by
  obtain⟨t,l,e⟩:=Kf hx;unfold JU at l;rw[AZ]at l;rw[Q8 (by lia)]at e;exact KeyOrd.kle_of_klt (Bv (k2 (k+t) x (by lia) (by lia) (IT.mpr e)))
 have W:St κ kd a₀ (setPending st (((pendingOf st).setIfInBounds i (b,c+f,pw)).eraseIdxIfInBounds (i+1))):=⟨j.perm,j.kind,j.failed⟩;by_cases X:c-k=0
 .rw[AL (by simpa using X)];have hkk:k=c:=by lia
  refine wpS_pure (h _ W (LU.refl _ _ _) ?_ rfl);show LF κ (JU (arrOf st).toList b (c+f));rw[Lf];refine CO.mpr ⟨N,O,λx hx y hy=>JG (xk x ?_) (V y hy)⟩;rw[DA (by unfold JU;rw[AZ];lia)];exact hx
 rw[AJ (by simpa using X)];obtain⟨M,J⟩:=i7 (a:=arrOf st) (i:=b+k +(c-k)-1) (by lia);refine wpS_bind (D9 J (wpS_bind (w9 C W.kind (j.has L _ _ J) (by lia) (j.has L) U (by lia) λg Y k1' k2'=>?_)));dsimp only;have G:(arrOf st)[b +(c-1)]?=some M:=by rw[show b +(c-1)=b+k +(c-k)-1 by lia];exact J
 have K:∀x∈JU (arrOf st).toList b c,le κ x M:=λx hx=>by
  obtain⟨t,l,e⟩:=Di hx;exact S t (c-1) x M (by lia) (by lia) (IT.mpr e) G
 have yk:∀y∈(JU (arrOf st).toList (b+c) f).take g,le κ y M:=λy hy=>by
  obtain⟨t,l,o,e⟩:=Nv hy;unfold JU at o;rw[AZ]at o;rw[Q8 (by lia)]at e;exact KeyOrd.kle_of_klt (Kd (k1' t y l (IT.mpr e)))
 have ky:∀y∈(JU (arrOf st).toList (b+c) f).drop g,le κ M y:=λy hy=>by
  obtain⟨t,l,e⟩:=Kf hy;unfold JU at l;rw[AZ]at l;rw[Q8 (by lia)]at e;exact Eh (k2' (g+t) y (by lia) (by lia) (IT.mpr e))
 by_cases B:g=0
 .rw[AL (by simpa using B)];refine wpS_pure (h _ W (LU.refl _ _ _) ?_ rfl);show LF κ (JU (arrOf st).toList b (c+f));rw[Lf];refine CO.mpr ⟨N,O,λx hx y hy=>JG (K x hx) (ky y ?_)⟩;rw[B,FK];exact hy
 rw[AJ (by simpa using B)];have Z:((arrOf st).extract (b+k) (b+c)).toList =(JU (arrOf st).toList b c).drop k:=by
  rw[Jk];unfold JU;rw[GY,GY,FJ];congr 1;lia
 have ey:((arrOf st).extract (b+c) (b+c+g)).toList =(JU (arrOf st).toList (b+c) f).take g:=by
  rw[Dw];unfold JU;rw[List.take_take,GO Y]
 have P:NP κ ((arrOf st).extract (b+k) (b+c)) ((arrOf st).extract (b+c) (b+c+g)):=by
  refine⟨by rw[Z];exact N.sublist (FT _ _),by rw[ey];exact O.sublist (FD _ _),λt p e=>?_,λt p e=>?_,?_,?_,λq e z I=>?_,λp e z I=>?_⟩
  .have m:=AI (IT.mp e);rw[Z]at m;obtain⟨u,_,F⟩:=Di (FA m);exact j.has L _ p (IT.mpr F)
  .have m:=AI (IT.mp e);rw[ey]at m;obtain⟨u,_,F⟩:=Di (CH m);exact j.has L _ p (IT.mpr F)
  .rw[GL];lia
  .rw[GL];lia
  .have m:=IT.mp e;rw[ey,DP (by lia),Q8 (by lia)]at m;have:q=R:=by
    have:=IT.mp D;rw[Nat.add_zero,this]at m;exact(BH m).symm
   subst this;rw[Z]at I;exact kx z I
  .have m:=IT.mp e;rw[Z,GL,GK,Q8 (by lia)]at m;have:p=M:=by
    have q:=IT.mp G;rw[show k +(min (b+c) (arrOf st).size-(b+k)-1)=c-1 by lia,q]at m;exact(BH m).symm
   subst this;rw[ey]at I;exact yk z I
 have fin:∀(r:CW CM) (d:IJ),Sm (setPending st (((pendingOf st).setIfInBounds i (b,c+f,pw)).eraseIdxIfInBounds (i+1))) d->Rm κ ((arrOf st).extract (b+k) (b+c)) ((arrOf st).extract (b+c) (b+c+g)) r ->
   Q (failedOf (setArr d (r.toList.zipIdx.foldl (λa (z:CM×Nat)=>a.setIfInBounds (b+k+z.2) z.1) (arrOf d)))).isNone (setArr d (r.toList.zipIdx.foldl (λa (z:CM×Nat)=>a.setIfInBounds (b+k+z.2) z.1) (arrOf d))):=by
  rintro r d ⟨q1,q2,q3,q4⟩ ⟨r1,r2⟩;rw[Z,ey]at r2;have hrl:r.toList.length =(c-k)+g:=by
   rw[r2.length_eq,AW];unfold JU;rw[D_,AZ,AZ,D_,AZ,D_];lia
  have q2':arrOf d=arrOf st:=q2;have ef:failedOf (setArr d (r.toList.zipIdx.foldl (λa (z:CM×Nat)=>a.setIfInBounds (b+k+z.2) z.1) (arrOf d)))=none:=q4.trans j.failed;rw[ef];have el:=Cm r.toList (b+k) (arrOf d) (by rw[q2'];lia);have eq:(r.toList.zipIdx.foldl (λa (z:CM×Nat)=>a.setIfInBounds (b+k+z.2) z.1) (arrOf d)).toList =(arrOf st).toList.take b ++((JU (arrOf st).toList b c).take k++r.toList ++(JU (arrOf st).toList (b+c) f).drop g) ++(arrOf st).toList.drop (b +(c+f)):=by
   rw[el,q2',hrl];have T:(arrOf st).toList.take (b+k) =(arrOf st).toList.take b ++(JU (arrOf st).toList b c).take k:=by
    unfold JU;rw[List.take_add,List.take_take,GO hk1]
   have F:(arrOf st).toList.drop (b+k +(c-k+g)) =(JU (arrOf st).toList (b+c) f).drop g ++(arrOf st).toList.drop (b +(c+f)):=by
    unfold JU;rw[GY,FJ,show b+k +(c-k+g)=b+c+g by lia]
    conv=>lhs;rw[<-BT (f-g) ((arrOf st).toList.drop (b+c+g))]
    rw[FJ,show b+c+g +(f-g)=b +(c+f) by lia]
   rw[T,F];simp only[BE]
  have hp:((JU (arrOf st).toList b c).take k++r.toList ++(JU (arrOf st).toList (b+c) f).drop g).Perm (JU (arrOf st).toList b (c+f)):=by
   rw[Lf];have a1:((JU (arrOf st).toList b c).take k++r.toList ++(JU (arrOf st).toList (b+c) f).drop g).Perm ((JU (arrOf st).toList b c).take k ++((JU (arrOf st).toList b c).drop k ++(JU (arrOf st).toList (b+c) f).take g) ++(JU (arrOf st).toList (b+c) f).drop g) :=
    DZ _ (DU _ r2)
   refine a1.trans (List.Perm.of_eq ?_);rw[<-BE,BT,BE,BT]
  obtain⟨pa,ps⟩:=LU.of (κ:=κ) hp (by rw[hL];lia);have hs:LF κ ((JU (arrOf st).toList b c).take k++r.toList ++(JU (arrOf st).toList (b+c) f).drop g):=by
   refine CO.mpr ⟨CO.mpr ⟨N.sublist (FD _ _),r1,λx hx y hy=>?_⟩,O.sublist (FT _ _),λx hx y hy=>?_⟩
   .rcases AO.mp (r2.mem_iff.mp hy)with hy | hy
    .exact JG (xk x hx) (kx y hy)
    .exact JG (xk x hx) (V y (CH hy))
   .rcases AO.mp hx with hx | hx
    .exact JG (K x (CH hx)) (ky y hy)
    .rcases AO.mp (r2.mem_iff.mp hx)with hx | hx
     .exact JG (K x (FA hx)) (ky y hy)
     .exact JG (yk x hx) (ky y hy)
  refine h _ ⟨?_,q1.trans j.kind,q4.trans j.failed⟩ ?_ ?_ q3
  .show(r.toList.zipIdx.foldl (λa (z:CM×Nat)=>a.setIfInBounds (b+k+z.2) z.1) (arrOf d)).toList.Perm a₀.toList;rw[eq];exact pa.perm.trans j.perm
  .show LU κ (arrOf st).toList (r.toList.zipIdx.foldl (λa (z:CM×Nat)=>a.setIfInBounds (b+k+z.2) z.1) (arrOf d)).toList b (c+f);rw[eq];exact pa
  .show LF κ (JU (r.toList.zipIdx.foldl (λa (z:CM×Nat)=>a.setIfInBounds (b+k+z.2) z.1) (arrOf d)).toList b (c+f));rw[eq,ps];exact hs
 by_cases hab:c-k<=g
 .rw[AL hab];refine wpS_bind (La C W.kind P λr d q r1=>?_);exact wpS_bind (wpS_modify (wpS_bind (wpS_get (wpS_pure (fin r d q r1)))))
 .rw[AJ hab];refine wpS_bind (Jn C W.kind P λr d q r1=>?_);exact wpS_bind (wpS_modify (wpS_bind (wpS_get (wpS_pure (fin r d q r1)))))
end
section
variable{prog:A7}{w:F8}{A:IR}{E:A2->A4->Prop}{s:A4}{κ:KeyKind}{kd:KB}{a₀:CW CM}
theorem Vc{xs:CW CM}{i:Nat}{p:CM}(h:xs[i]?=some p):KK κ xs i=kk κ p:=by unfold KK kk;rw[h]
def SI(κ:KeyKind)(xs:CW CM)(lo m:Nat):Prop:=∀i j,i<=j->j<m->κ.kle (KK κ xs (lo+i)) (KK κ xs (lo+j))
def NI(κ:KeyKind)(xs:CW CM)(lo m:Nat):Prop:=∀i j,i<=j->j<m->κ.kle (KK κ xs (lo+j)) (KK κ xs (lo+i))
theorem SI.sor{xs:CW CM}{lo m:Nat}(h:SI κ xs lo m):LF κ (JU xs.toList lo m):=by
 refine List.pairwise_iff_getElem.mpr λi j a b c=>?_;unfold JU at a b;rw[AZ]at a b;have d:xs[lo+i]?=some (JU xs.toList lo m)[i]:=by
  rw[IT,<-Q8 (n:=m) (by lia)];exact AC _
 have e:xs[lo+j]?=some (JU xs.toList lo m)[j]:=by
  rw[IT,<-Q8 (n:=m) (by lia)];exact AC _
 have:=h i j (by lia) (by lia);rw[Vc d,Vc e]at this;exact this
structure Lo(κ:KeyKind)(kd:KB)(a₀:CW CM)(st0:IJ)(lo n:Nat)(st:IJ):Prop where
 S:St κ kd a₀ st
 pend:pendingOf st=pendingOf st0
 out:∀t,t<lo\/lo+n<=t->(arrOf st)[t]? =(arrOf st0)[t]?
theorem Lo.part{st0 st:IJ}{lo n:Nat}(h:Lo κ kd a₀ st0 lo n st)(c:St κ kd a₀ st0):LU κ (arrOf st0).toList (arrOf st).toList lo n:=by
 refine⟨h.S.perm.trans c.perm.symm,FW λt=>?_,FW λt=>?_⟩
 .by_cases b:t<lo
  .rw[DP b,DP b,BP,BP];exact h.out t (.inl b)
  .rw[ET (by rw[AZ];lia),ET (by rw[AZ];lia)]
 .rw[GK,GK,BP,BP];exact h.out _ (.inr (by lia))
theorem Lo.mirror{st0 st:IJ}{lo n i j:Nat}(h:Lo κ kd a₀ st0 lo n st)(hi:lo<=i)(c:j<=lo+n)(d:lo+n<=a₀.size):Lo κ kd a₀ st0 lo n (setArr st (mirror (arrOf st) i j ((j-i) / 2))):=by
 refine⟨⟨(Array.perm_iff_toList_perm.mp (mirror_perm _ _ _ _)).trans h.S.perm,h.S.kind,h.S.failed⟩,h.pend,λt b=>?_⟩;show(PyProof.Rows.mirror (arrOf st) i j ((j-i) / 2))[t]?=_;have:=h.S.size;rw[getElem?_mirror_all (by lia),AJ (by lia)];exact h.out t b
theorem S4(C:Q_ prog w A s κ kd)(e:KeysOf κ a₀){st:IJ}(b:St κ kd a₀ st){i j:Nat}{Q:A5 Bool->IJ->Prop}(hi:i<a₀.size)(f:j<a₀.size)
  (h:Q (some (κ.blt (KK κ (arrOf st) i) (KK κ (arrOf st) j))) st):wpS (model prog w) A E s (ltAt' i j) Q st:=by
 have:=b.size;obtain⟨p,c⟩:=i7 (a:=arrOf st) (i:=i) (by lia);obtain⟨q,d⟩:=i7 (a:=arrOf st) (i:=j) (by lia);rw[ltAt'_eq];refine wpS_bind (wpS_get ?_);refine wpS_bind (D9 c (wpS_bind (D9 d (Ir C b.kind (b.has e _ _ c) (b.has e _ _ d) ?_))));rw[Vc c,Vc d]at h;exact h
theorem TN{st:IJ}{lo a b:Nat}{f:Nat->(A5 (A5 Nat)×Nat)->StateT IJ Sem (ForInStep (A5 (A5 Nat)×Nat))}{Q:(A5 (A5 Nat)×Nat)->IJ->Prop}
  (y:∀x n,1<=n->n<b->wpS (model prog w) A E s (f x (none,n)) (λr k=>k=st/\r=if κ.blt (KK κ (arrOf st) (lo+n)) (KK κ (arrOf st) (lo+n-1))=true then .done (none,n)else .yield (none,n+1)) st)
  (B:1<=a) (m:a<=b) (z:SI κ (arrOf st) lo a)
  (h:∀n,a<=n->n<=b->SI κ (arrOf st) lo n->(n=b\/κ.klt (KK κ (arrOf st) (lo+n)) (KK κ (arrOf st) (lo+n-1)))->Q (none,n) st):wpS (model prog w) A E s (forIn [a:b] (none,a) f) Q st:=by
 refine wpS_forRange (I:=λx c k=>k=st/\c =(none,x)/\SI κ (arrOf st) lo x) ?_ ?_ ⟨rfl,rfl,z⟩
 .rintro x c k o p ⟨rfl,rfl,g⟩;refine wpS_mono (y x x (by lia) p) λr l ⟨e,er⟩=>?_;subst e;cases d:κ.blt (KK κ (arrOf l) (lo+x)) (KK κ (arrOf l) (lo+x-1))
  .rw[d,AJ BA]at er;subst er;refine⟨rfl,rfl,λi j q C=>?_⟩;by_cases t:j<x
   .exact g i j q t
   .have u:j=x:=by lia
    subst u;by_cases v:i=j
    .subst v;exact KeyOrd.kle_refl _
    .have:=g i (j-1) (by lia) (by lia);rw[show lo +(j-1)=lo+j-1 by lia]at this;exact KeyOrd.kle_trans this d
  .rw[d,AL rfl]at er;subst er;exact h x o (by lia) g (.inr d)
 .rintro c k ⟨rfl,rfl,g⟩;rw[show max a b=b by lia]at g⊢;exact h b m (Nat.le_refl _) g (.inl rfl)
theorem NI.step{xs e:CW CM}{lo x:Nat}(l:1<=x)(f:∀k,KK κ e k=KK κ xs k)(g:NI κ xs lo x)(h:κ.kle (KK κ xs (lo+x)) (KK κ xs (lo+x-1))):NI κ e lo (x+1):=by
 intro i j a m;rw[f,f];by_cases b:j<x
 .exact g i j a b
 .have c:j=x:=by lia
  subst c;by_cases d:i=j
  .subst d;exact KeyOrd.kle_refl _
  .have:=g i (j-1) (by lia) (by lia);rw[show lo +(j-1)=lo+j-1 by lia]at this;exact KeyOrd.kle_trans h this
abbrev DS:=A5 (A5 Nat)×Nat×Nat
theorem zBw{st0 st:IJ}{lo n d:Nat}(hsz:lo+d<=a₀.size){f:Nat->DS->StateT IJ Sem (ForInStep DS)}{Q:DS->IJ->Prop}
  (H:∀x n q b,1<=n->n<d->Lo κ kd a₀ st0 lo d b->wpS (model prog w) A E s (f x (none,n,q)) (λr st2 =>
   if κ.blt (KK κ (arrOf b) (lo+n)) (KK κ (arrOf b) (lo+n-1))=true then(st2=if q>0 then setArr b (mirror (arrOf b) (lo+n-(q+1)) (lo+n) ((lo+n-(lo+n-(q+1))) / 2))else b)/\r = .yield (none,n+1,0)
   else st2=b/\r=if κ.blt (KK κ (arrOf b) (lo+n-1)) (KK κ (arrOf b) (lo+n))=true then .done (none,n,q)else .yield (none,n+1,q+1)) b)
  (h1:1<=n) (z:n<=d) (J:Lo κ kd a₀ st0 lo d st) (K:NI κ (arrOf st) lo n)
  (h:∀m q b,Lo κ kd a₀ st0 lo d b->n<=m->m<=d->NI κ (arrOf b) lo m->q+1<=m->(∀i,m-(q+1)<=i->i<m->KK κ (arrOf b) (lo+i)=KK κ (arrOf b) (lo+m-1))->Q (none,m,q) b) :
  wpS (model prog w) A E s (forIn [n:d] (none,n,0) f) Q st:=by
 refine wpS_forRange (I:=λx c b=>∃q,c =(none,x,q)/\Lo κ kd a₀ st0 lo d b/\NI κ (arrOf b) lo x/\q+1<=x /\
   (∀i,x-(q+1)<=i->i<x->KK κ (arrOf b) (lo+i)=KK κ (arrOf b) (lo+x-1))) ?_ ?_ ⟨0,rfl,J,K,by lia,λi h1 M=>by congr 1;lia⟩
 .rintro x c b B C ⟨q,rfl,j,l,v,p⟩;have L:=j.S.size;refine wpS_mono (H x x q b (by lia) C j) λr st2 y=>?_;cases g:κ.blt (KK κ (arrOf b) (lo+x)) (KK κ (arrOf b) (lo+x-1))
  .rw[g,AJ BA]at y;obtain⟨e,er⟩:=y;subst e;cases o:κ.blt (KK κ (arrOf st2) (lo+x-1)) (KK κ (arrOf st2) (lo+x))
   .rw[o,AJ BA]at er;subst er;have t:KK κ (arrOf st2) (lo+x)=KK κ (arrOf st2) (lo+x-1):=KeyOrd.kle_antisymm o g;refine⟨q+1,rfl,j,NI.step (by lia) (λ_=>rfl) l o,by lia,λi D F=>?_⟩;rw[show lo +(x+1)-1=lo+x by lia];by_cases G:i=x
    .subst G;rfl
    .rw[t];exact p i (by lia) (by lia)
   .rw[o,AL rfl]at er;subst er;exact h x q st2 j B (by lia) l v p
  .rw[g,AL rfl]at y;obtain⟨e,er⟩:=y;subst er;have o:κ.kle (KK κ (arrOf b) (lo+x)) (KK κ (arrOf b) (lo+x-1)):=KeyOrd.kle_of_klt g;by_cases u:q>0
   .rw[AL u]at e;subst e;refine⟨0,rfl,j.mirror (by lia) (by lia) hsz,NI.step (by lia) (KK_mirror_equal (by lia) λk D F=>?_) l o,by lia,λi D F=>by congr 1;lia⟩;have:=p (k-lo) (by lia) (by lia);rw[show lo +(k-lo)=k by lia]at this;exact this
   .rw[AJ u]at e;subst e;exact⟨0,rfl,j,NI.step (by lia) (λ_=>rfl) l o,by lia,λi D F=>by congr 1;lia⟩
 .rintro c b ⟨q,rfl,j,l,v,p⟩;rw[show max n d=d by lia]at l v p⊢;exact h d q b j z (Nat.le_refl _) l v p
theorem NI.turn{xs:CW CM}{lo n:Nat}(a:lo+n<=xs.size)(h:NI κ xs lo n):SI κ (mirror xs lo (lo+n) ((lo+n-lo) / 2)) lo n:=by
 intro i j b c;rw[KK_mirror a,KK_mirror a,AL (by lia),AL (by lia)];have:=h (n-1-j) (n-1-i) (by lia) (by lia);rw[show lo +(n-1-i)=lo +(lo+n)-1-(lo+i) by lia,show lo +(n-1-j)=lo +(lo+n)-1-(lo+j) by lia]at this;exact this
theorem Gv(C:Q_ prog w A s κ kd)(D:KeysOf κ a₀){st:IJ}{lo c:Nat}{Q:A5 Nat->IJ->Prop}(W:St κ kd a₀ st)(hsz:lo+c<=a₀.size)(h1:1<=c)
  (h:∀m b,Lo κ kd a₀ st lo c b->1<=m->m<=c->SI κ (arrOf b) lo m->Q (some m) b):wpS (model prog w) A E s (countRun' lo c) Q st:=by
 have X:Lo κ kd a₀ st lo c st:=⟨W,rfl,λ_ _=>rfl⟩;rw[countRun'_eq];dsimp only;refine wpS_bind (TN (κ:=κ) (lo:=lo) (λx n G H=>?_) (Nat.le_refl 1) h1 (λi j p P=>by have:i=j:=(by lia);subst this;exact KeyOrd.kle_refl _) λn R T F Y=>?_)
 .dsimp only;refine wpS_bind (S4 C D W (by lia) (by lia) ?_);dsimp only;cases κ.blt (KK κ (arrOf st) (lo+n)) (KK κ (arrOf st) (lo+n-1))
  .exact wpS_pure ⟨rfl,rfl⟩
  .exact wpS_pure ⟨rfl,rfl⟩
 dsimp only;by_cases I:n=c
 .rw[AL (by simpa using I)];exact wpS_pure (h n st X R T F)
 rw[AJ (by simpa using I)];have U:κ.klt (KK κ (arrOf st) (lo+n)) (KK κ (arrOf st) (lo+n-1)):=Y.resolve_left I;have hz:=W.size;by_cases V:n>1
 .rw[AL V];refine wpS_bind (S4 C D W (by lia) (by lia) ?_);dsimp only;cases J:κ.blt (KK κ (arrOf st) lo) (KK κ (arrOf st) (lo+n-1))with
  | true =>
   simp only[GH];exact wpS_pure (h n st X R T F)
  | false =>
   simp only[A_,CY];have r:∀k,lo<=k->k<lo+n->KK κ (arrOf st) k=KK κ (arrOf st) (lo+n-1):=by
    intro k hk1 hk2;have a1:=F 0 (k-lo) (by lia) (by lia);have a2:=F (k-lo) (n-1) (by lia) (by lia);rw[Nat.add_zero,show lo +(k-lo)=k by lia]at a1;rw[show lo +(k-lo)=k by lia,show lo +(n-1)=lo+n-1 by lia]at a2;exact KeyOrd.kle_antisymm a2 (KeyOrd.kle_trans J a1)
   have K:=KK_mirror_equal (κ:=κ) (xs:=arrOf st) (i:=lo) (j:=lo+n) (by lia) r;refine wpS_bind (wpS_reverse ?_);have L:=X.mirror (i:=lo) (j:=lo+n) (by lia) (by lia) hsz;have Z:NI κ (mirror (arrOf st) lo (lo+n) ((lo+n-lo) / 2)) lo (n+1):=by
    refine NI.step (by lia) K (λi j p P=>?_) (KeyOrd.kle_of_klt U);rw[r (lo+i) (by lia) (by lia),r (lo+j) (by lia) (by lia)];exact KeyOrd.kle_refl _
   refine wpS_bind (wpS_lift (EG ⟨rfl,?_⟩));refine wpS_bind (zBw (κ:=κ) (kd:=kd) (a₀:=a₀) (st0:=st) (lo:=lo) hsz (λx f q b G H t=>?_) (by lia) (by lia) L Z λm q b l hm1 u v y he=>?_)
   .dsimp only;refine wpS_bind (S4 C D t.S (by lia) (by lia) ?_);dsimp only;cases κ.blt (KK κ (arrOf b) (lo+f)) (KK κ (arrOf b) (lo+f - 1))
    .simp only[A_,CY];refine wpS_bind (S4 C D t.S (by lia) (by lia) ?_);dsimp only;cases κ.blt (KK κ (arrOf b) (lo+f - 1)) (KK κ (arrOf b) (lo+f))
     .exact wpS_pure ⟨rfl,rfl⟩
     .exact wpS_pure ⟨rfl,rfl⟩
    .simp only[GH];by_cases y:q>0
     .rw[AL y,AL y];exact wpS_bind (wpS_reverse (wpS_pure ⟨rfl,rfl⟩))
     .rw[AJ y,AJ y];exact wpS_pure ⟨rfl,rfl⟩
   .dsimp only;have hz3:=l.S.size;by_cases z:q>0
    .rw[AL z];refine wpS_bind (wpS_reverse (wpS_bind (wpS_reverse ?_)));have g:=l.mirror (i:=lo+m-(q+1)) (j:=lo+m) (by lia) (by lia) hsz;have d:=g.mirror (i:=lo) (j:=lo+m) (by lia) (by lia) hsz;have hz4:=g.S.size;have M:NI κ (mirror (arrOf b) (lo+m-(q+1)) (lo+m) ((lo+m-(lo+m-(q+1))) / 2)) lo m:=by
      have K:=KK_mirror_equal (κ:=κ) (xs:=arrOf b) (i:=lo+m-(q+1)) (j:=lo+m) (by lia) (λk G H=>by
       have:=he (k-lo) (by lia) (by lia);rw[show lo +(k-lo)=k by lia]at this;exact this)
      intro i j p P;rw[K,K];exact v i j p P
     have N:=M.turn (κ:=κ) (lo:=lo) (n:=m) (by rw[mirror_size];lia);refine wpS_bind (TN (κ:=κ) (lo:=lo) (λx f G H=>?_) (by lia) u N λO B e o _=>wpS_pure (h O _ d (by lia) e o));dsimp only;refine wpS_bind (S4 C D d.S (by lia) (by lia) ?_);dsimp only;cases κ.blt (KK κ _ (lo+f)) (KK κ _ (lo+f - 1))
     .exact wpS_pure ⟨rfl,rfl⟩
     .exact wpS_pure ⟨rfl,rfl⟩
    .rw[AJ z];refine wpS_bind (wpS_reverse ?_);have d:=l.mirror (i:=lo) (j:=lo+m) (by lia) (by lia) hsz;have N:=v.turn (κ:=κ) (lo:=lo) (n:=m) (by lia);refine wpS_bind (TN (κ:=κ) (lo:=lo) (λx f G H=>?_) (by lia) u N λO B e o _=>wpS_pure (h O _ d (by lia) e o));dsimp only;refine wpS_bind (S4 C D d.S (by lia) (by lia) ?_);dsimp only;cases κ.blt (KK κ _ (lo+f)) (KK κ _ (lo+f - 1))
     .exact wpS_pure ⟨rfl,rfl⟩
     .exact wpS_pure ⟨rfl,rfl⟩
 .rw[AJ V];have hn1':n=1:=by lia
  have L:=X;have Z:NI κ (arrOf st) lo (n+1):=by
   refine NI.step (by lia) (λ_=>rfl) (λi j p P=>?_) (KeyOrd.kle_of_klt U);have:i=j:=by lia
   subst this;exact KeyOrd.kle_refl _
  refine wpS_bind (wpS_lift (EG ⟨rfl,?_⟩));refine wpS_bind (zBw (κ:=κ) (kd:=kd) (a₀:=a₀) (st0:=st) (lo:=lo) hsz (λx f q b G H t=>?_) (by lia) (by lia) L Z λm q b l hm1 u v y he=>?_)
  .dsimp only;refine wpS_bind (S4 C D t.S (by lia) (by lia) ?_);dsimp only;cases κ.blt (KK κ (arrOf b) (lo+f)) (KK κ (arrOf b) (lo+f - 1))
   .simp only[A_,CY];refine wpS_bind (S4 C D t.S (by lia) (by lia) ?_);dsimp only;cases κ.blt (KK κ (arrOf b) (lo+f - 1)) (KK κ (arrOf b) (lo+f))
    .exact wpS_pure ⟨rfl,rfl⟩
    .exact wpS_pure ⟨rfl,rfl⟩
   .simp only[GH];by_cases y:q>0
    .rw[AL y,AL y];exact wpS_bind (wpS_reverse (wpS_pure ⟨rfl,rfl⟩))
    .rw[AJ y,AJ y];exact wpS_pure ⟨rfl,rfl⟩
  .dsimp only;have hz3:=l.S.size;by_cases z:q>0
   .rw[AL z];refine wpS_bind (wpS_reverse (wpS_bind (wpS_reverse ?_)));have g:=l.mirror (i:=lo+m-(q+1)) (j:=lo+m) (by lia) (by lia) hsz;have d:=g.mirror (i:=lo) (j:=lo+m) (by lia) (by lia) hsz;have hz4:=g.S.size;have M:NI κ (mirror (arrOf b) (lo+m-(q+1)) (lo+m) ((lo+m-(lo+m-(q+1))) / 2)) lo m:=by
     have K:=KK_mirror_equal (κ:=κ) (xs:=arrOf b) (i:=lo+m-(q+1)) (j:=lo+m) (by lia) (λk G H=>by
      have:=he (k-lo) (by lia) (by lia);rw[show lo +(k-lo)=k by lia]at this;exact this)
     intro i j p P;rw[K,K];exact v i j p P
    have N:=M.turn (κ:=κ) (lo:=lo) (n:=m) (by rw[mirror_size];lia);refine wpS_bind (TN (κ:=κ) (lo:=lo) (λx f G H=>?_) (by lia) u N λO B e o _=>wpS_pure (h O _ d (by lia) e o));dsimp only;refine wpS_bind (S4 C D d.S (by lia) (by lia) ?_);dsimp only;cases κ.blt (KK κ _ (lo+f)) (KK κ _ (lo+f - 1))
    .exact wpS_pure ⟨rfl,rfl⟩
    .exact wpS_pure ⟨rfl,rfl⟩
   .rw[AJ z];refine wpS_bind (wpS_reverse ?_);have d:=l.mirror (i:=lo) (j:=lo+m) (by lia) (by lia) hsz;have N:=v.turn (κ:=κ) (lo:=lo) (n:=m) (by lia);refine wpS_bind (TN (κ:=κ) (lo:=lo) (λx f G H=>?_) (by lia) u N λO B e o _=>wpS_pure (h O _ d (by lia) e o));dsimp only;refine wpS_bind (S4 C D d.S (by lia) (by lia) ?_);dsimp only;cases κ.blt (KK κ _ (lo+f)) (KK κ _ (lo+f - 1))
    .exact wpS_pure ⟨rfl,rfl⟩
    .exact wpS_pure ⟨rfl,rfl⟩
theorem Lo.bubble{st0 st:IJ}{lo n b d:Nat}(h:Lo κ kd a₀ st0 lo n st)(h1:lo+d<=b)(h2:b<lo+n)(e:lo+n<=a₀.size):Lo κ kd a₀ st0 lo n (setArr st (bubble (arrOf st) b d)):=by
 refine⟨⟨(Array.perm_iff_toList_perm.mp (bubble_perm _ _ _)).trans h.S.perm,h.S.kind,h.S.failed⟩,h.pend,λt c=>?_⟩;show(PyProof.Rows.bubble (arrOf st) b d)[t]?=_;have:=h.S.size;rw[getElem?_bubble (by lia) d (by lia),AJ (by lia),AJ (by lia)];exact h.out t c
theorem Cn(C:Q_ prog w A s κ kd)(H:KeysOf κ a₀){st0 st:IJ}{lo g n v:Nat}{Q:Bool->IJ->Prop}(J:Lo κ kd a₀ st0 lo g st)(hsz:lo+g<=a₀.size)(U:n<=g)(K:v<=n)(L:SI κ (arrOf st) lo v)
  (h:∀b,Lo κ kd a₀ st0 lo g b->SI κ (arrOf b) lo n->Q true b):wpS (model prog w) A E s (binarySort' lo n v) Q st:=by
 rw[binarySort'_eq];refine wpS_bind (wpS_mono (wpS_forRange (I:=λk c b=>c =(none,())/\Lo κ kd a₀ st0 lo g b/\SI κ (arrOf b) lo (min k n))
  (Q:=λc b=>c =(none,())/\Lo κ kd a₀ st0 lo g b/\SI κ (arrOf b) lo n) ?step ?fin ?init) ?post)
 case post =>
  rintro c b ⟨rfl,m,f⟩;exact wpS_pure (h b m f)
 case init =>
  refine⟨rfl,J,λi j y M=>?_⟩;by_cases B:v=0
  .have:i=j:=by lia
   subst this;exact KeyOrd.kle_refl _
  .exact L i j y (by lia)
 case fin =>
  rintro c b ⟨N,m,f⟩;refine⟨N,m,?_⟩
  rwa [show min (max (max v 1) n) n=n by lia]at f
 case step =>
  rintro k c b O P ⟨rfl,m,f⟩;rw[show min k n=k by lia]at f;dsimp only;refine wpS_bind (wpS_mono (wpS_forRange (I:=λx c d=>d=b/\∃l r,c =(none,l,r)/\l<=r/\r<=k/\r-l<=k-x /\
    (∀i,i<l->κ.kle (KK κ (arrOf b) (lo+i)) (KK κ (arrOf b) (lo+k)))/\(∀i,r<=i->i<k->κ.klt (KK κ (arrOf b) (lo+k)) (KK κ (arrOf b) (lo+i))))
   (Q:=λc d=>d=b/\∃l r,c =(none,l,r)/\l<=k /\
    (∀i,i<l->κ.kle (KK κ (arrOf b) (lo+i)) (KK κ (arrOf b) (lo+k)))/\(∀i,l<=i->i<k->κ.klt (KK κ (arrOf b) (lo+k)) (KK κ (arrOf b) (lo+i)))) ?istep ?ifin ?iinit) ?ipost)
  case iinit=>exact⟨rfl,0,k,rfl,by lia,by lia,by lia,λi V=>by lia,λi B G=>by lia⟩
  case ifin =>
   rintro c d ⟨rfl,l,r,rfl,D,u,F,o,p⟩;have:l=r:=by lia
   subst this;exact⟨rfl,l,l,rfl,u,o,p⟩
  case istep =>
   rintro x c d _ R ⟨rfl,l,r,rfl,D,u,F,o,p⟩;dsimp only;by_cases t:l ≥ r
   .rw[AL t];have:l=r:=by lia
    subst this;exact wpS_pure ⟨rfl,l,l,rfl,u,o,p⟩
   .rw[AJ t];refine wpS_bind (S4 C H m.S (by lia) (by lia) ?_);dsimp only;cases q:κ.blt (KK κ (arrOf d) (lo+k)) (KK κ (arrOf d) (lo +(l+r) / 2))
    case true =>
     simp only[GH];refine wpS_pure ⟨rfl,l,(l+r) / 2,rfl,by lia,by lia,Yy (Nat.lt_of_not_le t) F,o,λi B G=>?_⟩;exact KeyOrd.klt_of_klt_of_kle q (f _ _ B G)
    case false =>
     simp only[A_,CY];refine wpS_pure ⟨rfl,(l+r) / 2+1,r,rfl,by lia,by lia,zAz (Nat.lt_of_not_le t) F,λi B=>?_,p⟩;exact KeyOrd.kle_trans (f i ((l+r) / 2) (by lia) (by lia)) (show κ.kle _ _ from q)
  case ipost =>
   rintro c d ⟨rfl,l,r,rfl,T,o,p⟩;have W:=m.S.size;show wpS _ _ _ _ (do moveDown' (lo+k) (lo+l);pure (ForInStep.yield (none,()))) _ _;rw[moveDown'_eq];refine wpS_bind (wpS_modify (wpS_pure ⟨rfl,m.bubble (by lia) (by lia) hsz,?_⟩));rw[show min (k+1) n=k+1 by lia];intro i j y M;show κ.kle (KK κ (bubble (arrOf d) (lo+k) (lo+k-(lo+l))) (lo+i)) (KK κ (bubble (arrOf d) (lo+k) (lo+k-(lo+l))) (lo+j));rw[KK_bubble (by lia) (by lia),KK_bubble (by lia) (by lia),show lo+k-(lo+k-(lo+l))=lo+l by lia];have e:∀z,1<=z->lo+z-1=lo +(z-1):=λz _=>by lia
   repeat' split
   all_goals first
    | (exfalso;lia)
    | exact KeyOrd.kle_refl _
    | exact o _ (by lia)
    | exact KeyOrd.kle_of_klt (p _ (by lia) (by lia))
    | exact f _ _ (by lia) (by lia)
    | (rw[e j (by lia)];exact KeyOrd.kle_of_klt (p _ (by lia) (by lia)))
    | (rw[e i (by lia)];exact o _ (by lia))
    | (rw[e j (by lia)];exact f _ _ (by lia) (by lia))
    | (rw[e i (by lia),e j (by lia)];exact f _ _ (by lia) (by lia))
    | (rw[e i (by lia)];exact f _ _ (by lia) (by lia))
end
abbrev Run:=Nat×Nat×Nat
def NC:A1 Run->Nat->Nat->Prop
 | [],a,b=>a=b
 | x::r,a,b=>x.1=a/\1<=x.2.1/\NC r (a+x.2.1) b
def NC.app:∀{i l2:A1 Run} {a b:Nat},NC (i++l2) a b↔∃c,NC i a c/\NC l2 c b
 | [],l2,a,b=>⟨λh=>⟨a,rfl,h⟩,λ⟨c,d,e⟩=>by have:a=c:=d;subst this;exact e⟩
 | x::r,l2,a,b=>by
  constructor
  .rintro⟨d,e,j⟩;obtain⟨c,f,g⟩:=NC.app.mp j;exact⟨c,⟨d,e,f⟩,g⟩
  .rintro⟨c,⟨d,e,f⟩,g⟩;exact⟨d,e,NC.app.mpr ⟨c,f,g⟩⟩
def NC.le:∀{l:A1 Run} {a b:Nat},NC l a b->a+l.length<=b
 | [],a,b,h=>by have:a=b:=h;subst this;simp
 | x::r,a,b,⟨d,e,c⟩=>by have:=NC.le c;rw[AR];lia
def NC.mem:∀{l:A1 Run} {a b:Nat} {x:Run},NC l a b->x∈l->a<=x.1/\x.1+x.2.1<=b
 | [],_,_,_,_,hx=>absurd hx (by simp)
 | y::r,a,b,x,⟨d,f,c⟩,hx=>by
  have g:=NC.le c;rcases AK.mp hx with e | hx
  .subst e;lia
  .have:=NC.mem c hx;lia
def zGs{l:A1 Run}{i:Nat}{x y:Run}(a:l[i]?=some x)(b:l[i+1]?=some y):l=l.take i++x::y::l.drop (i+2):=by
 obtain⟨c,rfl⟩:=AE.mp a;obtain⟨d,rfl⟩:=AE.mp b
 conv=>lhs;rw[<-BT i l]
 rw[ER c,ER d]
def zGj{l:A1 Run}{i:Nat}{x y:Run}(z:Run)(a:l[i]?=some x)(b:l[i+1]?=some y):(l.set i z).eraseIdx (i+1)=l.take i++z::l.drop (i+2):=by
 obtain⟨d,_⟩:=AE.mp a;obtain⟨f,_⟩:=AE.mp b;have e:=zGs a b;have c:(l.take i).length=i:=by rw[AZ];lia
 generalize l.take i=p at *;generalize l.drop (i+2)=q at *;subst e;rw[List.set_append_right _ _ (by lia),c,Nat.sub_self,List.eraseIdx_append_of_length_le (by lia),c,show i+1-i=1 by lia];rfl
section
variable{prog:A7}{w:F8}{A:IR}{E:A2->A4->Prop}{s:A4}{κ:KeyKind}{kd:KB}{a₀:CW CM}
structure RI(κ:KeyKind)(kd:KB)(a₀:CW CM)(lo:Nat)(st:IJ):Prop where
 S:St κ kd a₀ st
 cov:NC (pendingOf st).toList 0 lo
 sor:∀x∈(pendingOf st).toList,LF κ (JU (arrOf st).toList x.1 x.2.1)
theorem Ki(C:Q_ prog w A s κ kd)(I:KeysOf κ a₀){st:IJ}{lo i:Nat}{Q:Bool->IJ->Prop}(R:RI κ kd a₀ lo st)(J:lo<=a₀.size)(hi:i+1 <(pendingOf st).size)
  (h:∀b,RI κ kd a₀ lo b->(pendingOf b).size+1 =(pendingOf st).size->LU κ (arrOf st).toList (arrOf b).toList 0 lo->Q true b):wpS (model prog w) A E s (mergeAt' i) Q st:=by
 obtain⟨⟨g,d,q⟩,u⟩:∃x,(pendingOf st)[i]?=some x:=⟨_,getElem?_pos _ i (by lia)⟩;obtain⟨⟨K,f,r⟩,n⟩:∃x,(pendingOf st)[i+1]?=some x:=⟨_,getElem?_pos _ (i+1) hi⟩;have j:(pendingOf st).toList[i]?=some (g,d,q):=by rw[BP];exact u
 have k:(pendingOf st).toList[i+1]?=some (K,f,r):=by rw[BP];exact n
 have e:=zGs j k;have c:=R.cov;rw[e]at c;obtain⟨v,B,L⟩:=NC.app.mp c;obtain⟨D,F,M,G,o⟩:=L;dsimp only at D F M G o;have N:=NC.le o;refine Jp C I R.S u n (by lia) (by lia) F G (R.sor _ (AI j)) (R.sor _ (AI k)) λb O p P T=>?_;have t:(pendingOf b).toList =(pendingOf st).toList.take i ++(g,d+f,q) ::(pendingOf st).toList.drop (i+2):=by
  rw[T,<-zGj (g,d+f,q) j k];simp
 refine h b ⟨O,?_,λx l=>?_⟩ ?_ ?_
 .rw[t];exact NC.app.mpr ⟨v,B,D,(by show 1<=d+f;lia),(by show NC _ (v +(d+f)) lo;rw[<-Nat.add_assoc];exact o)⟩
 .rw[t]at l;have m:∀y∈(pendingOf st).toList,(y.1+y.2.1<=g\/g +(d+f)<=y.1)->LF κ (JU (arrOf b).toList y.1 y.2.1):=λy n ho=>by
   have:=R.sor y n;rcases ho with ho | ho
   .rw[p.seg_front ho];exact this
   .rw[p.seg_back ho];exact this
  rcases AO.mp l with hm | hm
  .have:=NC.mem B hm;exact m x (CH hm) (.inl (by lia))
  .rcases AK.mp hm with hm | hm
   .subst hm;exact P
   .have:=NC.mem o hm;exact m x (FA hm) (.inr (by lia))
 .have:=congrArg List.length t;rw[AU,AW,AR,AZ,D_,AU]at this;lia
 .have H:∀z:A1 CM,z.drop (0+lo) =(z.drop (g +(d+f))).drop (lo-(g +(d+f))):=λz=>by
   rw[FJ];congr 1;lia
  exact⟨p.perm,rfl,by rw[H,H,p.back]⟩
theorem Ck{l:CW Run}{a:Nat}:(l.modify (l.size-1) λx=>(x.1,x.2.1,a)).toList.map (λx:Run=>(x.1,x.2.1))=l.toList.map λx:Run=>(x.1,x.2.1):=by
 refine FW λt=>?_;rw[AH,AH,BP,BP,Array.getElem?_modify];split
 .cases l[t]?<;>rfl
 .rfl
theorem NC.congr:∀{l c:A1 Run} {a b:Nat},c.map (λx:Run=>(x.1,x.2.1))=l.map (λx:Run=>(x.1,x.2.1))->NC l a b->NC c a b
 | [],[],_,_,_,h=>h
 | [],_::_,_,_,e,_=>by simp at e
 | _::_,[],_,_,e,_=>by simp at e
 | x::r,y::n,a,b,e,⟨f,g,i⟩=>by
  rw[BK,BK]at e;obtain⟨j,k⟩:=List.cons.inj e;obtain⟨m,d⟩:=Prod.mk.inj j;exact⟨m.trans f,by rw[d];exact g,by rw[d];exact NC.congr k i⟩
theorem RI.congr{lo:Nat}{st:IJ}(R:RI κ kd a₀ lo st){p:CW Run}(e:p.toList.map (λx:Run=>(x.1,x.2.1)) =(pendingOf st).toList.map λx:Run=>(x.1,x.2.1)):RI κ kd a₀ lo (setPending st p):=by
 refine⟨⟨R.S.perm,R.S.kind,R.S.failed⟩,NC.congr e R.cov,λx b=>?_⟩;have:(x.1,x.2.1)∈(pendingOf st).toList.map λx:Run=>(x.1,x.2.1):=by
  rw[<-e];exact AX.mpr ⟨x,b,rfl⟩
 obtain⟨y,c,d⟩:=AX.mp this;obtain⟨f,g⟩:=Prod.mk.inj d;have:=R.sor y c;rw[f,g]at this;exact this
theorem Eb(C:Q_ prog w A s κ kd)(v:KeysOf κ a₀){st:IJ}{Q:Unit->IJ->Prop}(hS:St κ kd a₀ st)(hp:pendingOf st = #[])
  (h:∀d,St κ kd a₀ d->LF κ (arrOf d).toList->Q () d):wpS (model prog w) A E s sortRuns' Q st:=by
 rw[sortRuns'_eq];refine wpS_bind (wpS_get ?_);dsimp only;have hz:=hS.size;rw[hz];generalize minRun' a₀.size a₀.size 0=B;refine wpS_bind (wpS_mono (wpS_forRange (I:=λx c d=>∃lo,c =(none,lo)/\RI κ kd a₀ lo d/\lo<=a₀.size/\min x a₀.size<=lo)
  (Q:=λc d=>∃lo,c =(none,lo)/\RI κ kd a₀ lo d/\lo=a₀.size) ?st ?en ⟨0,rfl,⟨hS,by rw[hp];rfl,λx K=>by rw[hp]at K;exact absurd K (by simp)⟩,CL _,by lia⟩) ?po)
 case en =>
  rintro c d ⟨lo,rfl,R,P,h2⟩;exact⟨lo,rfl,R,by lia⟩
 case po =>
  rintro c d ⟨lo,rfl,R,rfl⟩;dsimp only;refine wpS_bind (wpS_mono (wpS_forRange (I:=λx c d=>c =(none,())/\RI κ kd a₀ a₀.size d/\(pendingOf d).size+x<=a₀.size+1)
   (Q:=λc d=>c =(none,())/\RI κ kd a₀ a₀.size d/\(pendingOf d).size<=1) ?st3 ?en3 ⟨rfl,R,?in3⟩) ?po3)
  case in3 =>
   have:=NC.le R.cov;rw[AU]at this;lia
  case en3 =>
   rintro c e ⟨rfl,R2,g⟩;exact⟨rfl,R2,by lia⟩
  case po3 =>
   rintro c e ⟨rfl,R2,g⟩;refine wpS_pure (h e R2.S ?_);have c:=R2.cov;have L:=R2.sor;have hz2:=R2.S.size;have M:(pendingOf e).toList.length<=1:=by rw[AU];exact g
   generalize (pendingOf e).toList=l at c L M
   match l,c,L,M with
   | [],c,_,_ =>
    have c':0=a₀.size:=c;have:(arrOf e).toList = []:=List.eq_nil_of_length_eq_zero (by rw[AU];lia);rw[this];exact List.Pairwise.nil
   | [x],⟨c1,c2,c3⟩,L,_ =>
    have c3':0+x.2.1=a₀.size:=c3;have:=L x (AD.mpr rfl);unfold JU at this;rw[c1,FK,DA (by rw[AU];lia)]at this;exact this
   | _::_::_,_,_,M=>exact absurd M (by simp)
  case st3 =>
   rintro x c e _ K ⟨rfl,R2,g⟩
   try dsimp only
   refine wpS_bind (wpS_get ?_);by_cases r:(pendingOf e).size<=1
   .rw[AL r];exact wpS_pure ⟨rfl,R2,r⟩
   rw[AJ r];refine wpS_bind (Ki C v R2 (Nat.le_refl _) ?_ λst3 R3 e3 _=>?_)
   .have T:∀{c:Prop} [Decidable c] {n:Nat},(if c then n-1 else n)+1<=n+1:=by intro c _ n;split<;>lia
    exact Nat.lt_of_le_of_lt T (by lia)
   .simp only[EZ,A_,CY];exact wpS_pure ⟨rfl,R3,by lia⟩
 case st =>
  rintro x c d _ K ⟨lo,rfl,R,P,h2⟩;dsimp only;by_cases D:lo ≥ a₀.size
  .rw[AL D];exact wpS_pure ⟨lo,rfl,R,by lia⟩
  rw[AJ D];refine wpS_bind (Gv C v R.S (by lia) (by lia) λm e L2 hm1 hm2 t=>?_);dsimp only;by_cases F:m<B
  .rw[AL F];refine wpS_bind (wpS_lift (EG ⟨rfl,?_⟩));refine wpS_bind (Cn C v L2 (by lia) (show min (a₀.size-lo) B<=a₀.size-lo by lia) (by lia) t λq O U=>?_);simp only[EZ,A_,CY];have hN:1<=min (a₀.size-lo) B/\min (a₀.size-lo) B<=a₀.size-lo:=by lia
   generalize min (a₀.size-lo) B=N at hN U⊢;have G:RI κ kd a₀ lo q:=by
    refine⟨O.S,by rw[O.pend];exact R.cov,λy k=>?_⟩;rw[O.pend]at k;have hc:=NC.mem R.cov k;rw[(O.part R.S).seg_front (by lia)];exact R.sor y k
   refine wpS_bind (wpS_get ?_);have i:∀(b:IJ),RI κ kd a₀ lo b->LF κ (JU (arrOf b).toList lo N)->RI κ kd a₀ (lo+N) (setPending b ((pendingOf b).push (lo,N,0))):=λb f V=>by
    refine⟨⟨f.S.perm,f.S.kind,f.S.failed⟩,?_,λy k=>?_⟩
    .show NC ((pendingOf b).push (lo,N,0)).toList 0 (lo+N);rw[DH];exact NC.app.mpr ⟨lo,f.cov,rfl,(by show 1<=N;lia),rfl⟩
    .have hy':y∈((pendingOf b).push (lo,N,0)).toList:=k;rw[DH]at hy';rcases AO.mp hy' with hy' | hy'
     .exact f.sor y hy'
     .rw[AD.mp hy'];exact V
   cases W:(pendingOf q).back? with
   | none =>
    dsimp only;refine wpS_bind (wpS_modify (wpS_pure ⟨_,rfl,i _ G U.sor,by lia,by lia⟩))
   | some X =>
    obtain⟨H,u,pb⟩:=X;dsimp only;generalize power' a₀.size (2*H+u) (2*H+u+u+N) a₀.size=Y;refine wpS_bind (wpS_mono (wpS_forRange (I:=λx c b=>c =(none,())/\RI κ kd a₀ lo b/\LU κ (arrOf q).toList (arrOf b).toList 0 lo)
     (Q:=λc b=>c =(none,())/\RI κ kd a₀ lo b/\LU κ (arrOf q).toList (arrOf b).toList 0 lo) ?stc1 (λ_ _ z=>z) ⟨rfl,G,LU.refl _ _ _⟩) ?poc1)
    case stc1 =>
     rintro x' c b _ _ ⟨rfl,f,j⟩
     try dsimp only
     refine wpS_bind (wpS_get ?_);by_cases o:(pendingOf b).size>1
     .rw[AL o];obtain⟨⟨u1,u2,Z⟩,hu⟩:∃y,(pendingOf b)[(pendingOf b).size-2]?=some y:=⟨_,getElem?_pos _ _ (by lia)⟩;rw[hu];dsimp only;by_cases p:Z<=Y
      .rw[AL p];exact wpS_pure ⟨rfl,f,j⟩
      rw[AJ p];refine wpS_bind (Ki C v f P (by lia) λst7 R7 _ J=>?_);simp only[EZ,A_,CY];exact wpS_pure ⟨rfl,R7,⟨J.perm.trans j.perm,rfl,J.back.trans j.back⟩⟩
     .rw[AJ o];exact wpS_pure ⟨rfl,f,j⟩
    case poc1 =>
     rintro c b ⟨rfl,f,j⟩;dsimp only;refine wpS_bind (wpS_modify (wpS_bind (wpS_modify (wpS_pure ⟨_,rfl,i _ (f.congr Ck) ?_,by lia,by lia⟩))));show LF κ (JU (arrOf b).toList lo N);rw[j.seg_back (by lia)];exact U.sor
  .rw[AJ F];have G:RI κ kd a₀ lo e:=by
    refine⟨L2.S,by rw[L2.pend];exact R.cov,λy k=>?_⟩;rw[L2.pend]at k;have hc:=NC.mem R.cov k;rw[(L2.part R.S).seg_front (by lia)];exact R.sor y k
   refine wpS_bind (wpS_get ?_);have i:∀(b:IJ),RI κ kd a₀ lo b->LF κ (JU (arrOf b).toList lo m)->RI κ kd a₀ (lo+m) (setPending b ((pendingOf b).push (lo,m,0))):=λb f V=>by
    refine⟨⟨f.S.perm,f.S.kind,f.S.failed⟩,?_,λy k=>?_⟩
    .show NC ((pendingOf b).push (lo,m,0)).toList 0 (lo+m);rw[DH];exact NC.app.mpr ⟨lo,f.cov,rfl,(by show 1<=m;lia),rfl⟩
    .have hy':y∈((pendingOf b).push (lo,m,0)).toList:=k;rw[DH]at hy';rcases AO.mp hy' with hy' | hy'
     .exact f.sor y hy'
     .rw[AD.mp hy'];exact V
   cases W:(pendingOf e).back? with
   | none =>
    dsimp only;refine wpS_bind (wpS_modify (wpS_pure ⟨_,rfl,i _ G t.sor,by lia,by lia⟩))
   | some X =>
    obtain⟨H,u,pb⟩:=X;dsimp only;generalize power' a₀.size (2*H+u) (2*H+u+u+m) a₀.size=Y;refine wpS_bind (wpS_mono (wpS_forRange (I:=λx c b=>c =(none,())/\RI κ kd a₀ lo b/\LU κ (arrOf e).toList (arrOf b).toList 0 lo)
     (Q:=λc b=>c =(none,())/\RI κ kd a₀ lo b/\LU κ (arrOf e).toList (arrOf b).toList 0 lo) ?stc2 (λ_ _ z=>z) ⟨rfl,G,LU.refl _ _ _⟩) ?poc2)
    case stc2 =>
     rintro x' c b _ _ ⟨rfl,f,j⟩
     try dsimp only
     refine wpS_bind (wpS_get ?_);by_cases o:(pendingOf b).size>1
     .rw[AL o];obtain⟨⟨u1,u2,Z⟩,hu⟩:∃y,(pendingOf b)[(pendingOf b).size-2]?=some y:=⟨_,getElem?_pos _ _ (by lia)⟩;rw[hu];dsimp only;by_cases p:Z<=Y
      .rw[AL p];exact wpS_pure ⟨rfl,f,j⟩
      rw[AJ p];refine wpS_bind (Ki C v f P (by lia) λst7 R7 _ J=>?_);simp only[EZ,A_,CY];exact wpS_pure ⟨rfl,R7,⟨J.perm.trans j.perm,rfl,J.back.trans j.back⟩⟩
     .rw[AJ o];exact wpS_pure ⟨rfl,f,j⟩
    case poc2 =>
     rintro c b ⟨rfl,f,j⟩;dsimp only;refine wpS_bind (wpS_modify (wpS_bind (wpS_modify (wpS_pure ⟨_,rfl,i _ (f.congr Ck) ?_,by lia,by lia⟩))));show LF κ (JU (arrOf b).toList lo m);rw[j.seg_back (by lia)];exact t.sor
end
def kd1(κ:KeyKind)(v:A2):κ.α:=(κ.keyOf v).getD κ.dflt
section
variable{prog:A7}{w:F8}{A:IR}{E:A2->A4->Prop}{s:A4}{κ:KeyKind}{kd:KB}
def UJ(a:A3)(s c:A4):Prop:=∀b o,b≠a->s.heap.get? b=some o->c.heap.get? b=some o
structure SF(prog:A7)(w:F8)(a:A3)(s:A4)(κ:KeyKind)(kd:KB)(vs:A1 A2):Prop where
 cmp:∀(A:IR) (s':A4),UJ a s s'->Q_ prog w A s' κ kd
 key:∀v∈vs,∃k,κ.keyOf v=some k
 kind:2<=vs.length->∀(A:IR) (E:A2->A4->Prop) (s':A4) (Q:KB->A4->Prop),UJ a s s'->Q kd s'->wpAny (model prog w) A (keyKind' vs.toArray) Q E s'
def Out(κ:KeyKind)(vs:A1 A2)(out:CW A2):Prop:=out.toList.Perm vs/\out.toList.Pairwise λu v=>κ.kle (kd1 κ u) (kd1 κ v)
theorem Xa{vs:A1 A2}{xs:CW CM}(a:xs.toList.Perm (pairsOf vs).toList)(b:LF κ xs.toList):Out κ vs (xs.map (·.2)):=by
 rw[pairsOf_toList]at a;have c:∀p∈xs.toList,p.1=p.2:=λp h=>(mem_zip_self (a.mem_iff.mp h)).1;have e:(xs.map (·.2)).toList=xs.toList.map (·.1):=by
  rw[Array.toList_map];exact HE λp h=>(c p h).symm
 refine⟨?_,?_⟩
 .rw[e];have:=a.map Prod.fst
  rwa [List.map_fst_zip (Nat.le_refl _)]at this
 .rw[e,CS];exact b
theorem Fj{a:A3}{vs:A1 A2}{n:Nat}{P:Fin->A4->Prop}(k:s.heap.get? a=some (seqObj "list" vs.toArray n))(m:vs.length<=sizeLine)(K:SF prog w a s κ kd vs)
  (h:∀out:CW A2,Out κ vs out->P (.done (.ret .none)) { s with heap:=sortedHeap s.heap a vs out }) :
  wpAny (model prog w) A (Builtin.«list.sort» ⟨[.ref a],[]⟩) P E s:=by
 rw[list_sort_plain];have q:a<s.heap.objs.size:=AM k;have i:vs.toArray.size=vs.length:=by simp
 refine AA (listItems_at k rfl ?_);refine AA (listUpdate_at k rfl ?_ (by rw[i];exact m) (by simp));obtain⟨l,j⟩:∃l,(s.heap.update a (Obj.mapSeq λ_=>#[])).get? a=some (seqObj "list" #[] l):=⟨_,get?_update_seq k (λ_=>#[])⟩;refine AA (seqEpoch_at j rfl ?_);refine AA (HS ?_ (by simpa using m));refine AA (IH ?_);refine CA ?_;have d:(((s.heap.update a (Obj.mapSeq λ_=>#[])).push (seqObj "tuple" vs.toArray 0)).push (seqObj "list" #[] 0)).get? a=some (seqObj "list" #[] l):=by
  rw[Heap.get?_push_ne _ _ _ (by rw[size_push',H_];exact BI (EC q)),Heap.get?_push_ne _ _ _ (by rw[H_];exact BI q)];exact j
 show wpAny (model prog w) A _ P E { s with heap:=((s.heap.update a (Obj.mapSeq λ_=>#[])).push (seqObj "tuple" vs.toArray 0)).push (seqObj "list" #[] 0) };dsimp only;have r:UJ a s { s with heap:=((s.heap.update a (Obj.mapSeq λ_=>#[])).push (seqObj "tuple" vs.toArray 0)).push (seqObj "list" #[] 0) }:=λb o t e =>
  AG _ (AG _ ((CJ s.heap _ (Ne.symm t)).trans e))
 by_cases f:vs.toArray.size<2
 .rw[AL f,AL f];refine AA (AF ?_);rw[StateT.run_pure];refine AA (AF ?_);dsimp only;refine AA (seqEpoch_at d rfl ?_);refine AA (listUpdate_at d rfl ?_ (by simp) (by rw[HU];show(pairsOf vs).size<=_;rw[pairsOf_size];lia));simp only[bne_self_eq_false,A_,CY];refine AF (h _ (Xa (κ:=κ) (xs:=pairsOf vs) (List.Perm.refl _) ?_));rw[pairsOf_toList];rw[i]at f
  match vs,f with
  | [],_=>exact List.Pairwise.nil
  | [v],_=>exact GA _ _
  | _::_::_,f=>simp at f;lia
 .rw[AJ f,AJ f];refine AA (K.kind (by lia) A E _ _ r ?_);refine AA (B_ (Eb (K.cmp A _ r) (a₀:=pairsOf vs) (st:=SortSt.mk' kd (vs.toArray.zip vs.toArray) #[] 7 none)
   (Q:=λ_ c=>St κ kd (pairsOf vs) c/\LF κ (arrOf c).toList)
   (λp g=>?_) ⟨List.Perm.refl _,rfl,rfl⟩ rfl λc u x=>⟨u,x⟩) ?_ λ_ _ e=>e)
  .rw[pairsOf_toList]at g;exact K.key _ (mem_zip_self g).2
  rintro⟨⟨⟩,c⟩ z ⟨rfl,g,y⟩;dsimp only;refine AA (seqEpoch_at d rfl ?_);refine AA (listUpdate_at d rfl ?_ (by simp) (by rw[HU];show(arrOf c).size<=_;rw[g.size,pairsOf_size];lia));rw[show failedOf c=none from g.failed];simp only[bne_self_eq_false,A_,CY];exact AF (h _ (Xa g.perm y))
theorem NL{x:A2}{Q:A2->A4->Prop}
  (g:wpAny (model prog w) A.in1 (collect x) (λvs s1=>s1.os=s.os/\vs.length<=sizeLine/\(∃(κ:KeyKind) (kd:KB),(∀d:A4,UJ s1.heap.objs.size s1 d->SF prog w s1.heap.objs.size d κ kd vs) /\
   ∀(out:CW A2) (h':IM) (e:Nat),Out κ vs out->(∀b o,s1.heap.get? b=some o->h'.get? b=some o)->h'.get? s1.heap.objs.size=some (seqObj "list" out e)->Q (.ref s1.heap.objs.size) { s1 with heap:=h' })) E s) :
  wpAny (model prog w) A (call (.builtin "sorted") [x]) Q E s:=by
 refine Calls.call_function_entry kind_sorted plain_sorted entry_sorted (args_sorted1 _) ?_;unfold Builtin.«sorted»;refine AA (m:=checkCount "sorted" 1 1 _) (AF ?_);refine AA (B_ g (λvs s1 ⟨i,j,κ,kd,K,q⟩=>?_) λ_ _ z=>z);refine AA (IH ?_);have a:(s1.heap.push (seqObj "list" vs.toArray 0)).get? s1.heap.objs.size=some (seqObj "list" vs.toArray 0):=AS _ rfl;show wpAny _ _ _ _ _ { s1 with heap:=s1.heap.push (seqObj "list" vs.toArray 0) };have k:UJ s1.heap.objs.size s1 { s1 with heap:=s1.heap.push (seqObj "list" vs.toArray 0) }:=λb o _ e=>AG _ e;refine AA (CA (DD slot_list_sort ⟨_,a,rfl⟩ entry_list_sort (Fj (s:={ s1 with heap:=s1.heap.push (seqObj "list" vs.toArray 0) }) a j (K _ k) λout l=>⟨_,rfl,?_⟩) (args_list_sort _)));obtain⟨e,n⟩:=sortedHeap_at (h:=s1.heap.push (seqObj "list" vs.toArray 0)) (out:=out) a;refine AF ⟨_,rfl,q out _ e l (λb o f=>?_) n⟩;have c:=AM f;rw[sortedHeap_old (BI c) (by rw[size_push'];exact EC c)];exact AG _ f
theorem PQ{a:A3}{vs:A1 A2}{ss:A1 Str}(b:StrsAre vs ss):SF prog w a s strKind oneType' vs:=by
 refine⟨λA c _=>⟨λx y k l Q E d e q=>?_⟩,λv f=>?_,λg A E c Q _ q=>?_⟩
 .rw[keyLt'_oneType];exact strKind_oneLt prog w A E c x y k l d e q
 .obtain⟨x,t,rfl⟩:=b.all v f;exact⟨_,rfl⟩
 .match vs,g,b with
  | v1::h::r,_,b =>
   rw[keyKind_strs b];exact AF q
def KM(a b:A1 Nat×A1 Nat):Bool:=decide (a.1<b.1)||(decide (a.1=b.1)&&decide (a.2<b.2))
theorem JN{a b:A1 Nat×A1 Nat}:KM a b=true↔a.1<b.1\/(a.1=b.1/\a.2<b.2):=by
 unfold KM;simp
theorem TW(a b:A1 Nat):a<b\/a=b\/b<a:=by
 by_cases h:a<b
 .exact .inl h
 .by_cases c:b<a
  .exact .inr (.inr c)
  .exact .inr (.inl (IA (List.not_lt.mp c) (List.not_lt.mp h)))
def Tt:A1 A2->A5 (A1 Nat×A1 Nat)
 | [.str x _,.str y _]=>some (x.cps.toList,y.cps.toList)
 | _=>none
def Ti(c:A2):Data->A5 (A1 Nat×A1 Nat)
 | .seq a _=>if c = .type "tuple" then Tt a.toList else none
 | _=>none
def OA(h:IM):A2->A5 (A1 Nat×A1 Nat)
 | .ref p=>(h.get? p).bind λo=>Ti o.cls o.data
 | _=>none
@[reducible] def pairKind(h:IM):KeyKind where
 α:=A1 Nat×A1 Nat
 blt:=KM
 irrefl a:=by
  rw[DB];intro z;rcases JN.mp z with z | ⟨_,z⟩
  .exact List.lt_irrefl _ z
  .exact List.lt_irrefl _ z
 trans a b c e d:=by
  rw[JN]at *;rcases e with e | ⟨e,f⟩
  .rcases d with d | ⟨d,_⟩
   .exact .inl (List.lt_trans e d)
   .exact .inl (d▸e)
  .rcases d with d | ⟨d,g⟩
   .exact .inl (e▸d)
   .exact .inr ⟨e.trans d,List.lt_trans f g⟩
 negTrans a b c h:=by
  rw[JN]at h;simp only[JN];rcases h with h | ⟨h,i⟩
  .rcases TW a.1 b.1 with q | q | q
   .exact .inl (.inl q)
   .exact .inr (.inl (q▸h))
   .exact .inr (.inl (List.lt_trans q h))
  .rcases TW a.1 b.1 with q | q | q
   .exact .inl (.inl q)
   .rcases TW a.2 b.2 with r | r | r
    .exact .inl (.inr ⟨q,r⟩)
    .exact .inr (.inr ⟨q▸h,r▸i⟩)
    .exact .inr (.inr ⟨q▸h,List.lt_trans r i⟩)
   .exact .inr (.inl (h▸q))
 total a b e d:=by
  rw[DB]at e d;rcases TW a.1 b.1 with q | q | q
  .exact absurd (JN.mpr (.inl q)) e
  .rcases TW a.2 b.2 with r | r | r
   .exact absurd (JN.mpr (.inr ⟨q,r⟩)) e
   .exact Prod.ext q r
   .exact absurd (JN.mpr (.inr ⟨q.symm,r⟩)) d
  .exact absurd (JN.mpr (.inl q)) d
 keyOf:=OA h
 dflt:=([],[])
def MW(h:IM)(v:A2)(x y:Str):Prop:=∃p o n t u,v = .ref p/\h.get? p=some o/\o.cls = .type "tuple"/\o.data = .seq #[.str x t,.str y u] n
theorem MW.key{h:IM}{v:A2}{x y:Str}(z:MW h v x y):OA h v=some (x.cps.toList,y.cps.toList):=by
 obtain⟨p,o,n,t,u,rfl,e,c,d⟩:=z;show(h.get? p).bind (λo=>Ti o.cls o.data)=_;rw[e];show Ti o.cls o.data=_;rw[d,c];unfold Ti;exact(AL rfl).trans rfl
theorem zCf{l:A1 A2}{k:A1 Nat×A1 Nat}(e:Tt l=some k):∃x t y u,l = [.str x t,.str y u]:=by
 match l,e with
 | [.str x t,.str y u],_=>exact⟨x,t,y,u,rfl⟩
theorem Sl{h:IM}{v:A2}{k:A1 Nat×A1 Nat}(e:OA h v=some k):∃x y,MW h v x y:=by
 match v,e with
 | .ref p,e =>
  have g:(h.get? p).bind (λo=>Ti o.cls o.data)=some k:=e;obtain⟨o,i,b⟩:=Option.bind_eq_some_iff.mp g;cases d:o.data with
  | seq f n =>
   rw[d]at b;have a:(if o.cls = .type "tuple" then Tt f.toList else none)=some k:=b;by_cases c:o.cls = .type "tuple"
   .rw[AL c]at a;obtain⟨x,t,y,u,j⟩:=zCf a;refine⟨x,y,p,o,n,t,u,rfl,i,c,?_⟩;rw[d];have:f = #[.str x t,.str y u]:=by rw[<-Array.toList_inj,j]
    rw[this]
   .rw[AJ c]at a;cases a
  | _=>rw[d]at b;cases b
theorem Lj{h:IM}{v:A2}{k:A1 Nat×A1 Nat}{x y:Str}(z:MW h v x y)(e:OA h v=some k):k =(x.cps.toList,y.cps.toList):=by
 rw[z.key]at e;exact(BH e).symm
theorem QQ{a:A3}{vs:A1 A2}{F:IM}(B:∀v∈vs,∃x y,MW F v x y)(C:∀b o,F.get? b=some o->b≠a/\s.heap.get? b=some o) :
  SF prog w a s (pairKind F) (tuples' true) vs:=by
 refine⟨λA G J=>⟨λx y k l Q E O P q=>?_⟩,λv K=>?_,λh2 A E G Q J q=>?_⟩
 .obtain⟨g,m,R⟩:=Sl O;obtain⟨f,i,S⟩:=Sl P;have Y:=Lj R O;have Z:=Lj S P;subst Y Z;obtain⟨px,ox,nx,t1,u1,rfl,U,_,d1⟩:=R;obtain⟨py,oy,ny,t2,u2,rfl,V,_,d2⟩:=S;have f1:=J _ _ (C _ _ U).1 (C _ _ U).2;have f2:=J _ _ (C _ _ V).1 (C _ _ V).2;refine PySem.W.kat_lt f1 d1 f2 d2 ?_;show PySem.W.KatLex prog w A true _ Q [(.str g t1,.str f t2),(.str m u1,.str i u2)] 0 G;refine PySem.W.kat_cons (wpAny_eqBool_str (PySem.W.kat_go (λj=>?_) λj=>?_))
  .have j:g=f:=by simpa using j
   refine PySem.W.kat_yes (PySem.W.kat_cons (wpAny_eqBool_str (PySem.W.kat_go (λh=>?_) λh=>?_)))
   .have h:m=i:=by simpa using h
    refine PySem.W.kat_yes (PySem.W.kat_nil ?_);have:KM (g.cps.toList,m.cps.toList) (f.cps.toList,i.cps.toList)=decide (2<2):=by
     rw[j,h];exact(pairKind F).irrefl (f.cps.toList,i.cps.toList)
    show Q (decide (2<2)) G;rw[<-this];exact q
   .refine PySem.W.kat_no (PySem.W.kat_one _ _ (lt_str ?_));have:KM (g.cps.toList,m.cps.toList) (f.cps.toList,i.cps.toList)=decide (m.cps.toList<i.cps.toList):=by
     rw[j];unfold KM;simp[List.lt_irrefl]
    show Q (decide (m.cps.toList<i.cps.toList)) G;rw[<-this];exact q
  .have j:¬g=f:=by simpa using j
   refine PySem.W.kat_no (oneLt_str ?_);have L:¬g.cps.toList=f.cps.toList:=λz=>j (by cases g;cases f;simp at z;simp[z]);have:KM (g.cps.toList,m.cps.toList) (f.cps.toList,i.cps.toList)=decide (g.cps.toList<f.cps.toList):=by
    unfold KM;simp[L]
   rw[<-this];exact q
 .obtain⟨x,y,z⟩:=B v K;exact⟨_,z.key⟩
 .have hT:∀(H:A1 A2),(∀v∈H,∃x y,MW F v x y)->∃D,PySem.W.KatTups G.heap H D/\D.length=H.length/\∀v∈D,∃x t,v = .str x t:=by
   intro H
   induction H with
   | nil=>exact λ_=>⟨[],.nil,rfl,λv B=>by simp at B⟩
   | cons v r ih =>
    intro I;obtain⟨D,M,X,N⟩:=ih λu hu=>I u (BD _ hu);obtain⟨x,y,p,o,n,t,u,rfl,e,c,d⟩:=I v (BO ..);refine⟨.str x t::D,.cons (J _ _ (C _ _ e).1 (C _ _ e).2) c d rfl M,by simp[X],λz hz=>?_⟩;rcases AK.mp hz with rfl | hz
    .exact⟨x,t,rfl⟩
    .exact N z hz
  obtain⟨D,M,X,N⟩:=hT vs B;refine PySem.W.kat_kind (T:=.type "str") M (by lia) (λv B=>?_) (by rfl) q;obtain⟨x,t,rfl⟩:=N v B;exact .now
end
end TS
set_option Elab.async false
namespace L2
open PySem PySem.Spec PyProof.Rows
abbrev JC:=Sum Int Str
def Ey:JC->A2->Bool
 | .inl k,v=>Value.isInt k v
 | .inr x,v=>Value.isStrOf x v
def zHh(w:F8):JC->Int
 | .inl k=>hashInt k
 | .inr x=>hashStr w x
def G0:∀{k:JC} {v:A2},Ey k v=true->(∃i t,k=Sum.inl i/\v=Value.int i t)\/(∃x t,k=Sum.inr x/\v=Value.str x t)
 | .inl i,v,h=>by
  obtain⟨t,e⟩:=Value.isInt_shape (k:=i) (v:=v) h;exact .inl ⟨i,t,rfl,e⟩
 | .inr x,v,h=>by
  obtain⟨t,e⟩:=Value.isStrOf_shape (x:=x) (v:=v) h;exact .inr ⟨x,t,rfl,e⟩
def To(i:Int)(t:Tok):Ey (.inl i) (.int i t)=true:=by simp[Ey,Value.isInt]
def l5(x:Str)(t:Tok):Ey (.inr x) (.str x t)=true:=by simp[Ey,Value.isStrOf]
def zEg(a b:Int):decide ((Sum.inl a:JC)=Sum.inl b) =(a == b):=by
 by_cases e:a=b
 .subst e;simp
 .have h:¬(Sum.inl a:JC)=Sum.inl b:=λq=>e (Sum.inl.inj q);rw[BF h];exact(beq_eq_false_iff_ne.mpr e).symm
def zCm(a b:Str):decide ((Sum.inr a:JC)=Sum.inr b)=decide (a=b):=by
 by_cases e:a=b
 .subst e;simp
 .have h:¬(Sum.inr a:JC)=Sum.inr b:=λq=>e (Sum.inr.inj q);rw[BF h,BF e]
def zDb(a:Int)(b:Str):decide ((Sum.inl a:JC)=Sum.inr b)=false:=BF (λq=>nomatch q)
def zDf(a:Str)(b:Int):decide ((Sum.inr a:JC)=Sum.inl b)=false:=BF (λq=>nomatch q)
def C4(prog:A7)(w:F8):PySem.KeyKind prog w JC where
 is:=Ey
 hash:=zHh w
 inj:=λv a b g f=>by
  rcases G0 g with⟨i,t,rfl,rfl⟩ | ⟨x,t,rfl,rfl⟩
  .rcases G0 f with⟨j,u,rfl,e⟩ | ⟨y,u,rfl,e⟩
   .injection e with c _;rw[c]
   .exact nomatch e
  .rcases G0 f with⟨j,u,rfl,e⟩ | ⟨y,u,rfl,e⟩
   .exact nomatch e
   .injection e with c _;rw[c]
 byValue:=λk v h=>by
  rcases G0 h with⟨i,t,rfl,rfl⟩ | ⟨x,t,rfl,rfl⟩<;>rfl
 pyHash:=λd h=>by
  rcases G0 d with⟨i,t,rfl,rfl⟩ | ⟨x,t,rfl,rfl⟩
  .exact wpAny_pyHash_int h
  .exact wpAny_pyHash_str h
 eqBool:=λl d h=>by
  rcases G0 l with⟨i,t,rfl,rfl⟩ | ⟨x,t,rfl,rfl⟩
  .rcases G0 d with⟨j,u,rfl,rfl⟩ | ⟨y,u,rfl,rfl⟩
   .rw[zEg]at h;exact wpAny_eqBool_int h
   .rw[zDb]at h;exact SeqAt.EqAt.int_str i t y u _ _ _ _ h
  .rcases G0 d with⟨j,u,rfl,rfl⟩ | ⟨y,u,rfl,rfl⟩
   .rw[zDf]at h;exact SeqAt.EqAt.str_int x t j u _ _ _ _ h
   .rw[zCm]at h;exact wpAny_eqBool_str h
 «strs»:=λk x t v h=>by
  rcases G0 h with⟨i,u,rfl,e⟩ | ⟨y,u,rfl,e⟩
  .exact nomatch e
  .injection e with c _;subst c;cases v<;>rfl
def Lc(prog:A7)(w:F8)(i:Int)(t:Tok):(C4 prog w).is (.inl i) (.int i t)=true:=To i t
def Jt(prog:A7)(w:F8)(x:Str)(t:Tok):(C4 prog w).is (.inr x) (.str x t)=true:=l5 x t
inductive V where
 | non | bl (b:Bool) | int (i:Int) | str (x:Str) | byt (b:CW UInt8) | flt (b:UInt64) | ref (a:A3) | ty (n:String)
 deriving DecidableEq
def RelV:V->A2->Prop
 | .non,u=>u=Value.none
 | .bl b,u=>u=Value.bool b
 | .int i,u=>∃t,u=Value.int i t
 | .str x,u=>∃t,u=Value.str x t
 | .byt b,u=>∃t,u=Value.bytes b t
 | .flt b,u=>∃t,u=Value.float b t
 | .ref a,u=>u=Value.ref a
 | .ty n,u=>u=Value.type n
abbrev IV:A1 V->A1 A2->Prop:=Paired RelV
def IV.length{xs:A1 V}{us:A1 A2}(r:IV xs us):xs.length=us.length:=Paired.length r
def IV.get:∀{xs:A1 V} {us:A1 A2} {i:Nat} {x:V},IV xs us->xs[i]?=some x->∃u,us[i]?=some u/\RelV x u
 | _,_,_,_,.nil,e=>by simp at e
 | _,_,0,_,.cons r _,e=>by simp at e;subst e;exact⟨_,rfl,r⟩
 | _,_,i+1,x,.cons _ t,e=>by
  obtain⟨u,a,b⟩:=IV.get (i:=i) (x:=x) t (by simpa using e);exact⟨u,by simpa using a,b⟩
def IV.set{x:V}{u:A2}(r:RelV x u):∀{xs:A1 V} {us:A1 A2} (i:Nat),IV xs us->IV (xs.set i x) (us.set i u)
 | _,_,_,.nil=>.nil
 | _,_,0,.cons _ t=>.cons r t
 | _,_,i+1,.cons q t=>.cons q (IV.set r i t)
def IV.append:∀{xs a:A1 V} {us b:A1 A2},IV xs us->IV a b->IV (xs++a) (us++b)
 | _,_,_,_,.nil,s=>s
 | _,_,_,_,.cons r t,s=>.cons r (IV.append t s)
def IV.take:∀{xs:A1 V} {us:A1 A2} (n:Nat),IV xs us->IV (xs.take n) (us.take n)
 | _,_,0,_=>.nil
 | _,_,_+1,.nil=>.nil
 | _,_,n+1,.cons r t=>.cons r (IV.take n t)
def IV.drop:∀{xs:A1 V} {us:A1 A2} (n:Nat),IV xs us->IV (xs.drop n) (us.drop n)
 | _,_,0,r=>r
 | _,_,_+1,.nil=>.nil
 | _,_,n+1,.cons _ t=>IV.drop n t
def NB:A5 V->A5 A2->Prop
 | some v,some u=>RelV v u
 | none,none=>True
 | _,_=>False
def KV{κ:Type}:A1 (κ×V)->A1 (κ×A2)->Prop:=Paired λ(p:κ×V) (q:κ×A2)=>p.1=q.1/\RelV p.2 q.2
def kV:JC->V
 | .inl i=>.int i
 | .inr x=>.str x
inductive HO where
 | lst (xs:A1 V)
 | tup (xs:A1 V)
 | dK (kvs:A1 (JC×V)) | dT (kvs:A1 (A1 JC×V))
 | set (S:Int->Bool) (n:Nat)
 | ins (C dx:A3) (fs:A1 (Str×V))
 | own (x:A3)
 | xd (fs:A1 (Str×V))
 | met (f x:A3)
 | rng (lo hi:Int)
 | frz (o:Obj) (u:HO)
 | tbl (ps:CW A2)
 | ext (φ:IM->Prop)
set_option genInjectivity false
abbrev Hp:=A3->A5 HO
def IK(H:Hp)(a:A3)(o:HO):Hp:=λb=>if b=a then some o else H b
def A9{H:Hp}{a:A3}{o:HO}:IK H a o a=some o:=by unfold IK;rw[AL rfl]
def B6{H:Hp}{a b:A3}{o:HO}(h:b≠a):IK H a o b=H b:=by unfold IK;rw[AJ h]
def S7{H:Hp}{a b:A3}{o u:HO}(h:H a=some o)(h':H b=some u)(d:o≠u):a≠b:=by
 intro e;subst e;rw[h]at h';exact d (BH h')
def B3{H:Hp}{a b:A3}{o:HO}(h:H a=some o)(h':H b=none):a≠b:=by
 intro e;subst e;rw[h]at h';cases h'
section
variable(P:A7)(w:F8)
def IZ(H:Hp)(h:IM)(a:A3):HO->Prop
 | .lst d=>d.length<=sizeLine/\∃(b:A1 A2) (n:Nat),IV d b/\h.get? a=some { cls:=.type "list",data:=.seq b.toArray n }
 | .tup d=>d.length<=sizeLine/\∃b:A1 A2,IV d b/\IsTup h a b.toArray
 | .dK c=>c.length<=sizeLine/\(a == sysModules)=false/\∃j,KV c j/\h.DictOf (C4 P w) a j
 | .dT c=>c.length<=sizeLine/\(a == sysModules)=false/\∃d:A1 (A1 JC×A3×A2),
   Paired (λ(p:A1 JC×V) (q:A1 JC×A3×A2)=>p.1=q.1/\H q.2.1=some (.tup (p.1.map kV))/\RelV p.2 q.2.2) c d /\
   ∃o k r,h.get? a=some o/\o.ExactDict/\o.data = .dict k r/\k.toList=d.map (entryOfKey (tupleKind (C4 P w)))/\(d.map (·.1)).Nodup
 | .set S n=>h.SetOf (intKind P w) a S n
 | .ins C i g=>H i=some (.own a)/\g.length<=1000/\i≠a/\h.get? a=some (PySem.W.instObj C i) /\
   ∃e,h.Ns1 i e/\(∀f,NB (g.lookup f) (e f))/\PySem.Within e (g.map (·.1))
 | .own _=>∃o,h.get? a=some o
 | .xd g=>∃e,h.Ns1 a e/\∀f,NB (g.lookup f) (e f)
 | .rng lo s=>∃t u v,h.get? a=some { cls:=.type "range",data:=.fields #[.int lo t,.int s u,.int 1 v] }
 | .frz o u=>h.get? a=some o/\IZ H h a u
 | .tbl y=>h.get? a=some { cls:=.none,data:=.fields y }
 | .met f x=>h.get? a=some (PySem.W.methodObj (.ref f) (.ref x))
 | .ext φ=>φ h/\(∃o,h.get? a=some o)/\∀l m:IM,φ l->(∀o,l.get? a=some o->m.get? a=some o)->φ m
def MO(H:Hp)(h:IM):Prop:=∀a o,H a=some o->IZ P w H h a o
end
section
variable{P:A7}{w:F8}{H H':Hp}{h h':IM}{a:A3}{o:HO}
theorem IZ.lt(x:IZ P w H h a o):a<h.objs.size:=by
 cases o with
 | lst c=>obtain⟨_,_,_,_,e⟩:=x;exact AM e
 | tup c=>obtain⟨_,_,_,p⟩:=x;exact p.lt
 | dK b=>obtain⟨_,_,_,_,o,_,_,e,_⟩:=x;exact AM e
 | dT b=>obtain⟨_,_,_,_,o,_,_,e,_⟩:=x;exact AM e
 | set S n=>obtain⟨o,_,_,_,e,_⟩:=x;exact AM e
 | ins C g d=>obtain⟨_,_,_,e,_⟩:=x;exact AM e
 | own y=>obtain⟨_,e⟩:=x;exact AM e
 | xd d=>obtain⟨_,⟨_,_,_,e,_⟩,_⟩:=x;exact AM e
 | rng lo i=>obtain⟨_,_,_,e⟩:=x;exact AM e
 | frz j u=>obtain⟨e,_⟩:=x;exact AM e
 | tbl k=>exact AM (show h.get? a=some _ from x)
 | met f y=>exact AM (show h.get? a=some _ from x)
 | ext φ=>obtain⟨_,⟨_,e⟩,_⟩:=x;exact AM e
theorem Paired.mapP{α β:Type}{F G:α->β->Prop}:∀{l₁:A1 α} {l₂:A1 β},Paired F l₁ l₂->(∀a b,F a b->G a b)->Paired G l₁ l₂
 | _,_,.nil,_=>.nil
 | _,_,.cons r t,f=>.cons (f _ _ r) (Paired.mapP t f)
theorem IZ.stay(x:IZ P w H h a o)(k:∀b u,(b=a\/H b=some (.own a))->h.get? b=some u->h'.get? b=some u)
  (D:∀b,H b=some (.own a)->H' b=some (.own a)) (E:∀b xs,H b=some (.tup xs)->H' b=some (.tup xs)):IZ P w H' h' a o:=by
 induction o with
 | lst xs=>obtain⟨z,l,n,r,e⟩:=x;exact⟨z,l,n,r,k _ _ (.inl rfl) e⟩
 | tup xs=>obtain⟨z,l,r,g,e,c⟩:=x;exact⟨z,l,r,g,k _ _ (.inl rfl) e,c⟩
 | dK m=>obtain⟨z,y,F,r,g,i,j,e,c⟩:=x;exact⟨z,y,F,r,g,i,j,k _ _ (.inl rfl) e,c⟩
 | dT m =>
  obtain⟨z,y,xs,r,g,i,j,e,c⟩:=x;exact⟨z,y,xs,Paired.mapP r λp q z=>⟨z.1,E _ _ z.2.1,z.2.2⟩,g,i,j,k _ _ (.inl rfl) e,c⟩
 | set S n=>obtain⟨g,i,j,t,e,c⟩:=x;exact⟨g,i,j,t,k _ _ (.inl rfl) e,c⟩
 | ins C L G =>
  obtain⟨d,z,I,e,s,⟨A,i,j,J,c⟩,r⟩:=x;exact⟨D _ d,z,I,k _ _ (.inl rfl) e,s,⟨A,i,j,k _ _ (.inr d) J,c⟩,r⟩
 | own y=>obtain⟨g,e⟩:=x;exact⟨g,k _ _ (.inl rfl) e⟩
 | xd G=>obtain⟨s,⟨A,i,j,e,c⟩,r⟩:=x;exact⟨s,⟨A,i,j,k _ _ (.inl rfl) e,c⟩,r⟩
 | rng lo M=>obtain⟨t,u,v,e⟩:=x;exact⟨t,u,v,k _ _ (.inl rfl) e⟩
 | frz g u K=>obtain⟨e,q⟩:=x;exact⟨k _ _ (.inl rfl) e,K q⟩
 | tbl B =>
  have e:h.get? a=some { cls:=.none,data:=.fields B }:=x;show h'.get? a=some { cls:=.none,data:=.fields B };exact k a _ (.inl rfl) e
 | met f y =>
  have e:h.get? a=some (PySem.W.methodObj (.ref f) (.ref y)):=x;show h'.get? a=some (PySem.W.methodObj (.ref f) (.ref y));exact k a _ (.inl rfl) e
 | ext φ=>obtain⟨p,⟨o,e⟩,st⟩:=x;exact⟨st _ _ p λo q=>k _ _ (.inl rfl) q,⟨o,k _ _ (.inl rfl) e⟩,st⟩
theorem MO.lt(x:MO P w H h)(e:H a=some o):a<h.objs.size:=(x a o e).lt
theorem MO.fresh(x:MO P w H h)(e:h.objs.size<=a):H a=none:=by
 cases q:H a with
 | none=>rfl
 | some u=>exact absurd (BJ (x.lt q) e) (CU _)
theorem MO.kept(x:MO P w H h)(k:∀b u,h.get? b=some u->h'.get? b=some u):MO P w H h':=λa o e =>
 (x a o e).stay (λb u _ q=>k b u q) (λ_ q=>q) λ_ _ q=>q
theorem MO.laid(x:MO P w H h)(k:∀b u,h.get? b=some u->h'.get? b=some u)(i:h.objs.size<=a)(d:IZ P w (IK H a o) h' a o):MO P w (IK H a o) h':=λb u e=>by
 have f:=x.fresh i;by_cases g:b=a
 .subst g;rw[A9]at e;cases e;exact d
 .rw[B6 g]at e;exact(x b u e).stay (λc v _ q=>k c v q) (λc q=>by rw[B6 (B3 q f)];exact q) λc j q=>by rw[B6 (B3 q f)];exact q
end
def Rd(H:Hp)(a:A3)(u:HO):Prop:=H a=some u\/∃o,H a=some (.frz o u)
def Rd.ok{P:A7}{w:F8}{H:Hp}{h:IM}{a:A3}{u:HO}(r:Rd H a u)(x:MO P w H h):IZ P w H h a u:=by
 rcases r with r | ⟨o,r⟩
 .exact x a u r
 .obtain⟨_,q⟩:=x a _ r;exact q
def UG:A5 HO->Prop
 | some (.lst _)=>True
 | some (.dK _)=>True
 | some (.dT _)=>True
 | some (.set _ _)=>True
 | some (.ins _ _ _)=>True
 | some (.ext _)=>True
 | _=>False
section
variable{P:A7}{w:F8}{H:Hp}{h h':IM}{x e:A3}{o':HO}
theorem MO.write(p:MO P w H h)(g:UG (H x))(n:e=x\/H e=some (.own x))(k:∀b u,b≠e->h.get? b=some u->h'.get? b=some u)(l:∃u,h'.get? e=some u)
  (m:IZ P w (IK H x o') h' x o'):MO P w (IK H x o') h':=λb u q=>by
 have d:∀c y,H c=some (.own y)->c≠x:=λc y r z=>by subst z;rw[r]at g;exact g
 have f:∀c i,H c=some (.tup i)->c≠x:=λc i r z=>by subst z;rw[r]at g;exact g
 by_cases j:b=x
 .subst j;rw[A9]at q;cases q;exact m
 .rw[B6 j]at q;by_cases a:b=e
  .have o:H b=some (.own x):=by
    rcases n with z | z
    .exact absurd (a.trans z) j
    .rw[a];exact z
   rw[q]at o;cases o;obtain⟨v,s⟩:=l;exact⟨v,by rw[a];exact s⟩
  .refine(p b u q).stay (λc v hc r=>k c v ?_ r) (λc r=>by rw[B6 (d c b r)];exact r) λc i r=>by rw[B6 (f c i r)];exact r
   rcases hc with rfl | hc
   .exact a
   .rintro rfl;rcases n with z | z
    .exact d c b hc z
    .rw[hc]at z;cases z;exact j rfl
end
structure Un(fs ex:A1 A3)(H H':Hp)(h h':IM):Prop where
 keep:∀b o,h.get? b=some o->H b=none->b∉fs->b∉ex->h'.get? b=some o
 slot:∀b o,h.get? b=some o->H b=none->b∈fs->b∉ex->∃sl,h'.get? b=some { o with slots:=sl }
 free:∀b o,h.get? b=some o->H b=none->b∉ex->H' b=none
 there:∀b o,h.get? b=some o->b∉ex->∃o',h'.get? b=some o'
 tups:∀b xs,H b=some (.tup xs)->H' b=some (.tup xs)
 frzs:∀b o u,H b=some (.frz o u)->H' b=some (.frz o u)
 tbls:∀b ps,H b=some (.tbl ps)->∃more,H' b=some (.tbl (ps++more))
section
variable{fs fs' ex ex':A1 A3}{H H1 H2:Hp}{h h1 h2 h':IM}{a x e:A3}{o:HO}
theorem Un.any(u:Un fs ex H H1 h h1){b:A3}{ob:Obj}(q:h.get? b=some ob)(n:H b=none)(a:b∉ex):∃d,h1.get? b=some { ob with slots:=d }:=by
 by_cases c:b∈fs
 .exact u.slot b ob q n c a
 .exact⟨ob.slots,u.keep b ob q n c a⟩
theorem Un.kept(k:∀b u,h.get? b=some u->h'.get? b=some u):Un fs ex H H h h' :=
 ⟨λb a q _ _ _=>k b a q,λb a q _ _ _=>⟨a.slots,k b a q⟩,λ_ _ _ n _=>n,λb a q _=>⟨a,k b a q⟩,λ_ _ q=>q,λ_ _ _ q=>q,λ_ c q=>⟨#[],by rw[q];simp⟩⟩
theorem Un.refl:Un fs ex H H h h:=Un.kept λ_ _ q=>q
theorem Un.laid(k:∀b u,h.get? b=some u->h'.get? b=some u)(d:h.objs.size<=a)(c:H a=none):Un fs ex H (IK H a o) h h' where
 keep:=λb u q _ _ _=>k b u q
 slot:=λb u q _ _ _=>⟨u.slots,k b u q⟩
 free:=λb u q n _=>by rw[B6 (BI (BJ (AM q) d))];exact n
 there:=λb u q _=>⟨u,k b u q⟩
 tups:=λb e q=>by rw[B6 (B3 q c)];exact q
 frzs:=λb u e q=>by rw[B6 (B3 q c)];exact q
 tbls:=λb f q=>⟨#[],by rw[B6 (B3 q c),q];simp⟩
theorem Un.write(c:UG (H x))(j:e=x\/H e=some (.own x))(k:∀b u,b≠e->h.get? b=some u->h'.get? b=some u)(d:∃u,h'.get? e=some u):Un fs ex H (IK H x o) h h':=by
 have g:∀b,H b=none->b≠x:=λb n z=>by subst z;rw[n]at c;exact c
 have i:∀b,H b=none->b≠e:=λb n z=>by
  subst z;rcases j with r | r
  .exact g b n r
  .rw[n]at r;cases r
 have f:∀b u,H b=some u->¬UG (some u)->b≠x:=λb u q l z=>by subst z;rw[q]at c;exact l c
 refine⟨λb u q n _ _=>k b u (i b n) q,λb u q n _ _=>⟨u.slots,k b u (i b n) q⟩,λb u q n _=>by rw[B6 (g b n)];exact n,λb u q _=>?_,
  λb m q=>by rw[B6 (f b _ q λz=>z)];exact q,λb u m q=>by rw[B6 (f b _ q λz=>z)];exact q,λb p q=>⟨#[],by rw[B6 (f b _ q λz=>z),q];simp⟩⟩
 by_cases a:b=e
 .subst a;exact d
 .exact⟨u,k b u a q⟩
end
def trk(h:IM)(H:Hp):A1 A3:=(List.range h.objs.size).filter λa=>(H a).isSome
def Uj(h:IM)(H:Hp):IM:=PySem.W.hideAll h (trk h H)
def Ja(h:IM)(H:Hp):(Uj h H).objs.size=h.objs.size:=PySem.W.hideAll_size _ _
def Bb{h:IM}{H:Hp}{b:A3}{o:Obj}(e:h.get? b=some o)(n:H b=none):(Uj h H).get? b=some o :=
 PySem.W.hideAll_get _ e λa=>by
  have q:(H b).isSome=true:=(BC.mp a).2;rw[n]at q;simp at q
def Tq{h:IM}{H:Hp}{b:A3}{o:Obj}(e:(Uj h H).get? b=some o):h.get? b=some o/\H b=none:=by
 have a:h.get? b=some o:=PySem.W.of_hideAll (trk h H) e;refine⟨a,?_⟩;cases q:H b with
 | none=>rfl
 | some x =>
  have c:b∈trk h H:=BC.mpr ⟨CB.mpr (AM a),by simp[q]⟩;have z:(Uj h H).get? b=none:=PySem.W.hideAll_none (trk h H) c;rw[z]at e;cases e
structure Mod(K:PySem.W.Frag)(mg:Str->A5 A2)(base:IM):Prop where
 kin:K.In base
 glob:base.Ns mainGlobals mg
 blt:∃mb,base.Ns builtinsNs mb/\∀x:Str,x≠ "__name__"->mb x=bootBuiltins x
 nolimit:base.NoLimit
set_option genInjectivity false in
structure Cx where
 prog:A7
 w:F8
 K:PySem.W.Frag
 mg:Str->A5 A2
 base:IM
 A:IR
 N:A1 Str
 s₀:A4
 H₀:Hp
 env:PR
 outer:A1 PR
 stack:A1 PR
 ex:A1 A3
 fn:Str->Bool
 calm:Bool
 pn:A1 (A3×Obj)
 xe:A2->A4->Prop
def QD(l:A1 PR):A1 A3:=l.filterMap (·.frame)
abbrev Cx.fs(X:Cx):A1 A3:=QD X.outer
def UC(a:JH)(x:Str):Prop:=a.names.lookup x=some .local\/a.names.lookup x=some .cell\/a.names.lookup x=some .free
def Loc(a:JH)(x:Str):Prop:=a.names.lookup x=some .local\/a.names.lookup x=some .cell
def zHg(a:PR)(h:IM)(m:Str->A5 A2)(x:Str)(u:A2):Prop :=
 (a.kindOf x=some .local/\m x=some u)\/((a.kindOf x=some .cell\/a.kindOf x=some .free)/\∃c,a.cells.lookup x=some c/\h.IsCell c (some u))
structure Cx.Ok(X:Cx):Prop where
 mod:Mod X.K X.mg X.base
 kind:X.env.scope.kind = .function
 glob:X.env.globals=mainGlobals
 blt:X.env.builtins=builtinsNs
 above:X.s₀.heap.objs.size<=X.env.locals
 inj:∀x y c,X.env.cells.lookup x=some c->X.env.cells.lookup y=some c->x=y
 has:∀x,(X.env.kindOf x=some .cell\/X.env.kindOf x=some .free)->∃c,X.env.cells.lookup x=some c
 cab:∀x c,X.fn x=true->X.env.cells.lookup x=some c->X.s₀.heap.objs.size<=c
 hd:X.calm=true->X.A.handled=none
 frames:X.A.frames=some X.stack
 stk:X.stack=X.outer\/(X.stack=X.env::X.outer/\X.env.frame=some X.env.locals)
 exf:∀b∈X.ex,b≠X.env.locals/\∀x c,X.env.cells.lookup x=some c->c≠b
 bs:∀b o,X.base.get? b=some o->X.s₀.heap.get? b=some o/\X.H₀ b=none
 bsz:X.base.objs.size<=X.s₀.heap.objs.size
 noex:∀b o,X.base.get? b=some o->b∉X.ex
 exfs:∀b∈X.ex,b∉X.fs
 funs:X.s₀.heap.FunFrames X.base X.outer
 frf:∀b∈X.fs,X.H₀ b=none
structure Inv(X:Cx)(pins:A1 (A3×Obj))(σ:A1 (A5 V))(H:Hp)(s:A4):Prop where
 ok:X.Ok
 os:s.os=X.s₀.os
 bare:AllBare s.gens
 base:Un X.fs X.ex X.H₀ H X.s₀.heap s.heap
 loc:∃m,s.heap.Ns X.env.locals m/\∀(i:Nat) (x:Str) (v:V),X.N[i]?=some x->σ[i]?=some (some v)->UC X.env.scope x->∃u,RelV v u/\zHg X.env s.heap m x u
 cell:∀x c,X.env.cells.lookup x=some c->∃v,s.heap.IsCell c v
 free:H X.env.locals=none
 freeC:∀x c,X.env.cells.lookup x=some c->H c=none
 pin:∀p∈X.pn++pins,s.heap.get? p.1=some p.2/\H p.1=none/\p.1≠X.env.locals/\p.1∉X.fs/\∀v,p.2.data≠ .cell v
 hok:MO X.prog X.w H s.heap
 len:σ.length=X.N.length
section
variable{X:Cx}{pins:A1 (A3×Obj)}{σ:A1 (A5 V)}{H H':Hp}{s:A4}{h':IM}
theorem Cx.Ok.nofr(a:X.Ok){b:A3}{o:Obj}(e:X.base.get? b=some o):b∉X.fs:=λc=>by
 have:=(a.funs.mem c).1;rw[e]at this;cases this
theorem Inv.bs(I:Inv X pins σ H s):∀b o,X.base.get? b=some o->s.heap.get? b=some o/\H b=none:=λb o e =>
 ⟨I.base.keep b o (I.ok.bs b o e).1 (I.ok.bs b o e).2 (I.ok.nofr e) (I.ok.noex b o e),I.base.free b o (I.ok.bs b o e).1 (I.ok.bs b o e).2 (I.ok.noex b o e)⟩
theorem Inv.bk(I:Inv X pins σ H s):∀b o,X.base.get? b=some o->s.heap.get? b=some o:=λb o e=>(I.bs b o e).1
theorem Inv.mod(I:Inv X pins σ H s):Mod X.K X.mg X.base:=I.ok.mod
theorem Inv.kIn(I:Inv X pins σ H s):X.K.In s.heap:=I.ok.mod.kin.keeps I.bk
theorem Inv.lt(I:Inv X pins σ H s):X.env.locals<s.heap.objs.size:=let⟨_,a,_⟩:=I.loc;a.lt
theorem Inv.sz(I:Inv X pins σ H s):X.s₀.heap.objs.size<=s.heap.objs.size:=Nat.le_trans I.ok.above (DL I.lt)
theorem Inv.nofs(I:Inv X pins σ H s){a:A3}(h:s.heap.objs.size<=a):a∉X.fs:=λb=>by
 obtain⟨_,o,c,_⟩:=I.ok.funs.mem b;exact absurd (BJ (AM c) (Nat.le_trans I.sz h)) (CU _)
theorem Inv.cne(I:Inv X pins σ H s):∀x c,X.env.cells.lookup x=some c->c≠X.env.locals:=λx c e z=>by
 obtain⟨v,o,d,f⟩:=I.cell x c e;obtain⟨m,⟨g,h,i,a,b,_⟩,_⟩:=I.loc;rw[z,a]at d;cases d;rw[b]at f;cases f
theorem Inv.funs(I:Inv X pins σ H s):s.heap.FunFrames X.base X.outer:=by
 have a:∀(l:A1 PR),(∀b∈QD l,b∈X.fs)->X.s₀.heap.FunFrames X.base l->s.heap.FunFrames X.base l:=by
  intro l
  induction l with
  | nil=>intro _ _;trivial
  | cons h r i =>
   intro g j;obtain⟨k,⟨L,o,c,m,n,p⟩,q⟩:=j;have d:L∈X.fs:=g L (by unfold QD;rw[DR,c];exact BO);obtain⟨t,e⟩:=I.base.slot L o n (I.ok.frf L d) d λz=>I.ok.exfs L z d;exact⟨k,⟨L,_,c,m,e,p⟩,i (λb f=>g b (by unfold QD;rw[DR,c];exact BD _ f)) q⟩
 exact a X.outer (λ_ f=>f) I.ok.funs
theorem Inv.stack(I:Inv X pins σ H s):s.heap.FunFrames X.base X.stack:=by
 rcases I.ok.stk with e | ⟨e,a⟩
 .rw[e];exact I.funs
 .rw[e];obtain⟨m,b,_⟩:=I.loc;refine .cons (by rw[I.ok.kind];decide) a b ?_ I.funs;exact Heap.get?_none_of_le (Nat.le_trans I.ok.bsz I.ok.above)
theorem Inv.stkSub(I:Inv X pins σ H s):∀b∈QD X.stack,b∈X.env.locals::X.fs:=λb a=>by
 rcases I.ok.stk with e | ⟨e,c⟩
 .rw[e]at a;exact BD _ a
 .rw[e]at a;unfold QD at a;rw[DR,c]at a;exact a
theorem Inv.stkFree(I:Inv X pins σ H s):∀b∈QD X.stack,H b=none:=λb hb=>by
 rcases AK.mp (I.stkSub b hb)with e | hb
 .rw[e];exact I.free
 .obtain⟨_,o,a,_⟩:=I.ok.funs.mem hb;exact I.base.free b o a (I.ok.frf b hb) λz=>I.ok.exfs b z hb
theorem Inv.step{g':CW GenState}{t':Nat}{d':Drawn}{ch:A1 A3}(I:Inv X pins σ H s)
  (g:∀b∈ch,(b∈X.ex\/X.s₀.heap.objs.size<=b)/\b≠X.env.locals/\(∀x c,X.env.cells.lookup x=some c->c≠b)/\∀p∈X.pn++pins,p.1≠b)
  (h:∀b o,b≠X.env.locals->b∉X.fs->b∉ch->s.heap.get? b=some o->H b=none->h'.get? b=some o)
  (B:∀b o,b≠X.env.locals->b∈X.fs->b∉ch->s.heap.get? b=some o->H b=none->∃O,h'.get? b=some { o with slots:=O }) (f:∀b o,b∉ch->s.heap.get? b=some o->H b=none->H' b=none)
  (C:∀b o,b∉ch->s.heap.get? b=some o->∃F,h'.get? b=some F)
  (G:∀b xs,H b=some (.tup xs)->H' b=some (.tup xs)) (J:∀b o u,H b=some (.frz o u)->H' b=some (.frz o u)) (K:∀b N,H b=some (.tbl N)->∃more,H' b=some (.tbl (N++more)))
  (ns:∀m,s.heap.Ns X.env.locals m->h'.Ns X.env.locals m) (P:MO X.prog X.w H' h') (W:AllBare g') :
  Inv X pins σ H' { s with heap:=h',gens:=g',drawn:=d',toks:=t' }:=by
 have L:∀b o,X.s₀.heap.get? b=some o->b≠X.env.locals:=λb o e=>BI (BJ (AM e) I.ok.above);have y:∀b o,X.s₀.heap.get? b=some o->b∉X.ex->b∉ch:=λb o e a D=>by
  rcases(g b D).1 with z | z
  .exact a z
  .exact absurd (BJ (AM e) z) (CU _)
 have j:∀x c,X.env.cells.lookup x=some c->∀v,s.heap.IsCell c v->h'.IsCell c v:=λx c e v ⟨o,E,Q⟩=>by
  have t:c∉ch:=λz=>(g c z).2.2.1 x c e rfl;by_cases S:c∈X.fs
  .obtain⟨O,q⟩:=B c o (I.cne x c e) S t E (I.freeC x c e);exact⟨_,q,Q⟩
  .exact⟨o,h c o (I.cne x c e) S t E (I.freeC x c e),Q⟩
 refine⟨I.ok,I.os,W,⟨λb o e n D a=>?_,λb o e n D a=>?_,λb o e n a=>?_,λb o e a=>?_,λb xs e=>G b xs (I.base.tups b xs e),λb o xs e=>J b o xs (I.base.frzs b o xs e),λb N e=>?_⟩,?_,λx c e=>?_,?_,λx c e=>?_,λp T=>?_,P,I.len⟩
 .exact h b o (L b o e) D (y b o e a) (I.base.keep b o e n D a) (I.base.free b o e n a)
 .obtain⟨O,A⟩:=I.base.slot b o e n D a;obtain⟨R,M⟩:=B b _ (L b o e) D (y b o e a) A (I.base.free b o e n a);exact⟨R,M⟩
 .obtain⟨F,A⟩:=I.base.there b o e a;exact f b F (y b o e a) A (I.base.free b o e n a)
 .obtain⟨F,A⟩:=I.base.there b o e a;exact C b F (y b o e a) A
 .obtain⟨Y,A⟩:=I.base.tbls b N e;obtain⟨Z,M⟩:=K b _ A;exact⟨Y++Z,by rw[M,Array.append_assoc]⟩
 .obtain⟨m,hn,hl⟩:=I.loc;refine⟨m,ns m hn,λi x v A M e3=>?_⟩;obtain⟨u,r,l⟩:=hl i x v A M e3;refine⟨u,r,?_⟩;rcases l with l | ⟨k,c,e,z⟩
  .exact .inl l
  .exact .inr ⟨k,c,e,j x c e _ z⟩
 .obtain⟨v,z⟩:=I.cell x c e;exact⟨v,j x c e v z⟩
 .obtain⟨m,⟨o,_,_,E,_⟩,_⟩:=I.loc;exact f _ o (λz=>(g _ z).2.1 rfl) E I.free
 .obtain⟨v,o,E,Q⟩:=I.cell x c e;exact f c o (λz=>(g c z).2.2.1 x c e rfl) E (I.freeC x c e)
 .obtain⟨e,n,U,V,d⟩:=I.pin p T;have t:p.1∉ch:=λz=>(g p.1 z).2.2.2 p T rfl;exact⟨h p.1 p.2 U V t e n,f p.1 p.2 t e n,U,V,d⟩
theorem Inv.un{t':Nat}(I:Inv X pins σ H s)(u:Un X.fs [] H H' s.heap h')(c:MO X.prog X.w H' h'):Inv X pins σ H' { s with heap:=h',toks:=t' }:=by
 obtain⟨m,⟨o,l,p,h,r⟩,_⟩:=id I.loc;obtain⟨q,i⟩:=u.any h I.free (by simp);exact I.step (g':=s.gens) (d':=s.drawn) (ch:=[]) (λ_ z=>nomatch z) (λb o _ d _ e n=>u.keep b o e n d (by simp)) (λb o _ d _ e n=>u.slot b o e n d (by simp)) (λb o _ e n=>u.free b o e n (by simp)) (λb o _ e=>u.there b o e (by simp)) u.tups u.frzs u.tbls (λt j=>by
  obtain⟨v,f,g,a,k⟩:=j;rw[h]at a;cases a;exact⟨_,f,g,i,k⟩) c I.bare
theorem Inv.call{g':CW GenState}{t':Nat}{d':Drawn}{ch:A1 A3}(I:Inv X pins σ H s)(u:Un (QD X.stack) ch H H' s.heap h')(g:MO X.prog X.w H' h')(l:AllBare g')
  (d:∀b∈ch,(b∈X.ex\/X.s₀.heap.objs.size<=b)/\b≠X.env.locals/\(∀x c,X.env.cells.lookup x=some c->c≠b)/\∀p∈X.pn++pins,p.1≠b) :
  Inv X pins σ H' { s with heap:=h',gens:=g',drawn:=d',toks:=t' }:=by
 obtain⟨m,⟨o,y,A,k,r⟩,_⟩:=id I.loc;obtain⟨B,h⟩:=u.any k I.free λz=>(d _ z).2.1 rfl;exact I.step (ch:=ch) d (λb o h q a e n=>u.keep b o e n (λz=>(AK.mp (I.stkSub b z)).elim h q) a) (λb o _ _ a e n=>u.any e n a) (λb o a e n=>u.free b o e n a) (λb o a e=>u.there b o e a) u.tups u.frzs u.tbls (λC t=>by
  obtain⟨D,i,j,f,v⟩:=t;rw[k]at f;cases f;exact⟨_,i,j,h,v⟩) g l
theorem Inv.turned{t':Nat}{a:A3}(I:Inv X pins σ H s)(k:∀b o,b≠a->s.heap.get? b=some o->h'.get? b=some o)(h:H a=none)(g:a≠X.env.locals)
  (h1:a∈X.ex\/X.s₀.heap.objs.size<=a) (h2:∀x c,X.env.cells.lookup x=some c->c≠a) (i:∀p∈X.pn++pins,p.1≠a):Inv X pins σ H { s with heap:=h',toks:=t' }:=by
 have f:∀b u,H b=some u->b≠a:=λb u e z=>by rw[z,h]at e;cases e
 refine I.step (g':=s.gens) (d':=s.drawn) (ch:=[a]) (λb j=>?_) (λb o _ _ d e _=>k b o (λz=>d (by simp[z])) e) (λb o _ _ d e _=>⟨o.slots,k b o (λz=>d (by simp[z])) e⟩) (λ_ _ _ _ n=>n)
  (λb o d e=>⟨o,k b o (λz=>d (by simp[z])) e⟩) (λ_ _ e=>e) (λ_ _ _ e=>e) (λb A e=>⟨#[],by rw[e];simp⟩) (λm l=>?_) (λb u e=>?_) I.bare
 .have e:b=a:=by simpa using j
  subst e;exact⟨h1,g,h2,i⟩
 .obtain⟨o,t,w,y,r⟩:=l;exact⟨o,t,w,k _ o (Ne.symm g) y,r⟩
 .refine(I.hok b u e).stay (λc v d q=>k c v ?_ q) (λ_ q=>q) λ_ _ q=>q;rcases d with z | z
  .rw[z];exact f b u e
  .exact f c _ z
theorem Inv.tok(I:Inv X pins σ H s)(t:Nat):Inv X pins σ H { s with toks:=t }:=I.un (h':=s.heap) (t':=t) Un.refl I.hok
theorem Inv.kept{t':Nat}(I:Inv X pins σ H s)(k:∀b u,s.heap.get? b=some u->h'.get? b=some u):Inv X pins σ H { s with heap:=h',toks:=t' }:=I.un (Un.kept k) (I.hok.kept k)
theorem Inv.laid{a:A3}{o:HO}{t':Nat}(I:Inv X pins σ H s)(k:∀b u,s.heap.get? b=some u->h'.get? b=some u)(c:s.heap.objs.size<=a)(d:IZ X.prog X.w (IK H a o) h' a o) :
  Inv X pins σ (IK H a o) { s with heap:=h',toks:=t' }:=I.un (Un.laid k c (I.hok.fresh c)) (I.hok.laid k c d)
theorem Inv.write{x e:A3}{o:HO}{t':Nat}(I:Inv X pins σ H s)(d:UG (H x))(f:e=x\/H e=some (.own x))(k:∀b u,b≠e->s.heap.get? b=some u->h'.get? b=some u)(a:∃u,h'.get? e=some u)
  (c:IZ X.prog X.w (IK H x o) h' x o):Inv X pins σ (IK H x o) { s with heap:=h',toks:=t' }:=I.un (Un.write d f k a) (I.hok.write d f k a c)
theorem Inv.pins_of{a:A1 (A3×Obj)}(I:Inv X pins σ H s)(h:∀p∈a,s.heap.get? p.1=some p.2/\H p.1=none/\p.1≠X.env.locals/\p.1∉X.fs/\∀v,p.2.data≠ .cell v):Inv X a σ H s :=
 ⟨I.ok,I.os,I.bare,I.base,I.loc,I.cell,I.free,I.freeC,λp b=>(AO.mp b).elim (λz=>I.pin p (CP _ z)) (h p),I.hok,I.len⟩
theorem Nf{N:A1 Str}(c:N.Nodup){i j:Nat}{x:Str}(a:N[i]?=some x)(b:N[j]?=some x):i=j:=by
 obtain⟨f,d⟩:=AE.mp a;obtain⟨g,e⟩:=AE.mp b;exact(List.getElem_inj c).mp (d.trans e.symm)
theorem Hd{M:Model}{A:IR}{E:A2->A4->Prop}{i:Nat}{x:Str}{v:V}{u:A2}{Q:Unit->A4->Prop}(I:Inv X pins σ H s)(hN:X.N.Nodup)(hi:X.N[i]?=some x)(t:Loc X.env.scope x)(r:RelV v u)
  (h:∀W,Inv X pins (σ.set i (some v)) H W->(∃a,Heap.SameBut a s.heap W.heap/\(a=X.env.locals\/X.env.cells.lookup x=some a))->Q () W) (hf:X.fn x=true\/X.env.scope.names.lookup x=some .local:=by first | exact .inl rfl | exact .inr rfl | assumption):wpAny M A (storeName X.env x u) Q E s:=by
 obtain⟨m,Y,hl⟩:=id I.loc;have K:(X.env.scope.kind == .class||(X.env.scope.kind == .module&&X.env.locals != X.env.globals))=false:=by rw[I.ok.kind];rfl
 have hiσ:i<σ.length:=by rw[I.len];exact(AE.mp hi).1
 have D:=I.cne;have g:∀{a:A3} {h':IM},(∃o,s.heap.get? a=some o/\H a=none)->Heap.SameBut a s.heap h'->MO X.prog X.w H h':=fun{a h'} ha f b ob e=>by
  obtain⟨_,_,B⟩:=ha;refine(I.hok b ob e).stay (λc S hc q=>(f.2 c ?_).trans q) (λ_ q=>q) λ_ _ q=>q;rintro rfl;rcases hc with rfl | hc
  .rw[B]at e;cases e
  .rw[B]at hc;cases hc
 rcases t with hk | hk
 .refine wpAny_storeName_local hk Y (λh' Z f=>?_) K;obtain⟨oL,_,_,hoL,_⟩:=id Y;refine h _ ⟨I.ok,I.os,I.bare,⟨λb o e n F t=>?_,λb o e n F t=>?_,I.base.free,λb o e t=>?_,I.base.tups,I.base.frzs,I.base.tbls⟩,⟨_,Z,λj y v' l C e3=>?_⟩,λy c e=>?_,I.free,I.freeC,λp hp=>?_,g ⟨oL,hoL,I.free⟩ f,by simpa using I.len⟩ ⟨_,f,.inl rfl⟩
  .exact(f.2 b (BI (BJ (AM e) I.ok.above))).trans (I.base.keep b o e n F t)
  .obtain⟨sl,l⟩:=I.base.slot b o e n F t;exact⟨sl,(f.2 b (BI (BJ (AM e) I.ok.above))).trans l⟩
  .obtain⟨o',l⟩:=I.base.there b o e t;exact⟨o',(f.2 b (BI (BJ (AM e) I.ok.above))).trans l⟩
  .by_cases G:j=i
   .subst G;rw[hi]at l;cases l;rw[HV hiσ]at C;cases C;exact⟨u,r,.inl ⟨hk,by simp⟩⟩
   .rw[List.getElem?_set_ne (Ne.symm G)]at C;obtain⟨u',r',q⟩:=hl j y v' l C e3;refine⟨u',r',?_⟩;rcases q with⟨k,e⟩ | ⟨k,c,e,z⟩
    .refine .inl ⟨k,?_⟩;have:y≠x:=λe=>G (Nf hN l (e▸hi));simp[this,e]
    .exact .inr ⟨k,c,e,z.sameBut f (D y c e)⟩
  .obtain⟨S,z⟩:=I.cell y c e;exact⟨S,z.sameBut f (D y c e)⟩
  .obtain⟨e,n,T,nf,d⟩:=I.pin p hp;exact⟨(f.2 p.1 T).trans e,n,T,nf,d⟩
 .have J:X.fn x=true:=by
   rcases hf with z | z
   .exact z
   .rw[z]at hk;cases hk
  obtain⟨c,hc⟩:=I.ok.has x (.inl hk);obtain⟨S,z⟩:=I.cell x c hc;refine wpAny_storeName_cell I.ok.kind hk hc z (λh' L f=>?_);obtain⟨oc,O,P⟩:=id z;refine h { s with heap:=h' } ⟨I.ok,I.os,I.bare,⟨λb o e n F t=>?_,λb o e n F t=>?_,I.base.free,λb o e t=>?_,I.base.tups,I.base.frzs,I.base.tbls⟩,⟨m,Y.sameBut f (Ne.symm (D x c hc)),λj y v' l C e3=>?_⟩,λy U e=>?_,I.free,I.freeC,λp hp=>?_,g ⟨oc,O,I.freeC x c hc⟩ f,by simpa using I.len⟩ ⟨c,f,.inr hc⟩
  .exact(f.2 b (BI (BJ (AM e) (I.ok.cab x c J hc)))).trans (I.base.keep b o e n F t)
  .obtain⟨sl,l⟩:=I.base.slot b o e n F t;exact⟨sl,(f.2 b (BI (BJ (AM e) (I.ok.cab x c J hc)))).trans l⟩
  .obtain⟨o',l⟩:=I.base.there b o e t;exact⟨o',(f.2 b (BI (BJ (AM e) (I.ok.cab x c J hc)))).trans l⟩
  .by_cases G:j=i
   .subst G;rw[hi]at l;cases l;rw[HV hiσ]at C;cases C;exact⟨u,r,.inr ⟨.inl hk,c,hc,L⟩⟩
   .rw[List.getElem?_set_ne (Ne.symm G)]at C;obtain⟨u',r',q⟩:=hl j y v' l C e3;refine⟨u',r',?_⟩;rcases q with q | ⟨k,U,e,z'⟩
    .exact .inl q
    .refine .inr ⟨k,U,e,z'.sameBut f ?_⟩;rintro rfl;exact G (Nf hN l (I.ok.inj _ _ _ e hc▸hi))
  .by_cases R:U=c
   .subst R;exact⟨_,L⟩
   .obtain⟨w2,z2⟩:=I.cell y U e;exact⟨w2,z2.sameBut f R⟩
  .obtain⟨e,n,T,nf,d⟩:=I.pin p hp;refine⟨(f.2 p.1 ?_).trans e,n,T,nf,d⟩;intro q;rw[q,O]at e;have q':oc=p.2:=BH e;exact d S (by rw[<-q'];exact P)
theorem j8{M:Model}{A:IR}{E:A2->A4->Prop}{i:Nat}{x:Str}{v:V}{u:A2}{Q:Unit->A4->Prop}(I:Inv X pins σ H s)(b:X.N.Nodup)(hi:X.N[i]?=some x)(c:Loc X.env.scope x)(r:RelV v u)
  (h:∀a,Inv X pins (σ.set i (some v)) H a->Q () a) (d:X.fn x=true\/X.env.scope.names.lookup x=some .local:=by first | exact .inl rfl | exact .inr rfl | assumption):wpAny M A (storeName X.env x u) Q E s :=
 Hd I b hi c r (λa e _=>h a e) d
theorem Inv.call'{a:A4}{ch:A1 A3}(I:Inv X pins σ H s)(g:a.os=s.os)(u:Un (QD X.stack) ch H H' s.heap a.heap)(d:MO X.prog X.w H' a.heap)(h:AllBare a.gens)
  (f:∀b∈ch,(b∈X.ex\/X.s₀.heap.objs.size<=b)/\b≠X.env.locals/\(∀x c,X.env.cells.lookup x=some c->c≠b)/\∀p∈X.pn++pins,p.1≠b):Inv X pins σ H' a:=by
 obtain⟨h',g',d',t',i⟩:=a;have e:i=s.os:=g;subst e;exact I.call (g':=g') (t':=t') (d':=d') u d h f
end
abbrev XK:=A2->A5 A3->Hp->Prop
abbrev St:=A1 (A5 V)
abbrev VK:=V->Hp->Prop
abbrev TE:=St->Hp->VK->Prop
abbrev TT:=St->Hp->(Bool->Hp->Prop)->Prop
abbrev TA:=St->Hp->(A1 V->Hp->Prop)->Prop
set_option genInjectivity false in
structure Ends where
 nx:St->Hp->Prop
 rt:VK
 bk:St->Hp->Prop:=λ_ _=>False
 ct:St->Hp->Prop:=λ_ _=>False
abbrev TS:=Ends->St->Hp->Prop
def EP(X:Cx)(a:A1 (A3×Obj))(σ:St)(Q:VK)(u:A2)(c:A4):Prop:=∃v b,Inv X a σ b c/\RelV v u/\Q v b
def TP(X:Cx)(a:A1 (A3×Obj))(σ:St)(Q:Bool->Hp->Prop)(b:Bool)(d:A4):Prop:=∃c,Inv X a σ c d/\Q b c
def AP(X:Cx)(a:A1 (A3×Obj))(σ:St)(Q:A1 V->Hp->Prop)(us:A1 A2)(d:A4):Prop:=∃b c,Inv X a σ c d/\IV b us/\Q b c
def SP(X:Cx)(a:A1 (A3×Obj))(D:Ends)(f:Flow)(c:A4):Prop :=
 match f with
 | .next=>∃σ' b,Inv X a σ' b c/\D.nx σ' b
 | .brk=>∃σ' b,Inv X a σ' b c/\D.bk σ' b
 | .cont=>∃σ' b,Inv X a σ' b c/\D.ct σ' b
 | .ret u=>∃v σ' b,Inv X a σ' b c/\RelV v u/\D.rt v b
def PE(X:Cx)(e:IQ)(t:TE):Prop :=
 ∀(a:A1 (A3×Obj)) (s:A4) (σ:St) (H:Hp) (Q:VK),Inv X a σ H s->t σ H Q->wpAny (model X.prog X.w) X.A (eval e X.env) (EP X a σ Q) X.xe s
def PT(X:Cx)(e:IQ)(t:TT):Prop :=
 ∀(a:A1 (A3×Obj)) (s:A4) (σ:St) (H:Hp) (Q:Bool->Hp->Prop),Inv X a σ H s->t σ H Q->wpAny (model X.prog X.w) X.A (isTrue e X.env (eval e X.env)) (TP X a σ Q) X.xe s
def PW(X:Cx)(e:IQ)(t:TT):Prop :=
 ∀(b:Sem A2) (a:A1 (A3×Obj)) (s:A4) (σ:St) (H:Hp) (Q:Bool->Hp->Prop),Inv X a σ H s->t σ H Q->wpAny (model X.prog X.w) X.A (isTrue e X.env b) (TP X a σ Q) X.xe s
def PW.pt{X:Cx}{e:IQ}{t:TT}(h:PW X e t):PT X e t:=h _
def PA(X:Cx)(c:A1 IQ)(t:TA):Prop :=
 ∀(b:Pos) (a:A1 (A3×Obj)) (s:A4) (σ:St) (H:Hp) (Q:A1 V->Hp->Prop),Inv X a σ H s->t σ H Q->wpAny (model X.prog X.w) X.A (spliced (backTo b (starEach c X.env))) (AP X a σ Q) X.xe s
def PS(X:Cx)(st:I7)(t:TS):Prop :=
 ∀(a:A1 (A3×Obj)) (s:A4) (σ:St) (H:Hp) (D:Ends),Inv X a σ H s->t D σ H->wpAny (model X.prog X.w) X.A (exec st X.env) (SP X a D) X.xe s
def QN(X:Cx)(st:A1 I7)(t:TS):Prop :=
 ∀(a:A1 (A3×Obj)) (s:A4) (σ:St) (H:Hp) (D:Ends),Inv X a σ H s->t D σ H->wpAny (model X.prog X.w) X.A (execs st X.env) (SP X a D) X.xe s
def JI{α:Type}{t:Sem α}{Q b:α->A4->Prop}{M:Model}{A:IR}{E:A2->A4->Prop}{s:A4}(h:wpAny M A t Q E s)(c:∀a s,Q a s->b a s):wpAny M A t b E s:=B_ h c λ_ _ x=>x
section
variable{X:Cx}
def Pe(i:Nat):TE:=λσ H Q=>∃v,σ[i]?=some (some v)/\Q v H
def tC(v:V):TE:=λ_ H Q=>Q v H
theorem Xt{i:Nat}{x:Str}{pos:Pos}(k:X.N[i]?=some x)(n:UC X.env.scope x)(f:(x ==("__debug__":Str))=false:=by decide)(g:(x ==("__classdict__":Str))=false:=by decide):PE X (.Name x pos) (Pe i):=by
 intro d s σ H Q I h;obtain⟨v,e,h⟩:=h;obtain⟨m,o,p⟩:=I.loc;obtain⟨u,r,l⟩:=p i x v k e n;have b:EP X d σ Q u s:=⟨v,H,I,r,h⟩;rcases l with⟨hk,q⟩ | ⟨hk,c,j,a⟩
 .exact wpAny_Name (wpAny_loadName_local I.ok.kind hk o q b) f
 .rcases hk with hk | hk
  .exact wpAny_Name (wpAny_loadName_cell I.ok.kind hk j a b) f
  .exact wpAny_Name (wpAny_loadName_free I.ok.kind hk j a b g) f
theorem B8{i j pos}:PE X (.Constant (.int i) j pos) (tC (.int i)):=λ_ _ _ H _ I h=>wpAny_Constant_int ⟨.int i,H,I.tok _,⟨_,rfl⟩,h⟩
theorem Gf{b j pos}:PE X (.Constant (.bool b) j pos) (tC (.bl b)):=λ_ _ _ H _ I h=>Constant_bool ⟨.bl b,H,I,rfl,h⟩
theorem d6{j pos}:PE X (.Constant .none j pos) (tC .non):=λ_ _ _ H _ I h=>Constant_none ⟨.non,H,I,rfl,h⟩
theorem U5{x j pos}:PE X (.Constant (.str x) j pos) (tC (.str x)):=λ_ _ _ H _ I h=>Calls.Constant_str ⟨.str x,H,I.tok _,⟨_,rfl⟩,h⟩
def Gl(X:Cx)(x:Str):Prop:=X.env.kindOf x=some .globalImplicit
theorem Km{E:A2->A4->Prop}{a:A1 (A3×Obj)}{s:A4}{σ:St}{H:Hp}{x:Str}{u:A2}{pos:Pos}{Q:A2->A4->Prop}(I:Inv X a σ H s)(b:Gl X x)(c:X.mg x=some u)(h:Q u s)
  (d:(x ==("__debug__":Str))=false:=by decide):wpAny (model X.prog X.w) X.A (eval (.Name x pos) X.env) Q E s :=
 Calls.Name_function_global I.ok.kind b (Calls.loadGlobal_global (by rw[I.ok.glob];exact I.mod.glob.keeps I.bk) c h) d
theorem o7{E:A2->A4->Prop}{a:A1 (A3×Obj)}{s:A4}{σ:St}{H:Hp}{x:Str}{u:A2}{pos:Pos}{Q:A2->A4->Prop}(I:Inv X a σ H s)(b:Gl X x)(c:X.mg x=none)(d:bootBuiltins x=some u)(h:Q u s)
  (e:x≠ "__name__":=by decide) (f:(x ==("__debug__":Str))=false:=by decide):wpAny (model X.prog X.w) X.A (eval (.Name x pos) X.env) Q E s:=by
 obtain⟨j,g,i⟩:=I.mod.blt;exact Calls.Name_function_global I.ok.kind b (Calls.loadGlobal_builtin (by rw[I.ok.glob];exact I.mod.glob.keeps I.bk) c (by rw[I.ok.blt];exact g.keeps I.bk) ((i x e).trans d) h) f
theorem Kx{x:Str}{v:V}{u:A2}{pos:Pos}(a:Gl X x)(b:X.mg x=some u)(r:RelV v u)(c:(x ==("__debug__":Str))=false:=by decide):PE X (.Name x pos) (tC v) :=
 λ_ _ _ H _ I h=>Km I a b ⟨v,H,I,r,h⟩ c
theorem Zx{x:Str}{v:V}{u:A2}{pos:Pos}(a:Gl X x)(b:X.mg x=none)(c:bootBuiltins x=some u)(r:RelV v u)(d:x≠ "__name__":=by decide)(e:(x ==("__debug__":Str))=false:=by decide):PE X (.Name x pos) (tC v) :=
 λ_ _ _ H _ I h=>o7 I a b c ⟨v,H,I,r,h⟩ d e
variable{a b:IQ}{ta tb:TE}{pos:Pos}
def PC(X:Cx)(op:CmpOp)(a b:IQ)(t:TE):Prop :=
 ∀(c:A1 (A3×Obj)) (s:A4) (σ:St) (H:Hp) (Q:VK),Inv X c σ H s->t σ H Q ->
  wpAny (model X.prog X.w) X.A (eval a X.env) (λv s₁=>wpAny (model X.prog X.w) X.A (eval b X.env) (λu s₂=>wpAny (model X.prog X.w) X.A (compareOp op v u) (EP X c σ Q) X.xe s₂) X.xe s₁) X.xe s
def tB(t:TE):TT:=λσ H Q=>t σ H λx a=>∃c,x = .bl c/\Q c a
theorem zCt{op:CmpOp}{t:TE}(h:PC X op a b t)(h1:behindInMarks op b=false:=by first | exact e _ (by decide) (by decide) | rfl):PT X (.Compare a [op] [b] pos) (tB t):=by
 intro f s σ H Q I g;refine wpAny_isTrue_Compare1 (JI (h f s σ H _ I g) λv n h1=>JI h1 λu o i=>JI i λc p ⟨x,j,k,l,m⟩=>?_) h1;obtain⟨d,rfl,q⟩:=m;cases l;exact DI ⟨j,k,q⟩
theorem O3{e:IQ}{t:TE}(h:PE X e t)(c:∀a,isTrue e X.env a =(do let v <-a;standAt e.pos;holding [v] (truthy v)):=by intro _;rfl):PT X e (tB t):=by
 intro b s σ H Q I f;refine isTrue_plain (JI (h b s σ H _ I f) λv l ⟨x,g,i,j,k⟩=>?_) (c _);obtain⟨d,rfl,q⟩:=k;cases j;exact DI ⟨g,i,q⟩
variable{tA tB':TT}{rest:A1 IQ}
def zHx(t u:TT):TT:=λσ H Q=>t σ H λc a=>if c=true then u σ a Q else Q false a
def tOr(t u:TT):TT:=λσ H Q=>t σ H λc a=>if c=true then Q true a else u σ a Q
def zIe(t:TT):TT:=λσ H Q=>t σ H λc a=>Q (!c) a
theorem Jo(d:PT X a tA):PW X (.BoolOp .And [a] pos) tA:=by
 intro f b s σ H Q I h;refine isTrue_and (JI (d b s σ H Q I h) λc g e=>?_);cases c with
 | true=>exact isTrue_and_nil e
 | false=>exact e
theorem Z8(d:PT X a tA):PW X (.BoolOp .Or [a] pos) tA:=by
 intro f b s σ H Q I h;refine isTrue_or (JI (d b s σ H Q I h) λc g e=>?_);cases c with
 | false=>exact isTrue_or_nil e
 | true=>exact e
theorem Ln(i:PT X a tA)(j:PW X (.BoolOp .And (b::rest) pos) tB'):PW X (.BoolOp .And (a::b::rest) pos) (zHx tA tB'):=by
 intro k d s σ H Q I h;refine isTrue_and (JI (i d s σ H _ I h) λc l ⟨e,f,g⟩=>?_);cases c with
 | true=>exact j k d l σ e Q f g
 | false=>exact⟨e,f,g⟩
theorem t9(i:PT X a tA)(j:PW X (.BoolOp .Or (b::rest) pos) tB'):PW X (.BoolOp .Or (a::b::rest) pos) (tOr tA tB'):=by
 intro k d s σ H Q I h;refine isTrue_or (JI (i d s σ H _ I h) λc l ⟨e,f,g⟩=>?_);cases c with
 | true=>exact⟨e,f,g⟩
 | false=>exact j k d l σ e Q f g
theorem R1(d:PT X a tA):PT X (.UnaryOp .Not a pos) (zIe tA):=by
 intro b s σ H Q I h;exact isTrue_not (d b s σ H (λc e=>Q (!c) e) I h)
def zGe(ta tb:TE):TE:=λσ H Q=>ta σ H λx a=>∃c,x = .bl c/\if c=true then tb σ a Q else Q (.bl false) a
def zGc(ta:TE):TE:=λσ H Q=>ta σ H λx a=>∃c,x = .bl c/\Q (.bl (!c)) a
theorem Cb{op}{t:TE}(h:PE X a t):PE X (.BoolOp op [a] pos) t:=λb s σ H Q I c=>BoolOp_one (h b s σ H Q I c)
theorem Ak(i:PE X a ta)(j:PE X (.BoolOp .And (b::rest) pos) tb):PE X (.BoolOp .And (a::b::rest) pos) (zGe ta tb):=by
 intro d s σ H Q I h;refine BoolOp_and (JI (i d s σ H _ I h) λv k ⟨x,f,g,l,e⟩=>?_);obtain⟨c,rfl,e⟩:=e;cases l;refine DI ?_;cases c with
 | true=>exact j d k σ f Q g e
 | false=>exact⟨.bl false,f,g,rfl,e⟩
theorem zDc(e:PE X a ta):PE X (.UnaryOp .Not a pos) (zGc ta):=by
 intro b s σ H Q I h;refine UnaryOp_ (JI (e b s σ H _ I h) λv j ⟨x,f,g,i,d⟩=>?_);obtain⟨c,rfl,d⟩:=d;cases i;exact not_of (DI ⟨.bl (!c),f,g,rfl,d⟩)
def tIf(t:TT)(ta tb:TE):TE:=λσ H Q=>t σ H λc a=>if c=true then ta σ a Q else tb σ a Q
theorem Up{c:IQ}(k:PT X c tA)(l:PE X a ta)(m:PE X b tb):PE X (.IfExp c a b pos) (tIf tA ta tb):=by
 intro e s σ H Q I h;refine wpAny_IfExp (JI (k e s σ H _ I h) λd f ⟨g,i,j⟩=>?_);cases d with
 | true=>exact l e f σ g Q i j
 | false=>exact m e f σ g Q i j
end
def IS(K:PySem.W.Frag)(H:Hp)(a:A3)(xs:A1 V):Prop :=
 Rd H a (.lst xs) \/
  ∃(o:Obj) (b:CW A2) (n:Nat),K.lookup a=some o/\o.cls = .type "list"/\o.dict=none/\o.data = .seq b n/\b.size<=sizeLine/\IV xs b.toList
def JJ(K:PySem.W.Frag)(H:Hp)(a:A3)(xs:A1 V):Prop :=
 Rd H a (.tup xs) \/
  ∃(o:Obj) (b:CW A2) (n:Nat),K.lookup a=some o/\o.cls = .type "tuple"/\o.data = .seq b n/\b.size<=sizeLine/\IV xs b.toList
def zIc:A2->A5 V
 | .none=>some .non
 | .bool b=>some (.bl b)
 | .int i _=>some (.int i)
 | .str x _=>some (.str x)
 | .bytes b _=>some (.byt b)
 | .float b _=>some (.flt b)
 | .ref a=>some (.ref a)
 | .type n=>some (.ty n)
 | _=>none
def RelV.abs{x:V}{u:A2}(r:RelV x u):zIc u=some x:=by
 cases x with
 | non=>cases r;rfl
 | bl _=>cases r;rfl
 | int _=>obtain⟨t,rfl⟩:=r;rfl
 | str _=>obtain⟨t,rfl⟩:=r;rfl
 | byt _=>obtain⟨t,rfl⟩:=r;rfl
 | flt _=>obtain⟨t,rfl⟩:=r;rfl
 | ref _=>cases r;rfl
 | ty _=>cases r;rfl
def RelV.inj{x y:V}{u:A2}(r:RelV x u)(q:RelV y u):x=y:=BH (r.abs.symm.trans q.abs)
def IV.inj:∀{xs a:A1 V} {us:A1 A2},IV xs us->IV a us->xs=a
 | _,_,_,.nil,.nil=>rfl
 | _,_,_,.cons r t,.cons b c=>by rw[r.inj b,IV.inj t c]
section
variable{X:Cx}{pins:A1 (A3×Obj)}{σ:St}{H:Hp}{s:A4}{a:A3}{xs ys:A1 V}
theorem IS.of{K:PySem.W.Frag}(h:H a=some (.lst xs)):IS K H a xs:=.inl (.inl h)
theorem JJ.of{K:PySem.W.Frag}(h:H a=some (.tup xs)):JJ K H a xs:=.inl (.inl h)
theorem Inv.list(I:Inv X pins σ H s)(h:IS X.K H a xs):∃its:A1 A2,IV xs its/\PlainL s.heap a its.toArray/\xs.length<=sizeLine:=by
 rcases h with h | ⟨o,its,n,b,c,d,f,g,r⟩
 .obtain⟨z,its,n,r,e⟩:=h.ok I.hok;exact⟨its,r,⟨_,n,e,rfl,rfl,rfl⟩,z⟩
 .refine⟨its.toList,r,⟨o,n,I.kIn a o b,c,d,by simpa using f⟩,?_⟩;have e:=r.length;simp only[AU]at e;lia
theorem Inv.tuple(I:Inv X pins σ H s)(h:JJ X.K H a xs):∃its:A1 A2,IV xs its/\IsTup s.heap a its.toArray/\xs.length<=sizeLine:=by
 rcases h with h | ⟨o,its,n,b,c,d,f,r⟩
 .obtain⟨z,its,r,p⟩:=h.ok I.hok;exact⟨its,r,p,z⟩
 .refine⟨its.toList,r,⟨o,I.kIn a o b,c,n,by simpa using d⟩,?_⟩;have e:=r.length;simp only[AU]at e;lia
theorem Inv.list_inj(I:Inv X pins σ H s)(h:IS X.K H a xs)(h':IS X.K H a ys):xs=ys:=by
 obtain⟨c,r,⟨o,n,e,_,_,d⟩,_⟩:=I.list h;obtain⟨b,i,⟨k,l,f,_,_,g⟩,_⟩:=I.list h';rw[e]at f;cases f;rw[d]at g;injection g with j _;have:c=b:=by simpa using congrArg Array.toList j
 subst this;exact r.inj i
theorem Inv.tuple_inj(I:Inv X pins σ H s)(h:JJ X.K H a xs)(h':JJ X.K H a ys):xs=ys:=by
 obtain⟨c,r,⟨o,e,_,n,d⟩,_⟩:=I.tuple h;obtain⟨b,i,⟨k,f,_,l,g⟩,_⟩:=I.tuple h';rw[e]at f;cases f;rw[d]at g;injection g with j _;have:c=b:=by simpa using congrArg Array.toList j
 subst this;exact r.inj i
end
abbrev Cx.wish(X:Cx)(E:A2->A4->Prop):Cx:={ X with xe:=E }
abbrev Cx.nox(X:Cx):Cx:=X.wish λ_ _=>False
def Cx.Ok.wish{X:Cx}(a:X.Ok)(E:A2->A4->Prop):(X.wish E).Ok :=
 ⟨a.mod,a.kind,a.glob,a.blt,a.above,a.inj,a.has,a.cab,a.hd,a.frames,a.stk,a.exf,a.bs,a.bsz,a.noex,a.exfs,a.funs,a.frf⟩
def Cx.Ok.unwish{X:Cx}{E:A2->A4->Prop}(a:(X.wish E).Ok):X.Ok :=
 ⟨a.mod,a.kind,a.glob,a.blt,a.above,a.inj,a.has,a.cab,a.hd,a.frames,a.stk,a.exf,a.bs,a.bsz,a.noex,a.exfs,a.funs,a.frf⟩
section
variable{X:Cx}{pins:A1 (A3×Obj)}{σ:St}{H:Hp}{s:A4}{E:A2->A4->Prop}
theorem Inv.wish(I:Inv X pins σ H s)(E:A2->A4->Prop):Inv (X.wish E) pins σ H s:=⟨I.ok.wish E,I.os,I.bare,I.base,I.loc,I.cell,I.free,I.freeC,I.pin,I.hok,I.len⟩
theorem Inv.unwish(I:Inv (X.wish E) pins σ H s):Inv X pins σ H s:=⟨I.ok.unwish,I.os,I.bare,I.base,I.loc,I.cell,I.free,I.freeC,I.pin,I.hok,I.len⟩
theorem SP.unwish{D:Ends}{f:Flow}{b:A4}(h:SP (X.wish E) pins D f b):SP X pins D f b:=by
 cases f with
 | next=>obtain⟨σ',a,I,q⟩:=h;exact⟨σ',a,I.unwish,q⟩
 | brk=>obtain⟨σ',a,I,q⟩:=h;exact⟨σ',a,I.unwish,q⟩
 | cont=>obtain⟨σ',a,I,q⟩:=h;exact⟨σ',a,I.unwish,q⟩
 | ret u=>obtain⟨v,σ',a,I,r,q⟩:=h;exact⟨v,σ',a,I.unwish,r,q⟩
theorem QN.nox{st:A1 I7}{t:TS}(h:QN X.nox st t):QN X st t:=λpins s σ H D I a =>
 B_ (h pins s σ H D (I.wish _) a) (λ_ _ q=>q.unwish) λ_ _ z=>False.elim z
end
section
variable{X:Cx}{st:I7}{rest:A1 I7}{t u:TS}{e:IQ}{te:TE}{pos:Pos}
def zGb:TS:=λD σ H=>D.nx σ H
def TD(t u:TS):TS:=λD σ H=>t { D with nx:=u D } σ H
theorem D4:QN X [] zGb:=λ_ _ σ H _ I h=>wpAny_execs_nil ⟨σ,H,I,h⟩
theorem B4(h1:PS X st t)(h2:QN X rest u):QN X (st::rest) (TD t u):=by
 intro a s σ H D I h;refine wpAny_execs_cons (JI (h1 a s σ H { D with nx:=u D } I h) λf b q=>?_);cases f with
 | next =>
  obtain⟨σ',c,d,q⟩:=q;exact h2 a b σ' c D d q
 | ret v=>exact q
 | brk=>exact q
 | cont=>exact q
theorem B5(h1:PS X st t):QN X [st] t:=by
 intro a s σ H D I h;refine wpAny_execs_cons (JI (h1 a s σ H D I h) λf b q=>?_);cases f with
 | next=>exact wpAny_execs_nil q
 | ret v=>exact q
 | brk=>exact q
 | cont=>exact q
theorem Inv.quiet{a:A1 (A3×Obj)}{σ:St}{H:Hp}{s:A4}(I:Inv X a σ H s):interactive X.env=false:=by simp[interactive,I.ok.kind]
def zGa(te:TE):TS:=λD σ H=>te σ H λ_ a=>D.nx σ a
theorem J7(b:PE X e te)(c:swapsWith e none pos.line X.env=pure false:=by rfl):PS X (.Expr e pos) (zGa te):=by
 intro a s σ H D I h;exact wpAny_Expr_any (JI (b a s σ H _ I h) λv i ⟨x,d,f,j,g⟩=>⟨σ,d,f,g⟩) I.quiet c
def zGi(te:TE):TS:=λD σ H=>te σ H D.rt
theorem C3(b:PE X e te):PS X (.Return (some e) pos) (zGi te):=by
 intro a s σ H D I h;exact wpAny_Return_some (JI (b a s σ H _ I h) λv i ⟨x,c,d,f,g⟩=>⟨x,σ,c,d,f,g⟩)
def zHw(c:TT)(t u:TS):TS:=λD σ H=>c σ H λb a=>if b=true then t D σ a else u D σ a
theorem M9{c:IQ}{a b:A1 I7}{f:TT}(l:PT X c f)(m:QN X a t)(n:QN X b u):PS X (.If c a b pos) (zHw f t u):=by
 intro e s σ H D I h;refine wpAny_If (JI (l e s σ H _ I h) λd g ⟨i,j,k⟩=>?_);cases d with
 | true=>exact m e g σ i D j k
 | false=>exact n e g σ i D j k
def zEn:TS:=λ_ _ _=>False
theorem Fz:PS X st zEn:=λ_ _ _ _ _ _ h=>h.elim
end
abbrev TG:=V->St->Hp->(St->Hp->Prop)->Prop
abbrev SK:=A1 V->St->Hp->(St->Hp->Prop)->Prop
def PG(X:Cx)(a:IQ)(t:TG):Prop :=
 ∀(b:A1 (A3×Obj)) (s:A4) (σ:St) (H:Hp) (v:V) (u:A2) (Q:St->Hp->Prop),Inv X b σ H s->RelV v u->t v σ H Q ->
  wpAny (model X.prog X.w) X.A (assign a X.env u) (λ_ d=>∃σ' c,Inv X b σ' c d/\Q σ' c) X.xe s
def UD(X:Cx)(ts:A1 IQ)(t:SK):Prop :=
 ∀(a:A1 (A3×Obj)) (s:A4) (σ:St) (H:Hp) (b:A1 V) (c:A1 A2) (Q:St->Hp->Prop),Inv X a σ H s->IV b c->t b σ H Q ->
  wpAny (model X.prog X.w) X.A (assignInOrder ((assignEach ts X.env).map (·.2)) c) (λ_ e=>∃σ' d,Inv X a σ' d e/\Q σ' d) X.xe s
abbrev NN:=V->V->V->Hp->(Hp->Prop)->Prop
def zHd(X:Cx)(t:NN):Prop :=
 ∀(a:A1 (A3×Obj)) (s:A4) (σ:St) (H:Hp) (o i v:V) (b c u:A2) (Q:Hp->Prop),Inv X a σ H s->RelV o b->RelV i c->RelV v u->t o i v H Q ->
  wpAny (model X.prog X.w) X.A (setItem b c u) (λ_ e=>∃d,Inv X a σ d e/\Q d) X.xe s
abbrev TIp:=V->V->Hp->VK->Prop
def PIp(X:Cx)(op:Operator)(t:TIp):Prop :=
 ∀(a:A1 (A3×Obj)) (s:A4) (σ:St) (H:Hp) (x y:V) (v u:A2) (Q:VK),Inv X a σ H s->RelV x v->RelV y u->t x y H Q ->
  wpAny (model X.prog X.w) X.A (inplaceOp op v u) (EP X a σ Q) X.xe s
section
variable{X:Cx}{pos:Pos}
def Y6(i:Nat):TG:=λv σ H Q=>Q (σ.set i (some v)) H
theorem C7{i:Nat}{x:Str}(b:X.N.Nodup)(hi:X.N[i]?=some x)(c:Loc X.env.scope x)(d:X.fn x=true\/X.env.scope.names.lookup x=some .local:=by first | exact .inl rfl | exact .inr rfl | assumption):PG X (.Name x pos) (Y6 i):=by
 intro a s σ H v u Q I r h;exact wpAny_assign_Name (j8 I b hi c r (λf e=>⟨_,H,e,h⟩) d)
def zHf:SK:=λa σ H Q=>a = []/\Q σ H
def zFc(t:TG)(u:SK):SK:=λa σ H Q=>∃v r,a=v::r/\t v σ H λσ' b=>u r σ' b Q
theorem P9:UD X [] zHf:=by
 intro a s σ H b c Q I r h;obtain⟨e,h⟩:=h;subst e;cases r;exact assignInOrder_nil ⟨σ,H,I,h⟩
theorem C5{e:IQ}{b:A1 IQ}{t:TG}{u:SK}(h1:PG X e t)(h2:UD X b u)
  (c:(assignEach (e::b) X.env).map (·.2)=assign e X.env ::(assignEach b X.env).map (·.2):=by rfl):UD X (e::b) (zFc t u):=by
 intro a s σ H l m Q I r h;obtain⟨v,n,d,h⟩:=h;subst d;cases r with
 | cons r f =>
  rw[c];refine assignInOrder_cons (JI (h1 a s σ H _ _ _ I r h) λ_ g ⟨σ1,i,j,k⟩=>?_);exact h2 a g σ1 i _ _ Q j f k
def zHb(K:PySem.W.Frag)(n:Nat)(t:SK):TG:=λv σ H Q=>∃a b,v = .ref a/\JJ K H a b/\b.length=n/\t b σ H Q
theorem zEc{d:A1 IQ}{k:Nat}{t:SK}{n:Nat}(j:X.calm=true)(h:UD X d t)
  (l:(assignEach d X.env).length=n:=by rfl) (f:(assignEach d X.env).findIdx? (·.1)=none:=by rfl):PG X (.Tuple d k pos) (zHb X.K n t):=by
 intro c s σ H v u Q I r g;obtain⟨a,m,p,q,w,g⟩:=g;subst p;cases r;obtain⟨x,i,y,C⟩:=I.tuple q;refine assign_Tuple_tuple (I.ok.hd j) y (by simp[l,<-w,i.length]) f λz A=>?_;have B:Inv X c σ H { s with heap:=z }:=I.kept (t':=s.toks) λb o e=>A b o (BI (AM e)) e;exact h c _ σ H m _ Q B (by simpa using i) g
def zHi(a b:TE)(t:NN):TG:=λv σ H Q=>a σ H λo c=>b σ c λi d=>t o i v d λe=>Q σ e
theorem Lg{o i:IQ}{d e:TE}{t:NN}(f:PE X o d)(hi:PE X i e)(g:zHd X t)
  (j:∀v,assign (.Subscript o i pos) X.env v =(do
   let b <-holding [v] (eval o X.env)
   let c <-holding [v,b] (eval i X.env)
   standAt pos
   holding [v,b,c] (setItem b c v)
   release [v,b,c] []):=by intro _;rfl):PG X (.Subscript o i pos) (zHi d e t):=by
 intro a s σ H v u Q I r h;rw[j];refine AA (CA (JI (f a s σ H _ I h) λb k ⟨x,l,m,n,p⟩=>?_));refine AA (CA (JI (hi a k σ l _ m p) λc q ⟨y,w,z,A,B⟩=>?_));refine AA (FI (AA (CA (JI (g a q σ w x y v b c u _ z n A r B) λ_ F ⟨C,D,E⟩=>?_))));exact wpAny_release ⟨σ,C,D,E⟩
def TM(a:TE)(g:TG):TS:=λD σ H=>a σ H λx b=>g x σ b D.nx
theorem Ac{tg e:IQ}{b:TE}{g:TG}(c:PE X e b)(d:PG X tg g)(f:swapsWithSole [tg] e pos.line X.env=pure false:=by rfl)(hw:swappedStores [tg] e X.env=pure none:=by rfl)
  (h1:(assignEach [tg] X.env).map (·.2) = [assign tg X.env]:=by rfl):PS X (.Assign [tg] e pos) (TM b g):=by
 intro a s σ H D I h;refine wpAny_Assign_stores (JI (c a s σ H _ I h) λv i ⟨x,j,k,l,m⟩=>?_) f hw;rw[h1];exact JI (d a i σ j x v _ k l m) λ_ n q=>q
theorem C6{i:Nat}{x:Str}{e:IQ}{c:TE}{a:Pos}(d:X.N.Nodup)(hi:X.N[i]?=some x)(f:Loc X.env.scope x)(g:PE X e c)(j:swapsWith e (some (.Name x a)) pos.line X.env=pure false:=by rfl)(k:X.fn x=true\/X.env.scope.names.lookup x=some .local:=by first | exact .inl rfl | exact .inr rfl | assumption) :
  PS X (.Assign [.Name x a] e pos) (TM c (Y6 i)):=by
 intro b s σ H D I h;refine wpAny_Assign_Name (JI (g b s σ H _ I h) λv q ⟨y,l,m,n,o⟩=>?_) j;exact j8 m d hi f n (λr p=>⟨_,l,p,o⟩) k
def zHk(i j:Nat)(a:TA):TS:=λD σ H=>a σ H λb c=>∃v w,b = [v,w]/\D.nx ((σ.set i (some v)).set j (some w)) c
theorem Yd{i j:Nat}{x y:Str}{a b:IQ}{C:TA}{k l m:Pos}{n r d}(L:X.calm=true)(E:X.N.Nodup)(hi:X.N[i]?=some x)(M:X.N[j]?=some y)(t:i≠j)
  (F:X.env.scope.names.lookup x=some .local) (G:X.env.scope.names.lookup y=some .local) (O:PA X [a,b] C)
  (hw:swappedStores [.Tuple [.Name x k,.Name y l] n m] (.Tuple [a,b] r d) X.env=pure (some [x,y]))
  (P:swapsWithSole [.Tuple [.Name x k,.Name y l] n m] (.Tuple [a,b] r d) pos.line X.env=pure false:=by rfl) :
  PS X (.Assign [.Tuple [.Name x k,.Name y l] n m] (.Tuple [a,b] r d) pos) (zHk i j C):=by
 intro c s σ H D I h;rw[exec_Assign_arm];refine AA (FI ?_);rw[P];refine AA (AF ?_);rw[AJ (by decide)];refine AA (Tuple_ (JI (O _ c s σ H _ I h) λQ s1 ⟨vs,J,R,S,u⟩=>?_));obtain⟨v,w,T,u⟩:=u;subst T;obtain⟨f,g,rfl,U,z⟩:∃f g,Q = [f,g]/\RelV v f/\RelV w g:=by
  cases S with
  | cons p q =>
   cases q with
   | cons V W =>
    cases W;exact⟨_,_,rfl,p,V⟩
 refine DJ ?_ (by show 2<=sizeLine;decide);have Y:Inv X c σ J { s1 with heap:=s1.heap.push { cls:=.type "tuple",data:=.seq [f,g].toArray } }:=R.kept (t':=s1.toks) λb o e=>AG _ e;rw[hw];refine AA (AF ?_);show wpAny (model X.prog X.w) X.A (do rule "assign.swapped-stores";let items <-unpackItems (.ref s1.heap.objs.size) 2 none;assignInOrder [λv=>bindName X.env y v,λv=>bindName X.env x v] items.reverse;pure Flow.next) _ _ _;refine AA (EG (AA (unpackItems_tuple (items:=#[f,g]) (I.ok.hd L) (IsTup.new s1.heap _) λh' B=>?_)));have Z:=Y.kept (h':=h') (t':=s1.toks) λb o e=>B b o (BI (AM e)) e;show wpAny _ _ (assignInOrder [λv=>bindName X.env y v,λv=>bindName X.env x v] [g,f] >>= λ_=>pure Flow.next) _ _ _;refine AA (assignInOrder_cons (wpAny_bindName (j8 Z E M (.inl G) z (λs2 I4=>?_) (.inr G))));refine assignInOrder_cons (wpAny_bindName (j8 I4 E hi (.inl F) U (λs3 K=>assignInOrder_nil (AF ?_)) (.inr F)));rw[List.set_comm _ _ (Ne.symm t)]at K;exact⟨_,J,K,u⟩
def zHn(i:Nat)(a:TE)(b:TIp):TS:=λD σ H=>∃x,σ[i]?=some (some x)/\a σ H λy c=>b x y c λz d=>D.nx (σ.set i (some z)) d
theorem zBp{i:Nat}{x:Str}{e:IQ}{j:TE}{op:Operator}{n:TIp}{d:Pos}(o:X.N.Nodup)(hi:X.N[i]?=some x)(f:Loc X.env.scope x)(p:PE X e j)(q:PIp X op n)(t:X.fn x=true\/X.env.scope.names.lookup x=some .local:=by first | exact .inl rfl | exact .inr rfl | assumption) :
  PS X (.AugAssign (.Name x d) op e pos) (zHn i j n):=by
 intro a s σ H D I h;obtain⟨v,B,h⟩:=h;obtain⟨m,C,E⟩:=I.loc;have g:UC X.env.scope x:=by rcases f with k | k;exact .inl k;exact .inr (.inl k)
 obtain⟨u,r,l⟩:=E i x v hi B g;refine wpAny_AugAssign_Name ?_;have go:wpAny (model X.prog X.w) X.A (eval e X.env) (λw s₂=>wpAny (model X.prog X.w) X.A (inplaceOp op u w) (λr s₃=>wpAny (model X.prog X.w) X.A (storeName X.env x r) (λ_=>SP X a D .next) X.xe s₃) X.xe s₂) X.xe s:=by
  refine JI (p a s σ H _ I h) λw F ⟨y,G,J,K,L⟩=>?_;refine JI (q a F σ G v y u w _ J r K L) λz U ⟨V,M,O,P,Q⟩=>?_;exact j8 O o hi f P (λW R=>⟨_,M,R,Q⟩) t
 rcases l with⟨hk,S⟩ | ⟨hk,c,T,b⟩
 .exact wpAny_loadName_local I.ok.kind hk C S go
 .rcases hk with hk | hk
  .exact wpAny_loadName_cell I.ok.kind hk T b go
  .rcases f with k | k
   .have:X.env.scope.names.lookup x=some .free:=hk;rw[k]at this;cases this
   .have:X.env.scope.names.lookup x=some .free:=hk;rw[k]at this;cases this
def ipI(f:Int->Int->Int):TIp:=λx y H Q=>∃i j,x = .int i/\y = .int j/\Q (.int (f i j)) H
def Xz(c:TT)(f:TS):TS:=λD σ H=>∃W:Nat->St->Hp->Prop,(∃m,W m σ H)/\∀m σ H,W m σ H ->
 c σ H λb a=>if b=true then ∃N:St->Hp->Prop,(∀σ' d,N σ' d->∃e,e < m/\W e σ' d)/\f { D with nx:=N,ct:=N,bk:=D.nx } σ a else D.nx σ a
theorem Wj{c:IQ}{d:A1 I7}{q:TT}{r:TS}(t:PassesOwn (model X.prog X.w) X.A X.env X.xe)(C:PT X c q)(E:QN X d r):PS X (.While c d [] pos) (Xz q r):=by
 intro a s σ H D I h;obtain⟨W,⟨F,G⟩,e⟩:=h;refine wpAny_While (codeAny_whileLoop (λn J=>∃σ' u,Inv X a σ' u J/\W n σ' u) ?_ F ⟨σ,H,I,G⟩);rintro n K ⟨σ1,x,L,M⟩;refine FQ t (JI (C a K σ1 x _ L (e n σ1 x M)) λb O ⟨y,z,i⟩=>?_);cases b with
 | true =>
  obtain⟨N,B,i⟩:=i;rw[AL rfl];refine FQ t (JI (E a O σ1 y _ z i) λf P j=>?_);cases f with
  | next =>
   obtain⟨σ3,g,k,l⟩:=j;obtain⟨m,o,p⟩:=B σ3 g l;exact⟨m,o,σ3,g,k,p⟩
  | cont =>
   obtain⟨σ3,g,k,l⟩:=j;obtain⟨m,o,p⟩:=B σ3 g l;exact⟨m,o,σ3,g,k,p⟩
  | brk=>exact j
  | ret v=>exact j
 | false =>
  rw[AJ BA];exact wpAny_execs_nil ⟨σ1,y,z,i⟩
end
set_option genInjectivity false in
structure It where
 go:Nat->Hp->Prop
 yld:Nat->Hp->V->Hp->Prop
 stop:Nat->Hp->Prop
def Es(X:Cx)(a:A1 (A3×Obj))(H:Hp)(b:A3):Prop :=
 H b=none/\b≠X.env.locals/\b∉X.fs/\(b∈X.ex\/X.s₀.heap.objs.size<=b)/\(∀x c,X.env.cells.lookup x=some c->c≠b)/\∀p∈X.pn++a,p.1≠b
def Inv.fpOk{X:Cx}{a:A1 (A3×Obj)}{σ:St}{H H':Hp}{s:A4}{b:A3}(I:Inv X a σ H s)(d:s.heap.objs.size<=b)(f:H' b=none):Es X a H' b:=by
 refine⟨f,Nat.ne_of_gt (BJ I.lt d),I.nofs d,.inr (Nat.le_trans I.sz d),λx c e z=>?_,λp g z=>?_⟩
 .obtain⟨v,q⟩:=I.cell x c e;exact absurd (BJ q.lt (by rw[z];exact d)) (CU _)
 .exact absurd (BJ (AM (I.pin p g).1) (by rw[z];exact d)) (CU _)
structure NA(P:A7)(w:F8)(K:PySem.W.Frag)(tg:IQ)(J:It)(fp:A1 A3)(it:A3)(tn:Nat->IM->Prop):Prop where
 mem:it∈fp
 obj:∀i h,tn i h->∀b∈fp,∃o,h.get? b=some o/\∀v,o.data≠ .cell v
 keep:∀i h h',tn i h->(∀b∈fp,∀o,h.get? b=some o->h'.get? b=some o)->tn i h'
 item:∀(X:Cx),X.prog=P->X.w=w->X.K=K->X.calm=true->∀(i:Nat) (pins:A1 (A3×Obj)) (s:A4) (σ:St) (H:Hp) (E:A2->A4->Prop),Inv X pins σ H s->(∀b∈fp,Es X pins H b)->tn i s.heap->J.go i H ->
  wpAny (model P w) X.A (pyNext (.ref it)) (λr s1=>∃u,r=some u /\
   wpAny (model P w) X.A (letOwnedTupleGo tg (.ref it) u) (λ_ s2=>∃x H',Inv X pins σ H' s2/\RelV x u/\J.yld i H x H'/\tn (i+1) s2.heap/\∀b∈fp,H' b=none) E s1) E s
 done:∀(X:Cx),X.prog=P->X.w=w->X.K=K->X.calm=true->∀(i:Nat) (pins:A1 (A3×Obj)) (s:A4) (σ:St) (H:Hp) (E:A2->A4->Prop),Inv X pins σ H s->(∀b∈fp,Es X pins H b)->tn i s.heap->J.stop i H ->
  wpAny (model P w) X.A (pyNext (.ref it)) (λr s1=>r=none/\Inv X pins σ H s1) E s
 self:∀(A:IR) (i:Nat) (s:A4) (Q:A2->A4->Prop) (E:A2->A4->Prop),tn i s.heap->Q (.ref it) s->wpAny (model P w) A (pyIter (.ref it)) Q E s
abbrev TI:=St->Hp->(It->Hp->Prop)->Prop
def PIE(X:Cx)(a:A1 (A3×Obj))(σ:St)(tg:IQ)(R:It->Hp->Prop)(c:A2)(e:A4):Prop :=
 ∃(f:A3) (g:A1 A3) (h:Nat->IM->Prop) (J:It) (d:Hp),c = .ref f/\Inv X a σ d e/\NA X.prog X.w X.K tg J g f h/\h 0 e.heap/\(∀b∈g,Es X a d b)/\R J d
def PI(X:Cx)(tg iter:IQ)(b:TI):Prop :=
 ∀(a:A1 (A3×Obj)) (s:A4) (σ:St) (H:Hp) (R:It->Hp->Prop),Inv X a σ H s->b σ H R ->
  wpAny (model X.prog X.w) X.A (eval iter X.env) (λv c=>wpAny (model X.prog X.w) X.A (pyIter v) (PIE X a σ tg R) X.xe c) X.xe s
def No{M:Model}{A:IR}{E:A2->A4->Prop}{s:A4}{tg:IQ}{b:A3}{u:A2}{o:Obj}{n:String}{vs:CW A2}{Q:Unit->A4->Prop}(c:s.heap.get? b=some o)(d:o.cls = .type n)(e:o.data = .fields vs)
    (f:["enumerate", "zip", "dict_itemiterator", "dict_reverseitemiterator", "odict_iterator", "itertools.zip_longest", "itertools.pairwise"].contains n=false) (a:Q () s):wpAny M A (letOwnedTupleGo tg (.ref b) u) Q E s:=by
  unfold letOwnedTupleGo;cases tg<;>first
    | exact AF a
    | (cases u<;>first
        | exact AF a
        | (refine AA (wpAny_load c ?_)
           rw[d,e];show wpAny M A (if(["enumerate", "zip", "dict_itemiterator", "dict_reverseitemiterator", "odict_iterator", "itertools.zip_longest", "itertools.pairwise"].contains n&&vs[0]? == some (rawInt _))=true then _ else _) Q E s;rw[AJ (by intro h;rw[f,EJ]at h;cases h)];exact AF a))
def UI(K:PySem.W.Frag)(a:A3):It :=
 ⟨λi H=>∃b x,IS K H a b/\b[i]?=some x,λi H x c=>c=H/\∀b,IS K H a b->b[i]?=some x,λi H=>∃b,IS K H a b/\b.length<=i⟩
def Itt(K:PySem.W.Frag)(a:A3):It :=
 ⟨λi H=>∃b x,JJ K H a b/\b[i]?=some x,λi H x c=>c=H/\∀b,JJ K H a b->b[i]?=some x,λi H=>∃b,JJ K H a b/\b.length<=i⟩
def RS(lo:Int)(n:Nat):It:=⟨λi _=>i<n,λi H x a=>a=H/\x = .int (lo+i),λi _=>n<=i⟩
def Gg{P:A7}{w:F8}{K:PySem.W.Frag}{tg:IQ}(a g:A3):NA P w K tg (UI K a) [g] g (λi h=>h.IsListIter g a i) where
 mem:=by simp
 obj:=λi h st b j=>by
  have e:b=g:=by simpa using j
  subst e;obtain⟨o,e,c,d⟩:=st;exact⟨o,e,λv z=>by rw[d]at z;cases z⟩
 keep:=λi h m st k=>st.at λo e=>k g (by simp) o e
 item:=by
  intro X r t y N i f s σ H E I n st A;subst r t y;obtain⟨O,x,q,B⟩:=A;obtain⟨C,D,p,Q⟩:=I.list q;obtain⟨u,R,S⟩:=D.get B;obtain⟨F,G,T,J,L,M⟩:=n g (by simp);refine wpAny_pyNext_list_item st p.isList (x:=u) (by simpa using R) λm l U=>?_;have V:Inv X f σ H { s with heap:=m }:=I.turned (t':=s.toks) (λb o j e=>(U.2 b j).trans e) F G J L M;obtain⟨o,e,c,d⟩:=id l;exact⟨u,rfl,No (s:={ s with heap:=m }) e c d (by decide) ⟨x,H,V,S,⟨rfl,λys Y=>by rw[I.list_inj Y q];exact B⟩,l,λb j=>(n b j).1⟩⟩
 done:=by
  intro X r t y N i f s σ H E I n st A;subst r t y;obtain⟨O,q,B⟩:=A;obtain⟨C,D,p,Q⟩:=I.list q;obtain⟨F,G,T,J,L,M⟩:=n g (by simp);have hl:=D.length;exact wpAny_pyNext_list_end (I.ok.hd N) st p.isList (by simp;lia) λm Z=>⟨rfl,I.turned (t':=s.toks) (λb o j e=>Z b o j e) F G J L M⟩
 self:=λ_ _ _ _ _ st h=>wpAny_pyIter_listiter st h
def Oh{P:A7}{w:F8}{K:PySem.W.Frag}{tg:IQ}(a g:A3):NA P w K tg (Itt K a) [g] g (λi h=>h.IsTupleIter g a i) where
 mem:=by simp
 obj:=λi h st b j=>by
  have e:b=g:=by simpa using j
  subst e;obtain⟨o,e,c,d⟩:=st;exact⟨o,e,λv z=>by rw[d]at z;cases z⟩
 keep:=λi h n st k=>st.at λo e=>k g (by simp) o e
 item:=by
  intro X t y A N i f s σ H E I q st B;subst t y A;obtain⟨O,x,r,C⟩:=B;obtain⟨l,D,p,Q⟩:=I.tuple r;obtain⟨u,R,S⟩:=D.get C;obtain⟨F,G,T,J,L,M⟩:=q g (by simp);refine wpAny_pyNext_tuple_item st (show s.heap.IsTuple a l.toArray from p) (x:=u) (by simpa using R) λn m U=>?_;have V:Inv X f σ H { s with heap:=n }:=I.turned (t':=s.toks) (λb o j e=>(U.2 b j).trans e) F G J L M;obtain⟨o,e,c,d⟩:=id m;exact⟨u,rfl,No (s:={ s with heap:=n }) e c d (by decide) ⟨x,H,V,S,⟨rfl,λys Y=>by rw[I.tuple_inj Y r];exact C⟩,m,λb j=>(q b j).1⟩⟩
 done:=by
  intro X t y A N i f s σ H E I q st B;subst t y A;obtain⟨O,r,C⟩:=B;obtain⟨l,D,p,Q⟩:=I.tuple r;obtain⟨F,G,T,J,L,M⟩:=q g (by simp);have hl:=D.length;exact wpAny_pyNext_tuple_end (I.ok.hd N) st (show s.heap.IsTuple a l.toArray from p) (by simp;lia) λn Z=>⟨rfl,I.turned (t':=s.toks) (λb o j e=>Z b o j e) F G J L M⟩
 self:=λ_ _ _ _ _ st h=>wpAny_pyIter_tupleiter st h
def Pa{P:A7}{w:F8}{K:PySem.W.Frag}{tg:IQ}(a:A3)(lo:Int)(n:Nat):NA P w K tg (RS lo n) [a] a (λi h=>IsRangeIter h a (lo +(i:Nat)*1) ((n:Int)-(i:Nat)) 1) where
 mem:=by simp
 obj:=λi h st b d=>by
  have e:b=a:=by simpa using d
  subst e;exact⟨_,st,λv z=>by
   have D:Data.fields _=Data.cell v:=z;cases D⟩
 keep:=λi h g st k=>k a (by simp) _ st
 item:=by
  intro X l m p q i c s σ H E I j st r;subst l m p;obtain⟨u,x,F,y,A,B⟩:=j a (by simp);have W:=Walks.range (prog:=X.prog) (w:=X.w) (I.ok.hd q) a lo 1 n;refine W.item i s _ _ r st λv g C G f kk=>?_;obtain⟨t,rfl⟩:=G;have J:Inv X c σ H { s with heap:=g,toks:=C }:=I.turned (λb o d e=>kk b o (by simpa using d) e) u x y A B;refine⟨_,rfl,No (s:={ s with heap:=g,toks:=C }) (n := "range_iterator") f rfl rfl (by decide) ⟨.int (lo+i),H,J,⟨t,?_⟩,⟨rfl,rfl⟩,f,λb d=>(j b d).1⟩⟩;rw[Int.mul_one]
 done:=by
  intro X l m p q i c s σ H E I j st r;subst l m p;obtain⟨u,x,F,y,A,B⟩:=j a (by simp);exact wpAny_pyNext_range_end (I.ok.hd q) st (by have:n<=i:=r;lia) λg L=>⟨rfl,I.turned (t':=s.toks) (λb o d e=>L b o d e) u x y A B⟩
 self:=λ_ _ _ _ _ st h=>wpAny_pyIter_rangeiter st h
section
variable{X:Cx}{tg:IQ}
def zBx(K:PySem.W.Frag)(c:TE):TI:=λσ H R=>c σ H λx b=>∃a,x = .ref a/\(∃d,IS K b a d)/\R (UI K a) b
theorem Yr{l:IQ}{g:TE}(i:PE X l g):PI X tg l (zBx X.K g):=by
 intro c s σ H R I h;refine JI (i c s σ H _ I h) λv d ⟨x,j,f,k,m⟩=>?_;obtain⟨a,e,⟨u,n⟩,q⟩:=m;subst e;cases k;obtain⟨r,w,p,y⟩:=f.list n;refine HW p.isList ?_;refine⟨d.heap.objs.size,[d.heap.objs.size],_,_,j,rfl,f.kept (t':=d.toks) λb o e=>AG _ e,Gg a _,⟨_,AS _ rfl,rfl,rfl⟩,λb t=>?_,q⟩;have e:b=d.heap.objs.size:=by simpa using t
 subst e;exact f.fpOk (Nat.le_refl _) (f.hok.fresh (Nat.le_refl _))
theorem Ni{a:A1 (A3×Obj)}{σ:St}{H:Hp}{s:A4}{R:It->Hp->Prop}{E:A2->A4->Prop}{lo hi:Int}{t u v:Tok}{c:Nat}(I:Inv X a σ H s)(h1:-(2^62)<=lo)(h2:lo<2^62)(f:-(2^62)<=hi)(g:hi<2^62)
  (q:R (RS lo (hi-lo).toNat) H):wpAny (model X.prog X.w) X.A (pyIter (.ref s.heap.objs.size)) (PIE X a σ tg R) E { s with heap:=s.heap.push { cls:=.type "range",data:=.fields #[.int lo t,.int hi u,.int 1 v] },toks:=c }:=by
 refine wpAny_pyIter_range (IsRange.new ..) (small_one h1 h2 f g) ?_;have d:Inv X a σ H { s with heap:=s.heap.push { cls:=.type "range",data:=.fields #[.int lo t,.int hi u,.int 1 v] },toks:=c }:=I.kept λb o e=>AG _ e;refine⟨(s.heap.push { cls:=.type "range",data:=.fields #[.int lo t,.int hi u,.int 1 v] }).objs.size,[(s.heap.push { cls:=.type "range",data:=.fields #[.int lo t,.int hi u,.int 1 v] }).objs.size],_,_,H,rfl,
  d.kept (t':=c) λb o e=>AG _ e,Pa _ lo (hi-lo).toNat,?_,λb h=>?_,q⟩
 .have i:lo +((0:Nat):Int)*1=lo:=by simp
  have j:(((hi-lo).toNat:Nat):Int)-((0:Nat):Int)=Builtin.Range.rangeSize lo hi 1:=by rw[rangeSize_one];split<;>lia
  show IsRangeIter _ _ (lo +((0:Nat):Int)*1) ((((hi-lo).toNat:Nat):Int)-((0:Nat):Int)) 1;rw[i,j];exact AS _ rfl
 .have e:b =(s.heap.push { cls:=.type "range",data:=.fields #[.int lo t,.int hi u,.int 1 v] }).objs.size:=by simpa using h
  subst e;exact d.fpOk (Nat.le_refl _) (d.hok.fresh (Nat.le_refl _))
def zDt(a:TA):TI:=λσ H R=>a σ H λb c=>∃j:Int,b = [.int j]/\-(2^62)<=j/\j<2^62/\R (RS 0 j.toNat) c
def zFn(a:TA):TI:=λσ H R=>a σ H λb c=>∃i j:Int,b = [.int i,.int j]/\(-(2^62)<=i/\i<2^62/\-(2^62)<=j/\j<2^62)/\R (RS i (j-i).toNat) c
theorem Qr{a:IQ}{d:TA}{p pos:Pos}(f:Gl X "range")(g:X.mg "range" = none)(i:PA X [a] d)(k:starEach [a] X.env = [(false,eval a X.env)]:=by rfl):PI X tg (.Call (.Name "range" p) [a] [] pos) (zDt d):=by
 intro b s σ H R I h;refine Call_ (o7 I f g boot_range (PyProof.Rows.callWith_type1 (JI (i pos b s σ H _ I h) λu v ⟨w,x,l,m,c⟩=>?_) k rfl));obtain⟨j,e,c,n,q⟩:=c;subst e;cases m with
 | cons r o =>
  cases o;obtain⟨t,rfl⟩:=r;exact call_range_1 (Ni l (by lia) (by lia) c n (by simpa using q))
theorem Ri{a b:IQ}{k:TA}{p pos:Pos}(l:Gl X "range")(m:X.mg "range" = none)(n:PA X [a,b] k)(o:starEach [a,b] X.env = [(false,eval a X.env),(false,eval b X.env)]:=by rfl)(c:starEach [b] X.env = [(false,eval b X.env)]:=by rfl) :
  PI X tg (.Call (.Name "range" p) [a,b] [] pos) (zFn k):=by
 intro d s σ H R I h;refine Call_ (o7 I l m boot_range (PyProof.Rows.callWith_type1 (JI (n pos d s σ H _ I h) λA B ⟨C,D,u,v,f⟩=>?_) (by rw[o,c]) (by rw[c];rfl)));obtain⟨i,j,e,⟨f,w,x,y⟩,q⟩:=f;subst e;cases v with
 | cons r g =>
  cases g with
  | cons z g =>
   cases g;obtain⟨t,rfl⟩:=r;obtain⟨E,rfl⟩:=z;exact call_range_2 (Ni u f w x y q)
def zId(c:TI)(g:TG)(d:TS):TS:=λD σ H=>c σ H λJ e=>∃W:Nat->Nat->St->Hp->Prop,(∃m,W 0 m σ e)/\∀i m σ H,W i m σ H ->
 (J.stop i H/\D.nx σ H)\/(J.go i H/\∃N:St->Hp->Prop,(∀σ' a,N σ' a->∃b,b < m/\W (i+1) b σ' a)/\∀x a,J.yld i H x a->g x σ a λσ2 f=>d { D with nx:=N,ct:=N,bk:=D.nx } σ2 f)
def Hk(fp:A1 A3)(h:IM):A1 (A3×Obj):=fp.filterMap λb=>(h.get? b).map λo=>(b,o)
theorem Y2{fp:A1 A3}{h:IM}{b:A3}{o:Obj}(a:b∈fp)(e:h.get? b=some o):(b,o)∈Hk fp h:=EV.mpr ⟨b,a,by rw[e];rfl⟩
theorem Qe{fp:A1 A3}{h:IM}{p:A3×Obj}(a:p∈Hk fp h):p.1∈fp/\h.get? p.1=some p.2:=by
 obtain⟨b,c,e⟩:=EV.mp a;cases q:h.get? b with
 | none=>rw[q]at e;cases e
 | some o =>
  rw[q]at e;have d:(b,o)=p:=BH e;subst d;exact⟨c,q⟩
theorem Inv.pinned{a:A1 (A3×Obj)}{σ:St}{H:Hp}{s:A4}{fp:A1 A3}(I:Inv X a σ H s)(g:∀b∈fp,Es X a H b)(h:∀b∈fp,∃o,s.heap.get? b=some o/\∀v,o.data≠ .cell v):Inv X (a++Hk fp s.heap) σ H s :=
 I.pins_of λp i=>(AO.mp i).elim (λz=>I.pin p (BG _ z)) λz=>by
  obtain⟨c,e⟩:=Qe z;obtain⟨j,k,l,_⟩:=g p.1 c;obtain⟨o,f,d⟩:=h p.1 c;rw[e]at f;cases f;exact⟨e,j,k,l,d⟩
theorem Inv.unpinned{a pl:A1 (A3×Obj)}{σ:St}{H:Hp}{s:A4}(I:Inv X (a++pl) σ H s):Inv X a σ H s:=I.pins_of λp b=>I.pin p (BG _ (CP _ b))
theorem O6{iter:IQ}{q:A1 I7}{R:TI}{g:TG}{S:TS}{pos:Pos}(z:PassesOwn (model X.prog X.w) X.A X.env X.xe)(U:X.calm=true)(hi:PI X tg iter R)(hg:PG X tg g)(c:QN X q S)
  (hs:∀x,foldedSetIterable iter X.env x=pure x:=by intro _;rfl):PS X (.For tg iter q [] pos) (zId R g S):=by
 intro a s σ H D I h;refine wpAny_For (JI (hi a s σ H _ I h) λv s1 h1=>JI h1 λitv s2 h2=>?_) hs;obtain⟨it,B,V,J,H2,e,I2,T,L,Y,W,⟨m0,w0⟩,C⟩:=h2;subst e;have j:∀{p:Hp},(∀b∈B,p b=none)->∀b∈B,Es X a p b:=λhn b c=>⟨hn b c,(Y b c).2⟩;refine codeAny_forLoop_any (λn Z=>∃i σ' p,Inv X a σ' p Z/\V i Z.heap/\(∀b∈B,p b=none)/\W i n σ' p) ?_ m0 ⟨0,σ,H2,I2,L,λb c=>(Y b c).1,w0⟩;rintro n s3 ⟨i,σ3,K,I3,E,F,w3⟩;rcases C i n σ3 K w3 with⟨stop,qn⟩ | ⟨go,N,hN,step⟩
 .refine FQ z (JI (T.done X rfl rfl rfl U i a s3 σ3 K X.xe I3 (j F) E stop) λr s4 ⟨M,I4⟩=>?_);subst M;exact wpAny_execs_nil ⟨σ3,K,I4,qn⟩
 .refine FQ z (JI (T.item X rfl rfl rfl U i a s3 σ3 K X.xe I3 (j F) E go) λr s4 ⟨u,M,h4⟩=>?_);subst M;refine FQ z (JI h4 λ_ s5 ⟨x,H5,I5,r5,y5,y,O⟩=>?_);have P:=I5.pinned (j O) (T.obj _ _ y);refine FQ z (JI (hg _ s5 σ3 H5 x u _ P r5 (step x H5 y5)) λ_ s6 ⟨σ6,H6,I6,q6⟩=>?_);refine FQ z (JI (c _ s6 σ6 H6 _ I6 q6) λf Q t=>?_);have again:∀{σ7:St} {k:Hp},Inv X (a++Hk B s5.heap) σ7 k Q->N σ7 k->∃m,m<n/\∃i σ' p,Inv X a σ' p Q/\V i Q.heap/\(∀b∈B,p b=none)/\W i m σ' p:=fun{σ7 k} l G=>by
   obtain⟨m',hm,w7⟩:=hN σ7 k G;refine⟨m',hm,i+1,σ7,k,l.unpinned,T.keep _ _ _ y λb c o e=>(l.pin (b,o) (BG _ (BG _ (Y2 c e)))).1,λb c=>?_,w7⟩;obtain⟨o,e,d⟩:=T.obj _ _ y b c;exact(l.pin (b,o) (BG _ (BG _ (Y2 c e)))).2.1
  cases f with
  | next=>obtain⟨σ7,k,l,G⟩:=t;exact again l G
  | cont=>obtain⟨σ7,k,l,G⟩:=t;exact again l G
  | brk=>obtain⟨σ7,k,l,t⟩:=t;exact⟨σ7,k,l.unpinned,t⟩
  | ret v=>obtain⟨x7,σ7,k,l,r7,t⟩:=t;exact⟨x7,σ7,k,l.unpinned,r7,t⟩
end
def Rf{lo:Int}{n:Nat}{g:TG}{c:TS}{D:Ends}{σ:St}{H:Hp}(Pv:Nat->St->Hp->Prop)(f:Pv 0 σ H)
  (h:∀i σ H,i<n->Pv i σ H->g (.int (lo+i)) σ H λσ2 b=>c { D with nx:=Pv (i+1),ct:=Pv (i+1),bk:=D.nx } σ2 b) (j:∀σ H,Pv n σ H->D.nx σ H) :
  ∃W:Nat->Nat->St->Hp->Prop,(∃m,W 0 m σ H)/\∀i m σ H,W i m σ H ->
   ((RS lo n).stop i H/\D.nx σ H)\/((RS lo n).go i H/\∃N:St->Hp->Prop,(∀σ' H',N σ' H'->∃d,d < m/\W (i+1) d σ' H')/\∀x H',(RS lo n).yld i H x H'->g x σ H' λσ2 b=>c { D with nx:=N,ct:=N,bk:=D.nx } σ2 b):=by
 refine⟨λi m σ H=>m=n-i/\i<=n/\Pv i σ H,⟨n,by simp,CL _,f⟩,?_⟩;rintro i m σ H ⟨rfl,l,p⟩;by_cases a:i<n
 .refine .inr ⟨a,Pv (i+1),λσ' H' k=>⟨n-(i+1),by lia,rfl,a,k⟩,λx H' y=>?_⟩;obtain⟨e,y⟩:=y;subst e y;exact h i σ _ a p
 .have e:i=n:=by lia
  subst e;exact .inl ⟨Nat.le_refl _,j σ H p⟩
def Vb{c:TT}{e:TS}{D:Ends}{σ:St}{H:Hp}(Pv:St->Hp->Prop)(μ:St->Hp->Nat)(g:Pv σ H)
  (h:∀σ H,Pv σ H->c σ H λb a=>if b=true then e { D with nx:=λσ' H'=>Pv σ' H'/\μ σ' H' < μ σ H,ct:=λσ' H'=>Pv σ' H'/\μ σ' H' < μ σ H,bk:=D.nx } σ a else D.nx σ a)
  (d:∀σ H Q f,(∀b a,Q b a->f b a)->c σ H Q->c σ H f):Xz c e D σ H:=by
 refine⟨λm σ H=>m=μ σ H/\Pv σ H,⟨_,rfl,g⟩,?_⟩;rintro m σ H ⟨rfl,p⟩;refine d σ H _ _ (λb a q=>?_) (h σ H p);cases b with
 | true=>exact⟨_,λσ' H' ⟨i,l⟩=>⟨_,l,rfl,i⟩,q⟩
 | false=>exact q
abbrev R2:=V->V->Hp->VK->Prop
def LG(X:Cx)(f:A2->A2->Sem A2)(r:R2):Prop :=
 ∀(a:A1 (A3×Obj)) (s:A4) (σ:St) (H:Hp) (x y:V) (v u:A2) (Q:VK),Inv X a σ H s->RelV x v->RelV y u->r x y H Q ->
  wpAny (model X.prog X.w) X.A (f v u) (EP X a σ Q) X.xe s
def UnR(X:Cx)(f:A2->Sem A2)(r:V->Hp->VK->Prop):Prop :=
 ∀(a:A1 (A3×Obj)) (s:A4) (σ:St) (H:Hp) (x:V) (v:A2) (Q:VK),Inv X a σ H s->RelV x v->r x H Q ->
  wpAny (model X.prog X.w) X.A (f v) (EP X a σ Q) X.xe s
def O0(X:Cx)(f:A2)(r:A1 V->Hp->VK->Prop):Prop :=
 ∀(a:A1 (A3×Obj)) (s:A4) (σ:St) (H:Hp) (b:A1 V) (c:A1 A2) (Q:VK),Inv X a σ H s->IV b c->r b H Q ->
  wpAny (model X.prog X.w) X.A (call f c) (EP X a σ Q) X.xe s
def zIa(X:Cx)(r:V->Hp->(Bool->Hp->Prop)->Prop):Prop :=
 ∀(a:A1 (A3×Obj)) (s:A4) (σ:St) (H:Hp) (x:V) (v:A2) (Q:Bool->Hp->Prop),Inv X a σ H s->RelV x v->r x H Q ->
  wpAny (model X.prog X.w) X.A (truthy v) (TP X a σ Q) X.xe s
def tOp(r:R2)(a b:TE):TE:=λσ H Q=>a σ H λx c=>b σ c λy d=>r x y d Q
def tUn(r:V->Hp->VK->Prop)(a:TE):TE:=λσ H Q=>a σ H λx b=>r x b Q
def rI(C:Int->Int->Prop)(g:Int->Int->V):R2:=λx y H Q=>∃i j,x = .int i/\y = .int j/\C i j/\Q (g i j) H
def RE(g:Int->Int->V):R2:=λx y H Q=>∃i j,x = .int i/\y = .int j/\Q (g i j) H
def rU(g:Int->V):V->Hp->VK->Prop:=λx H Q=>∃i,x = .int i/\Q (g i) H
section
variable{X:Cx}{a b c:IQ}{ta tb tc:TE}{pos:Pos}
theorem zFo(i:PE X a ta)(j:PE X b tb){c:A1 (A3×Obj)}{s:A4}{σ:St}{H:Hp}{R:V->V->Hp->Prop}(I:Inv X c σ H s)
  (h:ta σ H λx g=>tb σ g λy d=>R x y d) {Q:A2->A4->Prop} {f:A2->A2->Sem A2}
  (k:∀v u e x y d,Inv X c σ d e->RelV x v->RelV y u->R x y d->wpAny (model X.prog X.w) X.A (f v u) Q X.xe e) :
  wpAny (model X.prog X.w) X.A (eval a X.env) (λv s₁=>wpAny (model X.prog X.w) X.A (eval b X.env) (λu s₂=>wpAny (model X.prog X.w) X.A (f v u) Q X.xe s₂) X.xe s₁) X.xe s:=by
 refine JI (i c s σ H _ I h) λv l ⟨x,g,m,n,o⟩=>?_;refine JI (j c l σ g _ m o) λu e ⟨y,d,p,q,r⟩=>?_;exact k v u e x y d p n q r
theorem C8{op:Operator}{r:R2}(d:LG X (binaryOp op) r)(e:PE X a ta)(f:PE X b tb):PE X (.BinOp a op b pos) (tOp r ta tb):=by
 intro c s σ H Q I h;exact wpAny_BinOp (zFo e f I h λv u g x y i j k l q=>d c g σ i x y v u Q j k l q)
theorem Zk{op:UnaryOp}{r:V->Hp->VK->Prop}(c:UnR X (unaryOp op) r)(d:PE X a ta):PE X (.UnaryOp op a pos) (tUn r ta):=by
 intro b s σ H Q I h;exact UnaryOp_ (JI (d b s σ H _ I h) λv e ⟨x,f,g,i,j⟩=>c b e σ f x v Q g i j)
theorem TK{f:A2->A2->Sem A2}{C:Int->Int->Prop}{g:Int->Int->Int}
  (rule:∀(i j:Int) (t u:Tok) (s:A4) (Q:A2->A4->Prop) (E:A2->A4->Prop),C i j->Q (.int (g i j) s.toks) { s with toks:=s.toks+1 }->wpAny (model X.prog X.w) X.A (f (.int i t) (.int j u)) Q E s) :
  LG X f (rI C λi j=>.int (g i j)):=by
 intro a s σ H x y v u Q I b c h;obtain⟨i,j,rfl,rfl,d,q⟩:=h;obtain⟨t,rfl⟩:=b;obtain⟨e,rfl⟩:=c;exact rule i j t e s _ _ d ⟨.int (g i j),H,I.tok _,⟨_,rfl⟩,q⟩
theorem TU{f:A2->A2->Sem A2}{g:Int->Int->Int}
  (rule:∀(i j:Int) (t u:Tok) (s:A4) (Q:A2->A4->Prop) (E:A2->A4->Prop),Q (.int (g i j) s.toks) { s with toks:=s.toks+1 }->wpAny (model X.prog X.w) X.A (f (.int i t) (.int j u)) Q E s) :
  LG X f (RE λi j=>.int (g i j)):=by
 intro a s σ H x y v u Q I b c h;obtain⟨i,j,rfl,rfl,q⟩:=h;obtain⟨t,rfl⟩:=b;obtain⟨d,rfl⟩:=c;exact rule i j t d s _ _ ⟨.int (g i j),H,I.tok _,⟨_,rfl⟩,q⟩
theorem zEq{f:A2->A2->Sem A2}{g:Int->Int->Bool}
  (rule:∀(i j:Int) (t u:Tok) (s:A4) (Q:A2->A4->Prop) (E:A2->A4->Prop),Q (.bool (g i j)) s->wpAny (model X.prog X.w) X.A (f (.int i t) (.int j u)) Q E s) :
  LG X f (RE λi j=>.bl (g i j)):=by
 intro a s σ H x y v u Q I b c h;obtain⟨i,j,rfl,rfl,q⟩:=h;obtain⟨t,rfl⟩:=b;obtain⟨d,rfl⟩:=c;exact rule i j t d s _ _ ⟨.bl (g i j),H,I,rfl,q⟩
def zHq(i j:Int):Prop:=0<j/\j<1073741824
def zGx(i j:Int):Prop:=0<=j/\j<=1000000/\i.natAbs<2^64
def SY(i j:Int):Prop:=(-(2^64)<i/\i<2^64)\/(-(2^64)<j/\j<2^64)
theorem SY.ok{i j:Int}(h:SY i j):IntMulOk i j:=by
 rcases h with⟨a,b⟩ | ⟨a,b⟩
 .exact .of_left (intBits_le_64 a b)
 .exact .of_right (intBits_le_64 a b)
theorem Oy(k:Nat):(0:Int)<=2^k:=by
 rw[two_pow_cast];exact Int.natCast_nonneg _
theorem Z7:LG X (binaryOp .Add) (RE λi j=>.int (i+j)):=TU λ_ _ _ _ _ _ _ q=>add_int q
theorem Xd:LG X (binaryOp .Sub) (RE λi j=>.int (i-j)):=TU λ_ _ _ _ _ _ _ q=>sub_int q
theorem Dc:LG X (binaryOp .Mult) (rI SY λi j=>.int (i*j)):=TK λ_ _ _ _ _ _ _ a q=>mul_int q a.ok
theorem Qi:LG X (binaryOp .FloorDiv) (rI zHq λi j=>.int (i / j)):=TK λi j _ _ _ _ _ a q=>by
 have b:(0:Int)<j:=a.1;have c:j<1073741824:=a.2;exact floordiv_int (by lia) (by rw[Int.fdiv_eq_ediv_of_nonneg i (by lia)];exact q) (.inl (PyProof.noPylong_small (by lia)))
theorem Hv:LG X (binaryOp .Mod) (rI (λ_ j=>0<j) λi j=>.int (i % j)):=TK λi j _ _ _ _ _ a q=>by
 have b:(0:Int)<j:=a;exact mod_int' (by lia) (by rw[Int.fmod_eq_emod_of_nonneg i (by lia)];exact q)
theorem zEh:LG X (binaryOp .Pow) (rI zGx λi j=>.int (i^j.toNat)):=TK λ_ _ _ _ _ _ _ a q=>pow_int_small a.1 a.2.1 a.2.2 q
theorem Du:LG X (binaryOp .LShift) (rI zGx λi j=>.int (i*2^j.toNat)):=TK λ_ _ _ _ _ _ _ a q=>lshift_int_small a.1 a.2.1 a.2.2 q
theorem Xv:LG X (binaryOp .RShift) (rI (λ_ j=>0<=j) λi j=>.int (i / 2^j.toNat)):=TK λi j _ _ _ _ _ a q =>
 rshift_int a (by rw[Int.fdiv_eq_ediv_of_nonneg i (Oy _)];exact q)
theorem R0:LG X (binaryOp .BitAnd) (RE λi j=>.int (Builtin.bitAnd i j)):=TU λ_ _ _ _ _ _ _ q=>and_int q
theorem Ar:LG X (binaryOp .BitOr) (RE λi j=>.int (Builtin.bitOr i j)):=TU λ_ _ _ _ _ _ _ q=>or_int q
theorem Xp:LG X (binaryOp .BitXor) (RE λi j=>.int (Builtin.bitXor i j)):=TU λ_ _ _ _ _ _ _ q=>xor_int q
theorem unI{f:A2->Sem A2}{g:Int->Int}
  (rule:∀(i:Int) (t:Tok) (s:A4) (Q:A2->A4->Prop) (E:A2->A4->Prop),Q (.int (g i) s.toks) { s with toks:=s.toks+1 }->wpAny (model X.prog X.w) X.A (f (.int i t)) Q E s) :
  UnR X f (rU λi=>.int (g i)):=by
 intro a s σ H x v Q I b h;obtain⟨i,rfl,q⟩:=h;obtain⟨t,rfl⟩:=b;exact rule i t s _ _ ⟨.int (g i),H,I.tok _,⟨_,rfl⟩,q⟩
theorem zDl:UnR X (unaryOp .USub) (rU λi=>.int (-i)):=unI λ_ _ _ _ _ q=>neg_int q
theorem Xw:UnR X (unaryOp .Invert) (rU λi=>.int (Builtin.bitNot i)):=unI λ_ _ _ _ _ q=>invert_int q
end
def zGw:V->V->Bool
 | .non,.non=>true | .non,.int _=>true | .int _,.non=>true | .non,.bl _=>true | .bl _,.non=>true | .non,.str _=>true | .str _,.non=>true
 | .int _,.int _=>true | .bl _,.bl _=>true | .str _,.str _=>true | .byt _,.byt _=>true
 | .int _,.str _=>true | .str _,.int _=>true | .bl _,.str _=>true | .str _,.bl _=>true
 | _,_=>false
def rEq:R2:=λx y H Q=>zGw x y=true/\Q (.bl (decide (x=y))) H
def rNe:R2:=λx y H Q=>zGw x y=true/\Q (.bl (!decide (x=y))) H
def Pn{i j:Int}:decide (V.int i=V.int j) =(i == j):=by
 rw[CC];simp
def Xj{i j:Bool}:decide (V.bl i=V.bl j) =(i == j):=by
 rw[CC];simp
def Sf{i j:Str}:decide (V.str i=V.str j) =(i == j):=by
 rw[CC];simp
def Qf{i j:CW UInt8}:decide (V.byt i=V.byt j) =(i.toList == j.toList):=by
 rw[CC];cases i;cases j;simp
section
variable{X:Cx}{a b c:IQ}{ta tb tc:TE}{pos:Pos}
theorem E8{a:A1 (A3×Obj)}{σ:St}{H:Hp}{s:A4}{Q:VK}{k b:Bool}(I:Inv X a σ H s)(q:Q (.bl k) H)(e:k=b):EP X a σ Q (.bool b) s:=by
 subst e;exact⟨.bl k,H,I,rfl,q⟩
theorem i8:LG X (compareOp .Eq) rEq:=by
 intro e s σ H x y v u Q I d a h;obtain⟨c,q⟩:=h;cases x with
 | non =>
  cases d;cases y with
  | non=>cases a;exact PySem.EqNone.eq_none_none (E8 I q (by simp))
  | bl j=>cases a;exact PySem.EqNone.eq_none_bool (E8 I q (by simp))
  | int j=>obtain⟨b,rfl⟩:=a;exact PySem.EqNone.eq_none_int (E8 I q (by simp))
  | str j=>obtain⟨b,rfl⟩:=a;exact PySem.EqNone.eq_none_str (E8 I q (by simp))
  | _=>exact absurd (show false=true from c) BA
 | bl i =>
  cases d;cases y with
  | non=>cases a;exact PySem.EqNone.eq_bool_none (E8 I q (by simp))
  | bl j=>cases a;exact eq_bool (E8 I q Xj)
  | str j=>obtain⟨b,rfl⟩:=a;exact PySem.EqMixed.eq_bool_str (E8 I q (by simp))
  | _=>exact absurd (show false=true from c) BA
 | int i =>
  obtain⟨t,rfl⟩:=d;cases y with
  | non=>cases a;exact PySem.EqNone.eq_int_none (E8 I q (by simp))
  | int j=>obtain⟨b,rfl⟩:=a;exact eq_int (E8 I q Pn)
  | str j=>obtain⟨b,rfl⟩:=a;exact PySem.EqMixed.eq_int_str (E8 I q (by simp))
  | _=>exact absurd (show false=true from c) BA
 | str i =>
  obtain⟨t,rfl⟩:=d;cases y with
  | non=>cases a;exact PySem.EqNone.eq_str_none (E8 I q (by simp))
  | bl j=>cases a;exact PySem.EqMixed.eq_str_bool (E8 I q (by simp))
  | int j=>obtain⟨b,rfl⟩:=a;exact PySem.EqMixed.eq_str_int (E8 I q (by simp))
  | str j=>obtain⟨b,rfl⟩:=a;exact eq_str (E8 I q Sf)
  | _=>exact absurd (show false=true from c) BA
 | byt i =>
  obtain⟨t,rfl⟩:=d;cases y with
  | byt j=>obtain⟨b,rfl⟩:=a;exact PySem.W.eq_bytes (E8 I q Qf)
  | _=>exact absurd (show false=true from c) BA
 | _=>cases y<;>exact absurd (show false=true from c) BA
theorem Of:LG X (compareOp .NotEq) rNe:=by
 intro e s σ H x y v u Q I d a h;obtain⟨c,q⟩:=h;cases x with
 | non =>
  cases d;cases y with
  | non=>cases a;exact PySem.EqNone.ne_none_none (E8 I q (by simp))
  | bl j=>cases a;exact PySem.EqNone.ne_none_bool (E8 I q (by simp))
  | int j=>obtain⟨b,rfl⟩:=a;exact PySem.EqNone.ne_none_int (E8 I q (by simp))
  | str j=>obtain⟨b,rfl⟩:=a;exact PySem.EqNone.ne_none_str (E8 I q (by simp))
  | _=>exact absurd (show false=true from c) BA
 | bl i =>
  cases d;cases y with
  | non=>cases a;exact PySem.EqNone.ne_bool_none (E8 I q (by simp))
  | bl j=>cases a;exact ne_bool (E8 I q (congrArg not Xj))
  | str j=>obtain⟨b,rfl⟩:=a;exact PySem.EqMixed.ne_bool_str (E8 I q (by simp))
  | _=>exact absurd (show false=true from c) BA
 | int i =>
  obtain⟨t,rfl⟩:=d;cases y with
  | non=>cases a;exact PySem.EqNone.ne_int_none (E8 I q (by simp))
  | int j=>obtain⟨b,rfl⟩:=a;exact ne_int (E8 I q (congrArg not Pn))
  | str j=>obtain⟨b,rfl⟩:=a;exact PySem.EqMixed.ne_int_str (E8 I q (by simp))
  | _=>exact absurd (show false=true from c) BA
 | str i =>
  obtain⟨t,rfl⟩:=d;cases y with
  | non=>cases a;exact PySem.EqNone.ne_str_none (E8 I q (by simp))
  | bl j=>cases a;exact PySem.EqMixed.ne_str_bool (E8 I q (by simp))
  | int j=>obtain⟨b,rfl⟩:=a;exact PySem.EqMixed.ne_str_int (E8 I q (by simp))
  | str j=>obtain⟨b,rfl⟩:=a;exact ne_str (E8 I q (congrArg not Sf))
  | _=>exact absurd (show false=true from c) BA
 | byt i =>
  obtain⟨t,rfl⟩:=d;cases y with
  | byt j=>obtain⟨b,rfl⟩:=a;exact PySem.W.ne_bytes (E8 I q (congrArg not Qf))
  | _=>exact absurd (show false=true from c) BA
 | _=>cases y<;>exact absurd (show false=true from c) BA
theorem zEy:LG X (compareOp .Lt) (RE λi j=>.bl (decide (i<j))):=zEq λ_ _ _ _ _ _ _ q=>lt_int q
theorem zDh:LG X (compareOp .LtE) (RE λi j=>.bl (decide (i<=j))):=zEq λ_ _ _ _ _ _ _ q=>le_int q
theorem zFw:LG X (compareOp .Gt) (RE λi j=>.bl (decide (j<i))):=zEq λ_ _ _ _ _ _ _ q=>gt_int q
theorem zGl:LG X (compareOp .GtE) (RE λi j=>.bl (decide (j<=i))):=zEq λ_ _ _ _ _ _ _ q=>ge_int q
theorem Ss:LG X (compareOp .In) (λx y H Q=>∃i j,x = .str i/\y = .str j/\Q (.bl (!(Builtin.Str.occurrences j i 0 j.length 1).isEmpty)) H):=by
 intro a s σ H x y v u Q I b c h;obtain⟨i,j,rfl,rfl,q⟩:=h;obtain⟨t,rfl⟩:=b;obtain⟨d,rfl⟩:=c;exact in_str (E8 I q rfl)
theorem Xg:LG X (compareOp .Is) (λx y H Q=>y = .non/\Q (.bl (decide (x = .non))) H):=by
 intro a s σ H x y v u Q I b c h;obtain⟨rfl,q⟩:=h;cases c;refine is_none_gen (E8 I q ?_);cases x<;>first
  | (cases b;rfl)
  | (obtain⟨t,rfl⟩:=b;rfl)
theorem Fu:LG X (compareOp .IsNot) (λx y H Q=>y = .non/\Q (.bl (!decide (x = .non))) H):=by
 intro a s σ H x y v u Q I b c h;obtain⟨rfl,q⟩:=h;cases c;refine isnot_none_gen (E8 I q ?_);cases x<;>first
  | (cases b;rfl)
  | (obtain⟨t,rfl⟩:=b;rfl)
theorem E9(b:IQ){op:CmpOp}(h:op≠ .In:=by decide)(h2:op≠ .NotIn:=by decide):behindInMarks op b=false:=by
 have a:(op == CmpOp.In)=false:=by cases op<;>first | rfl | exact absurd rfl h
 have c:(op == CmpOp.NotIn)=false:=by cases op<;>first | rfl | exact absurd rfl h2
 cases b<;>simp[behindInMarks,a,c]
theorem Q9{op:CmpOp}{r:R2}(d:LG X (compareOp op) r)(e:PE X a ta)(f:PE X b tb)(g:behindInMarks op b=false):PE X (.Compare a [op] [b] pos) (tOp r ta tb):=by
 intro c s σ H Q I h;exact wpAny_Compare1 (zFo e f I h λv u i x y j k l m q=>d c i σ j x y v u Q k l m q) g
def zDv(t:TE):TT:=λσ H Q=>t σ H λx a=>∃k,x = .bl k/\Q k a
theorem D6{op:CmpOp}{r:R2}(f:LG X (compareOp op) r)(g:PE X a ta)(i:PE X b tb)(j:behindInMarks op b=false):PT X (.Compare a [op] [b] pos) (zDv (tOp r ta tb)):=by
 intro d s σ H Q I h;refine wpAny_isTrue_Compare1 (JI (g d s σ H _ I h) λv l ⟨x,m,n,o,p⟩=>JI (i d l σ m _ n p) λu q ⟨y,t,w,A,B⟩ =>
  JI (f d q σ t x y v u _ w o A B) λc G ⟨z,C,D,E,k,e,F⟩=>?_) j
 subst e;cases E;exact DI ⟨C,D,F⟩
def zCl(r b:R2)(ta tb tc:TE):TE:=λσ H Q=>ta σ H λx c=>tb σ c λy d=>r x y d λz a=>∃k,z = .bl k /\
 (if k=true then tc σ a λe f=>b y e f Q else Q (.bl false) a)
theorem Uq{op g:CmpOp}{r j:R2}(p:LG X (compareOp op) r)(i:LG X (compareOp g) j)(q:PE X a ta)(t:PE X b tb)(w:PE X c tc)
  (A:lastMarks [op,g] [b,c]=false:=by with_unfolding_all rfl):PT X (.Compare a [op,g] [b,c] pos) (zDv (zCl r j ta tb tc)):=by
 intro f s σ H Q I h;refine isTrue_chain (JI (q f s σ H _ I h) λv B ⟨x,C,D,E,F⟩=>test_link (JI (t f B σ C _ D F) λu G ⟨y,J,K,l,L⟩ =>
  JI (p f G σ J x y v u _ K E l L) λd M ⟨z,m,n,N,k,e,o⟩=>?_)) A
 subst e;cases N;refine DI ?_;cases k with
 | false =>
  obtain⟨k',O,P⟩:=o;cases O;exact ite_ff ⟨m,n,P⟩
 | true =>
  refine ite_tt (test_last (JI (w f M σ m _ n o) λR S ⟨T,U,V,W,Y⟩=>JI (i f S σ U y T u R _ V l W Y) λd' s5 ⟨z2,Z,I5,r5,k2,e2,q5⟩=>?_));subst e2;cases r5;exact DI ⟨Z,I5,q5⟩
def zFz(K:PySem.W.Frag)(x:V)(H:Hp)(k:Bool):Prop :=
 match x with
 | .non=>k=false
 | .bl b=>k=b
 | .int i=>k =(i != 0)
 | .str y=>y.length<=sizeLine/\k =((y.length:Int) != 0)
 | .byt y=>y.size<=sizeLine/\k =((y.size:Int) != 0)
 | .ref p=>(∃a,IS K H p a/\k=!a.isEmpty)\/(∃a,JJ K H p a/\k=!a.isEmpty)\/∃c,H p=some (.dK c)/\k=!c.isEmpty
 | _=>False
theorem Ox{κ:Type}{a:A1 (κ×V)}{vs:A1 (κ×A2)}(r:KV a vs):(!vs.isEmpty)=!a.isEmpty:=by
 cases r<;>rfl
theorem Ds{xs:A1 V}{its:A1 A2}(r:IV xs its):(!its.toArray.isEmpty)=!xs.isEmpty:=by
 cases r<;>simp
theorem Dj:(sizeLine:Nat)<2^63:=by rw[sizeLine_eq];decide
theorem zDx:zIa X (λx H Q=>∃k,zFz X.K x H k/\Q k H):=by
 intro u s σ H x v Q I g h;obtain⟨k,e,q⟩:=h;have C:=Dj;have D:sizeLine=16777216:=sizeLine_eq;cases x with
 | non =>
  cases g;have a:k=false:=e;subst a;exact truthy_none ⟨H,I,q⟩
 | bl b =>
  cases g;have a:k=b:=e;subst a;exact DI ⟨H,I,q⟩
 | int i =>
  obtain⟨t,rfl⟩:=g;have a:k =(i != 0):=e;subst a;exact PySem.P.truthy_int ⟨H,I,q⟩
 | str y =>
  obtain⟨t,rfl⟩:=g;obtain⟨A,a⟩:y.length<=sizeLine/\k =((y.length:Int) != 0):=e;subst a;exact PySem.P.truthy_str (by lia) ⟨H,I.tok _,q⟩
 | byt y =>
  obtain⟨t,rfl⟩:=g;obtain⟨A,a⟩:y.size<=sizeLine/\k =((y.size:Int) != 0):=e;subst a;exact PySem.W.truthy_bytes (by lia) ⟨H,I.tok _,q⟩
 | ref p =>
  cases g;have a:(∃f,IS X.K H p f/\k=!f.isEmpty)\/(∃f,JJ X.K H p f/\k=!f.isEmpty)\/∃c,H p=some (.dK c)/\k=!c.isEmpty:=e;rcases a with⟨f,j,a⟩ | ⟨f,j,a⟩ | ⟨c,j,a⟩
  .subst a;obtain⟨n,r,o,z⟩:=I.list j;have d:=r.length;exact wpAny_truthy_list o.isList (by simp only[AV];lia) ⟨H,I.tok _,by rw[Ds r];exact q⟩
  .subst a;obtain⟨n,r,o,z⟩:=I.tuple j;have d:=r.length;exact truthy_tuple o (by simp only[AV];lia) ⟨H,I.tok _,by rw[Ds r];exact q⟩
  .subst a;obtain⟨z,B,l,r,m⟩:c.length<=sizeLine/\(p == sysModules)=false/\∃l,KV c l/\s.heap.DictOf (C4 X.prog X.w) p l:=I.hok p _ j;have d:c.length=l.length:=Paired.length r;exact wpAny_truthy_dict B m (by lia) ⟨H,I.tok _,by rw[Ox r];exact q⟩
 | _=>exact(show False from e).elim
theorem Vu(d:PE X a ta)(e:∀b,isTrue a X.env b =(do let v <-b;standAt a.pos;holding [v] (truthy v))) :
  PT X a (λσ H Q=>ta σ H λx H'=>∃k,zFz X.K x H' k/\Q k H'):=by
 intro c s σ H Q I h;exact isTrue_plain (JI (d c s σ H _ I h) λv f ⟨x,g,i,j,l⟩=>zDx c f σ g x v Q i j l) (e _)
theorem g9{x:V}{us:A1 A2}(r:IV [x] us):∃u,us = [u]/\RelV x u:=by
 cases r with
 | cons a b=>cases b;exact⟨_,rfl,a⟩
theorem zEz{x y:V}{us:A1 A2}(r:IV [x,y] us):∃u a,us = [u,a]/\RelV x u/\RelV y a:=by
 cases r with
 | cons b c =>
  cases c with
  | cons d e=>cases e;exact⟨_,_,rfl,b,d⟩
theorem Nb:O0 X (.builtin "abs") (λxs H Q=>∃i,xs = [.int i]/\Q (.int (if i<0 then -i else i)) H):=by
 intro a s σ H xs b Q I r h;obtain⟨i,rfl,q⟩:=h;obtain⟨u,rfl,t,rfl⟩:=g9 r;exact call_abs_int λu c=>⟨.int (if i<0 then -i else i),H,I.tok _,⟨_,rfl⟩,q⟩
theorem Qz(c:X.calm=true):O0 X (.builtin "min") (λxs H Q=>∃i j,xs = [.int i,.int j]/\Q (.int (if j<i then j else i)) H):=by
 intro b s σ H xs d Q I r h;obtain⟨i,j,rfl,q⟩:=h;obtain⟨u,e,rfl,⟨t,rfl⟩,⟨f,rfl⟩⟩:=zEz r;refine min_two_ints (I.ok.hd c) λg l k=>⟨_,H,I.kept k,?_,q⟩;by_cases a:j<i
 .rw[AL a,AL a];exact⟨_,rfl⟩
 .rw[AJ a,AJ a];exact⟨_,rfl⟩
theorem Te:O0 X (.type "int") (λxs H Q=>(∃i,xs = [.int i]/\Q (.int i) H)\/∃k,xs = [.bl k]/\Q (.int (if k then 1 else 0)) H):=by
 intro a s σ H xs c Q I r h;rcases h with⟨i,rfl,q⟩ | ⟨k,rfl,q⟩
 .obtain⟨u,rfl,t,rfl⟩:=g9 r;exact call_int_int ⟨.int i,H,I,⟨_,rfl⟩,q⟩
 .obtain⟨u,rfl,b⟩:=g9 r;cases b;exact call_int_bool ⟨.int (if k then 1 else 0),H,I.tok _,⟨_,rfl⟩,q⟩
end
structure QS(h:IM)(x dx C:A3)(mA:Str->A5 A2):Prop where
 obj:h.get? x=some (PySem.W.instObj C dx)
 ns:h.Ns1 dx mA
 ne:dx≠x
def Rt{h:IM}{c:A3}{d:Str->A5 A2}(n:h.Ns1 c d):∃f,h.get? c=some f/\∀name,PySem.W.lookIn name f=some (d name):=by
 obtain⟨o,g,r,i,j,k,_,l⟩:=n;refine⟨o,i,λname=>?_⟩;have e:=l name;unfold nsFind findBy at e;rw[<-Array.find?_toList]at e;unfold PySem.W.lookIn;rw[j];dsimp only;split
 .rename_i y q;rw[q]at e;exact congrArg some e
 .rename_i q;rw[q]at e;have a:g.toList.any (·.refKey)=false:=by
   rw[List.any_eq_false];intro y m;obtain⟨z,t,b⟩:=k y (Array.mem_toList_iff.mp m);simp[DictEntry.refKey,b]
  have p:¬g.toList.any (·.refKey)=true:=by rw[a];exact BA
  rw[AJ p];exact congrArg some e
def QS.look{h:IM}{x b C:A3}{c:Str->A5 A2}(I:QS h x b C c):∃a,PySem.W.InstAt h x (PySem.W.instObj C b) C (some a)/\∀name,PySem.W.lookIn name a=some (c name) :=
 let⟨a,d,e⟩:=Rt I.ns
 ⟨a,⟨I.obj,rfl,rfl,d⟩,e⟩
section
variable{prog:A7}{w:F8}{A:IR}{E:A2->A4->Prop}{s:A4}{K:PySem.W.Frag}{x dx C f:A3}{mA:Str->A5 A2}{name:Str}{v:A2}
theorem zBc{a:Bool}{Q:A2->A4->Prop}(X:K.In s.heap)(I:QS s.heap x dx C mA)(c:PySem.W.plainGet K C name=true)(d:PySem.W.hasDictIn K C=true)
  (e:PySem.W.findIn K (.ref C) name=some none) (f:mA name=some v) (b:PySem.W.handedIn v=true) (h:Q v { s with toks:=s.toks+1 }) :
  wpAny (model prog w) A (getAttr (.ref x) name a) Q E s:=by
 obtain⟨i,J,g⟩:=I.look;exact PySem.W.get_value X J (PySem.W.plainGet_of c).1 (PySem.W.findObj_own d e rfl (by rw[g,f])) b h
theorem Vt{pl:Sem Bool}{Q:A2×A1 A2->A4->Prop}(X:K.In s.heap)(I:QS s.heap x dx C mA)(a:PySem.W.plainGet K C name=true)
  (b:PySem.W.findIn K (.ref C) name=some (some (.ref f))) (c:PySem.W.isFn K (.ref f)=true) (d:mA name=none) (h:Q (.ref f,[.ref x]) s) :
  wpAny (model prog w) A (getMethod (.ref x) name pl) Q E s:=by
 obtain⟨e,J,g⟩:=I.look;exact PySem.W.method_fn X J (PySem.W.plainGet_of a).1 (PySem.W.plainGet_of a).2 b (beq_iff_eq.mp c) (by show(PySem.W.lookIn name e).map (·.isSome)=some false;rw[g,d];rfl) h
theorem Yx{ns:A1 Str}{Q:Unit->A4->Prop}(X:K.In s.heap)(I:QS s.heap x dx C mA)
  (j:PySem.W.findIn K (.ref C) "__setattr__" = some (some (.builtin "object.__setattr__"))) (k:PySem.W.plainOver K C=true) (l:PySem.W.takerIn K C name=some none) (m:PySem.W.hasDictIn K C=true)
  (hw:PySem.Within mA ns) (hsz:ns.length<=sizeLine)
  (h:∀h',QS h' x dx C (λy=>if y=name then some v else mA y)->Heap.SameBut dx s.heap h'->Q () { s with heap:=h',toks:=s.toks+2 }) :
  wpAny (model prog w) A (setAttr (.ref x) name v) Q E s:=by
 obtain⟨t,J,u⟩:=I.look;refine PySem.W.set_plain X J j (PySem.W.osa_open (s:={ s with toks:=s.toks+1 }) (r:=none) X J k l λb=>?_);obtain⟨z,n,e⟩:=PySem.W.any_some m;have o:s.heap.get? x=some ⟨.ref C,some dx,.plain,#[]⟩:=I.obj;refine AA (AF (AA (AA (wpAny_loadPart o (AA (PySem.W.Looks.here (s:={ s with toks:=s.toks+1 }) (PySem.W.looks_clsIn X n) ?_))))));rw[e];refine AF (a:=some dx) (AA (AF (AA ?_)));refine wpAny_nsSet1 (s:={ s with toks:=s.toks+1 }) I.ns λh' c d=>?_;obtain⟨oD,p,q,f,g,i⟩:=c.count (PySem.Within.cons name v hw);refine AA (wpAny_lookBehind f (by rw[g];exact pastItsLine_dict (Nat.le_trans i (by rw[AR];lia))) ?_);exact AF (h _ ⟨(d.2 _ (Ne.symm I.ne)).trans I.obj,c,I.ne⟩ d)
theorem Wf{R:Result->A4->Prop}{vs:A1 A2}{b:A1 (Str×A2)}(X:K.In s.heap)(c:PySem.W.makesIn K C=true)
  (hi:PySem.W.findIn K (.ref C) "__init__" = some (some (.ref f))) (e:PySem.W.typeIn K (.ref f)=some (.type "function"))
  (h:codeAny (model prog w) (A.under (.builtin "type.__call__" ⟨.ref C::vs,b⟩)) (.call (.ref f) ⟨.ref (s.heap.objs.size+1)::vs,b⟩) (PySem.W.InitBack (s.heap.objs.size+1) R)
   { s with heap:=(s.heap.push PySem.W.emptyDict).push (PySem.W.instObj C s.heap.objs.size) }) :
  codeAny (model prog w) A (.call (.ref C) ⟨vs,b⟩) R s:=by
 obtain⟨i,g,d,t,os⟩:=s;exact PySem.W.make_core (PySem.W.makes_of X c) (PySem.W.looks_findIn X hi) (λa=>PySem.W.bind_fn X a e) (.inl rfl) h
end
def R4(f:Str)(v:V):A1 (Str×V)->A1 (Str×V)
 | []=>[(f,v)]
 | (g,x)::r=>if g=f then(g,v)::r else(g,x)::R4 f v r
def Bh(f g:Str)(v:V):∀c:A1 (Str×V),(R4 f v c).lookup g=if g=f then some v else c.lookup g
 | []=>by
  show List.lookup g [(f,v)]=_;by_cases h:g=f
  .have a:(g == f)=true:=beq_iff_eq.mpr h;simp only[List.lookup,a,AL h]
  .have a:(g == f)=false:=beq_eq_false_iff_ne.mpr h;simp only[List.lookup,a,AJ h]
 | (k,x)::r=>by
  have d:=Bh f g v r;rw[show R4 f v ((k,x)::r) =(if k=f then(k,v)::r else(k,x)::R4 f v r)from rfl];by_cases b:k=f
  .rw[AL b];by_cases h:g=k
   .have a:(g == k)=true:=beq_iff_eq.mpr h;simp only[List.lookup,a,AL (h.trans b)]
   .have a:(g == k)=false:=beq_eq_false_iff_ne.mpr h;simp only[List.lookup,a,AJ (λe:g=f=>h (e.trans b.symm))]
  .rw[AJ b];by_cases h:g=k
   .have a:(g == k)=true:=beq_iff_eq.mpr h;simp only[List.lookup,a,AJ (λe:g=f=>b (h.symm.trans e))]
   .have a:(g == k)=false:=beq_eq_false_iff_ne.mpr h;simp only[List.lookup,a];exact d
def Bu(f:Str)(v:V):∀a:A1 (Str×V),f∈(R4 f v a).map (·.1)/\∀g,g∈a.map (·.1)->g∈(R4 f v a).map (·.1)
 | []=>⟨by simp[R4],λg h=>by simp at h⟩
 | (k,x)::r=>by
  obtain⟨c,d⟩:=Bu f v r;rw[show R4 f v ((k,x)::r) =(if k=f then(k,v)::r else(k,x)::R4 f v r)from rfl];by_cases b:k=f
  .rw[AL b];subst b;exact⟨by simp,λg h=>by simpa using h⟩
  .rw[AJ b];refine⟨?_,λg h=>?_⟩
   .rw[BK];exact BD _ c
   .rw[BK]at h⊢;rcases AK.mp h with e | e
    .exact AK.mpr (.inl e)
    .exact BD _ (d g e)
def Bw(f:Str)(v:V):∀a:A1 (Str×V),(R4 f v a).length<=a.length+1
 | []=>by simp[R4]
 | (k,x)::r=>by
  have c:=Bw f v r;rw[show R4 f v ((k,x)::r) =(if k=f then(k,v)::r else(k,x)::R4 f v r)from rfl];by_cases b:k=f
  .rw[AL b,AR,AR];lia
  .rw[AJ b,AR,AR];lia
def NB.some_of{v:V}{o:A5 A2}(r:NB (some v) o):∃u,o=some u/\RelV v u:=by
 cases o with
 | none=>exact(show False from r).elim
 | some u=>exact⟨u,rfl,r⟩
def NB.none_of{o:A5 A2}(r:NB none o):o=none:=by
 cases o with
 | none=>rfl
 | some u=>exact(show False from r).elim
def Qg{v:V}{u:A2}(r:RelV v u):PySem.W.handedIn u=true:=by
 cases v with
 | non=>cases(show u=Value.none from r);rfl
 | bl b=>cases(show u=Value.bool b from r);rfl
 | int i=>obtain⟨t,e⟩:=(show ∃t,u=Value.int i t from r);cases e;rfl
 | str x=>obtain⟨t,e⟩:=(show ∃t,u=Value.str x t from r);cases e;rfl
 | byt b=>obtain⟨t,e⟩:=(show ∃t,u=Value.bytes b t from r);cases e;rfl
 | flt b=>obtain⟨t,e⟩:=(show ∃t,u=Value.float b t from r);cases e;rfl
 | ref a=>cases(show u=Value.ref a from r);rfl
 | ty n=>cases(show u=Value.type n from r);rfl
section
variable{P:A7}{w:F8}{H H':Hp}{h h':IM}{a C dx:A3}{fs fs':A1 (Str×V)}
theorem Fo(c:MO P w H h)(e:H a=some (.ins C dx fs)):∃b,QS h a dx C b/\(∀f,NB (fs.lookup f) (b f))/\PySem.Within b (fs.map (·.1))/\fs.length<=1000/\H dx=some (.own a):=by
 obtain⟨d,z,g,i,b,n,r,q⟩:=(show IZ P w H h a (.ins C dx fs)from c a _ e);exact⟨b,⟨i,n,g⟩,r,q,z,d⟩
end
structure RC(K:PySem.W.Frag)(C:A3):Prop where
 pg:PySem.W.plainGet K C Str.empty=true
 hd:PySem.W.hasDictIn K C=true
 po:PySem.W.plainOver K C=true
 sa:PySem.W.findIn K (.ref C) "__setattr__" = some (some (.builtin "object.__setattr__"))
def RC.get{K:PySem.W.Frag}{C:A3}(c:RC K C)(f:Str):PySem.W.plainGet K C f=true:=c.pg
def JT(K:PySem.W.Frag)(C:A3)(f:Str):Prop:=PySem.W.findIn K (.ref C) f=some none
def JT.taker{K:PySem.W.Frag}{C:A3}{f:Str}(n:JT K C f):PySem.W.takerIn K C f=some none:=by
 unfold PySem.W.takerIn;rw[show PySem.W.findIn K (.ref C) f=some none from n];rfl
structure SE(K:PySem.W.Frag)(C:A3)(m:Str)(f:A3):Prop where
 at_:PySem.W.findIn K (.ref C) m=some (some (.ref f))
 fn:PySem.W.isFn K (.ref f)=true
 kp:PySem.W.keepIn K (.ref f)=true
section
variable{X:Cx}{pins:A1 (A3×Obj)}{σ:St}{H:Hp}{s:A4}{a C dx:A3}{fs:A1 (Str×V)}{f:Str}{v:V}{A:IR}{E:A2->A4->Prop}
theorem Nx{b:Bool}{Q:A2->A4->Prop}(I:Inv X pins σ H s)(e:H a=some (.ins C dx fs))(c:RC X.K C)(n:JT X.K C f)(l:fs.lookup f=some v)
  (h:∀u d,Inv X pins σ H d->RelV v u->Q u d):wpAny (model X.prog X.w) A (getAttr (.ref a) f b) Q E s:=by
 obtain⟨i,O,r,_,_,_⟩:=Fo I.hok e;obtain⟨u,j,g⟩:=NB.some_of (v:=v) (o:=i f) (by rw[<-l];exact r f);exact zBc I.kIn O (c.get f) c.hd n j (Qg g) (h u _ (I.tok _) g)
theorem Dp{m:Str}{g:A3}{pl:Sem Bool}{Q:A2×A1 A2->A4->Prop}(I:Inv X pins σ H s)(e:H a=some (.ins C dx fs))(c:RC X.K C)(k:SE X.K C m g)(l:fs.lookup m=none)
  (h:Q (.ref g,[.ref a]) s):wpAny (model X.prog X.w) A (getMethod (.ref a) m pl) Q E s:=by
 obtain⟨b,O,r,_,_,_⟩:=Fo I.hok e;have d:b m=none:=NB.none_of (by rw[<-l];exact r m);exact Vt I.kIn O (c.get m) k.at_ k.fn d h
theorem Ou{y:V}{u:A2}{Q:Unit->A4->Prop}(I:Inv X pins σ H s)(e:H a=some (.ins C dx fs))(c:RC X.K C)(n:JT X.K C f)(J:fs.length<1000)(m:RelV y u)
  (h:∀i,Inv X pins σ (IK H a (.ins C dx (R4 f y fs))) i->Q () i):wpAny (model X.prog X.w) A (setAttr (.ref a) f u) Q E s:=by
 obtain⟨j,O,r,k,_,l⟩:=Fo I.hok e;have p:(fs.map (·.1)).length<=sizeLine:=by rw[AB,sizeLine_eq];lia
 refine Yx I.kIn O c.sa c.po n.taker c.hd k p λt d v=>h _ ?_;have B:∃o,t.get? dx=some o:=let⟨o,_,_,D,_⟩:=d.ns;⟨o,D⟩;refine I.write (x:=a) (e:=dx) (by rw[e];exact True.intro) (.inr l) (λb q F z=>(v.2 b F).trans z) B ?_;refine⟨by rw[B6 O.ne];exact l,?_,O.ne,d.obj,_,d.ns,λg=>?_,λg G=>?_⟩
 .have:=Bw f y fs;lia
 .show NB ((R4 f y fs).lookup g) (if g=f then some u else j g);rw[Bh];by_cases q:g=f
  .rw[AL q,AL q];exact m
  .rw[AJ q,AJ q];exact r g
 .by_cases q:g=f
  .rw[q];exact(Bu f y fs).1
  .refine(Bu f y fs).2 g (k g λz=>G ?_);show(if g=f then some u else j g)=none;rw[AJ q];exact z
theorem Inv.made(I:Inv X pins σ H s):Inv X pins σ (IK (IK H s.heap.objs.size (.own (s.heap.objs.size+1))) (s.heap.objs.size+1) (.ins C s.heap.objs.size []))
  { s with heap:=(s.heap.push PySem.W.emptyDict).push (PySem.W.instObj C s.heap.objs.size) }:=by
 have c:(s.heap.push PySem.W.emptyDict).get? s.heap.objs.size=some PySem.W.emptyDict:=AS s.heap rfl;have f:((s.heap.push PySem.W.emptyDict).push (PySem.W.instObj C s.heap.objs.size)).get? (s.heap.objs.size+1)=some (PySem.W.instObj C s.heap.objs.size):=by
  have:=AS (s.heap.push PySem.W.emptyDict) (o:=PySem.W.instObj C s.heap.objs.size) rfl
  rwa [DM]at this
 have g:(s.heap.push PySem.W.emptyDict).Ns s.heap.objs.size (λ_=>none):=⟨PySem.W.emptyDict,#[],_,c,rfl,(λe h=>absurd h (by simp)),λ_=>rfl⟩;have i:=I.laid (a:=s.heap.objs.size) (o:=.own (s.heap.objs.size+1)) (h':=s.heap.push PySem.W.emptyDict) (t':=s.toks) (λb u q=>AG _ q) (Nat.le_refl _) ⟨_,c⟩;refine i.laid (a:=s.heap.objs.size+1) (o:=.ins C s.heap.objs.size []) (t':=s.toks) (λb u q=>AG _ q) (Nat.le_of_eq (DM _ _)) ?_;have d:s.heap.objs.size≠s.heap.objs.size+1:=BI (EW _);refine⟨by rw[B6 d,A9],CL _,d,f,λ_=>none,(Heap.Ns1.of_empty g).at λo q=>AG _ q,λ_=>True.intro,λy j=>absurd rfl j⟩
theorem Zu{prog:A7}{w:F8}{a:PR}{e:IQ}{f:Str}{pos:Pos}{s:A4}{Q:A2->A4->Prop}(b:attributeBase e f a (eval e a)=eval e a)
  (h:wpAny (model prog w) A (eval e a) (λo s₁=>wpAny (model prog w) A (getAttr o f true) Q E s₁) E s):wpAny (model prog w) A (eval (.Attribute e f pos) a) Q E s :=
 Attribute_any_ h (by rw[arm_eval_Attribute,b])
end
def zEt(K:PySem.W.Frag)(d:TE)(f:Str):TE:=λσ H Q=>d σ H λx b=>∃a C e c v,x = .ref a/\b a=some (.ins C e c)/\RC K C/\JT K C f/\c.lookup f=some v/\Q v b
def zGz(K:PySem.W.Frag)(e g:TE)(f:Str):TS:=λD σ H=>g σ H λy h=>e σ h λx c=>∃a C d b,x = .ref a/\c a=some (.ins C d b)/\RC K C/\JT K C f/\b.length<1000 /\
 D.nx σ (IK c a (.ins C d (R4 f y b)))
section
variable{X:Cx}{o e value:IQ}{f:Str}{pos pos' tpos:Pos}{ta tv:TE}
theorem zDz(d:PE X e ta)(g:attributeBase e f X.env (eval e X.env)=eval e X.env):PE X (.Attribute e f pos) (zEt X.K ta f):=by
 intro b s σ H Q I h;refine Zu g (JI (d b s σ H _ I h) λu t ⟨x,i,j,k,a,C,w,y,v,m,o,c,n,l,q⟩=>?_);subst m;obtain rfl:u=Value.ref a:=k;exact Nx j o c n l λz A p r=>⟨v,i,p,r,q⟩
theorem zDy(d:PE X o ta)(e:PE X value tv)(g:swapsWith value (some (.Attribute o f pos')) pos.line X.env=pure false):PS X (.Assign [.Attribute o f pos'] value pos) (zGz X.K ta tv f):=by
 intro b s σ H D I h;refine plainObj_wpAny_Assign_Attribute (JI (e b s σ H _ I h) λu i ⟨y,j,k,m,q⟩=>JI (d b i σ j _ k q) λp B ⟨x,E,r,t,a,C,F,G,v,w,c,n,l,z⟩=>?_) g;subst v;obtain rfl:p=Value.ref a:=t;exact Ou r w c n l m λJ A=>⟨σ,_,A,z⟩
end
section
variable{X:Cx}{pins:A1 (A3×Obj)}{σ:St}{H:Hp}{s:A4}{A:IR}{E:A2->A4->Prop}{Q:A2->A4->Prop}{c:A2}{b:Bool}
inductive MV(K:PySem.W.Frag)(H:Hp):V->A2->Prop where
 | non:MV K H .non (.type "NoneType")
 | bl (x:Bool):MV K H (.bl x) (.type "bool")
 | int (i:Int):MV K H (.int i) (.type "int")
 | str (x:Str):MV K H (.str x) (.type "str")
 | flt (x:UInt64):MV K H (.flt x) (.type "float")
 | lst {a:A3} {xs:A1 V} (e:H a=some (.lst xs)):MV K H (.ref a) (.type "list")
 | frz {a:A3} {o:Obj} {xs:A1 V} (e:H a=some (.frz o (.lst xs))):MV K H (.ref a) (.type "list")
 | tup {a:A3} {xs:A1 V} (e:H a=some (.tup xs)):MV K H (.ref a) (.type "tuple")
 | dK {a:A3} {kvs:A1 (JC×V)} (e:H a=some (.dK kvs)):MV K H (.ref a) (.type "dict")
 | dT {a:A3} {kvs:A1 (A1 JC×V)} (e:H a=some (.dT kvs)):MV K H (.ref a) (.type "dict")
 | ins {a C dx:A3} {fs:A1 (Str×V)} (e:H a=some (.ins C dx fs)) (cl:RC K C) (ha:PySem.W.findIn K (.ref C) "__class__" = some (some (.builtin "object.__class__")))
   (hn:PySem.W.specialIn K (.builtin "object.__class__") "__get__" = some (some (.builtin "getset_descriptor.__get__"))) (htk:PySem.W.takesIn K (.builtin "object.__class__")=some true)
   (hm:PySem.W.mroIn K C (.type "object")=some true):MV K H (.ref a) (.ref C)
theorem Tf{x:V}{u t:A2}(I:Inv X pins σ H s)(d:RelV x u)(ty:MV X.K H x t)(e:PySem.W.kitOne X.K t c=some b)(h:∀v,Q (.bool b) { s with toks:=v }) :
  wpAny (model X.prog X.w) A (call (.builtin "isinstance") [u,c]) Q E s:=by
 cases ty with
 | non=>cases(show u=Value.none from d);exact PySem.W.kia_one PySem.W.kitx_none I.kIn True.intro e (λz=>nomatch z) h
 | bl y=>cases(show u=Value.bool y from d);exact PySem.W.kia_one PySem.W.kitx_bool I.kIn True.intro e (λz=>nomatch z) h
 | int i=>obtain⟨t,q⟩:=(show ∃t,u=Value.int i t from d);cases q;exact PySem.W.kia_one PySem.W.kitx_int I.kIn True.intro e (λz=>nomatch z) h
 | str y=>obtain⟨t,q⟩:=(show ∃t,u=Value.str y t from d);cases q;exact PySem.W.kia_one PySem.W.kitx_str I.kIn True.intro e (λz=>nomatch z) h
 | flt y=>obtain⟨t,q⟩:=(show ∃t,u=Value.float y t from d);cases q;exact PySem.W.kia_one PySem.W.kitx_float I.kIn True.intro e (λz=>nomatch z) h
 | @lst a k f =>
  cases(show u=Value.ref a from d);obtain⟨_,_,n,_,g⟩:=(show IZ X.prog X.w H s.heap a (.lst k)from I.hok a _ f);exact PySem.W.kia_one PySem.W.kitx_list I.kIn ⟨_,g,rfl⟩ e (λz=>nomatch z) h
 | @frz a B k f =>
  cases(show u=Value.ref a from d);obtain⟨_,_,_,n,_,g⟩:=(show IZ X.prog X.w H s.heap a (.frz B (.lst k))from I.hok a _ f);exact PySem.W.kia_one PySem.W.kitx_list I.kIn ⟨_,g,rfl⟩ e (λz=>nomatch z) h
 | @tup a k f =>
  cases(show u=Value.ref a from d);obtain⟨_,_,_,p⟩:=(show IZ X.prog X.w H s.heap a (.tup k)from I.hok a _ f);obtain⟨o,g,l,_⟩:=p;exact PySem.W.kia_one PySem.W.kitx_tuple I.kIn ⟨o,g,l⟩ e (λz=>nomatch z) h
 | @dK a j f =>
  cases(show u=Value.ref a from d);obtain⟨_,_,N,_,p⟩:=(show IZ X.prog X.w H s.heap a (.dK j)from I.hok a _ f);obtain⟨o,D,F,g,l,_⟩:=p;exact PySem.W.kia_one PySem.W.kitx_dict I.kIn ⟨o,g,l.1⟩ e (λz=>nomatch z) h
 | @dT a j f =>
  cases(show u=Value.ref a from d);obtain⟨_,_,k,_,o,D,F,g,l,_⟩:=(show IZ X.prog X.w H s.heap a (.dT j)from I.hok a _ f);exact PySem.W.kia_one PySem.W.kitx_dict I.kIn ⟨o,g,l.1⟩ e (λz=>nomatch z) h
 | @ins a C P R f r G L m M =>
  cases(show u=Value.ref a from d);obtain⟨S,O,_⟩:=Fo I.hok f;obtain⟨T,J,_⟩:=O.look;exact PySem.W.kia_one (PySem.W.kitx_own (r.get _) r.hd G L m M) I.kIn J e (λz=>nomatch z) h
end
structure JQ(k:Nat)(A:IR):Prop where
 hd:A.handled=none
 dp:A.depth+3*k+5<recursionLimit
 un:A.units+16*k+200<cLine
def JQ.mono{j k:Nat}{A:IR}(r:JQ k A)(h:j<=k):JQ j A:=⟨r.hd,by have:=r.dp;lia,by have:=r.un;lia⟩
def JQ.deeper{k:Nat}{A:IR}(r:JQ (k+1) A)(a:PR):JQ k (A.deeper a) :=
 ⟨r.hd,by have:=r.dp;show A.depth+1+3*k+5<_;lia,by have:=r.un;show A.units+3+16*k+200<_;lia⟩
def Nu{A:IR}{C:A3}{us:A1 A2}{a:A1 (Str×A2)}:(A.under (.builtin "type.__call__" ⟨.ref C::us,a⟩)).depth=A.depth+1:=by
 first | rfl | simp[Around.under,Code.weight,Code.isCreation,Code.isGuard,Code.isCaller,Code.frames,Code.isFrame,guardIds]
def Oj{A:IR}{C:A3}{us:A1 A2}{a:A1 (Str×A2)}:(A.under (.builtin "type.__call__" ⟨.ref C::us,a⟩)).units=A.units+1:=by
 first | rfl | simp[Around.under,Code.cUnits,Code.frames,Code.isFrame]
def JQ.make{k:Nat}{A:IR}(r:JQ (k+1) A)(C:A3)(us:A1 A2)(a:A1 (Str×A2)):JQ k (A.under (.builtin "type.__call__" ⟨.ref C::us,a⟩)) :=
 ⟨r.hd,by have:=r.dp;rw[Nu];lia,by have:=r.un;rw[Oj];lia⟩
def JQ.depth{k:Nat}{A:IR}(r:JQ k A):A.depth<recursionLimit:=by have:=r.dp;lia
def JQ.units{k:Nat}{A:IR}(r:JQ k A):A.units+64<cLine:=by have:=r.un;lia
def Yw:TA:=λ_ H Q=>Q [] H
def Wd(a:TE)(b:TA):TA:=λσ H Q=>a σ H λx c=>b σ c λd e=>Q (x::d) e
section
variable{X:Cx}{e:IQ}{es:A1 IQ}{te:TE}{t:TA}{pos:Pos}
theorem B1:PA X [] Yw:=λ_ _ _ _ H Q I h=>Calls.spliced_nil ⟨[],H,I,.nil,h⟩
theorem A8(b:PE X e te)(c:PA X es t)(d:starEach (e::es) X.env =(false,eval e X.env)::starEach es X.env:=by rfl):PA X (e::es) (Wd te t):=by
 intro pos a s σ H Q I h;rw[d];show wpAny _ _ (spliced ((false,eval e X.env)::backTo pos (starEach es X.env))) _ _ s;refine Calls.spliced_cons (JI (b a s σ H _ I h) λu f ⟨x,g,i,j,k⟩=>?_);exact JI (c pos a f σ g _ i k) λq r ⟨l,m,n,o,p⟩=>⟨x::l,m,n,.cons j o,p⟩
def zIh(t:TA):TE:=λσ H Q=>t σ H λa b=>a.length<=sizeLine/\∀p,b p=none->Q (.ref p) (IK b p (.tup a))
def zHe(t:TA):TE:=λσ H Q=>t σ H λa b=>a.length<=sizeLine/\∀p,b p=none->Q (.ref p) (IK b p (.lst a))
theorem E3{g}(h:PA X es t):PE X (.Tuple es g pos) (zIh t):=by
 intro a s σ H Q I i;refine wpAny_Tuple_spliced (JI (h pos a s σ H _ I i) λj c ⟨k,d,f,r,z,q⟩=>⟨by rw[<-r.length];exact z,?_⟩);have l:d c.heap.objs.size=none:=f.hok.fresh (Nat.le_refl _);refine⟨.ref c.heap.objs.size,IK d c.heap.objs.size (.tup k),f.laid (t':=c.toks) (λb u e=>AG _ e) (Nat.le_refl _) ?_,rfl,q _ l⟩;exact⟨z,j,r,⟨_,AS _ rfl,rfl,_,rfl⟩⟩
theorem Q5(h:PA X es t):PE X (.List es pos) (zHe t):=by
 intro a s σ H Q I g;refine wpAny_List_spliced (JI (h pos a s σ H _ I g) λi c ⟨j,d,f,r,z,q⟩=>⟨by rw[<-r.length];exact z,?_⟩);have k:d c.heap.objs.size=none:=f.hok.fresh (Nat.le_refl _);refine⟨.ref c.heap.objs.size,IK d c.heap.objs.size (.lst j),f.laid (t':=c.toks) (λb u e=>AG _ e) (Nat.le_refl _) ?_,rfl,q _ k⟩;exact⟨z,i,0,r,AS _ rfl⟩
end
abbrev Sp:=A1 V->Hp->VK->XK->Prop
abbrev RT:=A1 PR->Hp->A4->XK->A2->A4->Prop
structure P7(P:A7)(w:F8)(K:PySem.W.Frag)(mg:Str->A5 A2)(base:IM)(A:IR)(outer:A1 PR)(s:A4)(H:Hp):Prop where
 frames:A.frames=some outer
 mod:Mod K mg base
 bs:∀b o,base.get? b=some o->s.heap.get? b=some o/\H b=none
 bsz:base.objs.size<=s.heap.objs.size
 funs:s.heap.FunFrames base outer
 frf:∀b∈QD outer,H b=none
 hok:MO P w H s.heap
 bare:AllBare s.gens
def CE(a:A1 PR)(P:A7)(w:F8)(H:Hp)(s:A4)(Q:VK)(u:A2)(b:A4):Prop :=
 ∃v c,b.os=s.os/\AllBare b.gens/\Un (QD a) [] H c s.heap b.heap/\MO P w c b.heap/\RelV v u/\Q v c
def CR(c:RT)(a:A1 PR)(P:A7)(w:F8)(H:Hp)(s:A4)(Q:VK)(E:XK)(r:Result)(b:A4):Prop :=
 match r with
 | .ok (.ret u)=>CE a P w H s Q u b
 | .ok _=>False
 | .error e=>c a H s E e b
structure IU(P:A7)(w:F8)(K:PySem.W.Frag)(mg:Str->A5 A2)(base:IM)(CX:RT)(k:Nat)(f:A3)(fd:JA)(ps:A1 Str)(sp:Sp):Prop where
 len:∀vs H Q E,sp vs H Q E->vs.length=ps.length
 run:∀(A:IR) (outer:A1 PR) (s:A4) (H:Hp) (args:Args) (us:A1 A2) (vs:A1 V) (Q:VK) (E:XK),JQ k A->P7 P w K mg base A outer s H->BindsTo s fd args (ps.zip us)->IV vs us->sp vs H Q E ->
  codeAny (model P w) A (.call (.ref f) args) (CR CX outer P w H s Q E) s
def IU.mono{P:A7}{w:F8}{K:PySem.W.Frag}{mg:Str->A5 A2}{base:IM}{b:RT}{j k:Nat}{f:A3}{c:JA}{d:A1 Str}{sp:Sp}(F:IU P w K mg base b j f c d sp)(h:j<=k) :
  IU P w K mg base b k f c d sp:=⟨F.len,λA a s H args e g Q E i=>F.run A a s H args e g Q E (i.mono h)⟩
def P7.make{P:A7}{w:F8}{K:PySem.W.Frag}{mg:Str->A5 A2}{base:IM}{A:IR}{a:A1 PR}{s:A4}{H:Hp}(e:P7 P w K mg base A a s H)(C:A3)(us:A1 A2)(b:A1 (Str×A2)) :
  P7 P w K mg base (A.under (.builtin "type.__call__" ⟨.ref C::us,b⟩)) a s H:=⟨by first | exact e.frames | (simpa [Around.under,Code.envs,Code.isFrame,pushEnvs] using e.frames),e.mod,e.bs,e.bsz,e.funs,e.frf,e.hok,e.bare⟩
section
variable{X:Cx}{pins:A1 (A3×Obj)}{σ:St}{H:Hp}{s s':A4}
theorem Inv.env0(I:Inv X pins σ H s):P7 X.prog X.w X.K X.mg X.base X.A X.stack s H :=
 ⟨I.ok.frames,I.ok.mod,I.bs,Nat.le_trans I.ok.bsz I.sz,I.stack,I.stkFree,I.hok,I.bare⟩
theorem Inv.after{Q:VK}{u:A2}(I:Inv X pins σ H s)(h:CE X.stack X.prog X.w H s Q u s'):EP X pins σ Q u s':=by
 obtain⟨v,f,os,a,i,c,r,q⟩:=h;obtain⟨j,g,d,t,e⟩:=s';obtain rfl:e=s.os:=os;exact⟨v,f,I.call (h':=j) (g':=g) (d':=d) (t':=t) (ch:=[]) i c a (λb z=>absurd z (by simp)),r,q⟩
end
def Ys(sp:Sp)(a:A1 V)(E:XK)(t:TA):TE:=λσ H Q=>t σ H λb c=>sp (b++a) c Q E
def zEk(C:A3)(m:Str)(sp:Sp)(b:A1 V)(E:XK)(e:TE)(t:TA):TE:=λσ H Q=>e σ H λx c=>∃a f d,x = .ref a/\c a=some (.ins C f d)/\d.lookup m=none /\
 t σ c λg h=>sp (x ::(g++b)) h Q E
def zEw(C:A3)(sp:Sp)(b:A1 V)(E:XK)(t:TA):TE:=λσ H Q=>t σ H λd c=>∀x a,c x=none->c a=none->a≠x ->
 sp (.ref x ::(d++b)) (IK (IK c a (.own x)) x (.ins C a [])) (λv e=>v = .non/\Q (.ref x) e) E
def Binds(K:PySem.W.Frag)(c:JA)(b:A1 Str)(ds:A1 A2):Prop :=
 ∀(s:A4) (a:A1 A2),K.In s.heap->(a++ds).length=b.length->BindsTo s c ⟨a,[]⟩ (b.zip (a++ds))
def Binds.all{K:PySem.W.Frag}{b:JA}{a:A1 Str}(h:∀us:A1 A2,us.length=a.length->bindArgs b ⟨us,[]⟩=pure (a.zip us)):Binds K b a []:=λs us _ c=>by
 rw[BU]at c⊢;exact .of_eq (h us c)
def Al(c:RT)(X:Cx)(E:XK):Prop:=∀(a:A1 (A3×Obj)) (σ:St) (H:Hp) (s:A4) (e:A2) (b:A4),Inv X a σ H s->c X.stack H s E e b->X.xe e b
section
variable{X:Cx}{CX:RT}{k:Nat}{f C:A3}{fd:JA}{ps:A1 Str}{sp:Sp}{dvs:A1 V}{ds:A1 A2}{E:XK}{x m:Str}{p pos apos:Pos}{e o:IQ}{es:A1 IQ}{ta:TE}{t:TA}
theorem Lw{a:A1 (A3×Obj)}{σ:St}{H:Hp}{s:A4}{Q:VK}{us:A1 A2}{vs:A1 V}(F:IU X.prog X.w X.K X.mg X.base CX k f fd ps sp)(d:JQ k X.A)(g:Binds X.K fd ps ds)(i:IV dvs ds)(j:Al CX X E)
  (I:Inv X a σ H s) (r:IV vs us) (h:sp (vs++dvs) H Q E):wpAny (model X.prog X.w) X.A (call (.ref f) us) (EP X a σ Q) X.xe s:=by
 have c:IV (vs++dvs) (us++ds):=r.append i;have l:(us++ds).length=ps.length:=by rw[<-c.length];exact F.len _ _ _ _ h
 refine wpAny_call (codeAny_mono (F.run X.A X.stack s H ⟨us,[]⟩ (us++ds) (vs++dvs) Q E d I.env0 (g s us I.kIn l) c h) λr m b=>?_);cases r with
 | error e=>exact j a σ H s e m I b
 | ok n =>
  cases n with
  | ret u=>exact I.after b
  | next=>exact False.elim b
  | brk=>exact False.elim b
  | cont=>exact False.elim b
theorem Yk(F:IU X.prog X.w X.K X.mg X.base CX k f fd ps sp)(g:JQ k X.A)(i:Gl X x)(j:X.mg x=some (.ref f))(l:PySem.W.keepIn X.K (.ref f)=true)(m:Binds X.K fd ps ds)(n:IV dvs ds)(o:Al CX X E)
  (u:PA X (e::es) t) (b:(x ==("__debug__":Str))=false:=by decide) (v:starEach (e::es) X.env =(false,eval e X.env)::starEach es X.env:=by rfl) (c:(backTo pos (starEach es X.env)).any (·.1)=false:=by rfl) :
  PE X (.Call (.Name x p) (e::es) [] pos) (Ys sp dvs E t):=by
 intro a s σ H Q I h;refine EX (Km I i j ?_ b);refine PySem.W.callWith_K (h₀:=X.base) I.ok.mod.kin l (JI (u pos a s σ H _ I h) λy z ⟨B,C,d,r,q⟩=>⟨d.kIn,?_⟩) v c;exact Lw F g m n o d r q
theorem D8{pl:Sem Bool}(v:PE X o ta)(c:RC X.K C)(i:SE X.K C m f)(F:IU X.prog X.w X.K X.mg X.base CX k f fd ps sp)(y:JQ k X.A)(z:Binds X.K fd ps ds)(B:IV dvs ds)(D:Al CX X E)(G:PA X (e::es) t)
  (d:starEach (e::es) X.env =(false,eval e X.env)::starEach es X.env:=by rfl) (g:(backTo pos (starEach es X.env)).any (·.1)=false:=by rfl)
  (J:eval (.Call (.Attribute o m apos) (e::es) [] pos) X.env =(do
   let j <-eval o X.env
   standAt apos.atName
   let(f,first) <-holding [j] (getMethod j m pl)
   callWith pos f first (backTo pos (starEach (e::es) X.env)) (backToKw pos (keywordEach [] X.env))):=by rfl) :
  PE X (.Call (.Attribute o m apos) (e::es) [] pos) (zEk C m sp dvs E ta t):=by
 intro b s σ H Q I h;refine PySem.W.methodCall_KW (pl:=pl) (JI (v b s σ H _ I h) λu L ⟨x,M,n,N,a,S,T,O,P,l,q⟩=>?_) J;subst O;obtain rfl:u=Value.ref a:=N;refine Dp n P c i l ?_;refine PySem.W.callWith_K (first:=[.ref a]) (h₀:=X.base) I.ok.mod.kin i.kp (JI (G pos b L σ M _ n q) λus U ⟨vs,V,p,r,R⟩=>⟨p.kIn,?_⟩) d g;exact Lw (us:=.ref a::us) (vs:=.ref a::vs) F y z B D p (.cons rfl r) R
theorem U9{pl:Sem Bool}(i:PE X o ta)(c:RC X.K C)(e:SE X.K C m f)(F:IU X.prog X.w X.K X.mg X.base CX k f fd ps sp)(j:JQ k X.A)(n:Binds X.K fd ps ds)(p:IV dvs ds)(r:Al CX X E)
  (t:eval (.Call (.Attribute o m apos) [] [] pos) X.env =(do
   let g <-eval o X.env
   standAt apos.atName
   let(f,first) <-holding [g] (getMethod g m pl)
   callWith pos f first (backTo pos (starEach [] X.env)) (backToKw pos (keywordEach [] X.env))):=by rfl) :
  PE X (.Call (.Attribute o m apos) [] [] pos) (zEk C m sp dvs E ta Yw):=by
 intro b s σ H Q I h;refine PySem.W.methodCall_KW (pl:=pl) (JI (i b s σ H _ I h) λu B ⟨x,D,d,v,a,G,J,y,z,l,q⟩=>?_) t;subst y;obtain rfl:u=Value.ref a:=v;refine Dp d z c e l ?_;exact PySem.W.callWith_K0 (first:=[.ref a]) d.kIn e.kp (Lw (us:=[.ref a]) (vs:=[.ref a]) F j n p r d (.cons rfl .nil) q)
structure Mk(K:PySem.W.Frag)(C f:A3):Prop where
 makes:PySem.W.makesIn K C=true
 init:PySem.W.findIn K (.ref C) "__init__" = some (some (.ref f))
 fn:PySem.W.isFn K (.ref f)=true
 kp:PySem.W.keepIn K (.ref C)=true
theorem Wz{a:A1 (A3×Obj)}{σ:St}{H:Hp}{s:A4}{Q:VK}{us:A1 A2}{vs:A1 V}(M:Mk X.K C f)(F:IU X.prog X.w X.K X.mg X.base CX k f fd ps sp)(j:JQ (k+1) X.A)(l:Binds X.K fd ps ds)(m:IV dvs ds)
  (n:Al CX X E) (I:Inv X a σ H s) (r:IV vs us)
  (h:∀x c,H x=none->H c=none->c≠x->sp (.ref x ::(vs++dvs)) (IK (IK H c (.own x)) x (.ins C c [])) (λv o=>v = .non/\Q (.ref x) o) E) :
  wpAny (model X.prog X.w) X.A (call (.ref C) us) (EP X a σ Q) X.xe s:=by
 have g:=h (s.heap.objs.size+1) s.heap.objs.size (I.hok.fresh (EN _)) (I.hok.fresh (Nat.le_refl _)) (BI (EW _));have d:=Inv.made (C:=C) I;have i:IV (V.ref (s.heap.objs.size+1) ::(vs++dvs)) (Value.ref (s.heap.objs.size+1) ::(us++ds)):=.cons rfl (r.append m);have p:(Value.ref (s.heap.objs.size+1)::us++ds).length=ps.length:=by
  have e:=i.length;rw[F.len _ _ _ _ g]at e;exact e.symm
 refine wpAny_call (Wf (f:=f) I.kIn M.makes M.init (beq_iff_eq.mp M.fn) (codeAny_mono (F.run _ X.stack _ _ ⟨Value.ref (s.heap.objs.size+1)::us,[]⟩ (Value.ref (s.heap.objs.size+1) ::(us++ds)) _ _ E (j.make C us [])
  (d.env0.make C us []) (l _ (Value.ref (s.heap.objs.size+1)::us) d.kIn p) i g) λr q b=>?_))
 cases r with
 | error e=>exact n a σ _ _ e q d b
 | ok t =>
  cases t with
  | ret u =>
   obtain⟨v,y,z,B,D,G⟩:=d.after b;subst D;exact⟨B,⟨V.ref (s.heap.objs.size+1),y,z,rfl,G⟩⟩
  | next=>exact False.elim b
  | brk=>exact False.elim b
  | cont=>exact False.elim b
theorem Ps(M:Mk X.K C f)(F:IU X.prog X.w X.K X.mg X.base CX k f fd ps sp)(g:JQ (k+1) X.A)(i:Gl X x)(j:X.mg x=some (.ref C))(l:Binds X.K fd ps ds)(m:IV dvs ds)(n:Al CX X E)
  (o:PA X (e::es) t) (b:(x ==("__debug__":Str))=false:=by decide) (u:starEach (e::es) X.env =(false,eval e X.env)::starEach es X.env:=by rfl) (c:(backTo pos (starEach es X.env)).any (·.1)=false:=by rfl) :
  PE X (.Call (.Name x p) (e::es) [] pos) (zEw C sp dvs E t):=by
 intro a s σ H Q I h;refine EX (Km I i j ?_ b);refine PySem.W.callWith_K (h₀:=X.base) I.ok.mod.kin M.kp (JI (o pos a s σ H _ I h) λv y ⟨z,B,d,r,q⟩=>⟨d.kIn,?_⟩) u c;exact Wz M F g l m n d r q
end
structure IL(N P:A1 Str)(sc:JH):Prop where
 kind:sc.kind = .function
 co:sc.isCoroutine=false
 gen:sc.isGenerator=false
 nd:N.Nodup
 pre:N.take P.length=P
 par:∀x∈P,sc.names.lookup x=some .local\/sc.names.lookup x=some .cell
 nofree:∀y∈sc.names,y.2≠ .free
def Im{kindOf:Str->A5 KH}{x:Str}:∀{a:A1 (Str×A2)} {m:Str->A5 A2},(∀v,(x,v)∉a)->bindL kindOf a m x=m x
 | [],_,_=>rfl
 | (n,v)::r,m,h=>by
  unfold bindL;rw[Im λw b=>h w (BD _ b)];split
  .have:x≠n:=by rintro rfl;exact h v BO
   simp[this]
  .rfl
def Ii{kindOf:Str->A5 KH}{x:Str}:∀{a:A1 (Str×A2)} {m:Str->A5 A2},(∀v,(x,v)∉a)->bindC kindOf a m x=m x
 | [],_,_=>rfl
 | (n,v)::r,m,h=>by
  unfold bindC;rw[Ii λw b=>h w (BD _ b)];split
  .rfl
  .have:x≠n:=by rintro rfl;exact h v BO
   simp[this]
def Gk{kindOf:Str->A5 KH}{x:Str}{v:A2}:∀{P:A1 Str} {vs:A1 A2} {i:Nat} {m:Str->A5 A2},P.Nodup->P[i]?=some x->vs[i]?=some v->kindOf x=some .local ->
  bindL kindOf (P.zip vs) m x=some v
 | [],_,_,_,_,h,_,_=>by simp at h
 | _::_,[],_,_,_,_,h,_=>by simp at h
 | p::P,w::vs,0,m,c,a,b,d=>by
  simp at a b;subst a;subst b;show bindL kindOf ((p,w)::P.zip vs) m p=_;unfold bindL;rw[Im λv e=>(BX.mp c).1 (FR e).1,AL d];simp
 | p::P,w::vs,i+1,m,c,a,b,d=>by
  show bindL kindOf ((p,w)::P.zip vs) m x=_;unfold bindL;exact Gk (i:=i) (BX.mp c).2 (by simpa using a) (by simpa using b) d
def Go{kindOf:Str->A5 KH}{x:Str}{v:A2}:∀{P:A1 Str} {vs:A1 A2} {i:Nat} {m:Str->A5 A2},P.Nodup->P[i]?=some x->vs[i]?=some v->kindOf x≠some .local ->
  bindC kindOf (P.zip vs) m x=some v
 | [],_,_,_,_,h,_,_=>by simp at h
 | _::_,[],_,_,_,_,h,_=>by simp at h
 | p::P,w::vs,0,m,c,a,b,d=>by
  simp at a b;subst a;subst b;show bindC kindOf ((p,w)::P.zip vs) m p=_;unfold bindC;rw[Ii λv e=>(BX.mp c).1 (FR e).1,AJ d];simp
 | p::P,w::vs,i+1,m,c,a,b,d=>by
  show bindC kindOf ((p,w)::P.zip vs) m x=_;unfold bindC;exact Go (i:=i) (BX.mp c).2 (by simpa using a) (by simpa using b) d
def Bl(N:A1 Str)(vs:A1 V):St:=vs.map some++List.replicate (N.length-vs.length) none
def Vv(g:RT)(P:A7)(w:F8)(K:PySem.W.Frag)(mg:Str->A5 A2)(base:IM)(N:A1 Str)(b:Str)(a:JH)(f:A3)(d:A2)(A:IR)(outer:A1 PR)(s:A4)(H:Hp)(E:XK):Cx where
 prog:=P
 w:=w
 K:=K
 mg:=mg
 base:=base
 A:=A.deeper (envOfC b a s.heap.objs.size f d)
 N:=N
 s₀:=s
 H₀:=H
 env:=envOfC b a s.heap.objs.size f d
 outer:=outer
 stack:=envOfC b a s.heap.objs.size f d::outer
 ex:=[]
 calm:=true
 fn:=λ_=>true
 pn:=[]
 xe:=λe h=>wpAny (model P w) (A.deeper (envOfC b a s.heap.objs.size f d)) (leaving (envOfC b a s.heap.objs.size f d) e) (λ_ c=>g outer H s E e c) (λi c=>g outer H s E i c) h
def Lv{a:JH}{n:Nat}{x:Str}(h:a.names.lookup x=some .cell):∃c,(cellsFrom n a.names []).lookup x=some c:=by
 have q:=PySem.W.cellsFrom_some a.names n [] (.inl h);exact EE.mp q
def Tg{I:RT}{P:A7}{w:F8}{K:PySem.W.Frag}{mg:Str->A5 A2}{base:IM}{N o:A1 Str}{j:Str}{d:JH}{f:A3}{D:A2}{A:IR}{g:A1 PR}{s J:A4}{H:Hp}{E:XK}{us:A1 A2}{vs:A1 V}
  (S:IL N o d) (O:A.handled=none) (m:P7 P w K mg base A g s H) (U:vs.length=o.length) (r:IV vs us)
  (x:InCallC s s.heap.objs.size (bindL (envOfC j d s.heap.objs.size f D).kindOf (o.zip us) λ_=>none) (cellsFrom (s.heap.objs.size+1) d.names []) (bindC (envOfC j d s.heap.objs.size f D).kindOf (o.zip us) λ_=>none) J) :
  Inv (Vv I P w K mg base N j d f D A g s H E) [] (Bl N vs) H J:=by
 have Q:o.length<=N.length:=by have:=congrArg List.length S.pre;rw[AZ]at this;lia
 obtain⟨F,X,rfl,L⟩:=x.done;have t:∀b:A3,b∉(Vv I P w K mg base N j d f D A g s H E).ex:=λb z=>absurd (show b∈([]:A1 A3)from z) (by simp);refine⟨⟨m.mod,S.kind,rfl,rfl,Nat.le_refl _,λy z c F l=>?_,λy hy=>?_,λy c _ h=>?_,λ_=>O,Around.frames_deeper m.frames,.inr ⟨rfl,rfl⟩,λb z=>absurd z (t b),m.bs,m.bsz,λb _ _=>t b,λb z=>absurd z (t b),m.funs,m.frf⟩,
  rfl,m.bare,Un.kept L,⟨_,x.toInCall.ns,λi y v F l Y=>?_⟩,λy c h=>⟨_,x.cell y c h⟩,m.hok.fresh (Nat.le_refl _),λy c h=>?_,λp B=>absurd (show p∈([]:A1 (A3×Obj))from B) (by simp),m.hok.kept L,?_⟩
 .exact name_of_addr x.apart (PySem.mem_of_lookup F) (PySem.mem_of_lookup l)
 .have hy:d.names.lookup y=some .cell\/d.names.lookup y=some .free:=hy;rcases hy with hy | hy
  .exact Lv hy
  .exact absurd rfl (S.nofree _ (PySem.mem_of_lookup hy))
 .exact DL (x.above y c (PySem.mem_of_lookup h))
 .have G:i<vs.length:=by
   unfold Bl at l;by_cases G:i<vs.length
   .exact G
   .rw[DW (by simpa using G)]at l;rw[List.getElem?_replicate]at l;split at l<;>cases l
  have R:vs[i]?=some v:=by
   unfold Bl at l;rw[EA (by simpa using G),AH]at l;cases e:vs[i]? with
   | none=>rw[e]at l;cases l
   | some a=>rw[e]at l;cases l;rfl
  obtain⟨u,M,T⟩:=r.get R;have B:o[i]?=some y:=by
   rw[<-S.pre,DP (by lia)];exact F
  have C:o.Nodup:=by rw[<-S.pre];exact S.nd.sublist (FD _ _)
  refine⟨u,T,?_⟩;rcases S.par y (AI B)with k | k
  .exact .inl ⟨k,Gk C B M k⟩
  .obtain⟨c,e⟩:=Lv (n:=s.heap.objs.size+1) k;refine .inr ⟨.inl k,c,e,?_⟩;have q:=x.cell y c e;rw[Go C B M (by show d.names.lookup y≠_;rw[k];decide)]at q;exact q
 .exact m.hok.fresh (DL (x.above y c (PySem.mem_of_lookup h)))
 .unfold Bl;show _=N.length;rw[AW,AB,GR];lia
def zBr{F:RT}{P:A7}{w:F8}{K:PySem.W.Frag}{mg:Str->A5 A2}{base:IM}{k:Nat}{f:A3}{name d:Str}{h:Arguments}{i:A1 I7}{a:JH}{X kV p Y g ct oc:A2}{Z od:A5 A3}
  {L:CW (A5 A2)} {N G:A1 Str} {sp:Sp} (lk:K.lookup f=some ⟨oc,od,.func (PySem.W.fnOf name d h i a X kV p Y Z g ct),L⟩) (M:PySem.W.codeIn K g d=true) (S:IL N G a)
  (z:∀vs H Q E,sp vs H Q E->vs.length=G.length)
  (j:∀(A:IR) (c:A1 PR) (s:A4) (H:Hp) (vs:A1 V) (Q:VK) (E:XK),JQ k (A.deeper (envOfC d a s.heap.objs.size f g))->sp vs H Q E ->
   ∃t,QN (Vv F P w K mg base N d a f g A c s H E) i t/\t { nx:=λ_ H'=>Q .non H',rt:=Q } (Bl N vs) H) :
  IU P w K mg base F (k+1) f (PySem.W.fnOf name d h i a X kV p Y Z g ct) G sp:=by
 refine⟨z,λA c s H args us vs Q E O B hb r C=>?_⟩;have hl:=z _ _ _ _ C;have KX:K.In s.heap:=B.mod.kin.keeps λb o e=>(B.bs b o e).1;have R:s.heap.NoLimit:=B.mod.nolimit.keeps λb o e=>(B.bs b o e).1;have l:∀y∈G.zip us,a.names.lookup y.1=some .local\/(a.names.lookup y.1=some .cell/\((cellsFrom (s.heap.objs.size+1) a.names []).lookup y.1).isSome=true):=λ⟨n,v⟩ hy=>by
  rcases S.par n (FR hy).1 with q | q
  .exact .inl q
  .exact .inr ⟨q,PySem.W.cellsFrom_some _ _ _ (.inl q)⟩
 refine codeAny_call_function O.depth (KX _ _ lk) rfl S.co S.gen rfl (PySem.W.codeRec_of KX M) (hb _ _ _ _ ?_);refine wpAny_newFunctionEnv_cells S.kind l λenv he s1 x=>?_;subst he;refine⟨R.keeps x.toInCall.keep,codeAny_func ?_⟩;obtain⟨t,ht,hq⟩:=j A c s H vs Q E (O.deeper _) C;have I:Inv (Vv F P w K mg base N d a f g A c s H E) [] (Bl N vs) H s1:=Tg S O.hd B hl r x;refine B_ (ht [] s1 (Bl N vs) H _ I hq) (λfl T m=>?_) λe T m=>m;have D:∀{σ':St} {H':Hp} {v:V} {u:A2},Inv (Vv F P w K mg base N d a f g A c s H E) [] σ' H' T->RelV v u->Q v H'->CE c P w H s Q u T :=
  fun{σ' H' v u} J U q=>⟨v,H',J.os,J.bare,J.base,J.hok,U,q⟩
 cases fl with
 | ret u =>
  obtain⟨v,σ',H',J,U,q⟩:=m;exact D J U q
 | next =>
  obtain⟨σ',H',J,q⟩:=m;exact D (v:=V.non) (u:=Value.none) J rfl q
 | brk =>
  obtain⟨_,_,_,q⟩:=m;exact False.elim q
 | cont =>
  obtain⟨_,_,_,q⟩:=m;exact False.elim q
section
variable{X:Cx}{x:Str}{p pos:Pos}{e:IQ}{es:A1 IQ}{t:TA}{id T:String}{r:A1 V->Hp->VK->Prop}
def SN(r:A1 V->Hp->VK->Prop)(t:TA):TE:=λσ H Q=>t σ H λa b=>r a b Q
theorem Uw(d:O0 X (.builtin id) r)(f:Gl X x)(g:X.mg x=none)(i:bootBuiltins x=some (.builtin id))(j:PA X (e::es) t)(k:x≠ "__name__":=by decide)(b:(x ==("__debug__":Str))=false:=by decide)
  (l:starEach (e::es) X.env =(false,eval e X.env)::starEach es X.env:=by rfl) (c:(backTo pos (starEach es X.env)).any (·.1)=false:=by rfl):PE X (.Call (.Name x p) (e::es) [] pos) (SN r t):=by
 intro a s σ H Q I h;refine EX (o7 I f g i ?_ k b);exact PyProof.Rows.callWith_builtin1 (JI (j pos a s σ H _ I h) λm n ⟨o,q,u,v,w⟩=>d a n σ q o m Q u v w) l c
theorem Sr(d:O0 X (.type T) r)(f:Gl X x)(g:X.mg x=none)(i:bootBuiltins x=some (.type T))(j:PA X (e::es) t)(k:x≠ "__name__":=by decide)(b:(x ==("__debug__":Str))=false:=by decide)
  (l:starEach (e::es) X.env =(false,eval e X.env)::starEach es X.env:=by rfl) (c:(backTo pos (starEach es X.env)).any (·.1)=false:=by rfl):PE X (.Call (.Name x p) (e::es) [] pos) (SN r t):=by
 intro a s σ H Q I h;refine EX (o7 I f g i ?_ k b);exact PyProof.Rows.callWith_type1 (JI (j pos a s σ H _ I h) λm n ⟨o,q,u,v,w⟩=>d a n σ q o m Q u v w) l c
theorem Dl(c:O0 X (.type T) r)(d:Gl X x)(e:X.mg x=none)(f:bootBuiltins x=some (.type T))(g:x≠ "__name__":=by decide)(b:(x ==("__debug__":Str))=false:=by decide) :
  PE X (.Call (.Name x p) [] [] pos) (SN r Yw):=by
 intro a s σ H Q I h;refine EX (o7 I d e f ?_ g b);exact PyProof.Rows.callWith_type0 (c a s σ H [] [] Q I .nil h)
end
end L2
namespace HT
open PySem PyProof.Rows
def lexLt:A1 Int->A1 Int->Bool
 | [],[]=>false
 | [],_::_=>true
 | _::_,[]=>false
 | x::a,y::b=>if x=y then lexLt a b else decide (x<y)
def Ny(x y:Int)(xs a:A1 Int):lexLt (x::xs) (y::a)=if x=y then lexLt xs a else decide (x<y):=rfl
def El:lexLt [] []=false:=rfl
def Cu(y:Int)(a:A1 Int):lexLt [] (y::a)=true:=rfl
def Ct(x:Int)(xs:A1 Int):lexLt (x::xs) []=false:=rfl
def Vg(A:IR)(s:A4)(a:Int)(t:Tok)(c:Int)(u:Tok):∃e,SeqAt.EqAt A s (.int a t) (.int c u) e/\(e=true↔a=c) :=
 ⟨(a == c),SeqAt.EqAt.int_int a t c u,by simp⟩
def Vy(A:IR)(s:A4)(a:Int)(t:Tok)(c:Int)(u:Tok)(prog:A7)(w:F8)(E:A2->A4->Prop)(Q:A2->A4->Prop)(h:Q (.bool (decide (a<c))) s) :
  wpAny (model prog w) A (richCompare .Lt (.int a t) (.int c u)) Q E s :=
 (PyProof.Rows.lt_int h:wpAny (model prog w) A (compareOp .Lt (.int a t) (.int c u)) Q E s)
section
open PySem.SeqAt
open PySem.AutoSeq1 (wpAny_loadPart')
open PySem.MeetsSeq PySem.MeetsSeq2 PySem.MeetsSeq3
def Dy(l b:A3)(items f:CW A2)(n T:Nat)(U L:A5 A3)(V M:CW (A5 A2))(ns G:A1 Int)(hi:IntsAre items.toList ns)(Q:IntsAre f.toList G) :
  Meets (Builtin.«tuple.__lt__» ⟨[.ref l,.ref b],[]⟩)
   (λ_ R s=>s.heap.get? l=some { cls:=.type "tuple",dict:=U,data:=.seq items n,slots:=V }/\s.heap.get? b=some { cls:=.type "tuple",dict:=L,data:=.seq f T,slots:=M } /\
    R (.ok (.ret (.bool (lexLt ns G)))) s) :=
 .of_wp λp w A R s h=>by
  obtain⟨H,g,d,I,os⟩:=s;obtain⟨W,X,h⟩:=h;have f2:=AutoSeq1.sub_tuple_tuple;have z1:items.size=ns.length:=by rw[<-hi.length];simp
  have z2:f.size=G.length:=by rw[<-Q.length];simp
  wp_walk using wpAny_loadPart' W,wpAny_loadPart' X,wpAny_forIn_list _ (λr b N=>b.1=none/\N =⟨H,g,d,I,os⟩/\∃(J K:A1 A2) (j k:A1 Int),r=J.zip K /\
   IntsAre J j/\IntsAre K k/\j.length+f.size=k.length+items.size/\R (.ok (.ret (.bool (lexLt j k)))) ⟨H,g,d,I,os⟩) _
  case turn =>
   rintro⟨y,x⟩ r b N ⟨B,rfl,J,K,j,k,m,C,o,i,v⟩;cases C with
   | nil=>rw[List.zip_nil_left]at m;cases m
   | cons a t E =>
    cases o with
    | nil=>rw[List.zip_nil_right]at m;cases m
    | cons c u F =>
     rw[GM]at m;injection m with O D;injection O with Y Z;subst Y Z;rw[Ny]at v;simp only[AR]at i;obtain⟨e,he,z⟩:=Vg A.in1 ⟨H,g,d,I,os⟩ a t c u;refine AA (he p w _ _ ?_);cases e with
     | true =>
      rw[AL (z.mp rfl)]at v;wp_walk;exact⟨rfl,rfl,_,_,_,_,D,E,F,by lia,v⟩
     | false =>
      rw[AJ (λq=>absurd (z.mpr q) BA)]at v;have P:=Vy A.in1 ⟨H,g,d,I,os⟩ a t c u p w;wp_walk using P;exact⟨_,rfl,by simpa using v⟩
  case fin =>
   rintro⟨b1,b2⟩ N ⟨B,rfl,J,K,j,k,m,C,o,i,v⟩;simp only at B;subst B;have S:lexLt j k=decide (items.size<f.size):=by
    cases C with
    | nil =>
     cases o with
     | nil =>
      simp only[EO]at i;rw[El];exact(BF (by lia)).symm
     | cons c u hw =>
      simp only[EO,AR]at i;rw[Cu];exact(BB (by lia)).symm
    | cons a t S =>
     cases o with
     | nil =>
      simp only[EO,AR]at i;rw[Ct];exact(BF (by lia)).symm
     | cons c u hw =>
      rw[GM]at m;cases m
   rw[S]at v;wp_walk;exact⟨_,rfl,by simpa [Builtin.Tuple.tupleCompareSizes] using v⟩
  case h =>
   exact⟨rfl,rfl,items.toList,f.toList,ns,G,rfl,hi,Q,by lia,h⟩
end
section
variable{prog:A7}{w:F8}{A:IR}{E:A2->A4->Prop}{s:A4}
theorem QO{l b:A3}{items a:CW A2}{ns c:A1 Int}{Q:A2->A4->Prop}(q:IsTup s.heap l items)(r:IsTup s.heap b a)(hi:IntsAre items.toList ns)(t:IntsAre a.toList c)
  (u:A.units<cLine) (h:Q (.bool (lexLt ns c)) s):wpAny (model prog w) A (compareOp .Lt (.ref l) (.ref b)) Q E s:=by
 obtain⟨⟨v,y,j,z⟩,k,m,n,o⟩:=id q;obtain⟨⟨p,g,data2,i⟩,d,e,B,f⟩:=id r;simp only at m o e f;subst m o e f;exact richCompare_meets_room (op:=.Lt) ⟨_,k,rfl⟩ ⟨_,d,rfl⟩ PySem.F.slot_tuple_lt PySem.F.entry_tuple_lt (PySem.F.args_tuple_lt_2 _ _) (Dy l b items a n B y g z i ns c hi t)
  ⟨k,d,show Value.bool (lexLt ns c)≠Value.notImplemented/\Q (.bool (lexLt ns c)) s from⟨(λx=>nomatch x),h⟩⟩ u
theorem R_{t b:A3}{vs a:A1 A2}{Q:A2->A4->Prop}(u:IsTup s.heap t vs.toArray)(v:IsTup s.heap b a.toArray)(k:vs≠[])
  (h1:a = []->Q (.ref t) s) (h2:a≠[]->Q (.ref s.heap.objs.size) { s with heap:=s.heap.push { cls:=.type "tuple",data:=.seq (vs++a).toArray } })
  (hsz:vs.length+a.length<=sizeLine):wpAny (model prog w) A (binaryOp .Add (.ref t) (.ref b)) Q E s:=by
 obtain⟨⟨cls,l,data,m⟩,i,o,n,p⟩:=id u;obtain⟨⟨q,d,data2,f⟩,c,g,r,h⟩:=id v;simp only at o p g h;subst o p g h;have e:vs.toArray++a.toArray =(vs++a).toArray:=by simp
 by_cases j:a = []
 .exact concat_meets ⟨_,i,rfl⟩ ⟨_,c,rfl⟩ noFill_tuple_add seq_tuple_add PySem.F.slot_tuple_add PySem.F.entry_tuple_add (PySem.F.args_tuple_add_2 _ _)
   (tuple_addW1 t b vs.toArray a.toArray n r l d m f (by simpa using k) (by simp[j])) ⟨i,c,h1 j⟩
 .refine concat_meets ⟨_,i,rfl⟩ ⟨_,c,rfl⟩ noFill_tuple_add seq_tuple_add PySem.F.slot_tuple_add PySem.F.entry_tuple_add (PySem.F.args_tuple_add_2 _ _)
   (tuple_addW2 t b vs.toArray a.toArray n r l d m f (by simpa using k) (by simpa using j) (by rw[AV,AV];exact hsz)) ⟨i,c,?_⟩
  rw[e];exact h2 j
end
end HT
namespace L2
open PySem PySem.Spec PyProof.Rows
def y0{ns:A1 Int}:∀{us:A1 A2},IV (ns.map V.int) us->IntsAre us ns:=by
 induction ns with
 | nil=>intro us r;rw[EK]at r;cases r;exact .nil
 | cons n ns a =>
  intro us r;rw[BK]at r;cases r with
  | cons b c =>
   obtain⟨t,e⟩:=b;subst e;exact .cons n t (a c)
section
variable{X:Cx}
def zIg(K:PySem.W.Frag):R2:=λx y H Q=>∃a b c d,x = .ref a/\y = .ref b/\JJ K H a (c.map V.int)/\JJ K H b (d.map V.int)/\Q (.bl (HT.lexLt c d)) H
theorem zCu(i:X.A.units<cLine):LG X (compareOp .Lt) (zIg X.K):=by
 intro e s σ H x y v u Q I j k h;obtain⟨a,b,f,g,rfl,rfl,l,m,q⟩:=h;cases j;cases k;obtain⟨d,n,o,_⟩:=I.tuple l;obtain⟨c,p,p2,_⟩:=I.tuple m;have r:IntsAre d.toArray.toList f:=y0 n;have t:IntsAre c.toArray.toList g:=y0 p;exact HT.QO o p2 r t i ⟨.bl (HT.lexLt f g),H,I,rfl,q⟩
def zFk(K:PySem.W.Frag):R2:=λx y H Q=>∃a b d c,x = .ref a/\y = .ref b/\JJ K H a d/\JJ K H b c/\d≠[]/\d.length+c.length<=sizeLine /\
 (c = []->Q (.ref a) H)/\(c≠[]->∀p,H p=none->Q (.ref p) (IK H p (.tup (d++c))))
theorem IV.nil_iff{xs:A1 V}{us:A1 A2}(r:IV xs us):us = []↔xs = []:=by
 cases r with
 | nil=>simp
 | cons _ _=>simp
theorem zBd:LG X (binaryOp .Add) (zFk X.K):=by
 intro e s σ H x y v u Q I i j h;obtain⟨a,b,k,l,rfl,rfl,m,n,p,f,r,t⟩:=h;cases i;cases j;obtain⟨A,d,B,_⟩:=I.tuple m;obtain⟨g,c,p2,_⟩:=I.tuple n;refine HT.R_ B p2 (λz=>p (d.nil_iff.mp z)) (λz=>⟨.ref a,H,I,rfl,r (c.nil_iff.mp z)⟩) (λz=>?_) (by rw[<-d.length,<-c.length];exact f);refine⟨.ref s.heap.objs.size,_,I.laid (t':=s.toks) (o:=.tup (k++l)) (λb C q=>AG _ q) (Nat.le_refl _) ?_,rfl,t (λw=>z (c.nil_iff.mpr w)) _ (I.hok.fresh (Nat.le_refl _))⟩;exact⟨by rw[AW];exact f,_,d.append c,IsTup.new _ _⟩
end
def RZ(n:Nat)(i:Int):A5 Nat:=if 0<=i then(if i<n then some i.toNat else none)else if -(n:Int)<=i then some (i+n).toNat else none
def RH{α:Type}(xs:A1 α)(i:Int):A5 α:=(RZ xs.length i).bind λj=>xs[j]?
def Si{n:Nat}{i:Int}{j:Nat}(h:RZ n i=some j):seqIndex? i n=some j/\j<n/\-(n:Int)<=i/\i<n:=by
 unfold RZ at h;by_cases b:0<=i
 .rw[AL b]at h;by_cases a:i<n
  .rw[AL a]at h;have e:i.toNat=j:=BH h;exact⟨by rw[seqIndex_of b a,e],by lia,by lia,a⟩
  .rw[AJ a]at h;cases h
 .rw[AJ b]at h;by_cases a:-(n:Int)<=i
  .rw[AL a]at h;have e:(i+n).toNat=j:=BH h;exact⟨by rw[seqIndex_neg (by lia) a,e],by lia,a,by lia⟩
  .rw[AJ a]at h;cases h
def Rk{α:Type}{xs:A1 α}{i:Int}{v:α}(h:RH xs i=some v):∃j,seqIndex? i xs.length=some j/\xs[j]?=some v/\j<xs.length/\-(xs.length:Int)<=i/\i<xs.length:=by
 unfold RH at h;cases e:RZ xs.length i with
 | none=>rw[e]at h;cases h
 | some j =>
  rw[e]at h;obtain⟨a,b,c,d⟩:=Si e;exact⟨j,a,h,b,c,d⟩
def D0{α:Type}{xs:A1 α}{j:Nat}{v:α}(h:xs[j]?=some v):RH xs (j:Int)=some v:=by
 have a:j<xs.length:=(AE.mp h).1;have e:RZ xs.length (j:Int)=some j:=by
  unfold RZ;rw[AL (by lia),AL (by lia)];simp
 unfold RH;rw[e];exact h
def zAa(b:IQ):Prop:=∀o i,subscripted b false o i=operate [o,i] (getItem o i)
def UH(X:Cx)(r:R2):Prop :=
 ∀(c a:IQ) (b:A1 (A3×Obj)) (s:A4) (σ:St) (H:Hp) (x y:V) (v u:A2) (Q:VK),Inv X b σ H s->RelV x v->RelV y u->r x y H Q ->
  subscripted a false v u=operate [v,u] (getItem v u)->wpAny (model X.prog X.w) X.A (subscriptTail c a v u) (EP X b σ Q) X.xe s
def MtR(X:Cx)(id:String)(r:V->A1 V->Hp->VK->Prop):Prop :=
 ∀(a:A1 (A3×Obj)) (s:A4) (σ:St) (H:Hp) (x:V) (b:A1 V) (v:A2) (c:A1 A2) (Q:VK),Inv X a σ H s->RelV x v->IV b c->r x b H Q ->
  wpAny (model X.prog X.w) X.A (call (.builtin id) (v::c)) (EP X a σ Q) X.xe s
section
variable{X:Cx}{a b:IQ}{ta tb:TE}{pos:Pos}
theorem E7{r:R2}(d:UH X r)(e:PE X a ta)(f:PE X b tb)(g:zAa b):PE X (.Subscript a b pos) (tOp r ta tb):=by
 intro c s σ H Q I h;exact Subscript_ (zFo e f I h λv u i x y j k l m q=>d a b c i σ j x y v u Q k l m q (g _ _))
def zGy(K:PySem.W.Frag):R2:=λx y H Q=>∃p a i v,x = .ref p/\y = .int i/\IS K H p a/\RH a i=some v/\Q v H
def zGq(K:PySem.W.Frag):R2:=λx y H Q=>∃p a i v,x = .ref p/\y = .int i/\JJ K H p a/\RH a i=some v/\Q v H
theorem zBg:UH X (zGy X.K):=by
 intro d e a s σ H x y v u Q I A B h m;obtain⟨p,M,i,z,rfl,rfl,C,D,q⟩:=h;cases A;obtain⟨t,rfl⟩:=B;obtain⟨f,r,g,N⟩:=I.list C;obtain⟨j,c,E,O,F,G⟩:=Rk D;obtain⟨w,n,k⟩:=r.get E;have J:=r.length;have P:=Dj;have b:EP X a σ Q w s:=⟨z,H,I,k,q⟩;by_cases o:0<=i
 .have l:i.toNat=j:=by
   rw[seqIndex_of o G]at c;exact BH c
  exact item_listR g.isList o (by lia) (by rw[l];simpa using n) b m
 .have l:(i +(f.toArray.size:Int)).toNat=j:=by
   rw[seqIndex_neg (by lia) F]at c;rw[AV,<-J];exact BH c
  exact subscriptTail_builtinR (x:=w) g.isList.typeIs slot_list_getitem.lookup
   (wpAny_getItem_list_neg (Q:=λr L=>r=w/\EP X a σ Q r L) g.isList (by lia) (by rw[AV]<;>lia) (by lia) (by rw[l];simpa using n) ⟨rfl,b⟩) m
theorem zCy:UH X (zGq X.K):=by
 intro b c a s σ H x y v u Q I g k h l;obtain⟨p,F,i,z,rfl,rfl,m,n,q⟩:=h;cases g;obtain⟨t,rfl⟩:=k;obtain⟨o,r,f,G⟩:=I.tuple m;obtain⟨j,A,B,J,L,M⟩:=Rk n;obtain⟨w,C,d⟩:=r.get B;have D:=r.length;have N:=Dj;have e:EP X a σ Q w s:=⟨z,H,I,d,q⟩;exact subscriptTail_builtinR (x:=w) f.typeIs slot_tuple_getitem.lookup
  (getItem_tuple (j:=j) (Q:=λr E=>r=w/\EP X a σ Q r E) f (by lia) (by lia) (by rw[AV,<-D];exact A) (by simpa using C) ⟨rfl,e⟩) l
theorem Pb(its:A1 A2)(n j:Nat)(u:A2):Obj.mapSeq (·.setIfInBounds j u) { cls:=.type "list",data:=.seq its.toArray n } ={ cls:=.type "list",data:=.seq (its.set j u).toArray n }:=by
 simp[Obj.mapSeq]
theorem Inv.lst{a:A1 (A3×Obj)}{σ:St}{H:Hp}{s:A4}{p:A3}{xs:A1 V}(I:Inv X a σ H s)(h:H p=some (.lst xs)) :
  ∃(its:A1 A2) (n:Nat),IV xs its/\s.heap.get? p=some { cls:=.type "list",data:=.seq its.toArray n }/\xs.length<=sizeLine:=by
 obtain⟨z,its,n,r,e⟩:=I.hok p _ h;exact⟨its,n,r,e,z⟩
theorem Inv.lstUpd{a:A1 (A3×Obj)}{σ:St}{H:Hp}{s:A4}{p:A3}{xs c:A1 V}{its its':A1 A2}{n d:Nat}{f:Obj->Obj}(I:Inv X a σ H s)(h:H p=some (.lst xs))
  (i:s.heap.get? p=some { cls:=.type "list",data:=.seq its.toArray n }) (g:f { cls:=.type "list",data:=.seq its.toArray n } ={ cls:=.type "list",data:=.seq its'.toArray d }) (r:IV c its') (j:c.length<=sizeLine) (t:Nat) :
  Inv X a σ (IK H p (.lst c)) { s with heap:=s.heap.update p f,toks:=t }:=by
 have e:(s.heap.update p f).get? p=some { cls:=.type "list",data:=.seq its'.toArray d }:=by
  rw[DC f i (by rw[g]<;>rfl),g]
 refine I.write (x:=p) (e:=p) (by rw[h];trivial) (.inl rfl) (λb u k q=>(CJ _ _ (Ne.symm k)).trans q) ⟨_,e⟩ ?_;exact⟨j,its',d,r,e⟩
def zFh:V->V->V->Hp->(Hp->Prop)->Prop:=λo i v H Q=>∃p a k j,o = .ref p/\i = .int k/\H p=some (.lst a)/\RZ a.length k=some j/\Q (IK H p (.lst (a.set j v)))
theorem Au:zHd X zFh:=by
 intro a s σ H o i v E F u Q I y z A h;obtain⟨p,B,k,j,rfl,rfl,g,C,q⟩:=h;cases y;obtain⟨t,rfl⟩:=z;obtain⟨b,n,r,d,D⟩:=I.lst g;obtain⟨c,G,l,m⟩:=Si C;have e:=r.length;have J:=Dj;have w:Inv X a σ (IK H p (.lst (B.set j v))) { s with heap:=s.heap.update p (Obj.mapSeq (·.setIfInBounds j u)) } :=
  I.lstUpd g d (Pb b n j u) (r.set A j) (by rw[List.length_set];exact D) s.toks
 by_cases x:0<=k
 .have f:k.toNat=j:=by
   rw[seqIndex_of x m]at c;exact BH c
  exact PySem.W.ki_setAt d x (by lia) (by rw[AV,<-e];exact m) (by rw[f];exact⟨_,w,q⟩)
 .have f:(k +(b.toArray.size:Int)).toNat=j:=by
   rw[seqIndex_neg (by lia) l]at c;rw[AV,<-e];exact BH c
  exact PySem.W.ki_setBack d (by lia) (by rw[AV,<-e];exact l) (by lia) (by rw[f];exact⟨_,w,q⟩)
def Ep:V->Bool
 | .non=>true
 | .bl _=>true
 | .int _=>true
 | .str _=>true
 | _=>false
def SH:V->V->Bool
 | .non,.non=>true
 | .bl a,.bl b=>a == b
 | .bl a,.int b=>(if a then 1 else 0) == b
 | .int a,.bl b=>a ==(if b then 1 else 0)
 | .int a,.int b=>a == b
 | .str a,.str b=>a == b
 | _,_=>false
theorem zDj{A:IR}{s:A4}{y x:V}{u v:A2}(e:RelV y u)(c:RelV x v)(g:Ep y=true)(f:Ep x=true):SeqAt.EqAt A s u v (SH y x):=by
 cases y with
 | non =>
  cases e;cases x with
  | non=>cases c;exact SeqAt.EqAt.same _
  | bl b=>cases c;exact SeqAt.EqAt.none_bool b
  | int b=>obtain⟨t,rfl⟩:=c;exact SeqAt.EqAt.none_int b t
  | str b=>obtain⟨t,rfl⟩:=c;exact SeqAt.EqAt.none_str b t
  | _=>exact absurd (show false=true from f) BA
 | bl a =>
  cases e;cases x with
  | non=>cases c;exact SeqAt.EqAt.bool_none a
  | bl b=>cases c;exact SeqAt.EqAt.bool_bool a b
  | int b=>obtain⟨t,rfl⟩:=c;exact SeqAt.EqAt.bool_int a b t
  | str b=>obtain⟨t,rfl⟩:=c;exact SeqAt.EqAt.bool_str a b t
  | _=>exact absurd (show false=true from f) BA
 | int a =>
  obtain⟨d,rfl⟩:=e;cases x with
  | non=>cases c;exact SeqAt.EqAt.int_none a d
  | bl b=>cases c;exact SeqAt.EqAt.int_bool a d b
  | int b=>obtain⟨t,rfl⟩:=c;exact SeqAt.EqAt.int_int a d b t
  | str b=>obtain⟨t,rfl⟩:=c;exact SeqAt.EqAt.int_str a d b t
  | _=>exact absurd (show false=true from f) BA
 | str a =>
  obtain⟨d,rfl⟩:=e;cases x with
  | non=>cases c;exact SeqAt.EqAt.str_none a d
  | bl b=>cases c;exact SeqAt.EqAt.str_bool a d b
  | int b=>obtain⟨t,rfl⟩:=c;exact SeqAt.EqAt.str_int a d b t
  | str b=>obtain⟨t,rfl⟩:=c;exact SeqAt.EqAt.str_str a d b t
  | _=>exact absurd (show false=true from f) BA
 | _=>exact absurd (show false=true from g) BA
def QR(x:V)(u:A2):Bool:=match u with
 | .none=>SH .non x
 | .bool b=>SH (.bl b) x
 | .int i _=>SH (.int i) x
 | .str z _=>SH (.str z) x
 | _=>false
theorem Xm{x y:V}{u:A2}(r:RelV y u)(f:Ep y=true):QR x u=SH y x:=by
 cases y with
 | non=>cases r;rfl
 | bl b=>cases r;rfl
 | int i=>obtain⟨t,rfl⟩:=r;rfl
 | str z=>obtain⟨t,rfl⟩:=r;rfl
 | _=>exact absurd (show false=true from f) BA
theorem Ca{x:V}:∀{xs:A1 V} {us:A1 A2},IV xs us->xs.all Ep=true->us.any (QR x)=xs.any λy=>SH y x
 | _,_,.nil,_=>rfl
 | y::xs,u::us,.cons r t,f=>by
  rw[List.all_cons,BW]at f;rw[GQ,GQ,Xm r f.1,Ca t f.2]
theorem r8{A:IR}{s:A4}{x:V}{v:A2}(a:RelV x v)(b:Ep x=true):∀{xs:A1 V} {us:A1 A2},IV xs us->xs.all Ep=true->∀u∈us,SeqAt.EqAt A s u v (QR x u)
 | _,_,.nil,_=>λu hu=>by cases hu
 | y::xs,u::us,.cons r t,f=>λc hu=>by
  rw[List.all_cons,BW]at f;rcases AK.mp hu with rfl | hu
  .rw[Xm r f.1];exact zDj r a f.1 b
  .exact r8 a b t f.2 c hu
def inV(x:V)(xs:A1 V):Bool:=xs.any λy=>SH y x
def TH(K:PySem.W.Frag)(neg:Bool):R2:=λx y H Q=>∃p a,y = .ref p/\(IS K H p a\/JJ K H p a)/\Ep x=true/\a.all Ep=true/\Q (.bl (if neg then !inV x a else inV x a)) H
theorem Sn:LG X (compareOp .In) (TH X.K false):=by
 intro e s σ H x y v u Q I f i h;obtain⟨p,k,rfl,hq,g,b,q⟩:=h;cases i;rcases hq with hq | hq
 .obtain⟨a,r,c,j⟩:=I.list hq;refine SeqAt.in_listAt (QR x) c.isList (λw d=>r8 f g r b w (by simpa using d)) ⟨.bl _,H,I,rfl,?_⟩;rw[show a.toArray.any (QR x)=a.any (QR x) by simp,Ca r b];exact q
 .obtain⟨a,r,c,j⟩:=I.tuple hq;refine SeqAt.in_tupleAt (QR x) c (λw d=>r8 f g r b w (by simpa using d)) ⟨.bl _,H,I,rfl,?_⟩;rw[show a.toArray.any (QR x)=a.any (QR x) by simp,Ca r b];exact q
theorem Jc:LG X (compareOp .NotIn) (TH X.K true):=by
 intro e s σ H x y v u Q I f i h;obtain⟨p,k,rfl,hq,g,b,q⟩:=h;cases i;rcases hq with hq | hq
 .obtain⟨a,r,c,j⟩:=I.list hq;refine SeqAt.notIn_listAt (QR x) c.isList (λw d=>r8 f g r b w (by simpa using d)) ⟨.bl _,H,I,rfl,?_⟩;rw[show a.toArray.any (QR x)=a.any (QR x) by simp,Ca r b];exact q
 .obtain⟨a,r,c,j⟩:=I.tuple hq;refine SeqAt.notIn_tupleAt (QR x) c (λw d=>r8 f g r b w (by simpa using d)) ⟨.bl _,H,I,rfl,?_⟩;rw[show a.toArray.any (QR x)=a.any (QR x) by simp,Ca r b];exact q
theorem Gn:O0 X (.builtin "len") (λxs H Q=>∃p b,xs = [.ref p]/\(IS X.K H p b\/JJ X.K H p b)/\Q (.int b.length) H):=by
 intro f s σ H xs j Q I r h;obtain⟨p,b,rfl,hq,q⟩:=h;obtain⟨u,rfl,g⟩:=g9 r;cases g;have k:=Dj;rcases hq with hq | hq
 .obtain⟨c,d,e,i⟩:=I.list hq;have a:=d.length;exact Calls.call_len_list e.isList (by simp only[AV]<;>lia) ⟨.int b.length,H,I.tok _,⟨s.toks+1,by rw[AV,a]⟩,q⟩
 .obtain⟨c,d,e,i⟩:=I.tuple hq;have a:=d.length;exact len_tuple e (by simp only[AV]<;>lia) ⟨.int b.length,H,I.tok _,⟨s.toks+1,by rw[AV,a]⟩,q⟩
theorem Hu:O0 X (.builtin "len") (λxs H Q=>∃z,xs = [.str z]/\z.length<=sizeLine/\Q (.int z.length) H):=by
 intro a s σ H xs b Q I r h;obtain⟨z,rfl,c,q⟩:=h;obtain⟨u,rfl,t,rfl⟩:=g9 r;have d:=Dj;exact len_str (by lia) ⟨.int z.length,H,I.tok _,⟨_,rfl⟩,q⟩
theorem Iq:O0 X (.type "list") (λxs H Q=>∃p d,xs = [.ref p]/\(IS X.K H p d\/JJ X.K H p d)/\∀l,H l=none->Q (.ref l) (IK H l (.lst d))):=by
 intro i s σ H xs C Q I r h;obtain⟨p,d,rfl,hq,q⟩:=h;obtain⟨u,rfl,B⟩:=g9 r;cases B;have j:∀(a:A1 A2),IV d a->d.length<=sizeLine->∀(c:IM) (f:Nat),(∀b A,s.heap.get? b=some A->c.get? b=some A) ->
   c.get? s.heap.objs.size=some { cls:=.type "list",dict:=none,data:=.seq a.toArray f,slots:=#[] }->EP X i σ Q (.ref s.heap.objs.size) { s with heap:=c }:=λa g k c f m e =>
  ⟨.ref s.heap.objs.size,_,I.laid (t':=s.toks) m (Nat.le_refl _) (show IZ X.prog X.w _ c _ (.lst d)from⟨k,a,f,g,e⟩),rfl,q _ (I.hok.fresh (Nat.le_refl _))⟩
 rcases hq with hq | hq
 .obtain⟨a,g,v,k⟩:=I.list hq;have t:=g.length;obtain⟨o,x,y,n,z⟩:=v.isList;exact call_list_seq p (.inl rfl) x y z (λc f m e=>j a g k c f m e) (by simp only[AV]<;>lia)
 .obtain⟨a,g,v,k⟩:=I.tuple hq;have t:=g.length;obtain⟨o,x,y,n,z⟩:=v;exact call_list_seq p (.inr rfl) x y z (λc f m e=>j a g k c f m e) (by simp only[AV]<;>lia)
theorem Fc:O0 X (.type "tuple") (λxs H Q=>∃p d,xs = [.ref p]/\((IS X.K H p d/\∀l,H l=none->Q (.ref l) (IK H l (.tup d)))\/(JJ X.K H p d/\Q (.ref p) H))):=by
 intro a s σ H xs y Q I r h;obtain⟨p,d,rfl,h⟩:=h;obtain⟨u,rfl,t⟩:=g9 r;cases t;rcases h with⟨g,q⟩ | ⟨g,q⟩
 .obtain⟨c,i,j,k⟩:=I.list g;have m:=i.length;refine call_tuple_list j.isList (λf v=>?_) (by simp only[AV]<;>lia);have n:Inv X a σ H { s with heap:=f }:=I.kept (t':=s.toks) v;have x:Inv X a σ (IK H f.objs.size (.tup d)) { s with heap:=f.push { cls:=.type "tuple",data:=.seq c.toArray } } :=
   n.laid (t':=s.toks) (λb o e=>AG _ e) (Nat.le_refl _) (show IZ X.prog X.w _ _ _ (.tup d)from⟨k,c,i,IsTup.new _ _⟩)
  exact⟨.ref f.objs.size,_,x,rfl,q _ (n.hok.fresh (Nat.le_refl _))⟩
 .obtain⟨c,i,j,k⟩:=I.tuple g;exact call_tuple_same j ⟨.ref p,H,I,rfl,q⟩
def tyV(K:PySem.W.Frag)(T:String)(x:V)(H:Hp):Prop:=match x with
 | .str _=>T = "str"
 | .int _=>T = "int"
 | .ref p=>(T = "list"/\∃b,IS K H p b)\/(T = "tuple"/\∃o,K.lookup p=some o/\o.cls = .type "tuple"/\o.dict=none) \/
   (T = "dict"/\((∃a,H p=some (.dK a))\/∃a,H p=some (.dT a)))\/(T = "set"/\∃S n,H p=some (.set S n))
 | _=>False
theorem zEl{f:A1 (A3×Obj)}{σ:St}{H:Hp}{s:A4}{T:String}{x:V}{v:A2}(I:Inv X f σ H s)(r:RelV x v)(ty:tyV X.K T x H) :
  s.TypeIs v T/\∀a,v = .ref a->∃k,s.heap.get? a=some k/\k.dict=none:=by
 cases x with
 | str z =>
  obtain⟨t,rfl⟩:=r;cases(show T = "str" from ty);exact⟨typeIs_str s z t,λ_ e=>nomatch e⟩
 | int i =>
  obtain⟨t,rfl⟩:=r;cases(show T = "int" from ty);exact⟨typeIs_int s i t,λ_ e=>nomatch e⟩
 | ref p =>
  cases r;rcases ty with⟨rfl,w,m⟩ | ⟨rfl,o,b,q,g⟩ | ⟨rfl,b⟩ | ⟨rfl,S,n,b⟩
  .obtain⟨u,_,l,_⟩:=I.list m;refine⟨l.isList.typeIs,λa e=>?_⟩;cases e;obtain⟨o,n,e,c,g,_⟩:=l;exact⟨o,e,g⟩
  .refine⟨⟨o,I.kIn p o b,q⟩,λa e=>?_⟩;cases e;exact⟨o,I.kIn _ o b,g⟩
  .have z:∃o,s.heap.get? p=some o/\o.ExactDict:=by
    rcases b with⟨h,b⟩ | ⟨h,b⟩
    .obtain⟨_,_,_,_,o,_,_,e,d,_⟩:=I.hok p _ b;exact⟨o,e,d⟩
    .obtain⟨_,_,_,_,o,_,_,e,d,_⟩:=I.hok p _ b;exact⟨o,e,d⟩
   obtain⟨o,e,d⟩:=z;refine⟨⟨o,e,d.1⟩,λa j=>?_⟩;cases j;exact⟨o,e,d.2.1⟩
  .obtain⟨o,_,_,_,e,d,_⟩:=I.hok p _ b;refine⟨⟨o,e,d.1⟩,λa j=>?_⟩;cases j;exact⟨o,e,d.2.1⟩
 | _=>exact False.elim ty
def tBM(K:PySem.W.Frag)(T:String)(r:V->A1 V->Hp->VK->Prop)(b:TE)(t:TA):TE:=λσ H Q=>b σ H λx a=>tyV K T x a/\t σ a λc d=>r x c d Q
variable{o e:IQ}{es:A1 IQ}{to:TE}{t:TA}{name:Str}{apos cpos:Pos}{T id:String}{r:V->A1 V->Hp->VK->Prop}
theorem zFd(m:PlainAttrs T)(f:Slot T name id)(i:typeOf (.builtin id)=pure (.type "method_descriptor"))(n:MtR X id r)(p:PE X o to)(q:PA X (e::es) t)
  (c:attributeBase o name X.env (eval o X.env)=eval o X.env:=by rfl)
  (g:((backTo cpos (starEach (e::es) X.env)).all (λx=>!x.1) &&(backToKw cpos (keywordEach [] X.env)).all (λx=>x.1.isSome)
   && decide ((e::es).length +([]:A1 Keyword).length +(if([]:A1 Keyword).isEmpty then 0 else 1)<30))=true:=by rfl)
  (d:(apos.endLine == cpos.line)=true:=by rfl) (u:starEach (e::es) X.env =(false,eval e X.env)::starEach es X.env:=by rfl) (b:(backTo cpos (starEach es X.env)).any (·.1)=false:=by rfl) :
  PE X (.Call (.Attribute o name apos) (e::es) [] cpos) (tBM X.K T r to t):=by
 intro a s σ H Q I h;refine wpAny_Call_method_late c g d rfl (JI (p a s σ H _ I h) λv w ⟨x,y,j,k,ty,z⟩=>?_);obtain⟨A,B⟩:=zEl j k ty;refine⟨T,id,m,f,i,A,B,?_⟩;have l:=q cpos a w σ y _ j z;rw[u]at l⊢;refine Calls.callWith_builtin (by show(false||(backTo cpos (starEach es X.env)).any (·.1))=false;rw[b]<;>rfl) (Calls.evalArgs_plain ?_);exact JI l λC D ⟨E,F,G,J,L⟩=>n a D σ F x E v C Q G k J L
end
def QW(X:Cx)(id:String)(r:V->A1 V->Hp->VK->Prop):Prop :=
 ∀(a:A1 (A3×Obj)) (s:A4) (σ:St) (H:Hp) (x:V) (b:A1 V) (v:A2) (c:A1 A2) (Q:VK),Inv X a σ H s->RelV x v->IV b c->r x b H Q ->
  wpAny (model X.prog X.w) X.A (call (.builtin id) (v::c)) (EP X a σ Q) X.xe s
def IV.one:∀{x:V} {us:A1 A2},IV [x] us->∃u,us = [u]/\RelV x u
 | _,_,.cons r .nil=>⟨_,rfl,r⟩
def IV.two:∀{x y:V} {us:A1 A2},IV [x,y] us->∃u v,us = [u,v]/\RelV x u/\RelV y v
 | _,_,_,.cons r (.cons q .nil)=>⟨_,_,rfl,r,q⟩
def IV.eraseIdx:∀{xs:A1 V} {us:A1 A2} (i:Nat),IV xs us->IV (xs.eraseIdx i) (us.eraseIdx i)
 | _,_,_,.nil=>.nil
 | _,_,0,.cons _ t=>t
 | _,_,i+1,.cons r t=>.cons r (IV.eraseIdx i t)
def IV.rep{xs:A1 V}{us:A1 A2}(h:IV xs us):∀k:Nat,IV (List.replicate k xs).flatten (List.replicate k us).flatten
 | 0=>.nil
 | k+1=>by
  rw[EB,EB,ED,ED];exact IV.append h (IV.rep h k)
def Gh{α:Type}:∀(l:A1 α) (i:Nat),(l.eraseIdx i).length<=l.length
 | [],_=>Nat.le_refl _
 | _::_,0=>EN _
 | _::r,i+1=>G_ (Gh r i)
def Hg(its:A1 A2):∀(k:Nat) (a:A1 A2),
  List.foldl (λb c=>b++c) a.toArray (List.replicate k its.toArray) =(a ++(List.replicate k its).flatten).toArray
 | 0,a=>by simp
 | k+1,a=>by
  have e:a.toArray++its.toArray =(a++its).toArray:=by simp
  have d:(a++its) ++(List.replicate k its).flatten=a ++(List.replicate (k+1) its).flatten:=by
   rw[EB,ED,BE]
  rw[<-d,<-Hg its k (a++its),<-e,EB,List.foldl_cons]
section
variable{X:Cx}{pins:A1 (A3×Obj)}{σ:St}{H:Hp}{s:A4}{l b:A3}{xs ys zs:A1 V}
theorem Inv.lset{its its':A1 A2}{n:Nat}{f:CW A2->CW A2}{t':Nat}(I:Inv X pins σ H s)(a:H l=some (.lst xs))
  (e:s.heap.get? l=some { cls:=.type "list",data:=.seq its.toArray n }) (b:f its.toArray=its'.toArray) (c:IV ys its') (d:ys.length<=sizeLine) :
  Inv X pins σ (IK H l (.lst ys)) { s with heap:=s.heap.update l (Obj.mapSeq f),toks:=t' }:=by
 have q:=PySem.IsL.update e f;rw[b]at q;refine I.write (x:=l) (e:=l) (by rw[a];exact trivial) (.inl rfl) (λi u g h=>(CJ s.heap (Obj.mapSeq f) (Ne.symm g)).trans h) ⟨_,q⟩ ?_;exact⟨d,its',_,c,q⟩
theorem Inv.lnew{its:A1 A2}{t':Nat}(I:Inv X pins σ H s)(a:IV ys its)(b:ys.length<=sizeLine) :
  Inv X pins σ (IK H s.heap.objs.size (.lst ys)) { s with heap:=s.heap.push { cls:=.type "list",data:=.seq its.toArray },toks:=t' } :=
 I.laid (λ_ _ q=>AG _ q) (Nat.le_refl _) ⟨b,its,0,a,AS _ rfl⟩
theorem Inv.fresh(I:Inv X pins σ H s):H s.heap.objs.size=none:=I.hok.fresh (Nat.le_refl _)
theorem Inv.lstM(I:Inv X pins σ H s)(a:H l=some (.lst xs)):xs.length<=sizeLine/\∃(its:A1 A2) (n:Nat),IV xs its/\xs.length=its.length/\s.heap.get? l=some { cls:=.type "list",data:=.seq its.toArray n }:=by
 obtain⟨z,its,n,r,e⟩:=I.hok l _ a;exact⟨z,its,n,r,r.length,e⟩
theorem Vf{n:Nat}(h:n<=sizeLine):Builtin.List.listTooLong n=false:=by
 unfold Builtin.List.listTooLong;exact BF (by lia)
end
section
variable{X:Cx}
def zAk:V->A1 V->Hp->VK->Prop:=λx b H Q=>∃l a y,x = .ref l/\b = [y]/\H l=some (.lst a)/\a.length<sizeLine/\Q .non (IK H l (.lst (a ++ [y])))
theorem K4:QW X "list.append" zAk:=by
 intro b s σ H x i v j Q I d f h;obtain⟨l,k,y,rfl,rfl,c,m,q⟩:=h;cases d;obtain⟨u,rfl,g⟩:=f.one;obtain⟨z,a,n,r,o,e⟩:=I.lstM c;refine call_meets F.slot_list_append ⟨_,e,rfl⟩ F.entry_list_append (F.args_list_append_2 _ _) (PySem.list_append l a.toArray n u (by rw[AV];lia)) ⟨e,?_⟩;refine⟨.non,_,I.lset (its':=a ++ [u]) c e (by simp) (r.append (.cons g .nil)) ?_,rfl,q⟩;rw[AW,GS];lia
def zCi:V->A1 V->Hp->VK->Prop:=λx b H Q=>∃l a i k y,x = .ref l/\b = [.int i]/\H l=some (.lst a)/\-(2^63)<=i/\i<2^63/\seqIndex? i a.length=some k/\a[k]?=some y/\Q y (IK H l (.lst (a.eraseIdx k)))
theorem Wk:QW X "list.pop" zCi:=by
 intro c s σ H x E v G Q I f g h;obtain⟨l,j,i,k,y,rfl,rfl,d,m,o,p,A,q⟩:=h;cases f;obtain⟨u,rfl,B⟩:=g.one;obtain⟨t,rfl⟩:=B;obtain⟨z,a,n,r,C,e⟩:=I.lstM d;obtain⟨w,D,b⟩:=r.get A;refine call_meets F.slot_list_pop ⟨_,e,rfl⟩ F.entry_list_pop (F.args_list_pop_2 _ _)
  (MeetsSeq.list_pop_at l a.toArray n i t k w (fitsIndex_both m o) (by rw[AV,<-C];exact p) (by rw[<-BP];exact D) (by rw[AV];lia)) ⟨e,?_⟩
 refine⟨y,_,I.lset (its':=a.eraseIdx k) d e ?_ (r.eraseIdx k) ?_,b,q⟩
 .show a.toArray.eraseIdxIfInBounds k =(a.eraseIdx k).toArray;rw[List.eraseIdxIfInBounds_toArray]
 .have:=Gh j k;lia
def zHu:R2:=λx y H Q=>∃l b a c,x = .ref l/\y = .ref b/\H l=some (.lst a)/\H b=some (.lst c)/\a.length+c.length<=sizeLine/\∀p,H p=none->Q (.ref p) (IK H p (.lst (a++c)))
theorem Qo:LG X (binaryOp .Add) zHu:=by
 intro d s σ H x y v u Q I f g h;obtain⟨l,b,t,w,rfl,rfl,i,j,A,q⟩:=h;cases f;cases g;obtain⟨z,c,n,r,B,e⟩:=I.lstM i;obtain⟨C,a,D,k,m,o⟩:=I.lstM j;refine PySem.P.add_list e o ?_ (by rw[AV,AV];lia);have p:c.toArray++a.toArray =(c++a).toArray:=by simp
 rw[p];exact⟨.ref _,_,I.lnew (t':=s.toks) (r.append k) (by rw[AW];lia),rfl,q _ I.fresh⟩
def zHz:R2:=λx y H Q=>∃l k a,x = .ref l/\y = .int k/\H l=some (.lst a)/\-(2^63)<=k/\k<2^63/\a.length*k.toNat<=sizeLine /\
 ∀p,H p=none->Q (.ref p) (IK H p (.lst (List.replicate k.toNat a).flatten))
theorem zAq{α:Type}(xs:A1 α)(k:Nat):(List.replicate k xs).flatten.length=k*xs.length:=by
 induction k with
 | zero=>simp
 | succ k a=>rw[EB,ED,AW,a,Nat.succ_mul,Nat.add_comm]
theorem Xq:LG X (binaryOp .Mult) zHz:=by
 intro p s σ H x y v u Q I A B h;obtain⟨l,k,L,rfl,rfl,C,D,E,w,q⟩:=h;cases A;obtain⟨t,rfl⟩:=B;obtain⟨z,b,n,r,G,e⟩:=I.lstM C;have d:b.toArray.size*k.toNat<=sizeLine:=by rw[AV,<-G];exact w
 have f:¬b.toArray.size*k.toNat >(2^63-1) / 8:=by
  have:(sizeLine:Nat)<=(2^63-1) / 8:=by decide
  lia
 have g:¬(!Builtin.List.listFitsIndex k)=true:=by
  rw[fitsIndex_both D E];exact BA
 have c:¬Builtin.List.listTooLong (b.toArray.size*k.toNat)=true:=by
  rw[Vf d];exact BA
 have i:List.foldl (λj o=>j++o) #[] (List.replicate (if b.toArray.isEmpty=true then 0 else k.toNat) b.toArray) =(List.replicate k.toNat b).flatten.toArray:=by
  have J:∀m:Nat,List.foldl (λj o=>j++o) #[] (List.replicate m b.toArray) =(List.replicate m b).flatten.toArray:=λm=>by
   have:=Hg b m [];rw[List.nil_append]at this;exact this
  rw[J];cases b with
  | nil=>simp
  | cons a M=>rw[AJ (by simp)]
 refine wpAny_binaryOp_repeat_ref (T := "list") (U := "int") (by decide) ⟨_,e,rfl⟩ (λK=>typeIs_int K k t) noFill_list_mul F.fills_int_mul F.slot_int_rmul repeat_list F.slot_int_index.lookup
  (call_meets F.slot_int_rmul (typeIs_int s k t) F.entry_int_rmul (F.args_int_rmul_2 _ _) (int___rmul___int_list k t l b.toArray n)
   ⟨e,rfl,⟨_,e,rfl⟩,call_meets F.slot_list_mul ⟨_,e,rfl⟩ F.entry_list_mul (F.args_list_mul_2 _ _) (AutoListH.list___mul___list_int_3 l b.toArray n k t g f c) ⟨e,?_⟩⟩)
 rw[i];exact⟨.ref _,_,I.lnew (t':=s.toks) (r.rep k.toNat) (by rw[zAq,Nat.mul_comm];exact w),rfl,q _ I.fresh⟩
end
section
variable{κ:Type}[DecidableEq κ]
def U2(a:A1 (κ×V))(k:κ):A5 V:=(a.find? λb=>decide (b.1=k)).map (·.2)
def Av(a:A1 (κ×V))(k:κ)(v:V):A1 (κ×V) :=
 if(a.any λb=>decide (b.1=k))=true then a.map (λb=>if b.1=k then(b.1,v)else b)else a ++ [(k,v)]
theorem P3{p:κ×V}{r:A1 (κ×V)}{k:κ}(e:p.1=k):U2 (p::r) k=some p.2:=by simp[U2,FE,e]
theorem P1{p:κ×V}{r:A1 (κ×V)}{k:κ}(e:¬p.1=k):U2 (p::r) k=U2 r k:=by simp[U2,FE,e]
theorem l7(k:κ):∀a:A1 (κ×V),(a.any λb=>decide (b.1=k)) =(U2 a k).isSome
 | []=>rfl
 | p::r=>by
  rw[GQ];by_cases e:p.1=k
  .simp only[P3 e,BB e,Bool.true_or,Option.isSome_some]
  .rw[P1 e,BF e,Bool.false_or];exact l7 k r
theorem Mw(k j:κ)(y:V):∀a:A1 (κ×V),U2 (a.map λb=>if b.1=k then(b.1,y)else b) j =(U2 a j).map λx=>if j=k then y else x
 | []=>rfl
 | p::r=>by
  have c:=Mw k j y r;rw[BK];by_cases h:p.1=k
  .rw[AL h];by_cases e:p.1=j
   .rw[P3 (p:=(p.1,y)) e,P3 e,HL,AL (e.symm.trans h)]
   .rw[P1 (p:=(p.1,y)) e,P1 e,c]
  .rw[AJ h];by_cases e:p.1=j
   .rw[P3 (p:=p) e,P3 e,HL,AJ (λz=>h (e.trans z))]
   .rw[P1 (p:=p) e,P1 e,c]
theorem Ia(k j:κ)(y:V):∀a:A1 (κ×V),U2 a k=none->U2 (a ++ [(k,y)]) j=if j=k then some y else U2 a j
 | [],_=>by
  by_cases e:k=j
  .rw[AL e.symm];exact P3 (p:=(k,y)) e
  .rw[AJ (λz=>e z.symm)];exact P1 (p:=(k,y)) e
 | p::r,b=>by
  rw[List.cons_append];have c:¬p.1=k:=λz=>by rw[P3 z]at b;cases b
  rw[P1 c]at b;have d:=Ia k j y r b;by_cases e:p.1=j
  .rw[P3 e,P3 e,AJ (λz=>c (e.trans z))]
  .rw[P1 e,P1 e,d]
theorem Aw(b:A1 (κ×V))(k j:κ)(y:V):U2 (Av b k y) j=if j=k then some y else U2 b j:=by
 unfold Av;by_cases a:(b.any λc=>decide (c.1=k))=true
 .rw[AL a,Mw];rw[l7]at a;by_cases e:j=k
  .obtain⟨x,d⟩:=EE.mp a;rw[AL e,e,d,HL,AL rfl]
  .rw[AJ e];cases U2 b j with
   | none=>rfl
   | some x=>rw[HL,AJ e]
 .rw[AJ a];refine Ia k j y b ?_;rw[l7]at a;cases q:U2 b k with
  | none=>rfl
  | some x=>rw[q]at a;exact(a rfl).elim
theorem R9(a:A1 (κ×V))(k:κ)(v:V):(Av a k v).length<=a.length+1:=by
 unfold Av;split
 .rw[AB];lia
 .rw[AW,AR,EO];lia
theorem Wv{a:A1 (κ×V)}{k:κ}(v:V)(h:U2 a k=none):Av a k v=a ++ [(k,v)]:=by
 unfold Av;rw[l7,h];exact AJ (by decide)
theorem NB.isSome_eq{o:A5 V}{u:A5 A2}(r:NB o u):o.isSome=u.isSome:=by
 cases o with
 | none=>cases u with
  | none=>rfl
  | some _=>exact(show False from r).elim
 | some _=>cases u with
  | none=>exact(show False from r).elim
  | some _=>rfl
theorem KV.val{a:A1 (κ×V)}{vs:A1 (κ×A2)}(r:KV a vs)(k:κ):NB (U2 a k) (valueAt vs k):=by
 unfold KV at r
 induction r with
 | nil=>exact True.intro
 | @cons p q j c h t g =>
  obtain⟨f,i⟩:=h;by_cases e:p.1=k
  .have d:q.1=k:=f.symm.trans e;have b:valueAt (q::c) k=some q.2:=by simp[valueAt,FE,d]
   rw[P3 e,b];exact i
  .have d:¬q.1=k:=λz=>e (f.trans z);have b:valueAt (q::c) k=valueAt c k:=by simp[valueAt,FE,d]
   rw[P1 e,b];exact g
theorem KV.any{a:A1 (κ×V)}{vs:A1 (κ×A2)}(r:KV a vs)(k:κ):(a.any λb=>decide (b.1=k))=vs.any λb=>decide (b.1=k):=by
 unfold KV at r
 induction r with
 | nil=>rfl
 | cons h t c=>rw[GQ,GQ,c,h.1]
theorem KV.repl{b:A1 (κ×V)}{vs:A1 (κ×A2)}(r:KV b vs)(k:κ){y:V}{u:A2}(d:RelV y u) :
  KV (b.map λa=>if a.1=k then(a.1,y)else a) (vs.map λa=>if a.1=k then(a.1,u)else a):=by
 unfold KV at r⊢
 induction r with
 | nil=>exact .nil
 | @cons p q i j h t f =>
  rw[BK,BK];refine .cons ?_ f;obtain⟨c,g⟩:=h;by_cases e:p.1=k
  .rw[AL e,AL (c.symm.trans e)];exact⟨c,d⟩
  .rw[AJ e,AJ (λz=>e (c.trans z))];exact⟨c,g⟩
theorem KV.put{a:A1 (κ×V)}{vs:A1 (κ×A2)}(r:KV a vs)(k:κ){y:V}{u:A2}(b:RelV y u):KV (Av a k y) (stored vs k u):=by
 unfold Av stored;rw[r.any k];by_cases e:(vs.any λc=>decide (c.1=k))=true
 .rw[AL e,AL e];exact r.repl k b
 .rw[AJ e,AJ e];exact Paired.snoc r ⟨rfl,b⟩
theorem KV.length{a:A1 (κ×V)}{vs:A1 (κ×A2)}(r:KV a vs):a.length=vs.length:=Paired.length r
end
def Kb{P:A7}{w:F8}{k:JC}{u:A2}(r:RelV (kV k) u):(C4 P w).is k u=true:=by
 cases k with
 | inl i=>obtain⟨t,e⟩:=(show ∃t,u=Value.int i t from r);subst e;exact Lc P w i t
 | inr x=>obtain⟨t,e⟩:=(show ∃t,u=Value.str x t from r);subst e;exact Jt P w x t
def Hz{P:A7}{w:F8}:∀{ks:A1 JC} {us:A1 A2},IV (ks.map kV) us->ItemsAre (C4 P w) ks us
 | [],_,r=>by rw[EK]at r;cases r;exact .nil
 | k::ks,_,r=>by
  rw[BK]at r;cases r with
  | cons h t=>exact .cons (Kb h) (Hz t)
abbrev KT(H:Hp):A1 (A1 JC×V)->A1 (A1 JC×A3×A2)->Prop:=Paired λp q=>p.1=q.1/\H q.2.1=some (.tup (p.1.map kV))/\RelV p.2 q.2.2
def KT.val{H:Hp}{a:A1 (A1 JC×V)}{xs:A1 (A1 JC×A3×A2)}(r:KT H a xs)(k:A1 JC):NB (U2 a k) ((atKey xs k).map (·.2)):=by
 induction r with
 | nil=>exact True.intro
 | @cons p q j c h t g =>
  obtain⟨f,_,i⟩:=h;by_cases e:p.1=k
  .have d:q.1=k:=f.symm.trans e;have b:atKey (q::c) k=some q.2:=by simp[atKey,FE,d]
   rw[P3 e,b];exact i
  .have d:¬q.1=k:=λz=>e (f.trans z);have b:atKey (q::c) k=atKey c k:=by simp[atKey,FE,d]
   rw[P1 e,b];exact g
def KT.repl{H:Hp}{a:A1 (A1 JC×V)}{xs:A1 (A1 JC×A3×A2)}(r:KT H a xs)(k:A1 JC){y:V}{u:A2}(f:RelV y u) :
  KT H (a.map λc=>if c.1=k then(c.1,y)else c) (xs.map (putAt k u)):=by
 induction r with
 | nil=>exact .nil
 | @cons p q j l h t g =>
  rw[BK,BK];refine .cons ?_ g;obtain⟨b,d,i⟩:=h;unfold putAt;by_cases e:p.1=k
  .rw[AL e,AL (b.symm.trans e)];exact⟨b,d,f⟩
  .rw[AJ e,AJ (λz=>e (b.trans z))];exact⟨b,d,i⟩
def KT.put{H:Hp}{a:A1 (A1 JC×V)}{xs:A1 (A1 JC×A3×A2)}(r:KT H a xs)(k:A1 JC){b:A3}{y:V}{u:A2}(d:H b=some (.tup (k.map kV)))(c:RelV y u) :
  KT H (Av a k y) (storedH xs k b u):=by
 have e:(a.any λf=>decide (f.1=k)) =(atKey xs k).isSome:=by
  rw[l7,(r.val k).isSome_eq,Option.isSome_map]
 unfold Av storedH;rw[e];by_cases q:(atKey xs k).isSome=true
 .rw[AL q,AL q];exact r.repl k c
 .rw[AJ q,AJ q];exact Paired.snoc r ⟨rfl,d,c⟩
def KT.keeps{H H':Hp}{a:A1 (A1 JC×V)}{xs:A1 (A1 JC×A3×A2)}(r:KT H a xs)(d:∀b c,H b=some (.tup c)->H' b=some (.tup c)):KT H' a xs :=
 Paired.mapP r λ_ _ z=>⟨z.1,d _ _ z.2.1,z.2.2⟩
section
variable{P:A7}{w:F8}{H:Hp}{h:IM}{a:A3}
theorem zDa{u:HO}(b:MO P w H h)(e:Rd H a u):IZ P w H h a u:=e.ok b
theorem Su{b:A1 (JC×V)}(c:MO P w H h)(e:Rd H a (.dK b)):b.length<=sizeLine/\(a == sysModules)=false/\∃vs,KV b vs/\h.DictOf (C4 P w) a vs :=
 show IZ P w H h a (.dK b)from zDa c e
theorem zBf{b:A1 (JC×V)}(c:MO P w H h)(e:H a=some (.dK b)):b.length<=sizeLine/\(a == sysModules)=false/\∃vs,KV b vs/\h.DictOf (C4 P w) a vs:=Su c (.inl e)
theorem Ab{ks:A1 JC}(c:MO P w H h)(e:H a=some (.tup (ks.map kV))):(tupleKind (C4 P w)).is h ks a:=by
 obtain⟨_,b,r,o,d,f,n,g⟩:=(show IZ P w H h a (.tup (ks.map kV))from c a _ e);exact⟨o,b.toArray,n,d,f,g,by simpa using Hz r⟩
theorem Tz{b:A1 (A1 JC×V)}(d:MO P w H h)(e:Rd H a (.dT b)):b.length<=sizeLine/\(a == sysModules)=false /\
  ∃xs,KT H b xs/\h.DictOfH (tupleKind (C4 P w)) a xs:=by
 obtain⟨z,y,xs,r,o,g,i,j,k,n,s,u⟩:=(show IZ P w H h a (.dT b)from zDa d e);refine⟨z,y,xs,r,o,g,i,j,k,n,s,λx hx=>?_,u⟩;have c:∀{l:A1 (A1 JC×V)} {m:A1 (A1 JC×A3×A2)},KT H l m->∀x∈m,(tupleKind (C4 P w)).is h x.1 x.2.1:=by
  intro l m q
  induction q with
  | nil=>intro x hx;exact nomatch hx
  | @cons p q A B f t v =>
   intro x hx;rcases AK.mp hx with e | hx
   .subst e;exact Ab d (by rw[<-f.1];exact f.2.1)
   .exact v x hx
 exact c r x hx
theorem zFr{b:A1 (A1 JC×V)}(c:MO P w H h)(e:H a=some (.dT b)):b.length<=sizeLine/\(a == sysModules)=false /\
  ∃xs,KT H b xs/\h.DictOfH (tupleKind (C4 P w)) a xs:=Tz c (.inl e)
end
def MM(H:Hp)(a:A3)(y:V)(r:A5 V):Prop :=
 (∃c k,Rd H a (.dK c)/\y=kV k/\r=U2 c k)\/∃c k b,Rd H a (.dT c)/\y = .ref b/\H b=some (.tup (k.map kV))/\r=U2 c k
def zEp(H:Hp)(a:A3)(y v:V)(H':Hp):Prop :=
 (∃c k,H a=some (.dK c)/\y=kV k/\c.length<sizeLine/\H'=IK H a (.dK (Av c k v))) \/
 ∃c k b,H a=some (.dT c)/\y = .ref b/\H b=some (.tup (k.map kV))/\c.length<sizeLine/\H'=IK H a (.dT (Av c k v))
def MM.k{H:Hp}{a:A3}{b:A1 (JC×V)}{k:JC}(e:H a=some (.dK b)):MM H a (kV k) (U2 b k):=.inl ⟨b,k,.inl e,rfl,rfl⟩
section
variable{X:Cx}{pins:A1 (A3×Obj)}{σ:St}{H:Hp}{s:A4}{a:A3}{y v:V}{u r:A2}{o:A5 V}{A:IR}{E:A2->A4->Prop}
theorem Inv.big(I:Inv X pins σ H s):sysModules<s.heap.objs.size:=by
 have h:mainGlobals<s.heap.objs.size:=(I.mod.glob.keeps I.bk).lt;exact Nat.lt_trans (by decide) h
theorem Sa{Q:A2->A4->Prop}(x:A.units+1<cLine)(I:Inv X pins σ H s)(g:MM H a y (some v))(r:RelV y u)(h:∀f t,Inv X pins σ H t->RelV v f->Q f t) :
  wpAny (model X.prog X.w) A (getItem (.ref a) u) Q E s:=by
 rcases g with⟨i,k,e,j,l⟩ | ⟨i,k,b,e,j,B,l⟩
 .subst j;obtain⟨z,C,D,c,m⟩:=Su I.hok e;obtain⟨f,n,d⟩:=NB.some_of (v:=v) (o:=valueAt D k) (by rw[l];exact c.val k);exact wpAny_getItem_of (Kb r) m.mapOf n (h f _ (I.tok _) d)
 .subst j;cases(show u=Value.ref b from r);obtain⟨z,C,F,c,m⟩:=Tz I.hok e;obtain⟨f,n,d⟩:=NB.some_of (v:=v) (o:=(atKey F k).map (·.2)) (by rw[l];exact c.val k);obtain⟨p,G,q⟩:=AQ.mp n;refine wpAny_getItem_heap (tupleKind_room_in1 x) (Ab I.hok B) m G ?_;rw[q];exact h f _ (I.tok _) d
theorem Zy{Q:A2->A4->Prop}(p:A.units+1<cLine)(I:Inv X pins σ H s)(g:MM H a y o)(m:RelV y u)(h:∀n,Inv X pins σ H n->Q (.bool (!o.isSome)) n) :
  wpAny (model X.prog X.w) A (compareOp .NotIn u (.ref a)) Q E s:=by
 rcases g with⟨d,k,e,f,l⟩ | ⟨d,k,b,e,f,r,l⟩
 .subst f;obtain⟨z,i,t,c,j⟩:=Su I.hok e;refine wpAny_notIn_of (Kb m) i j.mapOf ?_;rw[<-(c.val k).isSome_eq,<-l];exact h _ (I.tok _)
 .subst f;cases(show u=Value.ref b from m);obtain⟨z,i,v,c,j⟩:=Tz I.hok e;refine wpAny_notIn_heap (tupleKind_room_in1 p) (Ab I.hok r) i j ?_;have q:=(c.val k).isSome_eq;rw[Option.isSome_map]at q;rw[<-q,<-l];exact h _ (I.tok _)
theorem Ju{h':IM}{t':Nat}{c:HO}(I:Inv X pins σ H s)(f:UG (H a))(g:Heap.SameBut a s.heap h')(h:∃q,h'.get? a=some q)(d:IZ X.prog X.w (IK H a c) h' a c) :
  Inv X pins σ (IK H a c) { s with heap:=h',toks:=t' } :=
 I.write (x:=a) (e:=a) f (.inl rfl) (λb q i z=>(g.2 b i).trans z) h d
theorem Xs{P:A7}{w:F8}{H':Hp}{h':IM}{b:A1 (JC×V)}{vs:A1 (JC×A2)}(z:b.length<=sizeLine)(d:(a == sysModules)=false)(c:KV b vs)(e:h'.DictOf (C4 P w) a vs) :
  IZ P w H' h' a (.dK b):=⟨z,d,vs,c,e⟩
theorem Tr{H':Hp}{Q:Unit->A4->Prop}(L:A.units+1<cLine)(I:Inv X pins σ H s)(g:zEp H a y v H')(C:RelV y u)(D:RelV v r)(h:∀F,Inv X pins σ H' F->Q () F) :
  wpAny (model X.prog X.w) A (setItem (.ref a) u r) Q E s:=by
 rcases g with⟨d,k,e,m,l,n⟩ | ⟨d,k,b,e,m,G,l,n⟩
 .subst m n;obtain⟨z,o,M,f,p⟩:=zBf I.hok e;have t:M.length<=sizeLine:=by rw[<-f.length];exact z
  have x:(Av d k v).length<=sizeLine:=by have:=R9 d k v;lia
  refine wpAny_setItem_pairs (hsz:=t) (Kb C) p λJ i B=>h _ ?_;have N:∃q,J.get? a=some q:=let⟨q,_,_,j,_⟩:=i;⟨q,j⟩;exact Ju I (by rw[e];exact True.intro) B N (Xs x o (f.put k D) i)
 .subst m n;cases(show u=Value.ref b from C);obtain⟨z,o,O,f,p⟩:=zFr I.hok e;have t:O.length<=sizeLine:=by rw[<-Paired.length f];exact z
  have x:(Av d k v).length<=sizeLine:=by have:=R9 d k v;lia
  refine wpAny_setItem_heap (hsz:=t) (tupleKind_room_in1 L) (Ab I.hok G) p λJ i B=>h _ ?_;obtain⟨q,P,R,j,S,T,U,_,V⟩:=i;refine Ju I (by rw[e];exact True.intro) B ⟨q,j⟩ ⟨x,o,_,(f.put k G D).keeps λc W K=>?_,q,P,R,j,S,T,U,V⟩;rw[B6 (S7 K e (λz=>nomatch z))];exact K
end
def zHa(i:IQ):Prop:=∀a b,subscripted i false a b=operate [a,b] (getItem a b)
def Zi{prog:A7}{w:F8}{A:IR}{E:A2->A4->Prop}{s:A4}{c:PR}{b a:IQ}{pos:Pos}{T id:String}{Q:A2->A4->Prop}
  (f:typeLookup (.type T) "__getitem__" = pure (some (.builtin id))) (g:zHa a)
  (h:wpAny (model prog w) A (eval b c) (λo s₁=>wpAny (model prog w) A (eval a c) (λi s₂=>s₂.TypeIs o T/\wpAny (model prog w) A (getItem o i) Q E s₂) E s₁) E s) :
  wpAny (model prog w) A (eval (.Subscript b a pos) c) Q E s:=by
 refine Subscript_ (B_ h (λo s₁ h₁=>B_ h₁ (λi s₂ h₂=>?_) λ_ _ x=>x) λ_ _ x=>x);obtain⟨e,h₂⟩:=h₂;unfold subscriptTail;refine AA ?_;rw[getitemInPython_of_ne e.not_modules];refine AA (wpAny_specialOf e f ?_);have d:wpAny (model prog w) A (subscripted a false o i) (λr s₃=>wpAny (model prog w) A (letTemporaryGo b o r >>= λ_=>pure r) Q E s₃) E s₂:=by
  rw[g o i];exact wpAny_operating (B_ h₂ (λr s₃ h₃=>AA (wpAny_letTemporaryGo (AF h₃))) λ_ _ x=>x)
 first
  | exact AF (AA d)
  | exact AA (AF (AA d))
  | exact AA d
def Kv{X:Cx}{c:A1 (A3×Obj)}{σ:St}{H:Hp}{s:A4}{a:A3}{y:V}{o:A5 V}(I:Inv X c σ H s)(g:MM H a y o):s.TypeIs (.ref a) "dict":=by
 rcases g with⟨d,k,e,_,_⟩ | ⟨d,k,b,e,_,_,_⟩
 .obtain⟨_,_,h,_,f⟩:=Su I.hok e;exact f.typeIs
 .obtain⟨_,_,i,_,f⟩:=Tz I.hok e;exact f.typeIs
def Uo(td ty:TE):TE:=λσ H Q=>td σ H λx c=>ty σ c λy b=>∃a v,x = .ref a/\MM b a y (some v)/\Q v b
def zBe(ty td:TE):TE:=λσ H Q=>ty σ H λy c=>td σ c λx b=>∃a o,x = .ref a/\MM b a y o/\Q (.bl (!o.isSome)) b
def zFv(td ty c:TE):TS:=λD σ H=>c σ H λv d=>td σ d λx e=>ty σ e λy f=>∃a b,x = .ref a/\zEp f a y v b/\D.nx σ b
section
variable{X:Cx}{o i e value:IQ}{pos pos' tpos:Pos}{td ty tv:TE}
theorem K3(e:X.A.units+1<cLine)(f:PE X o td)(hi:PE X i ty)(j:zHa i):PE X (.Subscript o i pos) (Uo td ty):=by
 intro b s σ H Q I h;refine Zi PySem.F.slot_dict_getitem.lookup j (JI (f b s σ H _ I h) λu k ⟨x,l,m,n,p⟩=>JI (hi b k σ l _ m p) λB C ⟨y,q,d,r,a,v,t,g,w⟩=>?_);subst t;obtain rfl:u=Value.ref a:=n;exact⟨Kv d g,Sa e d g r λD E z c=>⟨v,q,z,c,w⟩⟩
theorem Sv(c:X.A.units+1<cLine)(hi:PE X i ty)(d:PE X o td):PC X .NotIn i o (zBe ty td):=by
 intro b s σ H Q I h;refine JI (hi b s σ H _ I h) λw e ⟨y,f,j,k,l⟩=>JI (d b e σ f _ j l) λu z ⟨x,m,n,p,a,q,r,g,t⟩=>?_;subst r;obtain rfl:u=Value.ref a:=p;exact Zy c n g k λB v=>⟨.bl (!q.isSome),m,v,rfl,t⟩
theorem Rr(c:X.A.units+1<cLine)(d:PE X o td)(hi:PE X i ty)(e:PE X value tv)(f:swapsWith value (some (.Subscript o i pos')) pos.line X.env=pure false) :
  PS X (.Assign [.Subscript o i pos'] value pos) (zFv td ty tv):=by
 intro b s σ H D I h;refine wpAny_Assign_Subscript (JI (e b s σ H _ I h) λr j ⟨v,k,l,m,n⟩=>JI (d b j σ k _ l n) λu p ⟨x,q,t,w,z⟩=>JI (hi b p σ q _ t z) λK L ⟨y,M,B,C,a,E,F,g,G⟩=>?_) f;subst F;obtain rfl:u=Value.ref a:=w;exact Tr c B g C m λN J=>⟨σ,E,J,G⟩
end
def Mf{P:A7}{w:F8}{H:Hp}(h:IM)(a:sysModules<h.objs.size):IZ P w H (h.push { cls:=.type "dict",data:=.dict #[] }) h.objs.size (.dK []) :=
 ⟨CL _,beq_eq_false_iff_ne.mpr (Ne.symm (BI a)),[],.nil,Heap.DictOf.new h⟩
def zEa:TE:=λ_ H Q=>∀p,H p=none->Q (.ref p) (IK H p (.dK []))
section
variable{X:Cx}{pos:Pos}
theorem Uy:PE X (.Dict [] [] pos) zEa:=λb s σ H Q I h =>
 wpAny_Dict_empty ⟨.ref s.heap.objs.size,_,I.laid (a:=s.heap.objs.size) (o:=.dK []) (t':=s.toks) (λ_ _ q=>AG _ q) (Nat.le_refl _) (Mf s.heap I.big),rfl,h _ (I.hok.fresh (Nat.le_refl _))⟩
end
def IsD(H:Hp)(a:A3):Prop:=(∃b,Rd H a (.dK b))\/∃b,Rd H a (.dT b)
def zBn{X:Cx}{f:A1 (A3×Obj)}{σ:St}{H:Hp}{s:A4}{a:A3}(I:Inv X f σ H s)(d:IsD H a) :
  s.TypeIs (.ref a) "dict"/\(∀b,Value.ref a = .ref b->∃c,s.heap.get? b=some c/\c.dict=none)/\(a == sysModules)=false:=by
 rcases d with⟨h,e⟩ | ⟨h,e⟩
 .obtain⟨_,i,l,_,g⟩:=Su I.hok e;refine⟨g.typeIs,λb q=>?_,i⟩;cases q;obtain⟨c,_,_,j,k,_⟩:=g;exact⟨c,j,k.2.1⟩
 .obtain⟨_,i,m,_,g⟩:=Tz I.hok e;refine⟨g.typeIs,λb q=>?_,i⟩;cases q;obtain⟨c,_,_,j,k,_⟩:=g;exact⟨c,j,k.2.1⟩
end L2
namespace Att
open PySem PySem.W PySem.Calls PyProof.Rows
def Bk{P:Params}{h:IM}:∀(ns:A1 Int) (vs:A1 A2),WellAll P h vs (ns.map WData.int)->IntsAre vs ns:=by
 intro ns
 induction ns with
 | nil =>
  intro vs w;rw[EK]at w;cases w;exact .nil
 | cons n ns c =>
  intro vs w;rw[BK]at w;cases w with
  | cons a b =>
   cases a;exact .cons _ _ (c _ b)
def Se{l:OpenLaw}{n:Nat}(o:l.most=some n){P:Params}{h:IM}{args:A1 WData}{b:A1 A2}
  (c:l.row.toRowW.claim.pre args=true) (j:WellAll P h b args) :
  ∃a vs ns,b = [Value.ref a]/\args = [WData.list (ns.map WData.int)]/\h.get? a=some { cls:=.type "list",data:=.seq vs.toArray }/\IntsAre vs ns/\ns.length<=n:=by
 have k:WShape.hasAll [] args [.list .int]=true:=(pre_splitW c).1;have m:l.pre.holds [] { args:=args }=true:=(pre_splitW c).2;obtain⟨d,r,rfl,p,s⟩:=hasAllW_cons k;obtain rfl:=hasAllW_nil s;obtain⟨y,rfl,t⟩:=hasW_list p;obtain⟨ns,rfl⟩:=items_int t;have e:ns.length<=n:=by
  unfold OpenLaw.pre at m;have g:(WTm.not (.lt (.lit (.int (n:Int))) (.len (.arg 0)))).holds [] { args:=[.list (ns.map .int)] }=true:=by
   have g:=(holds_andW m).1;rw[o]at g;exact g
  have i:=condW_of g (w_not (w_lt w_lit (w_len_list (w_arg rfl))));rw[AB]at i;refine Nat.le_of_not_lt λq=>?_;have u:(n:Int) <((ns.length:Nat):Int):=by lia
  first
   | (rw[BB u]at i;exact absurd i (by decide))
   | (simp at i;lia)
 cases j with
 | cons v w =>
  cases w;cases v with
  | list x f=>exact⟨_,_,ns,rfl,rfl,x,Bk ns _ f,e⟩
def Tp(l:OpenLaw)(args:A1 WData):l.row.toRowW.claim.post args (.bool true) args=true :=
 postW_of (r:=l.row.toRowW) (X:=(true == true))
  (show WShape.has [] (.bool true) .bool=true by first | rfl | decide | simp[WShape.has,WShape.arms,WShape.armsAll])
  (show(WTm.eq .res (.lit (.bool true))).value [] { args:=args,res:=some (.bool true),after:=args }=some (.bool (true == true))from w_eq_bool (w_res rfl) w_lit) rfl
def QF{l:OpenLaw}{n:Nat}{q:A7}{b:A1 Str}{z:(Str->A5 A2)->IM->Prop}{A:F8->IM->Prop}{d:DefRec}
  (E:l.most=some n) (p:d.params.defaults = [])
  (call:∀(w:F8) (s₀ s₁:A4) (mg t:Str->A5 A2) (g:A3) (o:Obj) (u k c:A2) (a:A3) (vs:A1 A2) (ns:A1 Int),
   Ground q b [] z w s₀ mg t s₁.heap->A w s₁.heap ->
   s₁.heap.get? g=some o->o.data = .func (docDef d.name d.params d.body d.scope u k c)->s₁.heap.CodeRec k d.name->mg d.name=some (.ref g) ->
   s₁.heap.get? a=some { cls:=.type "list",data:=.seq vs.toArray }->IntsAre vs ns->ns.length<=n->s₁.gens = #[] ->
   codeAny (model l.prog w) callerA (.call (.ref g) ⟨[.ref a],[]⟩) (λr m=>r = .ok (.ret (.bool true))/\OldK s₁.heap m.heap/\m.os=s₁.os/\AllBare m.gens) s₁) :
  WalkO q b z A l.row.toRowW d [] (λf vs=>PySem.call f vs):=by
 intro w s₀ s₁ mg t G Y g o u k c F kV H I v B x J args C R h D K y L;obtain rfl:F = .none:=Dflts.none B p;obtain rfl:kV = .none:=Dflts.noKw B;obtain⟨a,vs,ns,rfl,rfl,i,e,j⟩:=Se E h y;refine enter_call (codeAny_mono (call w s₀ s₁ mg t g o u k c a vs ns G Y H (fd_plain I) v x i e j J) λr m M=>?_);obtain⟨rfl,N,O,P⟩:=M;exact⟨.inl ⟨.bool true,.bool true,[],rfl,λ_=>rfl,.bool true,Tp l _,λ_=>⟨List.Pairwise.nil,λ_ Q=>(nomatch Q)⟩⟩,N,O,P⟩
end Att
namespace L2
open PySem PySem.Spec PyProof.Rows
def Ik:∀{vs:A1 A2} {ns:A1 Int},IntsAre vs ns->IV (ns.map V.int) vs
 | _,_,.nil=>.nil
 | _,_,.cons n t h=>.cons ⟨t,rfl⟩ (Ik h)
def O8(s:I7)(j:Nat):I7:=match s with
 | .ClassDef _ _ _ a _ _ _ _ _ _ _=>a.getD j (.Pass ⟨0,0,0,0⟩)
 | _=>.Pass ⟨0,0,0,0⟩
def T0(s:I7):Arguments:=match s with
 | .FunctionDef _ a _ _ _ _ _ _ _ _=>a
 | _=>{ posonlyargs:=[],args:=[],vararg:=none,kwonlyargs:=[],kw_defaults:=[],kwarg:=none,defaults:=[] }
def P4(s:I7):A1 I7:=match s with
 | .FunctionDef _ _ b _ _ _ _ _ _ _=>b
 | _=>[]
def B7(s:I7):JH:=match s with
 | .FunctionDef _ _ _ _ _ _ a _ _ _=>a
 | _=>{ kind:=.function,names:=[],isGenerator:=false,isCoroutine:=false }
abbrev JE:RT:=λ_ _ _ _ _ _=>False
abbrev E0:XK:=λ_ _ _=>False
def J9{X:Cx}:Al JE X E0:=λ_ _ _ _ _ _ _ h=>h.elim
structure QA(K:PySem.W.Frag)(x qual:Str)(st:I7)(f:A3)(fd:JA):Prop where
 ex:∃(oc:A2) (od:A5 A3) (kV doc pm:A2) (an:A5 A3) (cdv ct:A2) (osl:CW (A5 A2)),
  fd=PySem.W.fnOf x qual (T0 st) (P4 st) (B7 st) .none kV doc pm an cdv ct/\K.lookup f=some ⟨oc,od,.func fd,osl⟩/\PySem.W.codeIn K cdv qual=true
 kp:PySem.W.keepIn K (.ref f)=true
section
variable{P:A7}{w:F8}{K:PySem.W.Frag}{mg:Str->A5 A2}{base:IM}
theorem QA.ok{x b:Str}{st:I7}{f:A3}{l:JA}{N e:A1 Str}{k:Nat}{sp:Sp}(F:QA K x b st f l)(S:IL N e (B7 st))(g:∀vs H Q E,sp vs H Q E->vs.length=e.length)
  (d:∀(c:A2) (A:IR) (a:A1 PR) (s:A4) (H:Hp) (vs:A1 V) (Q:VK) (E:XK),JQ k (A.deeper (envOfC b (B7 st) s.heap.objs.size f c))->sp vs H Q E ->
   ∃t,QN (Vv JE P w K mg base N b (B7 st) f c A a s H E).nox (P4 st) t/\t { nx:=λ_ H'=>Q .non H',rt:=Q } (Bl N vs) H):IU P w K mg base JE (k+1) f l e sp:=by
 obtain⟨p,r,kV,m,u,v,c,y,n,rfl,lk,i⟩:=F.ex;refine zBr lk i S g λA a s H vs Q E o j=>?_;obtain⟨t,h,q⟩:=d c A a s H vs Q E o j;exact⟨t,h.nox,q⟩
theorem QA.binds{x a:Str}{st:I7}{f:A3}{i:JA}{d:A1 Str}(F:QA K x a st f i)
  (h:∀(kV b e:A2) (g:A5 A3) (c ct:A2) (us:A1 A2),us.length=d.length->bindArgs (PySem.W.fnOf x a (T0 st) (P4 st) (B7 st) .none kV b e g c ct) ⟨us,[]⟩=pure (d.zip us)):Binds K i d []:=by
 obtain⟨l,m,kV,b,e,g,c,ct,j,rfl,lk,k⟩:=F.ex;exact .all (h kV b e g c ct)
theorem MA{x a:Str}{st:I7}{f:A3}{i:A2}{j g:A5 A3}{e:CW (A5 A2)}{kV d h b ct:A2}(l:K.lookup f=some ⟨i,j,.func (PySem.W.fnOf x a (T0 st) (P4 st) (B7 st) .none kV d h g b ct),e⟩)
  (c:PySem.W.codeIn K b a=true) (k:PySem.W.keepIn K (.ref f)=true):QA K x a st f (PySem.W.fnOf x a (T0 st) (P4 st) (B7 st) .none kV d h g b ct):=⟨⟨i,j,kV,d,h,g,b,ct,e,rfl,l,c⟩,k⟩
end
def V6{A:IR}{k:Nat}(a:JQ k A):A.units+1<cLine:=Nat.lt_of_le_of_lt (EL (by decide:1<=64) _) a.units
section
variable{X:Cx}
theorem pv(i:Nat){x:Str}{pos:Pos}(b:X.N[i]?=some x:=by rfl)(c:UC X.env.scope x:=by first | exact Or.inl rfl | exact Or.inr (Or.inl rfl) | exact Or.inr (Or.inr rfl))(d:(x ==("__debug__":Str))=false:=by decide)
  (a:(x ==("__classdict__":Str))=false:=by decide):PE X (.Name x pos) (Pe i):=Xt b c d a
end
def Z0{A B:Prop}(h:B):if false=true then A else B:=by
 rw[AJ BA];exact h
def Ul{A B:Prop}(h:A):if true=true then A else B:=by
 rw[AL rfl];exact h
def V0{c A B:Prop}[Decidable c](h1:c->A)(h2:¬c->B):if c then A else B:=by
 by_cases h:c
 .rw[AL h];exact h1 h
 .rw[AJ h];exact h2 h
def F1(H H':Hp):Prop:=∀b o,H b=some o->H' b=some o
def F1.refl(H:Hp):F1 H H:=λ_ _ h=>h
def F1.trans{H d e:Hp}(a:F1 H d)(b:F1 d e):F1 H e:=λc o h=>b c o (a c o h)
def F1.free{H H':Hp}(e:F1 H H'){l:A3}(h:H' l=Option.none):H l=Option.none:=by
 cases q:H l with
 | none=>rfl
 | some o =>
  rw[e l o q]at h;cases h
section
variable{κ:Type}[DecidableEq κ]
theorem Qs:∀{l:A1 κ} {k:κ},l.Nodup->¬k∈l->(l ++ [k]).Nodup
 | [],k,_,_=>by simp
 | a::r,k,h,b=>by
  obtain⟨c,d⟩:=BX.mp h;show(a ::(r ++ [k])).Nodup;refine BX.mpr ⟨λm=>?_,Qs d λm=>b (AK.mpr (Or.inr m))⟩;rcases AO.mp m with q | q
  .exact c q
  .exact b (AK.mpr (Or.inl (AD.mp q).symm))
end
def LE(X:Cx)(a:JH)(cl:A1 (Str×A3))(N':A1 Str)(b:A1 (A3×Obj))(ex:A1 A3)(c:A4)(d:Hp):Cx where
 prog:=X.prog
 w:=X.w
 K:=X.K
 mg:=X.mg
 base:=X.base
 A:=X.A
 N:=N'
 s₀:=c
 H₀:=d
 env:=compEnvC a cl c.heap.objs.size X.env
 outer:=X.stack
 stack:=X.stack
 ex:=ex
 fn:=λ_=>false
 calm:=X.calm
 pn:=X.pn++b
 xe:=λ_ _=>False
def OS(X:Cx)(a:JH)(cl:A1 (Str×A3)):A1 Str->A1 (A5 Nat)->Prop
 | [],[]=>True
 | _::N,none::c=>OS X a cl N c
 | x::N,some j::c=>(X.N[j]?=some x/\X.env.scope.names.lookup x=some .cell/\(relabel a X.env).names.lookup x=some .cell/\cl.lookup x=X.env.cells.lookup x)/\OS X a cl N c
 | _,_=>False
def RA(X:Cx):A1 (Str×A3)->Prop
 | []=>True
 | p::r=>X.env.cells.lookup p.1=some p.2/\RA X r
structure MC(X:Cx)(scope:JH)(cl:A1 (Str×A3))(N':A1 Str)(cap:A1 (A5 Nat)):Prop where
 kind:scope.kind = .function
 nocell:∀y∈scope.names,y.2≠ .cell
 loc:∀y∈scope.names,y.2 = .local->scope.names.lookup y.1=some .local
 clos:closureFor scope X.env=pure cl
 cin:RA X cl
 has:((relabel scope X.env).names.all λy=>!(y.2 == .cell||y.2 == .free)||(cl.lookup y.1).isSome)=true
 caps:OS X scope cl N' cap
def Wg(cap:A1 (A5 Nat))(σ:St):St:=cap.map λo=>o.bind λj=>(σ[j]?).join
def RA.get{X:Cx}:∀{cl:A1 (Str×A3)} {x:Str} {c:A3},RA X cl->cl.lookup x=some c->X.env.cells.lookup x=some c
 | [],_,_,_,h=>by simp at h
 | (y,d)::r,x,c,⟨a,b⟩,h=>by
  rw[IB]at h;cases e:x == y with
  | true =>
   rw[e]at h;cases h;rw[beq_iff_eq.mp e];exact a
  | false =>
   rw[e]at h;exact RA.get b h
def OS.len{X:Cx}{a:JH}{cl:A1 (Str×A3)}:∀{N:A1 Str} {cap:A1 (A5 Nat)},OS X a cl N cap->cap.length=N.length
 | [],[],_=>rfl
 | _::N,none::c,h=>by rw[AR,AR,OS.len (N:=N) (cap:=c) h]
 | _::N,some j::c,h=>by rw[AR,AR,OS.len h.2]
 | [],_::_,h=>h.elim
 | _::_,[],h=>h.elim
def OS.get{X:Cx}{a:JH}{cl:A1 (Str×A3)}{j:Nat}{x:Str}:∀{N:A1 Str} {cap:A1 (A5 Nat)} {i:Nat},OS X a cl N cap->N[i]?=some x->cap[i]?=some (some j) ->
  X.N[j]?=some x/\X.env.scope.names.lookup x=some .cell/\(relabel a X.env).names.lookup x=some .cell/\cl.lookup x=X.env.cells.lookup x
 | [],_,_,_,h,_=>by simp at h
 | _::_,[],_,_,_,h=>by simp at h
 | y::N,none::c,0,_,_,h=>by simp at h
 | y::N,none::c,i+1,h,b,d=>OS.get (N:=N) (cap:=c) (i:=i) h (by simpa using b) (by simpa using d)
 | y::N,some k::c,0,h,b,d=>by
  simp at b d;subst b;subst d;exact h.1
 | y::N,some k::c,i+1,h,b,d=>OS.get (N:=N) (cap:=c) (i:=i) h.2 (by simpa using b) (by simpa using d)
section
variable{X:Cx}{scope:JH}{cl:A1 (Str×A3)}{N':A1 Str}{cap:A1 (A5 Nat)}{pins:A1 (A3×Obj)}{σ:St}{H3:Hp}{s3:A4}{ex:A1 A3}
theorem Df{p:KH->Bool}:∀{names:A1 (Str×KH)} {q:Str->KH->Bool} {x:Str} {k:KH},(names.all λy=>q y.1 y.2)=true->names.lookup x=some k->q x k=true
 | [],_,_,_,_,h=>by simp at h
 | (y,d)::r,q,x,k,a,h=>by
  rw[List.all_cons,BW]at a;rw[IB]at h;cases e:x == y with
  | true =>
   rw[e]at h;cases h;rw[beq_iff_eq.mp e];exact a.1
  | false =>
   rw[e]at h;exact Df (p:=p) (names:=r) (q:=q) a.2 h
theorem Inv.block(I:Inv X pins σ H3 s3)(S:MC X scope cl N' cap)(hc:X.calm=true)(t:∀b∈ex,Es X pins H3 b/\∃o,s3.heap.get? b=some o){h1:IM}{T:Nat}
  (G:h1.Ns s3.heap.objs.size (λ_=>none)) (B:∀b o,s3.heap.get? b=some o->h1.get? b=some o) :
  Inv (LE X scope cl N' pins ex s3 H3) [] (Wg cap σ) H3 { s3 with heap:=h1,toks:=T }:=by
 have C:∀b o,s3.heap.get? b=some o->b≠s3.heap.objs.size:=λb o e=>BI (AM e);have w:∀x c,cl.lookup x=some c->∃v,s3.heap.IsCell c v:=λx c e=>I.cell x c (S.cin.get e);have A:H3 s3.heap.objs.size=none:=I.hok.fresh (Nat.le_refl _);refine⟨⟨I.ok.mod,?_,I.ok.glob,I.ok.blt,Nat.le_refl _,λx y c H g=>I.ok.inj x y c (S.cin.get H) (S.cin.get g),λx U=>?_,λx c h _=>absurd h BA,I.ok.hd,I.ok.frames,.inl rfl,λb D=>?_,I.bs,Nat.le_trans I.ok.bsz I.sz,λb o e D=>?_,λb D=>?_,I.stack,I.stkFree⟩,
  rfl,I.bare,Un.kept B,⟨_,G,λi x v H g e3=>?_⟩,λx c e=>?_,A,λx c e=>I.freeC x c (S.cin.get e),λp V=>?_,I.hok.kept B,?_⟩
 .exact S.kind
 .have q:∀k,(relabel scope X.env).names.lookup x=some k->(!(k == .cell||k == .free)||(cl.lookup x).isSome)=true:=λk e=>Df (p:=λ_=>true) (q:=λa k=>!(k == .cell||k == .free)||(cl.lookup a).isSome) S.has e;have J:(relabel scope X.env).names.lookup x=some .cell\/(relabel scope X.env).names.lookup x=some .free:=U;have:(cl.lookup x).isSome=true:=by
   rcases J with e | e
   .exact q _ e
   .exact q _ e
  exact EE.mp this
 .obtain⟨⟨_,_,_,_,W,_⟩,o,e⟩:=t b D;exact⟨C b o e,λx c E=>W x c (S.cin.get E)⟩
 .obtain⟨⟨f0,P,Q,f3,_⟩,_⟩:=t b D;rcases f3 with f3 | f3
  .exact I.ok.noex b o e f3
  .have:=(I.ok.bs b o e).1;exact absurd (BJ (AM this) f3) (CU _)
 .intro K;obtain⟨⟨_,P,Q,_⟩,_⟩:=t b D;rcases AK.mp (I.stkSub b K)with z | z
  .exact P z
  .exact Q z
 .unfold Wg at g;rw[AH]at g;cases E:cap[i]? with
  | none=>rw[E]at g;cases g
  | some o =>
   rw[E]at g;cases o with
   | none=>cases g
   | some j =>
    have f:(σ[j]?).join=some v:=BH g;obtain⟨Y,R,Z,c4⟩:=S.caps.get H E;have F:σ[j]?=some (some v):=by
     cases F:σ[j]? with
     | none=>rw[F]at f;cases f
     | some z=>rw[F]at f;cases z with
      | none=>cases f
      | some z=>cases f;rfl
    obtain⟨m,hn,hl⟩:=I.loc;obtain⟨u,r,l⟩:=hl j x v Y F (.inr (.inl R));refine⟨u,r,?_⟩;rcases l with⟨k,_⟩ | ⟨_,c,L,s⟩
    .have:X.env.scope.names.lookup x=some .local:=k;rw[R]at this;cases this
    .exact .inr ⟨.inl Z,c,c4.trans L,let⟨o,M,N⟩:=s;⟨o,B _ _ M,N⟩⟩
 .obtain⟨v,o,M,N⟩:=w x c e;exact⟨v,o,B _ _ M,N⟩
 .have O:p∈X.pn++pins:=by simpa [LE] using V
  obtain⟨e,n,ne,nf,d⟩:=I.pin p O;refine⟨B _ _ e,n,C _ _ e,λK=>?_,d⟩;rcases AK.mp (I.stkSub p.1 K)with z | z
  .exact ne z
  .exact nf z
 .unfold Wg;rw[AB];exact S.caps.len
theorem Inv.unblock{σ':St}{H':Hp}{s':A4}{h':IM}(I:Inv X pins σ H3 s3)(g:∀b∈ex,Es X pins H3 b)(J:Inv (LE X scope cl N' pins ex s3 H3) [] σ' H' s')(f:Heap.SameBut s3.heap.objs.size s'.heap h') :
  Inv X pins σ H' { s' with heap:=h' }:=by
 have d:H' s3.heap.objs.size=none:=J.free;refine I.call' (ch:=ex) J.os ⟨λb o e n h a=>?_,λb o e n h a=>?_,λb o e n a=>?_,λb o e a=>?_,J.base.tups,J.base.frzs,J.base.tbls⟩ (λb j e=>?_) J.bare λb i=>?_
 .exact(f.2 b (BI (AM e))).trans (J.base.keep b o e n h a)
 .obtain⟨k,q⟩:=J.base.slot b o e n h a;exact⟨k,(f.2 b (BI (AM e))).trans q⟩
 .exact J.base.free b o e n a
 .obtain⟨l,q⟩:=J.base.there b o e a;exact⟨l,(f.2 b (BI (AM e))).trans q⟩
 .refine(J.hok b j e).stay (λc u m q=>(f.2 c ?_).trans q) (λ_ q=>q) λ_ _ q=>q;rintro rfl;rcases m with z | z
  .rw[<-z,d]at e;cases e
  .rw[d]at z;cases z
 .obtain⟨_,p,_,r,s,t⟩:=g b i;exact⟨r,p,s,t⟩
end
def Dt(e:IQ)(d:Nat)(iter tg:IQ)(ifs:A1 IQ)(b:Sem Fin->Sem Fin)(g f:A2)(a:PR):Sem Fin:=do
 standAt iter.pos
 match <-pyNext g with
 | none=>pure (.done .next)
 | some v =>
  letOwnedTupleGo tg g v
  assign tg a v
  let mut h:=true
  for c in ifs do
   if h then h <-isTrue c a (eval c a)
  if h then b (again (.compLoop e d g f a))else again (.compLoop e d g f a)
def emL(a:IQ)(b:A2)(c:PR)(k:Sem Fin):Sem Fin:=(do let _ <-call (.builtin "list.append") [b,<-eval a c]:Sem Unit) >>= λ_=>k
def emD(a b:IQ)(D:A3)(c:PR)(k:Sem Fin):Sem Fin:=(do
   let d <-eval a c
   let e <-holding [d] (eval b c)
   standAt { a.pos with endLine:=b.pos.endLine,endCol:=b.pos.endCol }
   holding [d,e] (dictSet D d e):Sem Unit) >>= λ_=>k
def emS(a:IQ)(b:A2)(c:PR)(k:Sem Fin):Sem Fin:=(do let v <-eval a c;standAt a.pos;let _ <-call (.builtin "set.add") [b,v]:Sem Unit) >>= λ_=>k
def emN(e a:IQ)(d:Nat)(c:A2)(b:PR)(k:Sem Fin):Sem Fin:=do
    let x <-eval a b
    standAt a.pos
    let x <-foldedSetIterable a b x
    let _ <-runOwn (.compStart e d (<-holding [x] (pyIter x)) c b) b
    k
def Db(b tg iter:IQ)(ifs:A1 IQ)(a:JH)(pos:Pos)(e c:A2)(d:PR) :
  compTurn (.ListComp b [⟨tg,iter,ifs,0⟩] a pos) 0 e c d=Dt (.ListComp b [⟨tg,iter,ifs,0⟩] a pos) 0 iter tg ifs (emL b c d) e c d:=rfl
def Oo(k v tg iter:IQ)(ifs:A1 IQ)(a:JH)(pos:Pos)(c:A2)(D:A3)(b:PR) :
  compTurn (.DictComp k v [⟨tg,iter,ifs,0⟩] a pos) 0 c (.ref D) b=Dt (.DictComp k v [⟨tg,iter,ifs,0⟩] a pos) 0 iter tg ifs (emD k v D b) c (.ref D) b:=rfl
def Om(d tg iter e a:IQ)(ifs b:A1 IQ)(c:JH)(pos:Pos)(h f:A2)(g:PR) :
  compTurn (.SetComp d [⟨tg,iter,ifs,0⟩,⟨e,a,b,0⟩] c pos) 1 h f g=Dt (.SetComp d [⟨tg,iter,ifs,0⟩,⟨e,a,b,0⟩] c pos) 1 a e b (emS d f g) h f g:=rfl
def Od(d tg iter e a:IQ)(ifs c:A1 IQ)(b:JH)(pos:Pos)(h f:A2)(g:PR) :
  compTurn (.SetComp d [⟨tg,iter,ifs,0⟩,⟨e,a,c,0⟩] b pos) 0 h f g=Dt (.SetComp d [⟨tg,iter,ifs,0⟩,⟨e,a,c,0⟩] b pos) 0 iter tg ifs
   (emN (.SetComp d [⟨tg,iter,ifs,0⟩,⟨e,a,c,0⟩] b pos) a 1 f g) h f g:=rfl
abbrev RB:=St->Hp->(St->Hp->Prop)->Prop
def UE(X:Cx)(b:Sem Fin->Sem Fin)(t:RB):Prop :=
 ∀(a:A1 (A3×Obj)) (s:A4) (σ:St) (H:Hp) (Q:St->Hp->Prop) (k:Sem Fin) (F:Fin->A4->Prop) (E:A2->A4->Prop),Inv X a σ H s->t σ H Q ->
  (∀c σ' d,Inv X a σ' d c->Q σ' d->wpAny (model X.prog X.w) X.A k F E c)->wpAny (model X.prog X.w) X.A (b k) F E s
def RJ(X:Cx)(ifs:A1 IQ)(t:TT):Prop :=
 ∀(a:A1 (A3×Obj)) (s:A4) (σ:St) (H:Hp) (Q:Bool->Hp->Prop),Inv X a σ H s->t σ H Q ->
  wpAny (model X.prog X.w) X.A (forIn ifs true λc r=>if r=true then do let b <-isTrue c X.env (eval c X.env);pure (ForInStep.yield b)else pure (ForInStep.yield r)) (TP X a σ Q) X.xe s
def Cj:TT:=λ_ H Q=>Q true H
def J8{X:Cx}:RJ X [] Cj:=λ_ _ _ H _ I h=>wpAny_tests_nil ⟨H,I,h⟩
def U8{X:Cx}{c:IQ}{t:TT}(h:PT X c t):RJ X [c] t:=λa s σ H Q I q=>wpAny_tests_one (h a s σ H Q I q)
def Fi(g:TG)(e:TT)(f:RB)(J:It)(σ:St)(H:Hp)(Q:St->Hp->Prop):Prop :=
 ∃W:Nat->Nat->St->Hp->Prop,(∃m,W 0 m σ H)/\∀i m σ H,W i m σ H->(J.stop i H/\Q σ H)\/(J.go i H/\∀x c,J.yld i H x c->g x σ c λσ2 h=>e σ2 h λb d =>
  if b=true then f σ2 d λσ3 j=>∃a,a < m/\W (i+1) a σ3 j else ∃a,a < m/\W (i+1) a σ2 d)
section
variable{X:Cx}{e tg iter:IQ}{d:Nat}{ifs:A1 IQ}{emit:Sem Fin->Sem Fin}{it:A3}{acc:A2}{g:TG}{tc:TT}{em:RB}{J:It}{fp:A1 A3}{tn:Nat->IM->Prop}{R:Result->A4->Prop}
theorem X4(G:X.A.under (.compLoop e d (.ref it) acc X.env)=X.A)(t:(model X.prog X.w).den (.compLoop e d (.ref it) acc X.env) =(compTurn e d (.ref it) acc X.env).onRaise (λx=>do noteFrame x X.env;theTreesLotGoes x))(V:X.calm=true)(L:X.xe=λ_ _=>False)(M:compTurn e d (.ref it) acc X.env=Dt e d iter tg ifs emit (.ref it) acc X.env)(hg:PG X tg g)(ht:RJ X ifs tc)(N:UE X emit em)
  (T:NA X.prog X.w X.K tg J fp it tn) {a:A1 (A3×Obj)} {s:A4} {σ:St} {H:Hp} {Q:St->Hp->Prop} (I:Inv X a σ H s) (st:tn 0 s.heap) (Y:∀b∈fp,Es X a H b) (h:Fi g tc em J σ H Q)
  (hR:∀v σ' H',Inv X a σ' H' v->Q σ' H'->R (.ok .next) v):codeAny (model X.prog X.w) X.A (.compLoop e d (.ref it) acc X.env) R s:=by
 obtain⟨W,⟨m0,w0⟩,y⟩:=h;have c:∀{H':Hp},(∀b∈fp,H' b=none)->∀b∈fp,Es X a H' b:=λhn b f=>⟨hn b f,(Y b f).2⟩;have Z:∀{α:Type} {m:Sem α} {P:α->A4->Prop} {E:A2->A4->Prop} {s:A4},wpAny (model X.prog X.w) X.A m P X.xe s->wpAny (model X.prog X.w) X.A m P E s:=λq=>by
  rw[L]at q;exact B_ q (λ_ _ z=>z) λ_ _ z=>z.elim
 refine codeAny_loop rfl (λn v=>∃i σ' H',Inv X a σ' H' v/\tn i v.heap/\(∀b∈fp,H' b=none)/\W i n σ' H') (λn s3 hI=>?_) m0 ⟨0,σ,H,I,st,λb f=>(Y b f).1,w0⟩;obtain⟨i,σ3,D,I3,B,C,w3⟩:=hI;rw[G,t];refine wpAny_noted ?_;rw[M];unfold Dt;refine AA (FI (AA ?_));rcases y i n σ3 D w3 with⟨stop,qn⟩ | ⟨go,step⟩
 .refine B_ (T.done X rfl rfl rfl V i a s3 σ3 D _ I3 (c C) B stop) (λr s4 ⟨O,I4⟩=>?_) λ_ _ z=>z;subst O;exact AF (hR s4 σ3 D I4 qn)
 .refine B_ (T.item X rfl rfl rfl V i a s3 σ3 D _ I3 (c C) B go) (λr s4 ⟨u,O,h4⟩=>?_) λ_ _ z=>z;subst O;refine AA (B_ h4 (λ_ s5 ⟨x,H5,I5,r5,y5,j,S⟩=>?_) λ_ _ z=>z);have U:=I5.pinned (c S) (T.obj _ _ j);have again:∀{σ7:St} {k:Hp} {l:A4},Inv X (a++Hk fp s5.heap) σ7 k l->(∃F,F < n/\W (i+1) F σ7 k)->∃m,m<n/\∃i σ' H',Inv X a σ' H' l/\tn i l.heap/\(∀b∈fp,H' b=none)/\W i m σ' H':=fun{σ7 k l} p n7=>by
   obtain⟨F,hm,w7⟩:=n7;refine⟨F,hm,i+1,σ7,k,p.unpinned,T.keep _ _ _ j λb f o e=>(p.pin (b,o) (BG _ (BG _ (Y2 f e)))).1,λb f=>?_,w7⟩;obtain⟨o,e,d⟩:=T.obj _ _ j b f;exact(p.pin (b,o) (BG _ (BG _ (Y2 f e)))).2.1
  refine AA (B_ (Z (hg _ s5 σ3 H5 x u _ U r5 (step x H5 y5))) (λ_ s6 ⟨σ6,H6,I6,q6⟩=>?_) λ_ _ z=>z);refine AA (B_ (Z (ht _ s6 σ6 H6 _ I6 q6)) (λok l ⟨k,p,q7⟩=>?_) λ_ _ z=>z);cases ok with
  | false=>exact AF ⟨rfl,again p q7⟩
  | true =>
   exact N _ l σ6 k _ _ _ _ p q7 λs8 σ8 H8 I8 q8=>AF ⟨rfl,again I8 q8⟩
theorem w4(f:X.A.under (.compStart e d (.ref it) acc X.env)=X.A)(b:(model X.prog X.w).den (.compStart e d (.ref it) acc X.env) =(compStart e d (.ref it) acc X.env).onRaise (λx=>do noteFrame x X.env;standAt theWindowsPlace)){gs:A1 Comprehension}(g:clausesOf e=gs)(k:gs[d]?=some ⟨tg,iter,ifs,0⟩){s:A4}(T:NA X.prog X.w X.K tg J fp it tn)(st:tn 0 s.heap)
  (h:codeAny (model X.prog X.w) X.A (.compLoop e d (.ref it) acc X.env) R s):codeAny (model X.prog X.w) X.A (.compStart e d (.ref it) acc X.env) R s:=by
 refine codeAny_of_tree ?_;rw[f,b];refine wpAny_notedAt ?_;unfold compStart;rw[g,k];show wpAny _ X.A (ask >>= _) _ _ s;refine AA (HA (wpAny_ite ?_));have j:=T.self X.A 0 s (λa c=>codeAny (model X.prog X.w) X.A (.compLoop e d a acc X.env) R c) (notedBy (model X.prog X.w) X.A X.env λx c=>R (.error x) c) st h;split
 .first
   | exact AA (AF (AF (And.intro rfl h)))
   | exact AF (And.intro rfl h)
 .first
   | exact AA (EG (AA (FI (AA (B_ j (λa c i=>AF (And.intro rfl i)) λ_ _ x=>x)))))
   | (refine AA (EG ?_);show wpAny _ _ (standAt iter.pos >>= _) _ _ s;exact AA (FI (AA (B_ j (λa c i=>AF (And.intro rfl i)) λ_ _ x=>x))))
end
section
variable{X:Cx}{tg iter:IQ}{ifs:A1 IQ}{g:TG}{tc:TT}{em:RB}{scope:JH}{cl:A1 (Str×A3)}{N':A1 Str}{cap:A1 (A5 Nat)}{pos:Pos}{wi:TI}
def Iz(wi:TI)(o:A3->HO)(cap:A1 (A5 Nat))(b:A3->It->St->Hp->(St->Hp->Prop)->Prop):TE:=λσ H Q=>wi σ H λJ a=>∀D,a D=none->b D J (Wg cap σ) (IK a D (o D)) λ_ c=>Q (.ref D) c
theorem Fp{e:IQ}{gs:A1 Comprehension}{newAcc:Sem A2}{p2:Pos}(r:clausesOf e =⟨tg,iter,ifs,0⟩::gs)(o:A3->HO)(hs:∀x,foldedSetIterable iter X.env x=pure x)(S:MC X scope cl N' cap)(hc:X.calm=true)(hi:PI X tg iter wi)
  {lp:A3->It->St->Hp->(St->Hp->Prop)->Prop}
  (t:∀(a:A1 (A3×Obj)) (s:A4) (σ:St) (H:Hp) (Q:A2->A4->Prop) (E:A2->A4->Prop),Inv X a σ H s->(∀l,Inv X a σ (IK H s.heap.objs.size (o s.heap.objs.size)) l->(∀b f,s.heap.get? b=some f->l.heap.get? b=some f)->Q (.ref s.heap.objs.size) l)->wpAny (model X.prog X.w) X.A newAcc Q E s)
  (L:∀(a:A1 (A3×Obj)) (M:A1 A3) (s3:A4) (N:Hp) (D k:A3) (fp:A1 A3) (u:Nat->IM->Prop) (J:It) (σ:St) (s:A4) (H:Hp) (Q:St->Hp->Prop) (R:Result->A4->Prop),
   NA X.prog X.w X.K tg J fp k u->Inv (LE X scope cl N' a M s3 N) [] σ H s->u 0 s.heap->(∀b∈fp,Es (LE X scope cl N' a M s3 N) [] H b)->lp D J σ H Q ->
   (∀l σ' H',Inv (LE X scope cl N' a M s3 N) [] σ' H' l->Q σ' H'->R (.ok .next) l) ->
   codeAny (model X.prog X.w) X.A (.compLoop e 0 (.ref k) (.ref D) (compEnvC scope cl s3.heap.objs.size X.env)) R s)
  (O:∀k D g,X.A.under (.compStart e 0 (.ref k) (.ref D) g)=X.A) (B:∀k D g,(model X.prog X.w).den (.compStart e 0 (.ref k) (.ref D) g) =(compStart e 0 (.ref k) (.ref D) g).onRaise (λx=>do noteFrame x g;standAt theWindowsPlace))
  (P:∀E Q s,wpAny (model X.prog X.w) X.A (comprehension e scope X.env p2 newAcc false (eval iter X.env)) Q E s->wpAny (model X.prog X.w) X.A (eval e X.env) Q E s) :
  PE X e (Iz wi o cap lp):=by
 intro a s σ H Q I h;refine P _ _ _ (wpAny_comprehension_free (use:=none) r hs S.clos S.kind S.loc (JI (hi a s σ H _ I h) λv s1 C=>JI C λitv i h2=>?_));obtain⟨k,fp,u,J,q,U,I2,T,F,f2,R2⟩:=h2;subst U;refine t a i σ q _ _ I2 λs3 V k3=>?_;have hD:q i.heap.objs.size=none:=I2.hok.fresh (Nat.le_refl _);have n:∀b∈fp,Es X a (IK q i.heap.objs.size (o i.heap.objs.size)) b/\∃f,s3.heap.get? b=some f:=λb j=>by
  obtain⟨f,e,_⟩:=T.obj _ _ F b j;obtain⟨W,fr⟩:=f2 b j;exact⟨⟨by rw[B6 (BI (AM e))];exact W,fr⟩,f,k3 b f e⟩
 refine wpAny_newFunctionEnv S.nocell (by intro y hy;simp at hy) (λC Y Z=>?_) S.kind;have hk:∀b f,s3.heap.get? b=some f->C.get? b=some f:=λb f e=>(Z.2 b (BI (AM e))).trans (AG _ e);have I4:Inv (LE X scope cl N' a fp s3 (IK q i.heap.objs.size (o i.heap.objs.size))) [] (Wg cap σ) (IK q i.heap.objs.size (o i.heap.objs.size)) { s3 with heap:=C,toks:=s3.toks +([]:A1 (Str×A2)).length } :=
  V.block S hc n Y hk
 have G:u 0 C:=T.keep 0 _ _ F λb j f e=>hk b f (k3 b f e);refine w4 (X:=LE X scope cl N' a fp s3 (IK q i.heap.objs.size (o i.heap.objs.size))) (gs:=⟨tg,iter,ifs,0⟩::gs) (e:=e) (d:=0) (tg:=tg) (iter:=iter) (ifs:=ifs) (O _ _ _) (B _ _ _) r rfl T G ?_;refine L a fp s3 _ i.heap.objs.size k fp u J (Wg cap σ) _ _ _ _ T I4 G (λb j=>?_) (R2 _ hD) λl σ' H' I' q'=>?_
 .obtain⟨⟨W,f1,f2',f3,f4,f5⟩,f,eo⟩:=n b j;refine⟨W,BI (AM eo),λhf=>?_,.inl j,λx c e=>f4 x c (S.cin.get e),λp hp=>f5 p (by simpa [LE] using hp)⟩;rcases AK.mp (V.stkSub b hf)with z | z
  .exact f1 z
  .exact f2' z
 .obtain⟨m,hn,_⟩:=I'.loc;exact⟨m,hn,λh' j=>⟨.ref _,H',V.unblock (λb j=>(n b j).1) I' j,rfl,q'⟩⟩
end
section
variable{X:Cx}{tg iter elt:IQ}{ifs:A1 IQ}{g:TG}{tc:TT}{te:TE}{scope:JH}{cl:A1 (Str×A3)}{N':A1 Str}{cap:A1 (A5 Nat)}{pos:Pos}{wi:TI}
def Ib(D:A3)(te:TE):RB:=λσ H Q=>te σ H λy b=>∃a,b D=some (.lst a)/\a.length<sizeLine/\Q σ (IK b D (.lst (a ++ [y])))
theorem Do{α:Type}{X:Cx}(a:X.xe=λ_ _=>False){m:Sem α}{P:α->A4->Prop}{E:A2->A4->Prop}{s:A4}(q:wpAny (model X.prog X.w) X.A m P X.xe s):wpAny (model X.prog X.w) X.A m P E s:=by
 rw[a]at q;exact B_ q (λ_ _ z=>z) λ_ _ z=>z.elim
theorem Mq{D:A3}(b:X.xe=λ_ _=>False)(d:PE X elt te):UE X (emL elt (.ref D) X.env) (Ib D te):=by
 intro a s σ H Q k F E I h e;unfold emL;refine AA (AA (B_ (Do b (d a s σ H _ I h)) (λu f ⟨y,g,i,j,l,m,n,o⟩=>?_) λ_ _ z=>z));refine AA (B_ (Do b (K4 a f σ g (.ref D) [y] (.ref D) [u] (λv c=>v = .non/\Q σ c) i rfl (.cons j .nil) ⟨D,l,y,rfl,rfl,m,n,rfl,o⟩)) (λv p ⟨t,c,q,w,_,r⟩=>?_) λ_ _ z=>z);exact AF (e p σ c q r)
theorem X3(S:MC X scope cl N' cap)(i:X.calm=true)(hi:PI X tg iter wi)
  (j:∀(a:A1 (A3×Obj)) (c:A1 A3) (d:A4) (f:Hp),PG (LE X scope cl N' a c d f) tg g/\RJ (LE X scope cl N' a c d f) ifs tc/\PE (LE X scope cl N' a c d f) elt te)
  (k:∀x,foldedSetIterable iter X.env x=pure x:=by intro _;rfl) :
  PE X (.ListComp elt [⟨tg,iter,ifs,0⟩] scope pos) (Iz wi (λ_=>.lst []) cap λD J σ H Q=>Fi g tc (Ib D te) J σ H Q):=by
 refine Fp (newAcc:=newList []) (p2:=firstIterPos [⟨tg,iter,ifs,0⟩] pos) rfl (λ_=>.lst []) k S i hi (λa s σ H Q E I h=>?_) (λa c d f D q r t J σ s H Q R T I st l h m=>?_) (λ_ _ _=>rfl) (λ_ _ _=>rfl) (λE Q s h=>h)
 .refine IH ?_;exact h _ (I.lnew (t':=s.toks) (its:=[]) .nil (CL _)) λb u e=>AG _ e
 .obtain⟨n,o,p⟩:=j a c d f;exact X4 (X:=LE X scope cl N' a c d f) rfl rfl i rfl (Db elt tg iter ifs scope pos _ _ _) n o (Mq rfl p) T I st l h m
def Vw(D:A3)(c d:TE):RB:=λσ H Q=>c σ H λy e=>d σ e λv b=>∃a k,b D=some (.dK a)/\y=kV k/\a.length<sizeLine/\Q σ (IK b D (.dK (Av a k v)))
theorem Vk{D:A3}{a b:IQ}{j m:TE}(d:X.xe=λ_ _=>False)(o:PE X a j)(p:PE X b m):UE X (emD a b D X.env) (Vw D j m):=by
 intro c s σ H Q k F E I h t;unfold emD;refine AA (AA (B_ (Do d (o c s σ H _ I h)) (λu w ⟨y,x,A,B,C⟩=>?_) λ_ _ z=>z));refine AA (CA (B_ (Do d (p c w σ x _ A C)) (λr G ⟨v,W,n,J,f,kk,e,K,l,L⟩=>?_) λ_ _ z=>z));refine AA (FI (CA ?_));subst K;obtain⟨z,M,N,g,O⟩:=zBf n.hok e;have P:N.length<=sizeLine:=by rw[<-g.length];exact z
 have R:(Av f kk v).length<=sizeLine:=by have:=R9 f kk v;lia
 refine wpAny_dictSet_pairs (hsz:=P) (Kb B) O λS i T=>?_;have U:∃q,S.get? D=some q:=let⟨q,_,_,V,_⟩:=i;⟨q,V⟩;exact t _ σ _ (Ju (t':=G.toks+1) n (by rw[e];exact True.intro) T U (Xs R M (g.put kk J) i)) L
theorem Nt{a b:IQ}{j k:TE}(S:MC X scope cl N' cap)(l:X.calm=true)(hi:PI X tg iter wi)
  (m:∀(c:A1 (A3×Obj)) (d:A1 A3) (f:A4) (i:Hp),PG (LE X scope cl N' c d f i) tg g/\RJ (LE X scope cl N' c d f i) ifs tc/\PE (LE X scope cl N' c d f i) a j/\PE (LE X scope cl N' c d f i) b k)
  (n:∀x,foldedSetIterable iter X.env x=pure x:=by intro _;rfl) :
  PE X (.DictComp a b [⟨tg,iter,ifs,0⟩] scope pos) (Iz wi (λ_=>.dK []) cap λD J σ H Q=>Fi g tc (Vw D j k) J σ H Q):=by
 refine Fp (newAcc:=newDict) (p2:=firstIterPos [⟨tg,iter,ifs,0⟩] pos) rfl (λ_=>.dK []) n S l hi (λc s σ H Q E I h=>?_) (λc d f i D y z A J σ s H Q R T I st p h r=>?_) (λ_ _ _=>rfl) (λ_ _ _=>rfl) (λE Q s h=>h)
 .refine DJ ?_;exact h _ (I.laid (a:=s.heap.objs.size) (o:=.dK []) (t':=s.toks) (λ_ _ q=>AG _ q) (Nat.le_refl _) (Mf s.heap I.big)) λb B e=>AG _ e
 .obtain⟨t,u,v,w⟩:=m c d f i;exact X4 (X:=LE X scope cl N' c d f i) rfl rfl l rfl (Oo a b tg iter ifs scope pos _ _ _) t u (Vk rfl v w) T I st p h r
end
instance:LawfulBEq JC where
 rfl {a}:=by cases a with
  | inl i=>show(i == i)=true;simp
  | inr x=>show(x == x)=true;simp
 eq_of_beq {a b} h:=by
  cases a with
  | inl i=>cases b with
   | inl j=>exact congrArg Sum.inl (eq_of_beq (show(i == j)=true from h))
   | inr j=>exact absurd h (by intro z;cases z)
  | inr i=>cases b with
   | inl j=>exact absurd h (by intro z;cases z)
   | inr j=>exact congrArg Sum.inr (eq_of_beq (show(i == j)=true from h))
def Pf(P:A7)(w:F8)(a:A3)(l:A1 JC):HO:=.ext λh=>h.SetOf (C4 P w) a (λk=>decide (k∈l)) l.length
section
variable{X:Cx}{pins:A1 (A3×Obj)}{σ:St}{H:Hp}{s:A4}{a:A3}{l:A1 JC}
theorem zCj{P:A7}{w:F8}{H:Hp}{h:IM}(z:h.SetOf (C4 P w) a (λk=>decide (k∈l)) l.length):IZ P w H h a (Pf P w a l) :=
 ⟨z,let⟨o,_,_,_,e,_⟩:=z;⟨o,e⟩,λd f ⟨o,b,c,t,e,r⟩ k=>⟨o,b,c,t,k o e,r⟩⟩
theorem Inv.set(I:Inv X pins σ H s)(e:H a=some (Pf X.prog X.w a l)):s.heap.SetOf (C4 X.prog X.w) a (λk=>decide (k∈l)) l.length:=by
 obtain⟨z,_⟩:=(show IZ X.prog X.w H s.heap a (Pf X.prog X.w a l)from I.hok a _ e);exact z
theorem Lp{k:JC}{u:A2}(r:RelV (kV k) u):u.scannable=true:=by
 cases k with
 | inl i=>obtain⟨t,rfl⟩:=r;rfl
 | inr x=>obtain⟨t,rfl⟩:=r;rfl
def zEs(l:A1 JC)(k:JC):A1 JC:=if k∈l then l else l ++ [k]
theorem Ka{P:A7}{w:F8}{h:IM}{S b:JC->Bool}{n c:Nat}(z:h.SetOf (C4 P w) a S n)(e:∀k,b k=S k)(en:c=n):h.SetOf (C4 P w) a b c:=by
 have:b=S:=funext e;subst this;subst en;exact z
theorem Rj:O0 X (.type "set") (λxs H Q=>xs = []/\∀p,H p=none->Q (.ref p) (IK H p (Pf X.prog X.w p []))):=by
 intro pins s σ H xs c Q I r h;obtain⟨rfl,q⟩:=h;cases r;refine call_set_0 λa=>⟨.ref s.heap.objs.size,_,I.laid (t':=s.toks) (λb o e=>AG _ e) (Nat.le_refl _) (zCj ?_),rfl,q _ (I.hok.fresh (Nat.le_refl _))⟩;exact(setObjOf_fresh a).setOf (AS _ rfl) (by decide)
def zBm(P:A7)(w:F8):V->A1 V->Hp->VK->Prop:=λx b H Q=>∃a l k,x = .ref a/\b = [kV k]/\H a=some (Pf P w a l)/\l.length+1<4096/\Q .non (IK H a (Pf P w a (zEs l k)))
theorem zCr:QW X "set.add" (zBm X.prog X.w):=by
 intro pins s σ H x r v t Q I g i h;obtain⟨a,l,k,rfl,rfl,c,j,q⟩:=h;cases g;obtain⟨u,rfl,d⟩:=i.one;refine call_set_add (Kb d) (Lp d) (I.set c) j λy m z=>?_;refine⟨.non,_,I.write (x:=a) (e:=a) (t':=s.toks+1) (by rw[c];exact True.intro) (.inl rfl) (λb q n e=>(m.2 b n).trans e) (let⟨o,_,_,_,e,_⟩:=z;⟨o,e⟩) (zCj (Ka z (λp=>?_) ?_)),rfl,q⟩
 .unfold zEs;by_cases e:k∈l
  .rw[AL e];by_cases f:p=k
   .subst f;simp[e]
   .simp[f]
  .rw[AJ e];simp
 .unfold zEs;by_cases e:k∈l
  .rw[AL e];simp[e]
  .rw[AJ e];simp[e]
def zHc(P:A7)(w:F8)(neg:Bool):R2:=λx y H Q=>∃a l k,y = .ref a/\x=kV k/\H a=some (Pf P w a l)/\Q (.bl (if neg then !decide (k∈l)else decide (k∈l))) H
theorem Qb:LG X (compareOp .In) (zHc X.prog X.w false):=by
 intro pins s σ H x y v u Q I b c h;obtain⟨a,l,k,rfl,rfl,d,q⟩:=h;cases c;exact wpAny_inSet_of (Kb b) (Lp b) (I.set d) ⟨.bl (decide (k∈l)),H,I.tok _,rfl,q⟩
end
section
variable{X:Cx}{tg iter elt tg2 iter2:IQ}{g g2:TG}{tc tc2:TT}{te:TE}{ifs ifs2:A1 IQ}{scope:JH}{cl:A1 (Str×A3)}{N':A1 Str}{cap:A1 (A5 Nat)}{pos:Pos}{wi wi2:TI}
def zFg(wi:TI)(a:It->St->Hp->(St->Hp->Prop)->Prop):RB:=λσ H Q=>wi σ H λJ b=>a J σ b Q
end
def Its(x:Str):It:=⟨λi _=>i<x.cps.size,λi H v a=>a=H/\∃c,x.cps[i]?=some c/\v = .str ⟨#[c]⟩,λi _=>i=x.cps.size⟩
def Md{P:A7}{w:F8}{K:PySem.W.Frag}{tg:IQ}(a:A3)(x:Str)(t:Tok)(ty:String)(p:["enumerate", "zip", "dict_itemiterator", "dict_reverseitemiterator", "odict_iterator", "itertools.zip_longest", "itertools.pairwise"].contains ty=false)
  (W:∀R:IR,R.handled=none->Walks P w R a [a] [a] x.cps.size (SignAt x) (λi h=>h.IsStrIter a ty x t i))
  (g:∀(A:IR) (i:Nat) (s:A4) (Q:A2->A4->Prop) (E:A2->A4->Prop),s.heap.IsStrIter a ty x t i->Q (.ref a) s->wpAny (model P w) A (pyIter (.ref a)) Q E s):NA P w K tg (Its x) [a] a (λi h=>h.IsStrIter a ty x t i) where
 mem:=by simp
 obj:=λi h st b j=>by
  have e:b=a:=by simpa using j
  subst e;obtain⟨o,e,c,d⟩:=st;exact⟨o,e,λv z=>by rw[d]at z;cases z⟩
 keep:=λi h m st k=>let⟨o,e,r⟩:=st;⟨o,k a (by simp) o e,r⟩
 item:=by
  intro X q y B C i f s σ H E I n st D;subst q y B;obtain⟨F,G,S,J,L,M⟩:=n a (by simp);refine(W X.A (I.ok.hd C)).item i s _ _ D st λv m N T l k=>?_;obtain⟨c,u,U,V⟩:=T;have Y:Inv X f σ H { s with heap:=m,toks:=N }:=I.turned (λb o j e=>k b o (by simpa using j) e) F G J L M;obtain⟨o,e,Z,d⟩:=id l;exact⟨v,rfl,No (s:={ s with heap:=m,toks:=N }) e Z d p ⟨.str ⟨#[c]⟩,H,Y,⟨u,V⟩,⟨rfl,c,U,rfl⟩,l,λb j=>(n b j).1⟩⟩
 done:=by
  intro X q y B C i f s σ H E I n st D;subst q y B;obtain⟨F,G,S,J,L,M⟩:=n a (by simp);have O:i=x.cps.size:=D;subst O;exact(W X.A (I.ok.hd C)).done s _ _ st λm N k=>⟨rfl,I.turned (λb o j e=>k b o (by simpa using j) e) F G J L M⟩
 self:=λA i s Q E st h=>g A i s Q E st h
section
variable{X:Cx}{tg:IQ}
def zHv(a:TE):TI:=λσ H R=>a σ H λx b=>∃z,x = .str z/\R (Its z) b
theorem zBz{l:IQ}{k:TE}(n:PE X l k):PI X tg l (zHv k):=by
 intro a s σ H R I h;refine JI (n a s σ H _ I h) λv s1 ⟨x,p,g,r,u⟩=>?_;obtain⟨z,e,q⟩:=u;subst e;obtain⟨t,rfl⟩:=r;have f:∀(o:Obj) (ty:String),o.cls = .type ty->o.data = .fields #[.str z t,.int (0:Nat) 0]->o.isFreed=false->NA X.prog X.w X.K tg (Its z) [s1.heap.objs.size] s1.heap.objs.size (λi h=>h.IsStrIter s1.heap.objs.size ty z t i) ->
   PIE X a σ tg R (.ref s1.heap.objs.size) { s1 with heap:=s1.heap.push o }:=λo ty c d y T=>by
  refine⟨s1.heap.objs.size,[s1.heap.objs.size],_,_,p,rfl,g.kept (t':=s1.toks) λb o e=>AG _ e,T,⟨o,AS _ y,c,d⟩,λb B=>?_,q⟩;have e:b=s1.heap.objs.size:=by simpa using B
  subst e;exact g.fpOk (Nat.le_refl _) (g.hok.fresh (Nat.le_refl _))
 cases m:z.cps.all (· < 128)
 .exact wpAny_pyIter_wide m (f _ _ rfl rfl rfl (Md _ z t "str_iterator" (by decide) (λC j=>Walks.strWide j _ z t) λA i s Q E st h=>wpAny_pyIter_striter_wide st h))
 .exact wpAny_pyIter_ascii m (f _ _ rfl rfl rfl (Md _ z t "str_ascii_iterator" (by decide) (λC j=>Walks.strAscii j _ z t) λA i s Q E st h=>wpAny_pyIter_striter_ascii st h))
end
section
variable{X:Cx}
theorem Wx(E:X.calm=true):O0 X (.builtin "all") (λxs H Q=>∃(p:A3) (bs:A1 Bool),xs = [.ref p]/\IS X.K H p (bs.map V.bl)/\Q (.bl (bs.all id)) H):=by
 intro B s σ H xs M Q I r h;obtain⟨p,bs,rfl,F,q⟩:=h;obtain⟨u,rfl,t⟩:=g9 r;cases t;obtain⟨a,w,x,N⟩:=I.list F;refine call_all_walk (HW x.isList ?_);have y:p≠s.heap.objs.size:=by
  obtain⟨o,n,e,_⟩:=x;exact BI (AM e)
 refine⟨s.heap.objs.size,_,_,_,_,_,λi=>bs.getD i true,rfl,Walks.list (A:=X.A.in1) (show X.A.in1.handled=none from I.ok.hd E) _ p y a.toArray,⟨⟨_,AS _ rfl,rfl,rfl⟩,?_⟩,λi v O P R G J=>?_,λS T k=>?_⟩
 .obtain⟨o,n,e,c,d,L⟩:=x;exact⟨o,AG _ e,c,n,L⟩
 .have f:(bs.map V.bl)[i]?=some (V.bl (bs.getD i true))/\RelV (V.bl (bs.getD i true)) v:=by
   have g:a[i]?=some v:=by simpa using G
   have j:i<a.length:=(AE.mp g).1;have m:=w.length;rw[AB]at m;have e:(bs.map V.bl)[i]?=some (V.bl (bs.getD i true)):=by
    rw[AH,AC (by lia)];simp[AY,AC (show i<bs.length by lia)]
   obtain⟨u,C,t⟩:=w.get e;rw[g]at C;cases C;exact⟨e,t⟩
  cases f.2;exact DI J
 .have m:=w.length;rw[AB]at m;have e:(List.range a.toArray.size).all (λi=>bs.getD i true)=bs.all id:=by
   rw[AV,<-m];rw[CC,EH,EH];constructor
   .intro z b f;obtain⟨i,j,rfl⟩:=FU.mp f;have:=z i (CB.mpr j);simpa [AY,AC j] using this
   .intro z i j;have l:=CB.mp j;have:=z bs[i] (GB l);simpa [AY,AC l] using this
  rw[e];exact⟨.bl (bs.all id),H,I.kept λb o D=>k b o (by
   intro f;have:b=s.heap.objs.size:=by simpa using f
   exact absurd (AM D) (by rw[this];exact CU _)) (AG _ D),rfl,q⟩
theorem De:∀{ss:A1 Str} {us:A1 A2},IV (ss.map V.str) us->StrsAre us ss
 | [],_,.nil=>.nil
 | _::_,_,.cons ⟨t,e⟩ r=>by subst e;exact .cons _ _ (De r)
def QP(a b:Str):Prop:=¬b.cps.toList<a.cps.toList
theorem Hm:O0 X (.builtin "sorted") (λxs H Q=>∃(p:A3) (ss:A1 Str),xs = [.ref p]/\IS X.K H p (ss.map V.str)/\∀(l:A3) (c:A1 Str),H l=none->c.Perm ss->c.Pairwise QP->Q (.ref l) (IK H l (.lst (c.map V.str)))):=by
 intro E s σ H xs f Q I r h;obtain⟨p,ss,rfl,L,q⟩:=h;obtain⟨u,rfl,M⟩:=g9 r;cases M;obtain⟨g,F,N,W⟩:=I.list L;have j:=De F;have Y:=F.length;refine TS.NL (collect_list (vs:=g) N.isList ?_ (by lia));refine⟨rfl,by lia,strKind,oneType',λZ _=>TS.PQ j,λa G e O k P=>?_⟩;have i:((s.heap.push (seqObj "list" #[] 0)).update s.heap.objs.size (Obj.mapSeq (· ++ g.toArray))).objs.size=s.heap.objs.size+1:=by rw[H_,size_push']
 obtain⟨m,R⟩:=O;have n:∀v∈a.toList,∃x t,v = .str x t:=λv w=>j.all v (m.mem_iff.mp w);have w:IV ((a.toList.map strOf).map V.str) a.toList:=by
  have:∀f:A1 A2,(∀v∈f,∃x t,v = .str x t)->IV ((f.map strOf).map V.str) f:=by
   intro f
   induction f with
   | nil=>exact λ_=>.nil
   | cons v r S =>
    intro h;obtain⟨x,t,rfl⟩:=h v (BO ..);exact .cons ⟨t,rfl⟩ (S λu z=>h u (BD _ z))
  exact this _ n
 have d:(a.toList.map strOf).Perm ss:=by
  have:=m.map strOf
  rwa [j.strs]at this
 have A:(a.toList.map strOf).Pairwise QP:=by
  rw[CS];refine(List.Pairwise.and_mem.mp R).imp fun{u v} ⟨z,B,q⟩=>?_;obtain⟨x,t,rfl⟩:=n u z;obtain⟨y,t',rfl⟩:=n v B;have T:decide (y.cps.toList<x.cps.toList)=false:=q;exact of_decide_eq_false T
 have C:∀b o,s.heap.get? b=some o->G.get? b=some o:=λb o J=>k b o (by
  rw[Heap.get?_update_ne _ _ _ _ (BI (AM J))];exact AG _ J)
 have U:H (s.heap.objs.size+1)=none:=I.hok.fresh (EN _);have D:G.get? (s.heap.objs.size+1)=some (seqObj "list" a e):=by rw[<-i];exact P
 refine⟨.ref (s.heap.objs.size+1),IK H (s.heap.objs.size+1) (.lst ((a.toList.map strOf).map V.str)),?_,by show Value.ref _=_;rw[<-i],q _ _ U d A⟩;refine I.laid (t':=s.toks) C (EN _) ⟨?_,a.toList,e,w,by simpa using D⟩;rw[AB,AB,m.length_eq];lia
end
def Ix{α β:Type}(f:α->β){l m:A1 β}(h:l.Perm m):∀a:A1 α,m=a.map f->∃b:A1 α,b.Perm a/\l=b.map f:=by
 induction h with
 | nil=>intro a e;exact⟨a,.refl _,e⟩
 | cons x _ o =>
  intro a e;cases a with
  | nil=>cases e
  | cons p a =>
   rw[BK]at e;obtain⟨rfl,c⟩:=List.cons.inj e;obtain⟨b,d,g⟩:=o a c;exact⟨p::b,.cons _ d,by rw[BK,g]⟩
 | swap x y l =>
  intro a e
  match a,e with
  | p::q::a,e =>
   rw[BK,BK]at e;obtain⟨rfl,c⟩:=List.cons.inj e;obtain⟨rfl,r⟩:=List.cons.inj c;exact⟨q::p::a,.swap _ _ _,by rw[BK,BK,r]⟩
 | trans _ _ i j =>
  intro a e;obtain⟨k,d,g⟩:=j a e;obtain⟨n,s,t⟩:=i k g;exact⟨n,s.trans d,t⟩
abbrev JV:=A3×Str×Str
def Uk(q:JV):A1 Nat×A1 Nat:=(q.2.1.cps.toList,q.2.2.cps.toList)
def SG(q r:JV):Prop:=TS.KM (Uk r) (Uk q)=false
def K9(H:Hp)(q:JV):Prop:=H q.1=some (.tup [.str q.2.1,.str q.2.2])
def Iu:∀{a:A1 JV} {us:A1 A2},IV (a.map λq=>V.ref q.1) us->us=a.map λq=>Value.ref q.1
 | [],_,.nil=>rfl
 | _::_,_,.cons r t=>by rw[BK,Iu t];cases r;rfl
def Gw:∀(a:A1 JV),IV (a.map λq=>V.ref q.1) (a.map λq=>Value.ref q.1)
 | []=>.nil
 | _::a=>.cons rfl (Gw a)
section
variable{X:Cx}
theorem Inv.pairAt{a:A1 (A3×Obj)}{σ:St}{H:Hp}{s:A4}{q:JV}(I:Inv X a σ H s)(h:K9 H q):TS.MW s.heap (.ref q.1) q.2.1 q.2.2:=by
 obtain⟨b,f,⟨o,e,c,n,d⟩,_⟩:=I.tuple (JJ.of h);obtain⟨i,j,rfl,⟨t,rfl⟩,⟨g,rfl⟩⟩:=f.two;exact⟨q.1,o,n,t,g,rfl,e,c,d⟩
theorem Hb:O0 X (.builtin "sorted") (λxs H Q=>∃(p:A3) (j:A1 JV),xs = [.ref p]/\IS X.K H p (j.map λq=>V.ref q.1)/\(∀q∈j,K9 H q) /\
  ∀(l:A3) (c:A1 JV),H l=none->c.Perm j->c.Pairwise SG->Q (.ref l) (IK H l (.lst (c.map λq=>V.ref q.1)))):=by
 intro C s σ H xs us Q I r h;obtain⟨p,j,rfl,m,y,q⟩:=h;obtain⟨u,rfl,O⟩:=g9 r;cases O;obtain⟨d,D,P,E⟩:=I.list m;have F:=Iu D;have hl:=D.length;refine TS.NL (collect_list (vs:=d) P.isList ?_ (by lia));have f:((s.heap.push (seqObj "list" #[] 0)).update s.heap.objs.size (Obj.mapSeq (· ++ d.toArray))).objs.size=s.heap.objs.size+1:=by rw[H_,size_push']
 have n:∀b o,s.heap.get? b=some o->((s.heap.push (seqObj "list" #[] 0)).update s.heap.objs.size (Obj.mapSeq (· ++ d.toArray))).get? b=some o:=λb o g=>by
  rw[Heap.get?_update_ne _ _ _ _ (BI (AM g))];exact AG _ g
 have i:∀q∈j,TS.MW s.heap (.ref q.1) q.2.1 q.2.2:=λq m=>I.pairAt (y q m);refine⟨rfl,by lia,TS.pairKind s.heap,tuples' true,λs2 R=>TS.QQ (λv G=>?_) (λb o g=>?_),λt S e T k U=>?_⟩
 .rw[F]at G;obtain⟨q,m,rfl⟩:=AX.mp G;exact⟨_,_,i q m⟩
 .have w:b≠((s.heap.push (seqObj "list" #[] 0)).update s.heap.objs.size (Obj.mapSeq (· ++ d.toArray))).objs.size:=by
   rw[f];exact BI (EC (AM g))
  exact⟨w,R b o w (n b o g)⟩
 .obtain⟨J,L⟩:=T;rw[F]at J;obtain⟨c,x,M⟩:=Ix (λq:JV=>Value.ref q.1) J j rfl;have A:c.Pairwise SG:=by
   rw[M,CS]at L;refine(List.Pairwise.and_mem.mp L).imp fun{a b} ⟨W,Y,z⟩=>?_;have Z:=(i a (x.mem_iff.mp W)).key;have kb:=(i b (x.mem_iff.mp Y)).key;have N:TS.KM ((TS.OA s.heap (.ref b.1)).getD ([],[])) ((TS.OA s.heap (.ref a.1)).getD ([],[]))=false:=z;rw[Z,kb]at N;exact N
  have hn:H (s.heap.objs.size+1)=none:=I.hok.fresh (EN _);have B:S.get? (s.heap.objs.size+1)=some (seqObj "list" t e):=by rw[<-f];exact U
  refine⟨.ref (s.heap.objs.size+1),IK H (s.heap.objs.size+1) (.lst (c.map λq=>V.ref q.1)),?_,by show Value.ref _=_;rw[<-f],q _ _ hn x A⟩;refine I.laid (t':=s.toks) (λb o g=>k b o (n b o g)) (EN _) ⟨?_,t.toList,e,by rw[M];exact Gw c,by simpa using B⟩;rw[AB,x.length_eq];rw[AB]at E;exact E
end
def Inv.turnLaid{X:Cx}{d:A1 (A3×Obj)}{σ:St}{H:Hp}{s:A4}{h':IM}{t':Nat}{fp:A1 A3}{T:A3}{o:HO}(I:Inv X d σ H s)(k:∀b a,b∉fp->s.heap.get? b=some a->h'.get? b=some a)
  (i:∀b∈fp,Es X d H b) (x:∀b∈fp,∃a,s.heap.get? b=some a) (l:s.heap.objs.size<=T) (j:IZ X.prog X.w (IK H T o) h' T o):Inv X d σ (IK H T o) { s with heap:=h',toks:=t' }:=by
 have h:=I.hok.fresh l;have y:∀b a,s.heap.get? b=some a->b≠T:=λb a e=>BI (BJ (AM e) l);have p:∀b u,H b=some u->b∉fp:=λb u e f=>by rw[(i b f).1]at e;cases e
 refine I.step (g':=s.gens) (d':=s.drawn) (ch:=fp) (λb f=>let⟨_,A,_,B,C,D⟩:=i b f;⟨B,A,C,D⟩) (λb a _ _ g e _=>k b a g e) (λb a _ _ g e _=>⟨a.slots,k b a g e⟩) (λb a _ e n=>by rw[B6 (y b a e)];exact n)
  (λb a g e=>⟨a,k b a g e⟩) (λb t e=>by rw[B6 (B3 e h)];exact e) (λb u t e=>by rw[B6 (B3 e h)];exact e) (λb K e=>⟨#[],by rw[B6 (B3 e h),e];simp⟩) (λm E=>?_) (λb u e=>?_) I.bare
 .obtain⟨a,F,G,J,r⟩:=E;exact⟨a,F,G,k _ a (λf=>(i _ f).2.1 rfl) J,r⟩
 .by_cases f:b=T
  .subst f;rw[A9]at e;cases e;exact j
  .rw[B6 f]at e;refine(I.hok b u e).stay (λc v g q=>k c v ?_ q) (λc q=>by rw[B6 (B3 q h)];exact q) λc t q=>by rw[B6 (B3 q h)];exact q
   rcases g with z | z
   .rw[z];exact p b u e
   .exact p c _ z
def Ite(K:PySem.W.Frag)(a:A3):It :=
 ⟨λi H=>∃b x,IS K H a b/\b[i]?=some x,λi H v c=>∃T x,v = .ref T/\H T=none/\c=IK H T (.tup [.int i,x])/\∀b,IS K H a b->b[i]?=some x,λi H=>∃b,IS K H a b/\b.length=i⟩
def Rn{P:A7}{w:F8}{K:PySem.W.Frag}{F:A1 IQ}{kk:Nat}{tp:Pos}(a g e:A3)(N:e≠g):NA P w K (.Tuple F kk tp) (Ite K a) [e,g] e (λi h=>(∃f,IsEnum h e g i f)/\h.IsListIter g a i) where
 mem:=by simp
 obj:=λi h st b hb=>by
  obtain⟨⟨f,y⟩,o,G,c,d⟩:=st;rcases AK.mp hb with rfl | hb
  .exact⟨_,y,λv z=>by cases z⟩
  .rw[AD.mp hb];exact⟨o,G,λv z=>by rw[d]at z;cases z⟩
 keep:=λi h h' st k=>⟨let⟨f,y⟩:=st.1;⟨f,k e (by simp) _ y⟩,st.2.at λo x=>k g (by simp) o x⟩
 item:=by
  intro X hP hw hK B i O s σ H E I D st hg;subst hP hw hK;obtain⟨xs,x,Z,hx⟩:=hg;obtain⟨j,rv,p,hz⟩:=I.list Z;obtain⟨u,hu,ru⟩:=rv.get hx;obtain⟨f0,f1,f2,f3,f4,f5⟩:=D e (by simp);obtain⟨g0,g1,g2,g3,g4,g5⟩:=D g (by simp);have J:a≠e:=λz=>by
   obtain⟨f,y⟩:=st.1;obtain⟨o,n,l,c,_⟩:=p;rw[z,y]at l;cases l;exact absurd c (by show ¬Value.type "enumerate" = Value.type "list";decide)
  have L:a≠g:=λz=>by
   obtain⟨o2,G,c2,d2⟩:=st.2;obtain⟨o,n,l,c,_⟩:=p;rw[z,G]at l;cases l;rw[c2]at c;exact absurd c (by decide)
  have hi:i<j.toArray.size:=by
   rw[AV];exact(AE.mp hu).1
  have W:=WalksT.enumerate (prog:=X.prog) (w:=X.w) (A:=X.A) (I.ok.hd B) e g a N J L j.toArray;refine W.item i s _ _ hi ⟨st.1,st.2,p.isList⟩ λT vals h' tk hv hT ht R k=>?_;obtain⟨t,x',S,rfl⟩:=hv;have:x'=u:=by
   have:j.toArray[i]?=some u:=by simpa using hu
   rw[this]at S;exact(BH S).symm
  subst this;refine⟨.ref T,rfl,W.go F kk tp i T _ _ _ R λG U k2=>?_⟩;have hTn:H T=none:=I.hok.fresh hT;have V:T≠e:=λz=>W.apart i T h' R (by simp[z]);have Y:T≠g:=λz=>W.apart i T h' R (by simp[z]);have kk2:∀b o,b≠e->b≠g->s.heap.get? b=some o->G.get? b=some o:=λb o b1 b2 M=>k2 b o (by simp[b1,b2]) (k b o (by simp[b1,b2]) M);have hT2:G.IsTuple T #[.int i t,x']:=by
   obtain⟨o,l,r⟩:=ht;exact⟨o,k2 T o (by simp[V,Y]) l,r⟩
  refine⟨.ref T,IK H T (.tup [.int i,x]),I.turnLaid (fp:=[e,g]) (λb o hb M=>kk2 b o (λz=>hb (by simp[z])) (λz=>hb (by simp[z])) M) D (λb hb=>?_) hT ⟨?_,[.int i t,x'],.cons ⟨t,rfl⟩ (.cons ru .nil),hT2⟩,rfl,⟨T,x,rfl,hTn,rfl,λys hy=>by rw[I.list_inj hy Z];exact hx⟩,⟨U.1,U.2.1⟩,λb hb=>?_⟩
  .rcases AK.mp hb with rfl | hb
   .obtain⟨f,y⟩:=st.1;exact⟨_,y⟩
   .rw[AD.mp hb];obtain⟨o,y,_⟩:=st.2;exact⟨o,y⟩
  .show 2<=sizeLine;decide
  .rcases AK.mp hb with rfl | hb
   .rw[B6 (Ne.symm V)];exact f0
   .rw[AD.mp hb,B6 (Ne.symm Y)];exact g0
 done:=by
  intro X hP hw hK B i O s σ H E I D st hg;subst hP hw hK;obtain⟨xs,Z,hx⟩:=hg;obtain⟨j,rv,p,hz⟩:=I.list Z;obtain⟨f0,f1,f2,f3,f4,f5⟩:=D e (by simp);obtain⟨g0,g1,g2,g3,g4,g5⟩:=D g (by simp);have J:a≠e:=λz=>by
   obtain⟨f,y⟩:=st.1;obtain⟨o,n,l,c,_⟩:=p;rw[z,y]at l;cases l;exact absurd c (by show ¬Value.type "enumerate" = Value.type "list";decide)
  have L:a≠g:=λz=>by
   obtain⟨o2,G,c2,d2⟩:=st.2;obtain⟨o,n,l,c,_⟩:=p;rw[z,G]at l;cases l;rw[c2]at c;exact absurd c (by decide)
  have W:=WalksT.enumerate (prog:=X.prog) (w:=X.w) (A:=X.A) (I.ok.hd B) e g a N J L j.toArray;have hl:=rv.length;have hi:i=j.toArray.size:=by rw[AV];lia
  rw[hi]at st;refine W.done s _ _ ⟨st.1,st.2,p.isList⟩ λh' tk k=>⟨rfl,?_⟩;have I1:=I.step (h':=h') (H':=H) (t':=tk) (g':=s.gens) (d':=s.drawn) (ch:=[e,g]) (λb hb=>let⟨_,f1,_,f3,f4,f5⟩:=D b hb;⟨f3,f1,f4,f5⟩) (λb C _ _ B e _=>k b C B e) (λb C _ _ B e _=>⟨C.slots,k b C B e⟩) (λ_ _ _ _ n=>n)
   (λb C B e=>⟨C,k b C B e⟩) (λ_ _ e=>e) (λ_ _ _ e=>e) (λb ps e=>⟨#[],by rw[e];simp⟩) (λm R=>?_) (λb u M=>?_) I.bare
  .exact I1
  .obtain⟨C,es,ep,ho,r⟩:=R;exact⟨C,es,ep,k _ C (λhb=>(D _ hb).2.1 rfl) ho,r⟩
  .have nf:∀b u,H b=some u->b∉[e,g]:=λb u e hb=>by rw[(D b hb).1]at e;cases e
   refine(I.hok b u M).stay (λc v B q=>k c v ?_ q) (λ_ q=>q) λ_ _ q=>q;rcases B with z | z
   .rw[z];exact nf b u M
   .exact nf c _ z
 self:=λA i s Q E st h=>by
  obtain⟨f,he⟩:=st.1;exact wpAny_pyIter_enum he h
section
variable{X:Cx}{elts:A1 IQ}{kk:Nat}{tp:Pos}
def zDo(K:PySem.W.Frag)(c:TA):TI:=λσ H R=>c σ H λd b=>∃a e,d = [.ref a]/\IS K b a e/\R (Ite K a) b
theorem Zf{a:IQ}{g:TA}{p pos:Pos}(m:Gl X "enumerate")(n:X.mg "enumerate" = none)(o:bootBuiltins "enumerate" = some (.type "enumerate"))(r:PA X [a] g)(t:starEach [a] X.env = [(false,eval a X.env)]:=by rfl):PI X (.Tuple elts kk tp) (.Call (.Name "enumerate" p) [a] [] pos) (zDo X.K g):=by
 intro c s σ H R I h;refine Call_ (o7 I m n o (PyProof.Rows.callWith_type1 (JI (r pos c s σ H _ I h) λF s1 ⟨G,i,d,v,w⟩=>?_) t rfl));obtain⟨l,J,e,x,q⟩:=w;subst e;obtain⟨u,rfl,y⟩:=g9 v;cases y;obtain⟨A,L,B,M⟩:=d.list x;refine call_enumerate_list B.isList λC j f D k=>wpAny_pyIter_enum j ?_;have E:Inv X c σ i { s1 with heap:=C }:=d.kept (t':=s1.toks) k;refine⟨s1.heap.objs.size+1,[s1.heap.objs.size+1,s1.heap.objs.size],_,_,i,rfl,E,Rn l s1.heap.objs.size (s1.heap.objs.size+1) (Nat.succ_ne_self _),⟨⟨_,j⟩,f⟩,λb hb=>?_,q⟩;rcases AK.mp hb with z | hb
 .rw[z];exact d.fpOk (EN _) (d.hok.fresh (EN _))
 .rw[AD.mp hb];exact d.fpOk (Nat.le_refl _) (d.hok.fresh (Nat.le_refl _))
end
end L2
namespace ST
open PySem
def stp(mask i:Nat):Nat:=(5*i+1) %(mask+1)
def RN(mask:Nat):Nat->Nat->Nat
 | 0,i=>i
 | t+1,i=>RN mask t (stp mask i)
def orb(mask:Nat):Nat->Nat->A1 Nat
 | 0,_=>[]
 | n+1,i=>i::orb mask n (stp mask i)
def Jx(mask a b i:Nat):RN mask (a+b) i=RN mask b (RN mask a i):=by
 induction a generalizing i with
 | zero=>rw[FG];rfl
 | succ a c=>rw[Nat.succ_add];exact c (stp mask i)
def Pu{mask j:Nat}:∀{n i:Nat},j∈orb mask n i->∃t,t<n/\RN mask t i=j
 | 0,_,h=>by simp[orb]at h
 | n+1,i,h=>by
  rcases AK.mp h with rfl | h
  .exact⟨0,by lia,rfl⟩
  .obtain⟨t,b,a⟩:=Pu h;exact⟨t+1,by lia,a⟩
def RR(mask:Nat):Prop:=mask=7\/mask=31\/mask=127\/mask=511
def QY(mask:Nat):Bool:=(List.range (mask+1)).all (λj=>(orb mask (mask+1) 0).contains j)&&RN mask (mask+1) 0 == 0
def zFs:QY 7=true:=by decide +kernel
def zCn:QY 31=true:=by decide +kernel
def zAg:QY 127=true:=by decide +kernel
def zAh:QY 511=true:=by decide +kernel
def RR.full{mask:Nat}(h:RR mask):QY mask=true:=by
 rcases h with rfl | rfl | rfl | rfl
 .exact zFs
 .exact zCn
 .exact zAg
 .exact zAh
def cyc{mask:Nat}(h:RR mask){i j:Nat}(hi:i<=mask)(l:j<=mask):∃t,t<=mask/\RN mask t i=j:=by
 have f:=h.full;unfold ST.QY at f;rw[BW,EH]at f;obtain⟨m,d⟩:=f;have d:RN mask (mask+1) 0=0:=by simpa using d
 have c:∀k,k<=mask->∃t,t<mask+1/\RN mask t 0=k:=λk o=>Pu (by simpa using m k (CB.mpr (by lia)));obtain⟨a,p,e⟩:=c i hi;obtain⟨b,q,g⟩:=c j l;by_cases n:a<=b
 .refine⟨b-a,by lia,?_⟩;rw[<-e,<-Jx,show a +(b-a)=b by lia,g]
 .refine⟨mask+1-a+b,by lia,?_⟩;rw[<-e,<-Jx,show a +(mask+1-a+b) =(mask+1)+b by lia,Jx,d,g]
def OT(mask:Nat):Nat->Nat×Nat->Nat×Nat
 | 0,x=>x
 | t+1,x=>OT mask t (SetTable.leap mask x.1 x.2)
def Yl(mask a b:Nat)(x:Nat×Nat):OT mask (a+b) x=OT mask b (OT mask a x):=by
 induction a generalizing x with
 | zero=>rw[FG];rfl
 | succ a c=>rw[Nat.succ_add];exact c _
def My(mask:Nat):∀(t:Nat) (x:Nat×Nat),(OT mask t x).2=x.2 / 32^t
 | 0,x=>by simp[OT]
 | t+1,x=>by
  show(OT mask t (SetTable.leap mask x.1 x.2)).2=_;rw[My mask t];show x.2 / 32 / 32^t=_;rw[Nat.div_div_eq_div_mul,Nat.pow_succ,Nat.mul_comm]
def Yf(mask:Nat):∀(t:Nat) (x:Nat×Nat),x.1<=mask->(OT mask t x).1<=mask
 | 0,_,h=>h
 | t+1,x,_=>Yf mask t _ (Nat.lt_succ_iff.mp (Nat.mod_lt _ (Nat.succ_pos _)))
def Mn(mask:Nat):∀(t i:Nat),OT mask t (i,0) =(RN mask t i,0)
 | 0,_=>rfl
 | t+1,i=>by
  show OT mask t ((i*5+1+0 / 32) %(mask+1),0 / 32)=_;rw[Nat.zero_div,Nat.add_zero,Mn mask t,Nat.mul_comm];rfl
def Sz{mask:Nat}(h:RR mask){i j p:Nat}(hi:i<=mask)(a:j<=mask)(b:p<2^64):∃t,t<=mask+13/\(OT mask t (i,p)).1=j:=by
 have c:(OT mask 13 (i,p)).2=0:=by
  rw[My];exact Nat.div_eq_of_lt (BJ b (by decide))
 obtain⟨t,e,d⟩:=cyc h (Yf mask 13 (i,p) hi) a;refine⟨13+t,by lia,?_⟩;rw[Yl];have:OT mask 13 (i,p) =((OT mask 13 (i,p)).1,0):=Prod.ext rfl c;rw[this,Mn];exact d
def NY(t:IY):Nat->SetTable.Probe->SetTable.Probe
 | 0,p=>p
 | n+1,p=>NY t n (t.advance p)
def Rl(t:IY)(a b:Nat)(p:SetTable.Probe):NY t (a+b) p=NY t b (NY t a p):=by
 induction a generalizing p with
 | zero=>rw[FG];rfl
 | succ a c=>rw[Nat.succ_add];exact c _
def Pp(t:IY):∀(m:Nat) (p:SetTable.Probe),p.more=m->∃a,NY t (m+1) p=a/\a.i =(SetTable.leap t.mask p.i p.perturb).1/\a.perturb =(SetTable.leap t.mask p.i p.perturb).2/\a.j=a.i/\a.more=SetTable.runEnd t.mask a.i-a.i/\a.dummy=p.dummy
 | 0,p,h=>by
  have b:t.advance p ={ p with j:=(SetTable.leap t.mask p.i p.perturb).1,more:=SetTable.runEnd t.mask (SetTable.leap t.mask p.i p.perturb).1-(SetTable.leap t.mask p.i p.perturb).1,i:=(SetTable.leap t.mask p.i p.perturb).1,perturb:=(SetTable.leap t.mask p.i p.perturb).2 }:=by
   unfold SetTable.advance;rw[AJ (by lia)]
  refine⟨t.advance p,rfl,?_⟩;rw[b];exact⟨rfl,rfl,rfl,rfl,rfl⟩
 | m+1,p,h=>by
  have b:t.advance p ={ p with j:=p.j+1,more:=p.more-1 }:=by unfold SetTable.advance;rw[AL (by lia)]
  obtain⟨a,d,c⟩:=Pp t m (t.advance p) (by rw[b];show p.more-1=m;lia);rw[b]at c;exact⟨a,d,c⟩
def zDu(mask i:Nat):SetTable.runEnd mask i-i<=9:=by unfold SetTable.runEnd;split<;>lia
def Sh(t:IY):∀(n:Nat) (p:SetTable.Probe),p.j=p.i->p.more=SetTable.runEnd t.mask p.i-p.i->∃k,k<=10*n/\(NY t k p).j =(OT t.mask n (p.i,p.perturb)).1
 | 0,p,a,_=>⟨0,by lia,a⟩
 | n+1,p,a,l=>by
  obtain⟨b,e,c,d,f,g,_⟩:=Pp t p.more p rfl;obtain⟨k,m,h⟩:=Sh t n b f g;have:=zDu t.mask p.i;refine⟨p.more+1+k,by lia,?_⟩;rw[Rl,e,h,c,d];rfl
def Ih(t:IY):∀(n:Nat) (p:SetTable.Probe),(NY t n p).dummy=p.dummy
 | 0,_=>rfl
 | n+1,p=>by
  show(NY t n (t.advance p)).dummy=_;rw[Ih t n];unfold SetTable.advance;split<;>rfl
def Ua{t:IY}(a:RR t.mask)(h:Int){j:Nat}(b:j<=t.mask):∃n,n<10*SetTable.turns t.mask/\(NY t n (t.probeStart h)).j=j:=by
 have c:SetTable.bits h<2^64:=by
  unfold SetTable.bits;have g:0<=h %(2^64:Int):=GP _ (by decide);have i:h %(2^64:Int)<2^64:=FM _ (by decide);lia
 have d:SetTable.bits h %(t.mask+1)<=t.mask:=Nat.lt_succ_iff.mp (Nat.mod_lt _ (Nat.succ_pos _));obtain⟨n,l,e⟩:=Sz a d b c;obtain⟨k,m,f⟩:=Sh t n (t.probeStart h) rfl rfl;refine⟨k,by unfold SetTable.turns;lia,f.trans e⟩
def u8{t:IY}(a:t.dummies = #[])(j:Nat):t.slot j = .empty\/∃i,t.slot j = .live i/\t.place[i]?=some j:=by
 unfold SetTable.slot;dsimp only;by_cases h:(t.place[SetTable.below t.place j]? == some j)=true
 .rw[AL h];exact .inr ⟨_,rfl,by simpa using h⟩
 .rw[AJ h];have:SetTable.has t.dummies j=false:=by
   rw[a];unfold SetTable.has;simp
  rw[this];exact .inl rfl
def Oc{t:IY}(c:t.dummies = #[])(f:t.place.size<=t.mask):∃j,j<=t.mask/\t.slot j = .empty:=by
 by_cases h:∃j,j<=t.mask/\t.slot j = .empty
 .exact h
 .exfalso;have a:∀j∈List.range (t.mask+1),j∈t.place.toList:=λj d=>by
   have b:j<=t.mask:=by have:=CB.mp d;lia
   rcases u8 c j with e | ⟨i,_,e⟩
   .exact absurd ⟨j,b,e⟩ h
   .exact AI (by rw[BP];exact e)
  have:=(HB (n:=t.mask+1)).length_le_of_subset a;rw[BZ,AU]at this;lia
def Xl{t:IY}(o:t.dummies = #[])(hashAt:Nat->Int)(h:Int)(p:SetTable.Probe)(c:p.dummy=none):∀(k m n a:Nat),m+k=n->t.slot (NY t n p).j = .empty->k<a ->
  (∃j,SetTable.probe.go t hashAt h a (NY t m p)=some (.empty j none)/\t.slot j = .empty) \/
   ∃l i,m<=l/\l<n/\t.slot (NY t l p).j = .live i/\hashAt i=h/\SetTable.probe.go t hashAt h a (NY t m p)=some (.candidate (NY t l p).j i (NY t (l+1) p))
 | k,m,n,0,_,_,q=>absurd q (FS _)
 | k,m,n,a+1,e,r,q=>by
  have d:(NY t m p).dummy=none:=(Ih t m p).trans c;have s:NY t (m+1) p=t.advance (NY t m p):=Rl t m 1 p;rcases u8 o (NY t m p).j with b | ⟨i,b,A⟩
  .refine .inl ⟨(NY t m p).j,?_,b⟩;unfold SetTable.probe.go;rw[b,d]
  .have B:k≠0:=by
    rintro rfl;have:m=n:=by lia
    subst this;rw[r]at b;cases b
   by_cases f:hashAt i=h
   .refine .inr ⟨m,i,Nat.le_refl _,by lia,b,f,?_⟩;unfold SetTable.probe.go;rw[b];dsimp only;rw[AL (by simpa using f),s]
   .have u:SetTable.probe.go t hashAt h (a+1) (NY t m p)=SetTable.probe.go t hashAt h a (NY t (m+1) p):=by
     conv=>lhs;unfold SetTable.probe.go
     rw[b];dsimp only;rw[AJ (by simpa using f),s]
    rcases Xl o hashAt h p c (k-1) (m+1) n a (by lia) r (by lia)with⟨j,v,g⟩ | ⟨l,w,v,g,x,y,z⟩
    .exact .inl ⟨j,u.trans v,g⟩
    .exact .inr ⟨l,w,by lia,g,x,y,u.trans z⟩
def Ed{α β:Type}{f g:α->A5 β}:∀{l:A1 α},(∀x∈l,f x=g x)->l.filterMap f=l.filterMap g
 | [],_=>rfl
 | a::r,h=>by
  have b:=h a (BO ..);have c:=Ed (l:=r) λx d=>h x (BD _ d);rw[DR,DR,b,c]
def Xy{α:Type}{f g:Nat->A5 α}{j:Nat}{k:α}(d:g j=some k)(m:f j=none):∀{l:A1 Nat},l.Nodup->j∈l->(∀i,i≠j->g i=f i)->(l.filterMap g).Perm (k::l.filterMap f)
 | [],_,h,_=>by simp at h
 | i::r,o,h,a=>by
  obtain⟨p,q⟩:=BX.mp o;by_cases e:i=j
  .subst e;have er:r.filterMap g=r.filterMap f:=Ed λx s=>a x λz=>p (z▸s);rw[E_ d,HG m,er]
  .have n:=Xy d m q ((AK.mp h).resolve_left λz=>e z.symm) a;cases c:f i with
   | none=>rw[HG ((a i e).trans c),HG c];exact n
   | some b =>
    rw[E_ ((a i e).trans c),E_ c];exact(List.Perm.cons b n).trans (List.Perm.swap _ _ _)
def TL(mask:Nat)(a:CW (A5 Nat)):A1 Nat:=(List.range (mask+1)).filterMap λj=>a.getD j none
structure LI(mask:Nat)(ow:CW (A5 Nat))(k:Nat):Prop where
 sz:ow.size=mask+1
 pm:(TL mask ow).Perm (List.range k)
def Tb{mask:Nat}{b:CW (A5 Nat)}{j:Nat}(c:b[j]?=some none):∀(t a i p:Nat),(OT mask t (i,p)).1=j->t<a->∃d,SetTable.layClean.free mask b a i p=some d/\b[d]?=some none
 | t,0,_,_,_,h=>absurd h (FS _)
 | t,a+1,i,p,e,h=>by
  unfold SetTable.layClean.free;cases q:(List.range (SetTable.runEnd mask i+1-i)).find? λk=>(b.getD (i+k) (some 0)).isNone with
  | some k =>
   refine⟨i+k,rfl,?_⟩;have:=List.find?_some q;rw[CN]at this;cases g:b[i+k]? with
   | none=>rw[g]at this;simp at this
   | some z=>rw[g]at this;simp at this;rw[this]
  | none =>
   dsimp only;cases t with
   | zero =>
    exfalso;have f:i=j:=e;subst f;have l:0∈List.range (SetTable.runEnd mask i+1-i):=CB.mpr (by unfold SetTable.runEnd;split<;>lia);have:=FN.mp q 0 l;rw[CN,Nat.add_zero,c]at this;simp at this
   | succ t=>exact Tb c t a _ _ e (by lia)
def LI.room{mask:Nat}{a:CW (A5 Nat)}{k:Nat}(h:LI mask a k)(p:k<=mask):∃j,j<=mask/\a[j]?=some none:=by
 by_cases q:∃j,j<=mask/\a[j]?=some none
 .exact q
 .exfalso;have b:∀j∈List.range (mask+1),∃v,a.getD j none=some v:=λj c=>by
   have g:j<a.size:=by rw[h.sz];exact CB.mp c
   cases e:a[j]? with
   | none=>rw[Array.getElem?_eq_none_iff]at e;lia
   | some v =>
    cases v with
    | none=>exact absurd ⟨j,by have:=CB.mp c;lia,e⟩ q
    | some v=>exact⟨v,by rw[CN,e];rfl⟩
  have i:∀l:A1 Nat,(∀j∈l,∃v,a.getD j none=some v)->(l.filterMap λj=>a.getD j none).length=l.length:=by
   intro l
   induction l with
   | nil=>intro _;rfl
   | cons j r m =>
    intro d;obtain⟨v,n⟩:=d j (BO ..);rw[E_ (f:=λj=>a.getD j none) n,AR,AR,m λx o=>d x (BD _ o)]
  have:=h.pm.length_eq;unfold TL at this;rw[i _ b,BZ,BZ]at this;lia
def LI.put{mask:Nat}{a:CW (A5 Nat)}{k j:Nat}(h:LI mask a k)(c:a[j]?=some none):LI mask (a.setIfInBounds j (some k)) (k+1):=by
 have b:j<a.size:=by
  obtain⟨d,_⟩:=DE.mp c;exact d
 refine⟨by rw[HF];exact h.sz,?_⟩;have p:=Xy (f:=λj=>a.getD j none) (g:=λi=>(a.setIfInBounds j (some k)).getD i none) (j:=j) (k:=k) (by rw[CN,Array.getElem?_setIfInBounds_self_of_lt b];rfl) (by rw[CN,c];rfl)
  (l:=List.range (mask+1)) HB (CB.mpr (by rw[<-h.sz];exact b)) λi m=>by
   rw[CN,Array.getElem?_setIfInBounds_ne (Ne.symm m),<-CN]
 have e:List.range (k+1)=List.range k ++ [k]:=EQ;refine p.trans ?_;rw[e];exact(List.Perm.cons k h.pm).trans (CT (l₁:=[k]))
def zBa(h:Int):SetTable.bits h<2^64:=by
 unfold SetTable.bits;have a:0<=h %(2^64:Int):=GP _ (by decide);have b:h %(2^64:Int)<2^64:=FM _ (by decide);lia
def Xf{mask:Nat}(e:RR mask):∀(c:A1 Int) (a:CW (A5 Nat)) (k:Nat),LI mask a k->k+c.length<=mask->∃b,(c.foldl (init:=some (a,k)) λd h=>do
   let(owner,k) <-d
   let j <-SetTable.layClean.free mask owner (SetTable.turns mask) (SetTable.bits h %(mask+1)) (SetTable.bits h)
   pure (owner.setIfInBounds j (some k),k+1))=some (b,k+c.length)/\LI mask b (k+c.length)
 | [],a,k,h,_=>⟨a,rfl,h⟩
 | x::r,a,k,h,g=>by
  rw[AR]at g;obtain⟨j,l,m⟩:=h.room (by lia);obtain⟨t,u,n⟩:=Sz e (i:=SetTable.bits x %(mask+1)) (j:=j) (Nat.lt_succ_iff.mp (Nat.mod_lt _ (Nat.succ_pos _))) l (zBa x);obtain⟨f,o,p⟩:=Tb m t (SetTable.turns mask) _ _ n (by unfold SetTable.turns;lia);obtain⟨b,q,s⟩:=Xf e r (a.setIfInBounds f (some k)) (k+1) (h.put p) (by lia);refine⟨b,?_,by rw[AR,show k +(r.length+1)=k+1+r.length by lia];exact s⟩;rw[List.foldl_cons];show List.foldl _ ((SetTable.layClean.free mask a (SetTable.turns mask) (SetTable.bits x %(mask+1)) (SetTable.bits x)).bind λj=>some (a.setIfInBounds j (some k),k+1)) r=_;rw[o];show List.foldl _ (some (a.setIfInBounds f (some k),k+1)) r=_;rw[AR,show k +(r.length+1)=k+1+r.length by lia];exact q
def zAx{mask:Nat}(h:RR mask)(finger moves:Nat)(led plain:Bool)(c:CW Int)(l:c.size<=mask) :
  ∃place a,SetTable.laid mask finger moves led plain c=some ({ mask,place,dummies:=#[],finger,led,moves,plain },a)/\place.size=c.size/\a.toList.Perm (List.range c.size):=by
 have i:LI mask (Array.replicate (mask+1) none) 0:=by
  refine⟨Array.size_replicate,?_⟩;have:TL mask (Array.replicate (mask+1) none) = []:=by
   unfold TL;rw[List.filterMap_eq_nil_iff];intro j m;rw[CN,Array.getElem?_replicate];split<;>rfl
  rw[this];exact List.Perm.refl _
 obtain⟨b,e,d⟩:=Xf h c.toList _ 0 i (by rw[AU];lia);rw[FG,AU]at e d;have k:SetTable.layClean mask c=some b:=by
  unfold SetTable.layClean;rw[<-Array.foldl_toList,e];rfl
 have g:((List.range (mask+1)).filterMap λj=>(b.getD j none).map (j,·)).map (·.2)=TL mask b:=by
  unfold TL;rw[List.map_filterMap];refine Ed λj _=>?_;cases b.getD j none<;>rfl
 refine⟨(((List.range (mask+1)).filterMap λj=>(b.getD j none).map (j,·)).map (·.1)).toArray,(((List.range (mask+1)).filterMap λj=>(b.getD j none).map (j,·)).map (·.2)).toArray,?_,?_,?_⟩
 .unfold SetTable.laid;rw[k];rfl
 .rw[AV,AB,<-AB (f:=(·.2)),g,d.pm.length_eq,BZ]
 .show(((List.range (mask+1)).filterMap λj=>(b.getD j none).map (j,·)).map (·.2)).Perm _;rw[g];exact d.pm
def Vh{c:CW (Int×A2)}{b:CW Nat}(h:b.toList.Perm (List.range c.size)):(b.filterMap (c[·]?)).toList.Perm c.toList:=by
 rw[Array.toList_filterMap];refine(h.filterMap _).trans (List.Perm.of_eq ?_);refine FW λt=>?_;have:(List.range c.size).filterMap (λx=>c[x]?)=c.toList:=by
  have:∀(l:A1 (Int×A2)),(List.range l.length).filterMap (λx=>l[x]?)=l:=by
   intro l
   induction l with
   | nil=>rfl
   | cons a r d =>
    rw[AR,List.range_succ_eq_map,E_ (by rfl:(a::r)[0]?=some a),List.filterMap_map];congr 1
  have q:=this c.toList;rw[AU]at q;simpa using q
 rw[this]
section
variable{prog:A7}{w:F8}{K:Type}[DecidableEq K]{knd:KeyKind prog w K}{A:IR}{E:A2->A4->Prop}{s:A4}
structure SJ(t:IY)(n:Nat):Prop where
 dm:t.dummies = #[]
 pl:t.place.size=n
 mm:RR t.mask
 rm:n*5<t.mask*3
theorem SJ.fits{t:IY}{n:Nat}(h:SJ t n):t.fits n=true:=by
 have:=h.rm;have:=h.pl;unfold SetTable.fits SetTable.fill;rw[h.dm];simp;lia
theorem SJ.odd{t:IY}{n:Nat}(h:SJ t n):t.gaveWay=false:=by
 unfold SetTable.gaveWay;rcases h.mm with e | e | e | e<;>rw[e]<;>rfl
def SX(knd:KeyKind prog w K)(a:CW (Int×A2))(ks:A1 (A1 K×A3)):Prop:=a.toList.Perm (ks.map λq=>((tupleKind knd).hash q.1,Value.ref q.2))
def NN(knd:KeyKind prog w K)(h:IM)(a:A3)(ks:A1 (A1 K×A3)):Prop:=∃o b c t,h.get? a=some o/\o.ExactSet/\o.data = .set b c t/\SX knd b ks/\SJ t b.size
theorem SX.get{a:CW (Int×A2)}{ks:A1 (A1 K×A3)}(h:SX knd a ks){i:Nat}{e:Int×A2}(b:a[i]?=some e):∃k p,(k,p)∈ks/\e =((tupleKind knd).hash k,.ref p):=by
 have:e∈a.toList:=AI (by rw[BP];exact b);obtain⟨q,c,rfl⟩:=AX.mp (h.mem_iff.mp this);exact⟨q.1,q.2,c,rfl⟩
theorem Bz{β:Type}{c:β}{f:A2->β->Sem (ForInStep β)}:∀{l:A1 A2},(∀y∈l,f y c=pure (.yield c))->forIn l c f=pure c
 | [],_=>List.forIn_nil
 | a::r,h=>by
  rw[HM,h a (BO ..),pure_bind];exact Bz λy b=>h y (BD _ b)
theorem Gm{ks:A1 K}{vs:A1 A2}(h:ItemsAre knd ks vs):∀v∈vs,∃x,knd.is x v=true:=by
 induction h with
 | nil=>intro v hv;simp at hv
 | cons a _ b =>
  intro v hv;rcases AK.mp hv with rfl | hv
  .exact⟨_,a⟩
  .exact b v hv
def Flat(knd:KeyKind prog w K):Prop:=∀v,(∃x,knd.is x v=true)->carriedByValue v=true
theorem Flat.no{v:A2}(a:Flat knd)(h:∃x,knd.is x v=true)(d:Nat):ofAClassStatement d v=pure false:=by
 have:=a v h;cases v<;>first
  | (cases d<;>rfl)
  | (exact absurd this (by intro z;cases z))
theorem Xx{k:A1 K}{p:A3}{Q:Bool->A4->Prop}(c:Flat knd)(d:(tupleKind knd).is s.heap k p)(h:Q false s):wpAny (model prog w) A (ofAClassStatement 8 (.ref p)) Q E s:=by
 obtain⟨o,a,n,b,e,f,g⟩:=d;have i:s.TypeIs (.ref p) "tuple":=⟨o,b,e⟩;unfold ofAClassStatement;refine AA (wpAny_typeOf i ?_);dsimp only;rw[AL (by rfl)];refine AA (AF ?_);simp only[EZ,A_,CY];refine AA (DN b f ?_);dsimp only;rw[<-Array.forIn_toList,Bz λy j=>by rw[c.no (Gm g y j)];rfl];exact AA (AF (AF h))
theorem zBo{m:A1 K}{b:A3}{Q:Bool->A4->Prop}(g:Flat knd)(i:(tupleKind knd).is s.heap m b)(h:Q false s){l:A1 A2}(n:∀v∈l,∃k p,v = .ref p/\(tupleKind knd).is s.heap k p) :
  wpAny (model prog w) A (searchCouldBeSeen (.ref b) l) Q E s:=by
 unfold searchCouldBeSeen;refine AA (wpAny_forIn_list _ (λa c d=>d=s/\c =(none,())/\∀v∈a,v∈l) _ ?_ ?_ l _ ⟨rfl,rfl,λ_ h=>h⟩)
 .rintro v a c d ⟨rfl,rfl,e⟩;obtain⟨k,p,rfl,j⟩:=n v (e v (BO ..));dsimp only;have o:carriedByValue (Value.ref b)=false:=rfl;rw[o,EJ,Bool.or_false];split
  .exact AF ⟨rfl,rfl,λu f=>e u (BD _ f)⟩
  .refine AA ((tupleKind knd).quiet i ?_);simp only[EZ,A_,CY];refine AA ((tupleKind knd).quiet j ?_);simp only[EZ,A_,CY];refine AA (Xx g i ?_);simp only[A_,CY];refine AA (Xx g j ?_);simp only[A_,CY];exact AF ⟨rfl,rfl,λu f=>e u (BD _ f)⟩
 .rintro c d ⟨rfl,rfl,_⟩;exact AF h
theorem Wt(t:IY):t.sameMemory t.moves t.mask=some true:=by
 unfold SetTable.sameMemory;simp
theorem Kc{a:A3}{o:Obj}{r:CW (Int×A2)}{ep:Nat}{t:IY}{ks:A1 (A1 K×A3)}{d:A1 K}{G:A3}{c:Bool}{Q:SetFound->A4->Prop}{n:Nat}
  (hr:(tupleKind knd).room A) (hF:Flat knd) (U:s.heap.get? a=some o) (V:o.data = .set r ep t) (W:SX knd r ks) (D:SJ t r.size)
  (H:∀q∈ks,(tupleKind knd).is s.heap q.1 q.2) (X:(tupleKind knd).is s.heap d G) (M:∀q∈ks,q.1≠d) (hn:n<10*SetTable.turns t.mask)
  (he:t.slot (NY t n (t.probeStart ((tupleKind knd).hash d))).j = .empty) (h:∀j,t.slot j = .empty->Q (.free j false) s) :
  ∀(k m b:Nat) (e:A5 SetTable.Probe),e.getD (t.probeStart ((tupleKind knd).hash d))=NY t m (t.probeStart ((tupleKind knd).hash d))->m+k=n->k<b ->
   wpAny (model prog w) A (setSearchFrom a (.ref G) ((tupleKind knd).hash d) c b e) Q E s:=by
 intro k
 induction k using Nat.strongRecOn with
 | _ k ih =>
  intro m b e N O hf;cases b with
  | zero=>lia
  | succ b =>
   unfold setSearchFrom;refine AA (CI U V D.fits ?_);dsimp only;rw[D.odd];simp only[A_,CY];rw[N];unfold SetTable.probe;rcases Xl D.dm _ ((tupleKind knd).hash d) (t.probeStart ((tupleKind knd).hash d)) rfl k m n (10*SetTable.turns t.mask) O he (by lia)with⟨j,F,Y⟩ | ⟨l,i,h1,h2,F,Y,e3⟩
   .rw[F];dsimp only;exact AF (h j Y)
   .rw[e3];dsimp only;obtain⟨u,I,P⟩:∃u,t.slot (NY t l (t.probeStart ((tupleKind knd).hash d))).j = .live u/\t.place[u]?=some (NY t l (t.probeStart ((tupleKind knd).hash d))).j:=by
     rcases u8 D.dm (NY t l (t.probeStart ((tupleKind knd).hash d))).j with z | z
     .rw[z]at F;cases F
     .exact z
    rw[F]at I;cases I;have R:i<r.size:=by
     have:=(DE.mp P).1;rw[D.pl]at this;exact this
    obtain⟨J,f⟩:∃J,r[i]?=some J:=⟨r[i],DE.mpr ⟨R,rfl⟩⟩;obtain⟨k',p',L,rfl⟩:=W.get f;have B:∀v∈(r.filter (·.1 ==(tupleKind knd).hash d)).toList.map (·.2),∃k p,v = .ref p/\(tupleKind knd).is s.heap k p:=by
     intro v hv;obtain⟨z,Z,rfl⟩:=AX.mp hv;have S:z∈r.toList:=by
      rw[Array.toList_filter]at Z;exact(BC.mp Z).1
     obtain⟨q,hq,rfl⟩:=AX.mp (W.mem_iff.mp S);exact⟨q.1,q.2,rfl,H q hq⟩
    have x:wpAny (model prog w) A (do
      let some (_,y):=r[i]? | unsupported "internal:set-entry"
      let g <-holding [y] (eqBool y (.ref G))
      let(T,_,t') <-setState a
      if c&&g then return .there none
      let some same:=t'.sameMemory t.moves t.mask | unsupported "set.changed-during-lookup:is-the-new-block-at-the-old-address"
      let C <-match(if same then t'.slot (NY t l (t.probeStart ((tupleKind knd).hash d))).j else .empty)with
       | .live u=>match T[u]? with
        | some (_,y')=>do pure (if <-isSame y' y then some u else none)
        | none=>pure none
       | _=>pure none
      match C with
      | none=>rule "set.search.anew";setSearchFrom a (.ref G) ((tupleKind knd).hash d) c b none
      | some u=>if g then return .there (some u)else setSearchFrom a (.ref G) ((tupleKind knd).hash d) c b (some (NY t (l+1) (t.probeStart ((tupleKind knd).hash d))))) Q E s:=by
     rw[f];dsimp only;refine AA (CA ((tupleKind knd).eqBool hr (H _ L) X ?_));rw[BF (M _ L)];refine AA (CI U V D.fits ?_);dsimp only;rw[Wt,HX];simp only[A_,CY,GH];rw[F];dsimp only;rw[f];dsimp only;refine AA (wpAny_isSame_ref_self (AA (AF ?_)));simp only[GH];exact ih (n-(l+1)) (by lia) (l+1) b _ rfl (by lia) (by lia)
    cases hled:t.led with
    | true =>
     simp only[EZ,A_,CY];exact x
    | false =>
     simp only[HY,GH];refine AA (zBo hF X ?_ B);simp only[A_,CY];exact x
theorem Bc{a:A3}{o:Obj}{f:CW (Int×A2)}{ep:Nat}{t:IY}{ks:A1 (A1 K×A3)}{d:A1 K}{k:A3}{b:Bool}{Q:SetFound->A4->Prop}
  (l:(tupleKind knd).room A) (m:Flat knd) (p:s.heap.get? a=some o) (r:o.data = .set f ep t) (u:SX knd f ks) (c:SJ t f.size)
  (g:∀q∈ks,(tupleKind knd).is s.heap q.1 q.2) (v:(tupleKind knd).is s.heap d k) (i:∀q∈ks,q.1≠d) (h:∀j,t.slot j = .empty->Q (.free j false) s) :
  wpAny (model prog w) A (setSearch a (.ref k) ((tupleKind knd).hash d) b) Q E s:=by
 obtain⟨j,x,y⟩:=Oc c.dm (by rw[c.pl];have:=c.rm;lia);obtain⟨n,z,e⟩:=Ua c.mm ((tupleKind knd).hash d) x;unfold setSearch;refine Kc l m p r u c g v i z (by rw[e];exact y) h n 0 100000 none rfl (by lia) ?_;have:SetTable.turns t.mask<=526:=by
  unfold SetTable.turns;rcases c.mm with e | e | e | e<;>lia
 lia
theorem NN.typeIs{a:A3}{ks:A1 (A1 K×A3)}(h:NN knd s.heap a ks):s.TypeIs (.ref a) "set":=let⟨o,_,_,_,b,c,_⟩:=h;⟨o,b,c.1⟩
theorem Qy{a:A3}{b:CW (Int×A2)}:byScan (.ref a) b=false:=rfl
theorem Rb{a:A3}{ks:A1 (A1 K×A3)}{b:A1 K}{e:A3}{Q:A5 Nat->A4->Prop}(k:(tupleKind knd).room A)(l:Flat knd)(m:NN knd s.heap a ks)
  (c:∀q∈ks,(tupleKind knd).is s.heap q.1 q.2) (n:(tupleKind knd).is s.heap b e) (d:∀q∈ks,q.1≠b) (h:Q none s):wpAny (model prog w) A (setFind a (.ref e) ((tupleKind knd).hash b)) Q E s:=by
 obtain⟨o,r,u,t,f,_,g,p,i⟩:=m;unfold setFind setFindIn;refine AA (CI f g i.fits ?_);dsimp only;rw[Qy];simp only[A_,CY];refine AA (Bc k l f g p i c n d λj _=>?_);dsimp only;exact AF h
theorem R5{neg:Bool}{a:A3}{ks:A1 (A1 K×A3)}{b:A1 K}{d:A3}{Q:A2->A4->Prop}(g:A.units+1<cLine)(j:Flat knd)(c:NN knd s.heap a ks)
  (e:∀q∈ks,(tupleKind knd).is s.heap q.1 q.2) (i:(tupleKind knd).is s.heap b d) (f:∀q∈ks,q.1≠b) (h:Q (.bool false) { s with toks:=s.toks +(tupleKind knd).draws b }) :
  wpAny (model prog w) A (compareOp .In (.ref d) (.ref a)) Q E s:=by
 show wpAny _ _ (do return .bool (<-contains (.ref a) (.ref d))) Q E s;refine AA ?_;unfold contains
 try with_reducible refine CA ?_
 refine AA (wpAny_specialOf c.typeIs F.slot_set_contains.lookup ?_);show wpAny _ _ (if(some (Value.builtin "set.__contains__") == some Value.none)=true then _ else _) _ E s;rw[AJ (by rw[beq_builtin_none];exact BA)];refine AA (wpAny_callSpecialUnlessNone?_slot (name:=Str.ofString "__contains__") c.typeIs F.slot_set_contains
  (DD F.slot_set_contains c.typeIs entry_set_contains ?_ (F.args_set_contains_2 _ _)))
 unfold Builtin.«frozenset.__contains__» Builtin.Frozenset.oneOther;simp only[List.isEmpty_nil,bind_assoc];unfold Builtin.Frozenset.addrOf Builtin.Frozenset.withSetAsKey setContains;refine AA (AF ?_)
 try dsimp only
 refine AA (AF ?_)
 try dsimp only
 refine AA (GC ?_);refine CA ?_;refine AA ((tupleKind knd).pyHash ?hroom i ?_)
 case hroom=>exact g
 refine AA (Rb (s:={ s with toks:=s.toks +(tupleKind knd).draws b }) ?hroom j c e i f ?_)
 case hroom=>exact g
 refine AF ?_;show wpAny _ _ (ret (Value.bool false)) _ _ _;exact AF ⟨_,rfl,DI (AF h)⟩
def SC(knd:KeyKind prog w K):Prop:=∀v,(∃x,knd.is x v=true)->v.scannable=true
theorem hbv{j:A1 K}{f:A3}{Q:Bool->A4->Prop}(k:SC knd)(l:(tupleKind knd).is s.heap j f)(h:∀b,Q b s):wpAny (model prog w) A (hashByValue 8 (.ref f)) Q E s:=by
 obtain⟨o,d,n,g,m,p,r⟩:=l;have t:s.TypeIs (.ref f) "tuple":=⟨o,g,m⟩;unfold hashByValue;refine AA (wpAny_specialOf t F.slot_tuple_hash.lookup ?_);dsimp only;refine AA (DN g p ?_);dsimp only[Option.getD_some];rw[<-Array.forIn_toList];refine AA (B_ (wpAny_forIn_list _ (λa c e=>e=s/\c =(none,())/\∀v∈a,v∈d.toList) (λc e=>e=s/\(c =(none,())\/c =(some false,()))) ?_ ?_ _ _ ⟨rfl,rfl,λ_ z=>z⟩) ?_ λ_ _ q=>q)
 .rintro v a c e ⟨rfl,rfl,i⟩;rw[hashByValue_scannable _ (k v (Gm r v (i v (BO ..))))];refine AA (AF ?_);cases plainKind v with
  | true =>
   simp only[EZ,A_,CY];exact AF ⟨rfl,rfl,λu x=>i u (BD _ x)⟩
  | false =>
   simp only[HY,GH];exact AF ⟨rfl,.inr rfl⟩
 .rintro c e ⟨rfl,rfl,_⟩;exact⟨rfl,.inl rfl⟩
 .rintro c e ⟨rfl,rfl | rfl⟩
  .exact AF (h _)
  .exact AF (h _)
theorem r9{α:Type}(xs:CW α)(p:Nat)(x:α)(a:p<=xs.size):(SetTable.insertAt xs p x).size=xs.size+1:=by
 unfold SetTable.insertAt;rw[Array.size_append,Array.size_push,GL,GL];lia
theorem Eg{α:Type}(xs:CW α)(p:Nat)(x:α)(b:p<=xs.size):(SetTable.insertAt xs p x).toList.Perm (xs.toList ++ [x]):=by
 unfold SetTable.insertAt;rw[BR,DH,FB,FB];simp only[ES,FK,Nat.sub_zero];have e:List.take (xs.size-p) (List.drop p xs.toList)=List.drop p xs.toList:=by
  rw[DA];rw[D_,AU];lia
 rw[e];have a:xs.toList=xs.toList.take p++xs.toList.drop p:=(BT ..).symm
 conv=>rhs;rw[a]
 rw[BE,BE];exact DU _ CT
theorem i6(xs:CW Nat)(j:Nat):∀(f lo hi:Nat),lo<=hi->SetTable.below.go xs j f lo hi<=hi
 | 0,lo,hi,h=>h
 | f+1,lo,hi,h=>by
  unfold SetTable.below.go;split
  .rename_i a;dsimp only;split
   .exact i6 xs j f _ _ (by lia)
   .exact Nat.le_trans (i6 xs j f _ _ (by lia)) (by lia)
  .exact h
theorem Vj(xs:CW Nat)(j:Nat):SetTable.below xs j<=xs.size:=i6 xs j _ _ _ (CL _)
theorem zEb{t:IY}(a:t.dummies = #[])(j:Nat):t.put j =({ t with place:=SetTable.insertAt t.place (SetTable.below t.place j) j },SetTable.below t.place j):=by
 unfold SetTable.put;have:SetTable.has t.dummies j=false:=by
  rw[a];unfold SetTable.has;simp
 rw[this];rfl
theorem zHo:SetTable.sizeAbove 20=32:=by decide
theorem zHs:SetTable.sizeAbove 76=128:=by decide
theorem zFq:SetTable.sizeAbove 308=512:=by decide
theorem Uu{f:CW (Int×A2)->A5 (IY×CW Nat)->Sem (CW (Int×A2)×IY)}(y:∀c g,f c g =(do
  let some (t,b):=g | unsupported "internal:set-table-without-room"
  let d:=b.filterMap (c[·]?)
  if d.size != c.size then unsupported "internal:set-table-lost-an-element"
  pure (d,t)))
  {a:A3} {o:Obj} {c:CW (Int×A2)} {ep:Nat} {t:IY} {n m:Nat} {Q:Unit->A4->Prop} (q:s.heap.get? a=some o) (r:o.data = .set c ep t) (z:t.dummies = #[]) (j:t.fits c.size=true)
  (l:SetTable.sizeAbove n=m+1) (i:RR m) (hsz:c.size*5<m*3)
  (h:∀(d:CW (Int×A2)) (t':IY),d.toList.Perm c.toList->SJ t' d.size->Q () { s with heap:=s.heap.update a (Obj.putSet d t') }) :
  wpAny (model prog w) A (do
   let(c,_,t) <-setState a
   if SetTable.sizeAbove n>sizeLine then unsupported "set:memory"
   let(c,t) <-f c (t.relaid (c.map (·.1)) n)
   storeSet a c t) Q E s:=by
 refine AA (CI q r j ?_);dsimp only;have p:m<=511:=by rcases i with e | e | e | e<;>lia
 rw[l,AJ (by rw[sizeLine_eq];lia)];rw[y];have B:(c.map (·.1)).size<=m:=by rw[HU];lia
 obtain⟨place,b,u,C,v⟩:=zAx i t.finger (t.movedTo (SetTable.sizeAbove n-1)) t.led t.plain (c.map (·.1)) B;have D:t.relaid (c.map (·.1)) n=some ({ mask:=m,place,dummies:=#[],finger:=t.finger,led:=t.led,moves:=t.movedTo (SetTable.sizeAbove n-1),plain:=t.plain },b):=by
  unfold SetTable.relaid;rw[l];rw[l]at u;exact u
 rw[D];dsimp only;have x:(b.filterMap (c[·]?)).toList.Perm c.toList:=Vh (by rw[HU]at v;exact v);have k:(b.filterMap (c[·]?)).size=c.size:=by rw[<-AU,x.length_eq,AU]
 rw[AJ (by rw[k];simp)];refine AA (AF ?_);dsimp only;refine HZ q r (h _ _ x ⟨rfl,?_,i,?_⟩) (by rw[k,sizeLine_eq];lia)
 .rw[k,C,HU]
 .rw[k];exact hsz
theorem Fe{h:IM}{a:A3}{o:Obj}{d:CW (Int×A2)}{ep:Nat}{t:IY}(e:h.get? a=some o)(c:o.data = .set d ep t)(b:CW (Int×A2))(t':IY) :
  (h.update a (Obj.putSet b t')).get? a=some { o with data:=.set b (ep+1) t' }:=by
 have:=DC (Obj.putSet b t') e (by rw[putSet_of b t' c];rfl);rw[putSet_of b t' c]at this;exact this
theorem Nr{a:A3}{ks:A1 (A1 K×A3)}{g:A1 K}{l:A3}{Q:Bool->A4->Prop}(V:(tupleKind knd).room A)(W:Flat knd)(X:SC knd)(Y:NN knd s.heap a ks)
  (I:∀q∈ks,(tupleKind knd).is s.heap q.1 q.2) (S:(tupleKind knd).is s.heap g l) (J:∀q∈ks,q.1≠g) (hl:ks.length+1<=300)
  (h:∀h',Heap.SameBut a s.heap h'->NN knd h' a (ks ++ [(g,l)])->Q true { s with heap:=h' }) :
  wpAny (model prog w) A (setAddHashed a (.ref l) ((tupleKind knd).hash g)) Q E s:=by
 obtain⟨o,c,ep,t,y,z,B,L,i⟩:=Y;have Z:c.size=ks.length:=by
  have:=L.length_eq;rw[AU,AB]at this;exact this
 unfold setAddHashed setAddHashedIn;refine CA ?_;refine AA (CI y B i.fits ?_);dsimp only;rw[Qy];simp only[A_,CY];refine AA (Bc V W y B L i I S J λj hj=>?_);dsimp only;refine AA (CI y B i.fits ?_);dsimp only;rw[zEb i.dm];dsimp only;have M:=Vj t.place j;have C:SetTable.below t.place j<=c.size:=by rw[i.pl]at M;exact M
 have hrm:=i.rm;have p:=i.mm;have d:=r9 c (SetTable.below t.place j) ((tupleKind knd).hash g,Value.ref l) C;have N:=Eg c (SetTable.below t.place j) ((tupleKind knd).hash g,Value.ref l) C;have D:∀f:CW (Int×A2),f.toList.Perm (SetTable.insertAt c (SetTable.below t.place j) ((tupleKind knd).hash g,Value.ref l)).toList->SX knd f (ks ++ [(g,l)]):=λf O=>by
  unfold SX;rw[AN];exact O.trans (N.trans (L.append_right _))
 have r:∀n:IY,n.dummies = #[]->n.mask=t.mask->n.place.size=c.size+1->wpAny (model prog w) A (do
   storeSet a (SetTable.insertAt c (SetTable.below t.place j) ((tupleKind knd).hash g,Value.ref l)) n
   if(!false&&n.tooFull)=true then do
    setRelay a (SetTable.grown (c.size+1))
    pure true
   else pure true) Q E s:=by
  intro n G H P;refine AA (HZ y B ?_ (by rw[d,sizeLine_eq];lia));have u:=Fe y B (SetTable.insertAt c (SetTable.below t.place j) ((tupleKind knd).hash g,Value.ref l)) n;have F:=DT s.heap a (Obj.putSet (SetTable.insertAt c (SetTable.below t.place j) ((tupleKind knd).hash g,Value.ref l)) n);have R:n.tooFull=decide ((c.size+1)*5 ≥ t.mask*3):=by
   unfold SetTable.tooFull SetTable.fill;rw[G,H,P];rfl
  rw[R,HY,Bool.true_and];by_cases k:(c.size+1)*5 ≥ t.mask*3
  .rw[BB k,AL rfl];have v:∃m,SetTable.sizeAbove (SetTable.grown (c.size+1))=m+1/\RR m/\(c.size+1)*5<m*3:=by
    have hg:SetTable.grown (c.size+1) =(c.size+1)*4:=by
     unfold SetTable.grown;rw[AJ (by lia)]
    rw[hg];rcases p with e | e | e | e
    .have:c.size+1=5:=by lia
     rw[this];exact⟨31,zHo,.inr (.inl rfl),by decide⟩
    .have:c.size+1=19:=by lia
     rw[this];exact⟨127,zHs,.inr (.inr (.inl rfl)),by decide⟩
    .have:c.size+1=77:=by lia
     rw[this];exact⟨511,zFq,.inr (.inr (.inr rfl)),by decide⟩
    .lia
   obtain⟨m,c1,c2,c3⟩:=v;refine AA ?_;unfold setRelay;refine Uu (λ_ _=>rfl) (s:={ s with heap:=_ }) u rfl G ?_ c1 c2 (by rw[d];exact c3) λf T O ht=>?_
   .unfold SetTable.fits SetTable.fill;rw[d,P,G,H];have U:c.size+1+0<=t.mask:=by rcases p with e | e | e | e<;>lia
    simp;lia
   .refine AF (h _ (F.trans (DT _ a _)) ?_);exact⟨_,f,_,T,Fe u rfl f T,z,rfl,D f O,ht⟩
  .rw[BF k,AJ (by decide)];refine AF (h _ F ⟨_,_,_,n,u,z,rfl,D _ (.refl _),⟨G,?_,?_,?_⟩⟩)
   .rw[P,d]
   .rw[H];exact p
   .rw[H,d];lia
 have x:(SetTable.insertAt t.place (SetTable.below t.place j) j).size=c.size+1:=by rw[r9 _ _ _ M,i.pl]
 cases hpl:t.plain with
 | true =>
  simp only[GH];refine AA (hbv X S λb=>?_);cases b with
  | true =>
   simp only[GH];exact r _ i.dm rfl x
  | false =>
   simp only[A_,CY];exact r _ i.dm rfl x
 | false =>
  simp only[A_,CY];refine AA (AF ?_);simp only[GH];exact r _ i.dm rfl x
theorem RG{a:A3}{ks:A1 (A1 K×A3)}{b:A1 K}{c:A3}{Q:A2->A4->Prop}(i:A.units+1<cLine)(l:Flat knd)(m:SC knd)(j:NN knd s.heap a ks)
  (d:∀q∈ks,(tupleKind knd).is s.heap q.1 q.2) (k:(tupleKind knd).is s.heap b c) (e:∀q∈ks,q.1≠b) (n:ks.length+1<=300)
  (h:∀h',Heap.SameBut a s.heap h'->NN knd h' a (ks ++ [(b,c)])->Q .none { s with heap:=h',toks:=s.toks +(tupleKind knd).draws b }) :
  wpAny (model prog w) A (call (.builtin "set.add") [.ref a,.ref c]) Q E s:=by
 refine DD F.slot_set_add j.typeIs F.entry_set_add ?_ (F.args_set_add_2 _ _);unfold Builtin.«set.add» Builtin.Frozenset.oneOther;simp only[List.isEmpty_nil,bind_assoc];unfold Builtin.Frozenset.addrOf setAdd;refine AA (AF ?_)
 try dsimp only
 refine AA (AF ?_)
 try dsimp only
 refine AA ?_;refine CA ?_;refine AA ((tupleKind knd).pyHash ?hroom k ?_)
 case hroom=>exact i
 refine Nr (s:={ s with toks:=s.toks +(tupleKind knd).draws b }) ?hroom l m j d k e n λh' f g=>?_
 case hroom=>exact i
 show wpAny _ _ (ret Value.none) _ _ _;exact AF ⟨_,rfl,h h' f g⟩
end
def Nh:Manifest.owners.lookup (String.ofList ['r','o','t','a','r','e','t','i','_','t','e','s'].reverse)=some Manifest.sig_set_iterator:=by kernel_rfl
def JW:Slot "set_iterator" "__next__" "set_iterator.__next__" :=
 .of (owner := "set_iterator") (n := "__next__") (by rw[typeLookup_type,builtinLookup_eq_fast];kernel_rfl) (by decide +kernel) (by decide +kernel) (by decide +kernel) (by first | exact .inl (by decide +kernel) | exact .inr (by decide +kernel)) (by rw[isSubtype_type];kernel_rfl)
def n9:entryFor table "set_iterator.__next__" = some Builtin.«set_iterator.__next__»:=entryFor_of_tree (by kernel_rfl)
def Ae(a:A2):argsOk "set_iterator.__next__" ⟨[a],[]⟩:=by
 unfold argsOk;rw[signature?_of (id := "set_iterator.__next__") (n:=['_','_','t','x','e','n','_','_']) (o:=['r','o','t','a','r','e','t','i','_','t','e','s']) (by kernel_rfl) Nh];kernel_rfl
def Ah:Slot "set_iterator" "__iter__" "set_iterator.__iter__" :=
 .of (owner := "set_iterator") (n := "__iter__") (by rw[typeLookup_type,builtinLookup_eq_fast];kernel_rfl) (by decide +kernel) (by decide +kernel) (by decide +kernel) (by first | exact .inl (by decide +kernel) | exact .inr (by decide +kernel)) (by rw[isSubtype_type];kernel_rfl)
def Gz(a:A2):argsOk "set_iterator.__iter__" ⟨[a],[]⟩:=by
 unfold argsOk;rw[signature?_of (id := "set_iterator.__iter__") (n:=['_','_','r','e','t','i','_','_']) (o:=['r','o','t','a','r','e','t','i','_','t','e','s']) (by kernel_rfl) Nh];kernel_rfl
def Fq:entryFor table "set_iterator.__iter__" = some Builtin.«dict_keyiterator.__iter__» :=
 entryFor_alias (id' := "dict_keyiterator.__iter__") (by kernel_rfl) (by first | rfl | decide +kernel | (unfold String.splitOn;simp +decide [String.splitOnAux])) (by decide +kernel) (by kernel_rfl)
def Il:entryFor table "set.__iter__" = some Builtin.«frozenset.__iter__» :=
 entryFor_alias (id' := "frozenset.__iter__") (by kernel_rfl) rfl (by decide +kernel) (by kernel_rfl)
def zFt:typeLookup (.type "set") "__len__" = pure (some (.builtin "set.__len__")):=by rw[typeLookup_type,builtinLookup_eq_fast];kernel_rfl
section
variable{prog:A7}{w:F8}{A:IR}{E:A2->A4->Prop}{s:A4}
theorem Pt{n:Nat}{Q:Nat->A4->Prop}(a:n≠0)(h:∀i d,i<n->Q i { s with drawn:=d }):wpAny (model prog w) A (choose .order n) Q E s:=λΓ p hΓ=>by
 unfold choose;rw[Sem.wp_choose];exact⟨a,h _ _ (Nat.mod_lt _ (Nat.pos_of_ne_zero a))⟩
theorem KF{α:Type}:∀{l:A1 α} {i:Nat} {x:α},l[i]?=some x->(x::l.eraseIdx i).Perm l
 | [],i,x,h=>by simp at h
 | y::l,0,x,h=>by
  have:y=x:=by simpa using h
  subst this;exact .refl _
 | y::l,i+1,x,h=>by
  have a:l[i]?=some x:=by simpa using h
  exact(List.Perm.swap y x _).trans ((KF a).cons y)
theorem Hx{α:Type}{l:A1 α}{i:Nat}{x:α}(h:l[i]?=some x):(l.eraseIdx i).length+1=l.length:=(KF h).length_eq
theorem Qn{α:Type}:∀(n:Nat) (l:A1 α) (s:A4) (Q:A1 α->A4->Prop),l.length=n->(∀b d,b.Perm l->Q b { s with drawn:=d })->wpAny (model prog w) A (drawOrder n l) Q E s
 | 0,l,s,Q,a,h=>by
  unfold drawOrder;obtain rfl:=GE.mp a;exact AF (h [] s.drawn (.refl _))
 | n+1,[],s,Q,a,h=>by simp at a
 | n+1,x::f,s,Q,a,h=>by
  unfold drawOrder;refine AA (Pt (by simp) λi d g=>?_);have e:(x::f)[i]?=some ((x::f)[i]):=AC g;rw[e];dsimp only;have j:=KF e;refine AA (Qn n _ _ _ (by have:=Hx e;lia) λb k c=>?_);exact AF (h _ k ((c.cons _).trans j))
theorem Tn{α:Type}(nx:Nat->Nat):∀(f k:Nat) (JK:A1 α) (out:CW α),JK.length=f->(pickOrder.go nx f k JK out).toList.Perm (out.toList++JK)
 | 0,k,JK,out,h=>by
  obtain rfl:=GE.mp h;unfold pickOrder.go;simp
 | f+1,k,JK,out,h=>by
  have a:nx k % JK.length<JK.length:=Nat.mod_lt _ (by lia);have e:JK[nx k % JK.length]?=some JK[nx k % JK.length]:=AC a;unfold pickOrder.go;rw[e];dsimp only;have b:=KF e;refine(Tn nx f (k+1) _ _ (by have:=Hx e;lia)).trans ?_;rw[DH,BE];exact b.append_left _
theorem Bo{α:Type}(nx:Nat->Nat)(xs:CW α):(pickOrder nx xs).toList.Perm xs.toList:=by
 unfold pickOrder;have:=Tn nx xs.size 0 xs.toList #[] (AU ..);simpa using this
structure RQ(w:F8)(h:IM)(a:A3)(o:Obj)(es:CW (Int×A2))(ep:Nat)(t:IY):Prop where
 ho:h.get? a=some o
 ex:o.ExactSet
 hd:o.data = .set es ep t
 ft:t.fits es.size=true
 led:t.led=!(w.params.followText "set-order")
 pln:t.plain=true->es.size=0
 few:es.size<4096
def RU(first:A2)(i n ep:Nat)(a:A3):Obj:={ cls:=.type "set_iterator",data:=.fields #[first,rawInt i,.ref a,rawInt n,rawInt ep] }
theorem R8{Q:Bool->A4->Prop}(h:Q (w.params.followText "set-order") s):wpAny (model prog w) A setsByText Q E s:=by
 unfold setsByText;exact AA (HA (AF h))
variable{a it:A3}{o:Obj}{es:CW (Int×A2)}{ep:Nat}{t:IY}
theorem Az{i g:Nat}{r:A5 (A2×Nat)}{Q:A5 A2->A4->Prop}(h:A.handled=none)(S:RQ w s.heap a o es ep t)(n:it≠a)(hi:s.heap.get? it=some (RU (rawInt g) i es.size ep a))
  (c:∀(j:A5 (A2×Nat)->A4->Prop) (q:IR) (u:A2->A4->Prop),j r s->wpAny (model prog w) q (setNext a g i ep) j u s)
  (d:∀x nx h',r=some (x,nx)->h'.get? it=some (RU (rawInt nx) (i+1) es.size ep a)->Heap.SameBut it s.heap h'->Q (some x) { s with heap:=h' })
  (f:r=none->∀h',Heap.ExtBut it s.heap h'->Q none { s with heap:=h' }):wpAny (model prog w) A (pyNext (.ref it)) Q E s:=by
 have k:s.TypeIs (.ref it) "set_iterator":=⟨_,hi,rfl⟩;unfold pyNext;refine AA (IG (EI (name:=Str.ofString "__next__") k JW (DD JW k n9 ?_ (Ae _))));unfold Builtin.«set_iterator.__next__»;refine AA (FX (a:=(Value.ref it,[])) rfl ?_);dsimp only;refine AA (wpAny_fieldsOf hi rfl ?_);dsimp only[rawInt];refine AA (wpAny_setEntries_of S.ho S.hd S.ft ?_);rw[AJ (by simp)];simp only[CK];refine AA (c _ _ _ ?_);cases r with
 | some p =>
  obtain⟨x,nx⟩:=p;dsimp only;refine AA (FO hi rfl (by simp) ?_);have l:=DC (Obj.mapFields (·.setIfInBounds 0 (rawInt (nx:Nat)))) hi rfl;refine AA (FO l rfl (by simp) ?_);have v:=DC (Obj.mapFields (·.setIfInBounds 1 (rawInt ((i:Int)+1)))) l rfl;refine AF ⟨x,rfl,AF (d x nx _ rfl ?_ ((DT ..).trans (DT ..)))⟩;exact v
 | none =>
  dsimp only;refine AA (FO hi rfl (by simp) ?_);refine AA ?_;simp only[newExc,newTuple];refine AA (DJ ?_ (by size_fits));refine AA (m:=firstArgMember _ _) (FX (a:=Value.none) (by first | rfl | (simp only[firstArgMember];rfl)) ?_);refine DJ ?_ (by size_fits);simp only[raiseNew];refine AA (wpAny_handled ?_)
  first | rw[show A.in1.handled=none from h] | rw[h]
  refine AA (AF (wpAny_throw ?_));refine AA (IC (T := "StopIteration") (b:=true) ⟨_,AS _ rfl,rfl⟩ isSubtype_stop ?_);exact AF (f rfl _ ((ID (ID (λb o y e=>(CJ _ _ (Ne.symm y)).trans e) _)) _))
end
def TQ(a:A1 Nat):Obj:={ cls:=.type "tuple",data:=.seq (a.map λ(i:Nat)=>rawInt i).toArray }
section
variable{prog:A7}{w:F8}{A:IR}{E:A2->A4->Prop}{s:A4}{a it T:A3}{o:Obj}{es:CW (Int×A2)}{ep:Nat}{t:IY}
theorem Li{i:Nat}{c:A1 Nat}{Q:A5 A2->A4->Prop}(n:A.handled=none)(S:RQ w s.heap a o es ep t)(hi:s.heap.get? it=some (RU (.ref T) i es.size ep a))(q:s.heap.get? T=some (TQ c))
  (g:∀p x h',c[i]?=some p->es[p]?=some x->h'.get? it=some (RU (.ref T) (i+1) es.size ep a)->Heap.SameBut it s.heap h'->Q (some x.2) { s with heap:=h' }) (h:∀p∈c,p<es.size)
  (j:c.length<=i->∀h',Heap.ExtBut it s.heap h'->Q none { s with heap:=h' }):wpAny (model prog w) A (pyNext (.ref it)) Q E s:=by
 have f:s.TypeIs (.ref it) "set_iterator":=⟨_,hi,rfl⟩;unfold pyNext;refine AA (IG (EI (name:=Str.ofString "__next__") f JW (DD JW f n9 ?_ (Ae _))));unfold Builtin.«set_iterator.__next__»;refine AA (FX (a:=(Value.ref it,[])) rfl ?_);dsimp only;refine AA (wpAny_fieldsOf hi rfl ?_);dsimp only[rawInt];refine AA (wpAny_setEntries_of S.ho S.hd S.ft ?_);rw[AJ (by simp)];simp only[CK];refine AA (DN q rfl ?_);dsimp only;cases e:c[i]? with
 | some p =>
  have r:(c.map λ(i:Nat)=>Value.int (i:Int) 0).toArray[i]?=some (.int (p:Int) 0):=by
   rw[GT,AH,e];rfl
  have d:(c.map λ(i:Nat)=>rawInt i).toArray[i]?=some (.int (p:Int) 0):=r;rw[d];have u:p<es.size:=h p (AI e);obtain⟨x,k⟩:∃x,es[p]?=some x:=⟨es[p],DE.mpr ⟨u,rfl⟩⟩;dsimp only;simp only[CK];unfold setNextDrawn;refine AA (AA (CI S.ho S.hd S.ft ?_));dsimp only;rw[AJ (by simp),k];dsimp only;refine AF ?_;refine AA (FO hi rfl (by simp) ?_);have v:=DC (Obj.mapFields (·.setIfInBounds 1 (rawInt ((i:Int)+1)))) hi rfl;exact AF ⟨x.2,rfl,AF (g p x _ e k v (DT ..))⟩
 | none =>
  have d:(c.map λ(i:Nat)=>rawInt i).toArray[i]?=none:=by
   rw[GT,AH,e];rfl
  rw[d];dsimp only;refine AA (FO hi rfl (by simp) ?_);have y:=DC (Obj.mapFields (·.setIfInBounds 0 (rawInt 0))) hi rfl;refine AA (FO y rfl (by simp) ?_);refine AA ?_;simp only[newExc,newTuple];refine AA (DJ ?_ (by size_fits));refine AA (m:=firstArgMember _ _) (FX (a:=Value.none) (by first | rfl | (simp only[firstArgMember];rfl)) ?_);refine DJ ?_ (by size_fits);simp only[raiseNew];refine AA (wpAny_handled ?_);rw[show A.in1.handled=none from n];refine AA (AF (wpAny_throw ?_));refine AA (IC (T := "StopIteration") (b:=true) ⟨_,AS _ rfl,rfl⟩ isSubtype_stop ?_);refine AF (j (List.getElem?_eq_none_iff.mp e) _ (ID (ID (λb B l z=>?_) _) _));exact(CJ _ _ (Ne.symm l)).trans ((CJ _ _ (Ne.symm l)).trans z)
def zGo(w:F8)(a T:A3)(es:CW (Int×A2))(ep:Nat)(t:IY)(b:A1 A2)(i:Nat)(h:IM)(first:A2):Prop :=
 (w.params.followText "set-order" = true/\first=rawInt (0:Nat)/\b =(pickOrder (w.params.setOrder a ep) es).toList.map (·.2)) \/
 (w.params.followText "set-order" = false/\∃c:A1 Nat,first = .ref T/\h.get? T=some (TQ c)/\c.Perm (List.range es.size)/\b=c.filterMap λp=>es[p]?.map (·.2)) \/
 (w.params.followText "set-order" = false/\es.size<=1/\b=es.toList.map (·.2)/\∃d:Nat,first=rawInt d/\(i=0->d=0)/\(i=1->∃j,t.place = #[j]/\d=j+1))
def SSt(w:F8)(a it T:A3)(o:Obj)(es:CW (Int×A2))(ep:Nat)(t:IY)(b:A1 A2)(i:Nat)(h:IM):Prop :=
 RQ w h a o es ep t/\∃first,h.get? it=some (RU first i es.size ep a)/\zGo w a T es ep t b i h first
theorem RQ.at{h h':IM}(S:RQ w h a o es ep t)(e:h'.get? a=some o):RQ w h' a o es ep t:=⟨e,S.ex,S.hd,S.ft,S.led,S.pln,S.few⟩
theorem zCq(j:Nat):SetTable.below #[j] 0=0:=by simp[SetTable.below,SetTable.below.go]
theorem zBs(j:Nat):SetTable.below #[j] (j+1)=1:=by simp[SetTable.below,SetTable.below.go]
theorem Ux(S:RQ w s.heap a o es ep t):t.place.size=es.size:=by
 have:=S.ft;unfold SetTable.fits at this;rw[BW]at this;simpa using this.1
theorem Tl(L:A.handled=none){u:A1 A2}(m:it≠a)(hiT:it≠T):Walks prog w A it [it,a,T] [it] es.size (λi v=>u[i]?=some v) (SSt w a it T o es ep t u) where
 sub:=λb M=>by simp at M;simp[M]
 frame:=λi h c ⟨S,first,B,N⟩ k=>by
  refine⟨S.at (k a (by simp) _ S.ho),first,k it (by simp) _ B,?_⟩;rcases N with z | ⟨g,O,W,n,F,G⟩ | z
  .exact .inl z
  .exact .inr (.inl ⟨g,O,W,k T (by simp) _ n,F,G⟩)
  .exact .inr (.inr z)
 item:=λi s Q E hlt ⟨S,first,B,N⟩ I=>by
  have d:∀c,Heap.SameBut it s.heap c->∀b H,b∉[it]->s.heap.get? b=some H->c.get? b=some H:=λc f b H M e=>(f.2 b (by simpa using M)).trans e;rcases N with⟨g,rfl,n⟩ | ⟨g,O,rfl,n,F,G⟩ | ⟨g,W,n,sl,rfl,G,z6⟩
  .have J:=Bo (w.params.setOrder a ep) es;have C:(pickOrder (w.params.setOrder a ep) es).size=es.size:=by rw[<-AU,J.length_eq,AU]
   obtain⟨x,R⟩:∃x,(pickOrder (w.params.setOrder a ep) es)[i]?=some x:=⟨_,DE.mpr ⟨by rw[C];exact hlt,rfl⟩⟩;refine Az (r:=some (x.2,0)) L S m B (λU A' E' q=>?_) (λy nx c D P f=>?_) (λe=>nomatch e)
   .unfold setNext setWalk;refine AA (CI S.ho S.hd S.ft ?_);dsimp only;refine AA (R8 ?_);rw[g,AL rfl,AJ (by simp)];refine AA (AA (CI S.ho S.hd S.ft ?_));dsimp only;refine AA (R8 ?_);rw[g,AL rfl];refine AA (HA (AF (AF ?_)));show U (((pickOrder (w.params.setOrder a ep) es)[i]?).map λe=>(e.2,0)) s;rw[R];exact q
   .cases D;have:=I x.2 c s.toks (by rw[n,AH,BP,R];rfl) ⟨S.at ((f.2 a (Ne.symm m)).trans S.ho),_,P,.inl ⟨g,rfl,n⟩⟩ (d c f);exact this
  .refine Li L S B n (λp x c D P e3 f=>?_) (λp hp=>CB.mp (F.mem_iff.mp hp)) (λhle=>?_)
   .have V:∀q∈O,(es[q]?.map (·.2)).isSome=true:=λq hq=>by
     have:q<es.size:=CB.mp (F.mem_iff.mp hq);rw[DE.mpr ⟨this,rfl⟩];rfl
    refine I x.2 c s.toks ?_ ⟨S.at ((f.2 a (Ne.symm m)).trans S.ho),_,e3,.inr (.inl ⟨g,O,rfl,(f.2 T (Ne.symm hiT)).trans n,F,G⟩)⟩ (d c f);have gen:∀(l:A1 Nat) (i p:Nat),(∀q∈l,(es[q]?.map (·.2)).isSome=true)->l[i]?=some p->(l.filterMap λp=>es[p]?.map (·.2))[i]?=es[p]?.map (·.2):=by
     intro l
     induction l with
     | nil=>intro i p _ e;simp at e
     | cons q r ih =>
      intro i p X e;obtain⟨v,hv⟩:=EE.mp (X q (BO ..));rw[DR,hv];dsimp only;cases i with
      | zero =>
       have:q=p:=by simpa using e
       subst this;simpa using hv.symm
      | succ i=>simpa using ih i p (λq hq=>X q (BD _ hq)) (by simpa using e)
    rw[G,gen O i p V D,P];rfl
   .have:=F.length_eq;rw[BZ]at this;lia
  .have Y:i=0:=by lia
   have h1:es.size=1:=by lia
   obtain⟨j,Z⟩:∃j,t.place = #[j]:=Array.size_eq_one_iff.mp ((Ux S).trans h1);obtain⟨x,R⟩:∃x,es = #[x]:=Array.size_eq_one_iff.mp h1;have hs0:=G Y;subst hs0;have hx0:es[0]?=some x:=by rw[R];rfl
   refine Az (r:=some (x.2,j+1)) L S m B (λU A' E' q=>?_) (λy nx c D P f=>?_) (λe=>nomatch e)
   .unfold setNext;refine AA (CI S.ho S.hd S.ft ?_);dsimp only;refine AA (R8 ?_);rw[g,AJ (by decide)];show wpAny _ _ (if(!t.plain&&decide (es.size>1))=true then _ else _) _ _ _;rw[AJ (by rw[h1];simp)];show wpAny _ _ (do (if(!t.led&&!es.isEmpty)=true then unsupported "set:maker-not-led" else pure ());_) _ _ _;rw[S.led,g,AJ (by simp)];refine AA (AF ?_);rw[Z,zCq,hx0];exact AF q
   .cases D;refine I x.2 c s.toks (by rw[n,Y,R];rfl) ⟨S.at ((f.2 a (Ne.symm m)).trans S.ho),_,P,.inr (.inr ⟨g,W,n,j+1,rfl,λe=>by lia,λ_=>⟨j,Z,rfl⟩⟩)⟩ (d c f)
 done:=λs Q E ⟨S,first,B,N⟩ I=>by
  have d:∀c,Heap.ExtBut it s.heap c->∀b H,b∉[it]->s.heap.get? b=some H->c.get? b=some H:=λc f b H M e=>f b H (by simpa using M) e;rcases N with⟨g,rfl,n⟩ | ⟨g,O,rfl,n,F,G⟩ | ⟨g,W,n,sl,rfl,G,z6⟩
  .have J:=Bo (w.params.setOrder a ep) es;have C:(pickOrder (w.params.setOrder a ep) es).size=es.size:=by rw[<-AU,J.length_eq,AU]
   refine Az (r:=none) L S m B (λU A' E' q=>?_) (λy nx c D=>nomatch D) (λ_ c f=>I c s.toks (d c f));unfold setNext setWalk;refine AA (CI S.ho S.hd S.ft ?_);dsimp only;refine AA (R8 ?_);rw[g,AL rfl,AJ (by simp)];refine AA (AA (CI S.ho S.hd S.ft ?_));dsimp only;refine AA (R8 ?_);rw[g,AL rfl];refine AA (HA (AF (AF ?_)));show U (((pickOrder (w.params.setOrder a ep) es)[es.size]?).map λe=>(e.2,0)) s;rw[FH (by rw[C];exact Nat.le_refl _)];exact q
  .have X:=F.length_eq;rw[BZ]at X;refine Li L S B n (λp x c D P e3 f=>?_) (λp hp=>CB.mp (F.mem_iff.mp hp)) (λ_ c f=>I c s.toks (d c f));have:=(AE.mp D).1;lia
  .refine Az (r:=none) L S m B (λU A' E' q=>?_) (λy nx c D=>nomatch D) (λ_ c f=>I c s.toks (d c f));unfold setNext;refine AA (CI S.ho S.hd S.ft ?_);dsimp only;refine AA (R8 ?_);rw[g,AJ (by decide)];show wpAny _ _ (if(!t.plain&&decide (es.size>1))=true then _ else _) _ _ _;rw[AJ (by simp;intro _;lia)];show wpAny _ _ (do (if(!t.led&&!es.isEmpty)=true then unsupported "set:maker-not-led" else pure ());_) _ _ _;rw[S.led,g,AJ (by simp)];refine AA (AF ?_);have K:es[SetTable.below t.place sl]?=none:=by
    by_cases Y:es.size=0
    .exact FH (by rw[Y];exact CL _)
    .obtain⟨j,Z,rfl⟩:=z6 (by lia);rw[Z,zBs];exact FH (by lia)
   rw[K];exact AF q
 self:=λi s Q E ⟨S,first,B,N⟩ h=>by
  have hT:s.TypeIs (.ref it) "set_iterator":=⟨_,B,rfl⟩;refine wpAny_pyIter_slot hT Ah (DD Ah hT Fq ?_ (Gz _));show wpAny _ _ (ret (.ref it)) _ _ s;exact AF ⟨_,rfl, "set_iterator",_,hT,JW.lookup,h⟩
theorem Vn{Q:A2->A4->Prop}(S:RQ w s.heap a o es ep t)
  (h:∀(it T:A3) (c:A1 A2) (h':IM) (d:Drawn),it≠a->it≠T->(T=a\/s.heap.objs.size<=T)->s.heap.objs.size<=it->(∀b g,s.heap.get? b=some g->h'.get? b=some g)->c.Perm (es.toList.map (·.2))->SSt w a it T o es ep t c 0 h'->(∀b∈[it,a,T],b<h'.objs.size) ->
   (∀I:IR,I.handled=none->Walks prog w I it [it,a,T] [it] es.size (λi v=>c[i]?=some v) (SSt w a it T o es ep t c))->Q (.ref it) { s with heap:=h',drawn:=d }):wpAny (model prog w) A (pyIter (.ref a)) Q E s:=by
 have M:s.TypeIs (.ref a) "set":=⟨_,S.ho,S.ex.1⟩;have G:=AM S.ho;refine wpAny_pyIter_slot M F.slot_set_iter (DD F.slot_set_iter M Il ?_ (F.args_set_iter_1 _));unfold Builtin.«frozenset.__iter__» Builtin.Frozenset.slot0 Builtin.Frozenset.sizeOf;refine AA (AA (FX (a:=(Value.ref a,[])) rfl ?_));dsimp only;refine FX (a:=a) rfl ?_;refine AA (AA (wpAny_setEntries_of S.ho S.hd S.ft (AF ?_)));have m:∀(first:A2) (T:A3) (c:A1 A2) (f:IM) (d:Drawn),(∀b g,s.heap.get? b=some g->f.get? b=some g)->s.heap.objs.size<=f.objs.size->c.Perm (es.toList.map (·.2))->T<f.objs.size->(T=a\/s.heap.objs.size<=T) ->
   (∀q:IM,(∀b g,f.get? b=some g->q.get? b=some g)->zGo w a T es ep t c 0 q first) ->
   wpAny (model prog w) A.in1 (do let e <-setEpoch a;let x <-newFields "set_iterator" [first,rawInt 0,.ref a,rawInt (es.size:Nat),rawInt (e:Nat)];ret x) (λr N=>∃v,r=Fin.done (Flow.ret v)/\∃O r,N.TypeIs v O/\typeLookup (Value.type O) (Str.ofString "__next__")=pure (some r)/\Q v N) E { s with heap:=f,drawn:=d }:=by
  intro first T c f d k n l z J P
  refine AA (wpAny_setEpoch_of (s:={ s with heap:=f,drawn:=d }) (k a o S.ho) S.hd S.ft ?_);refine AA (DJ ?_);have H:(f.push (RU first 0 es.size ep a)).get? f.objs.size=some (RU first 0 es.size ep a):=AS _ rfl;have B:∀b g,f.get? b=some g->(f.push (RU first 0 es.size ep a)).get? b=some g:=λb g e=>AG _ e;have C:f.objs.size≠a:=λe=>absurd (BJ G n) (by rw[<-e];exact CU _);have D:f.objs.size≠T:=λe=>absurd z (by rw[<-e];exact CU _);refine AF ⟨.ref f.objs.size,rfl, "set_iterator",_,⟨_,H,rfl⟩,JW.lookup,?_⟩;refine h f.objs.size T c (f.push (RU first 0 es.size ep a)) d C D J n (λb g e=>B b g (k b g e)) l ⟨S.at (B a o (k a o S.ho)),first,H,P _ B⟩ (λb u=>?_) λI R=>Tl R C D;rw[DM];simp only[AK,CD,or_false]at u;rcases u with rfl | rfl | rfl
  .exact EW _
  .exact EC (BJ G n)
  .exact EC z
 unfold setDrawn;refine AA (AA (CI S.ho S.hd S.ft ?_));dsimp only;refine AA (R8 (AF ?_));cases u:w.params.followText "set-order" with
 | true =>
  show wpAny _ _ (if(!true &&(!t.plain&&decide (es.size>1)))=true then _ else _) _ _ _;rw[EZ,EJ,AJ (by decide)];refine AA (AF ?_);exact m _ a _ s.heap s.drawn (λ_ _ e=>e) (Nat.le_refl _) ((Bo _ es).map _) G (.inl rfl) λq _=>.inl ⟨u,rfl,rfl⟩
 | false =>
  show wpAny _ _ (if(!false &&(!t.plain&&decide (es.size>1)))=true then _ else _) _ _ _;by_cases j:(!t.plain&&decide (es.size>1))=true
  .rw[HY,Bool.true_and,AL j];refine AA (Qn es.size (List.range es.size) s _ (BZ ..) λy d l=>AA ?_);unfold newTuple;refine DJ ?_ ?_
   .have H:(s.heap.push (TQ y)).get? s.heap.objs.size=some (TQ y):=AS _ rfl;refine m _ s.heap.objs.size (y.filterMap λp=>es[p]?.map (·.2)) (s.heap.push (TQ y)) d (λb g e=>AG _ e) (by rw[DM];exact EN _) ?_ (by rw[DM];exact EW _) (.inr (Nat.le_refl _)) λq B=>.inr (.inl ⟨u,y,rfl,B _ _ H,l,rfl⟩);refine(l.filterMap _).trans (List.Perm.of_eq ?_);have:=filterMap_getElem?_range es;rw[<-this,List.map_filterMap]
   .have f:=l.length_eq;have q:=S.few;rw[BZ]at f;show(List.map _ y).toArray.size<=sizeLine;rw[AV,AB,sizeLine_eq];lia
  .rw[HY,Bool.true_and,AJ j];refine AA (AF ?_);have K:es.size<=1:=by
    by_cases l:t.plain=true
    .have:=S.pln l;lia
    .have L:t.plain=false:=by simpa using l
     rw[L]at j;simp at j;lia
   exact m _ a _ s.heap s.drawn (λ_ _ e=>e) (Nat.le_refl _) (.refl _) G (.inl rfl) λq _=>.inr (.inr ⟨u,K,rfl,0,rfl,λ_=>rfl,λe=>absurd e (by decide)⟩)
end
section
variable{prog:A7}{w:F8}{A:IR}{E:A2->A4->Prop}{s:A4}{a:A3}{o:Obj}{es:CW (Int×A2)}{ep:Nat}{t:IY}
theorem Vi{a:A1 A2}{b:CW A2}(h:ItemsOf (λi v=>a[i]?=some v) b a.length):b.toList=a:=by
 refine FW λi=>?_;rw[BP];by_cases c:i<b.size
 .have e:b[i]?=some b[i]:=DE.mpr ⟨c,rfl⟩;rw[e,h.2 i _ e]
 .rw[FH (by lia),ET (by have:=h.1;lia)]
theorem QE{Q:A1 A2->A4->Prop}(O:A.handled=none)(S:RQ w s.heap a o es ep t)
  (U:∀f q,(∀b c,s.heap.get? b=some c->f.heap.get? b=some c)->f.gens=s.gens->f.os=s.os->s.heap.objs.size<f.heap.objs.size->q.Perm (es.toList.map (·.2))->Q q f):wpAny (model prog w) A (collect (.ref a)) Q E s:=by
 have V:=AM S.ho;unfold collect;refine AA (wpAny_runValue (HN F.entry_proto_collect ?_));rw[Around.under_plainId F.plain_proto_collect _];show wpAny _ A.in1 (newList [] >>= λl=>again (.builtin "list.__iadd__" ⟨[l,.ref a],[]⟩)) _ _ s;refine AA (DJ ?_);refine AF ⟨plainId_quiet F.plain_list_iadd _,HN F.entry_list_iadd ?_⟩;rw[Around.under_plainId F.plain_list_iadd _];show wpAny _ A.in1 (Builtin.List.listExtendWith (.ref s.heap.objs.size) (.ref a) (.ref s.heap.objs.size)) _ _ _;unfold Builtin.List.listExtendWith;have h:s.heap.objs.size≠a:=λe=>absurd V (by rw[<-e];exact CU _);generalize J:s.heap.push { cls:=.type "list",data:=.seq ([]:A1 A2).toArray }=H;have G:∀b c,s.heap.get? b=some c->H.get? b=some c:=λb c e=>by rw[<-J];exact AG _ e
 have i:H.objs.size=s.heap.objs.size+1:=by rw[<-J,DM]
 have X:H.get? s.heap.objs.size=some { cls:=.type "list",data:=.seq ([]:A1 A2).toArray }:=by rw[<-J];exact AS _ rfl
 have Y:Shared.TypeIs { s with heap:=H } (.ref a) "set":=⟨o,G a o S.ho,S.ex.1⟩;refine AA (wpAny_typeOf Y ?_);have Z:Builtin.List.listSameRef (.ref s.heap.objs.size) (.ref a)=false:=by simp[Builtin.List.listSameRef,h]
 have h2:(Value.type "set" == Value.type "list")=false:=by decide
 have h3:(Value.type "set" == Value.type "tuple")=false:=by decide
 simp only[Z,h2,h3,Bool.or_false,A_,CY];refine AA (Vn (s:={ s with heap:=H }) (S.at (G a o S.ho)) λI T j r d hia hiT K u k P st hlt W=>?_);have m:Shared.TypeIs { s with heap:=r,drawn:=d } (.ref a) "set":=⟨o,k a o (G a o S.ho),S.ex.1⟩;refine AA (CA ?_);unfold Builtin.List.listLengthHint;refine AA (wpAny_specialOf m zFt ?_);wp_delta;refine AA (IC m (b:=true) (by rw[isSubtype_type];kernel_rfl) ?_);show wpAny _ A.in1 (typeOf (Value.ref a) >>= _) _ _ _;refine AA (wpAny_typeOf m ?_);refine AF ?_;rw[AL (by decide)];refine AA (EG ?_);have v:r.get? s.heap.objs.size=some { cls:=.type "list",data:=.seq ([]:A1 A2).toArray }:=k _ _ X;refine AA ?_;show wpAny _ A.in1 (updateSeq s.heap.objs.size (·.push .none) >>= λ_=>updateSeq s.heap.objs.size (·.pop)) _ _ _;refine AA (HP v rfl ?_);have x:=DC (Obj.mapSeq (·.push Value.none)) v rfl;refine HP x rfl ?_;have L:=DC (Obj.mapSeq (·.pop)) x rfl;have y:∀b c,b≠s.heap.objs.size->r.get? b=some c->((r.update s.heap.objs.size (Obj.mapSeq (·.push Value.none))).update s.heap.objs.size (Obj.mapSeq (·.pop))).get? b=some c :=
  λb c p e=>(CJ _ _ (Ne.symm p)).trans ((CJ _ _ (Ne.symm p)).trans e)
 have B:s.heap.objs.size∉[I,a,T]:=by
  have e1:s.heap.objs.size≠I:=λe=>absurd u (by
   show ¬H.objs.size<=I;rw[i,<-e];exact Nat.not_succ_le_self _)
  have e2:s.heap.objs.size≠T:=λe=>by
   rcases K with z | z
   .exact h (e.trans z)
   .exact absurd z (by
     show ¬H.objs.size<=T;rw[i,<-e];exact Nat.not_succ_le_self _)
  simp only[AK,CD,or_false,not_or];exact⟨e1,h,e2⟩
 have M:es.size=j.length:=by
  have:=P.length_eq;rw[AB,AU]at this;exact this.symm
 have R:=S.few;refine AF ⟨plainId_quiet F.plain_extend_loop _,codeAny_extend_loopS (W A.in1 O).toS (by rw[sizeLine_eq];lia) _ B _ es.size 0 _ _ _ rfl (CL _)
  ((W A.in1 O).frame 0 r _ st λb p c e=>y b c (λz=>B (z▸p)) e) L (ItemsOf.nil _) λf C c' N D g=>?_⟩
 show wpAny _ A (load s.heap.objs.size >>= _) _ _ f;refine AA (wpAny_load D ?_);rw[M]at g;refine AF (U f C.toList (λb c e=>N.heap b c (λp=>?_) (y b c (λz=>?_) (k b c (G b c e)))) N.gens N.os (AM D) (by rw[Vi g];exact P))
 .have n:=AM e;rcases AK.mp p with z | z
  .exact absurd n (by rw[z];exact CU _)
  .rw[AD.mp z]at n;have:H.objs.size<=I:=u;rw[i]at this;exact absurd (BJ n (Nat.le_of_succ_le this)) (CU _)
 .exact absurd (AM e) (by rw[z];exact CU _)
end
end ST
namespace ST
open PySem L2
def zDn(t:IY)(n:Nat):(t.orStandIn n).led=t.led:=by
 unfold SetTable.orStandIn;split<;>rfl
def Zw(t:IY)(a:CW (Int×A2))(h:Int)(x:A2):(layNew t a h x).2.1.led=t.led:=by
 unfold layNew;split
 .rename_i b c e;show((t.put b).1.orStandIn _).led=_;rw[zDn];rfl
 .rfl
def Os{t t':IY}{b:CW Int}{n:Nat}{a:CW Nat}(h:t.relaid b n=some (t',a)):t'.led=t.led/\t'.plain=t.plain:=by
 unfold SetTable.relaid SetTable.laid at h;cases e:SetTable.layClean (SetTable.sizeAbove n-1) b with
 | none=>rw[e]at h;cases h
 | some c =>
  rw[e]at h;cases h;exact⟨rfl,rfl⟩
def Qt(t:IY)(a:CW (Int×A2))(n:Nat)(b:t.plain=false):(relayAll t a n).2.1.led=t.led/\(relayAll t a n).2.1.plain=false:=by
 unfold relayAll;split
 .rename_i g c e;obtain⟨d,f⟩:=Os e;dsimp only;split
  .exact⟨d,f.trans b⟩
  .exact⟨rfl,rfl⟩
 .exact⟨rfl,rfl⟩
def zHm:A2->Str
 | .str x _=>x
 | _=>Str.empty
section
variable{prog:A7}{w:F8}{A:IR}{E:A2->A4->Prop}{s:A4}{a:A3}
structure OP(w:F8)(es:CW (Int×A2))(ss:A1 Str):Prop where
 el:∀e∈es.toList,∃x tk,e =(hashStr w x,Value.str x tk)
 pm:(es.toList.map λe=>zHm e.2).Perm ss
 nd:ss.Nodup
def WS(w:F8)(h:IM)(a:A3)(ss:A1 Str):Prop:=∃o b c t,RQ w h a o b c t/\OP w b ss
theorem OP.elems{a:CW (Int×A2)}{ss:A1 Str}(h:OP w a ss):ElemsOf (C4 prog w) a.toList:=λe b=>by
 obtain⟨x,c,rfl⟩:=h.el e b;exact⟨⟨.inr x,l5 x c,rfl⟩,rfl⟩
theorem OP.mem{d:CW (Int×A2)}{ss:A1 Str}(h:OP w d ss)(x:Str):x∈ss↔∃e∈d.toList,(C4 prog w).is (.inr x) e.2=true:=by
 rw[<-h.pm.mem_iff];constructor
 .intro g;obtain⟨e,a,rfl⟩:=AX.mp g;obtain⟨y,b,rfl⟩:=h.el e a;exact⟨_,a,l5 y b⟩
 .rintro⟨e,a,j⟩;obtain⟨y,b,rfl⟩:=h.el e a;have:y=x:=by
   rcases G0 (show Ey (.inr x) (.str y b)=true from j)with⟨i,t,f,c⟩ | ⟨z,t,f,c⟩
   .cases c
   .cases f;cases c;rfl
  subst this;exact AX.mpr ⟨_,a,rfl⟩
theorem OP.len{a:CW (Int×A2)}{ss:A1 Str}(h:OP w a ss):a.size=ss.length:=by
 have:=h.pm.length_eq;rw[AB,AU]at this;exact this
theorem SA{ss:A1 Str}{x:Str}{m:Tok}{Q:Bool->A4->Prop}(S:WS w s.heap a ss)(hl:ss.length+1<4096)
  (h:∀h' b,Heap.SameBut a s.heap h'->WS w h' a (if x∈ss then ss else ss ++ [x])->Q b { s with heap:=h' }) :
  wpAny (model prog w) A (setAddHashed a (.str x m) (hashStr w x)) Q E s:=by
 obtain⟨o,n,ep,t,S,T⟩:=id S;have C:(C4 prog w).is (.inr x) (.str x m)=true:=l5 x m;have hsz:=T.len;unfold setAddHashed setAddHashedIn;refine CA (AA (CI S.ho S.hd S.ft ?_));dsimp only;rw[byScan_of (knd:=C4 prog w) rfl S.few T.elems,AL rfl];unfold setAddByScan;refine AA (AA (EG ?_));refine AA (wpAny_setScan_of C S.ho S.hd S.ft T.elems ?_);cases W:List.findIdx? (λe=>(C4 prog w).is (.inr x) e.2) n.toList with
 | some j =>
  dsimp only;obtain⟨hj,M,_⟩:=List.findIdx?_eq_some_iff_getElem.mp W;have p:x∈ss:=(T.mem (prog:=prog) x).mpr ⟨n.toList[j],GB hj,M⟩;refine AF (AF ?_);have:=h s.heap false (Heap.SameBut.refl a s.heap) (by rw[AL p];exact⟨o,n,ep,t,S,T⟩);exact this
 | none =>
  dsimp only;have p:¬x∈ss:=λp=>by
   obtain⟨e,N,K⟩:=(T.mem (prog:=prog) x).mp p;have:=List.findIdx?_eq_none_iff.mp W e N;rw[K]at this;exact Bool.noConfusion this
  have D:∀(b:Bool) {O:A4} {P:Unit->A4->Prop},P () O->wpAny (model prog w) A (match b with | true=>rule "set.scan.the-table-gave-way" | false=>pure ()) P E O :=
   λb O P X=>by cases b<;>first | exact AF X | exact EG X
  have d:=layNew_perm t n (hashStr w x) (.str x m);have g:=layNew_fits t n (hashStr w x) (.str x m);have k:=Zw t n (hashStr w x) (.str x m);show wpAny _ _ (match layNew t n (hashStr w x) (.str x m)with | (n,t,f,F)=>_) _ _ _;generalize layNew t n (hashStr w x) (.str x m)=L at d g k⊢;obtain⟨c,t1,f,F⟩:=L;dsimp only at d g k⊢;rw[DH]at d;have q:∀u:CW (Int×A2),u.toList.Perm c.toList->OP w u (ss ++ [x]):=λu G=>by
   refine⟨λe N=>?_,?_,?_⟩
   .rcases AO.mp (d.mem_iff.mp (G.mem_iff.mp N))with z | z
    .exact T.el e z
    .exact⟨x,m,AD.mp z⟩
   .refine((G.trans d).map _).trans ?_;rw[AN];exact T.pm.append (.refl _)
   .rw[DK];refine⟨T.nd,by simp,λy hy z hz=>?_⟩;rw[AD.mp hz];rintro rfl;exact p hy
  have l:c.size=ss.length+1:=by
   have:=(q c (.refl _)).len;rw[AW]at this;exact this
  refine AA (D _ ?_);have H:∀i:IY,i.led=t.led->i.plain=false->i.fits c.size=true->wpAny (model prog w) A (do
    storeSet a c i
    if(!f&&i.tooFull)=true then do
      (match(relayAll i c (SetTable.grown c.size)).2.2 with | true=>rule "set.scan.the-table-gave-way" | false=>pure ())
      storeSet a (relayAll i c (SetTable.grown c.size)).1 (relayAll i c (SetTable.grown c.size)).2.1
      pure (some true)
     else pure (some true)) (λr s'=>wpAny (model prog w) A (match r with | some v=>pure v | none=>setAddHashedIn a (.str x m) (hashStr w x) 99999) Q E s') E s:=by
   intro i Y Z f2;refine AA (HZ S.ho S.hd ?_ (by rw[l,sizeLine_eq];lia));have B:=Fe S.ho S.hd c i;have I:=DT s.heap a (Obj.putSet c i);split
   .have K:=relayAll_perm i c (SetTable.grown c.size);have hf:=relayAll_fits i c (SetTable.grown c.size);obtain⟨R,U⟩:=Qt i c (SetTable.grown c.size) Z;have J:(relayAll i c (SetTable.grown c.size)).1.size=c.size:=by rw[<-AU,K.length_eq,AU]
    refine AA (D _ ?_);refine AA (HZ B rfl ?_ (by rw[J,l,sizeLine_eq];lia));refine AF (AF (h _ true (I.trans (DT _ a _)) ?_));rw[AJ p];exact⟨_,_,_,_,⟨Fe B rfl _ _,S.ex,rfl,hf,R.trans (Y.trans S.led),(λz=>by rw[U]at z;cases z),by rw[J,l];lia⟩,q _ K⟩
   .refine AF (AF (h _ true I ?_));rw[AJ p];exact⟨_,c,_,i,⟨B,S.ex,rfl,f2,Y.trans S.led,(λz=>by rw[Z]at z;cases z),by rw[l];lia⟩,q _ (.refl _)⟩
  cases V:t1.plain with
  | true =>
   rw[AL rfl,hashByValue_scannable 8 (x:=Value.str x m) rfl];refine AA (AF ?_);exact H { t1 with plain:=false } k rfl (SetTable.fits_plain_off g)
  | false =>
   rw[AJ (by decide)];refine AA (AF ?_);exact H t1 k V g
end
end ST
namespace L2
open PySem PySem.Spec PyProof.Rows
def Ie(w:F8)(a:A3)(ss:A1 Str):HO:=.ext λh=>ST.WS w h a ss
section
variable{X:Cx}{pins:A1 (A3×Obj)}{σ:St}{H:Hp}{s:A4}{a:A3}{ss:A1 Str}
theorem Yg{P:A7}{w:F8}{H:Hp}{h:IM}(z:ST.WS w h a ss):IZ P w H h a (Ie w a ss) :=
 ⟨z,let⟨o,_,_,_,S,_⟩:=z;⟨o,S.ho⟩,λd e ⟨o,b,c,t,S,r⟩ k=>⟨o,b,c,t,S.at (k o S.ho),r⟩⟩
theorem Inv.setw(I:Inv X pins σ H s)(e:H a=some (Ie X.w a ss)):ST.WS X.w s.heap a ss:=by
 obtain⟨z,_⟩:=(show IZ X.prog X.w H s.heap a (Ie X.w a ss)from I.hok a _ e);exact z
def Ur(l:A1 Str)(x:Str):A1 Str:=if x∈l then l else l ++ [x]
def zFp(w:F8):V->A1 V->Hp->VK->Prop:=λx b H Q=>∃a l k,x = .ref a/\b = [.str k]/\H a=some (Ie w a l)/\l.length+1<4096/\Q .non (IK H a (Ie w a (Ur l k)))
theorem WS.typeIs{ss:A1 Str}(z:ST.WS X.w s.heap a ss):s.TypeIs (.ref a) "set":=let⟨o,_,_,_,S,_⟩:=z;⟨o,S.ho,S.ex.1⟩
theorem zAm:QW X "set.add" (zFp X.w):=by
 intro pins s σ H x n v p Q I g i h;obtain⟨a,l,k,rfl,rfl,d,j,q⟩:=h;cases g;obtain⟨u,rfl,⟨r,rfl⟩⟩:=i.one;have z:=I.setw d;refine DD F.slot_set_add (WS.typeIs z) F.entry_set_add ?_ (F.args_set_add_2 _ _);unfold Builtin.«set.add» Builtin.Frozenset.oneOther;simp only[List.isEmpty_nil,bind_assoc];unfold Builtin.Frozenset.addrOf setAdd;refine AA (AF ?_)
 try dsimp only
 refine AA (AF ?_)
 try dsimp only
 refine AA ?_;refine CA ?_;refine AA (wpAny_pyHash_str ?_);refine ST.SA (s:={ s with toks:=s.toks+1 }) z j λt b c f=>?_;show wpAny _ _ (ret Value.none) _ _ _;refine AF ⟨_,rfl,.non,_,I.write (x:=a) (e:=a) (t':=s.toks+1) (by rw[d];exact True.intro) (.inl rfl) (λb q m e=>(c.2 b m).trans e) (let⟨o,_,_,_,S,_⟩:=f;⟨o,S.ho⟩) (Yg f),rfl,q⟩
theorem Ve{Q:A2->A4->Prop}{A:IR}{E:A2->A4->Prop}{prog:A7}{w:F8}
  (h:ST.WS w (s.heap.push { cls:=.type "set",dict:=none,data:=.set #[] 0 (.fresh 0 0 (!(w.params.followText "set-order"))) }) s.heap.objs.size [] ->
   Q (.ref s.heap.objs.size) { s with heap:=s.heap.push { cls:=.type "set",dict:=none,data:=.set #[] 0 (.fresh 0 0 (!(w.params.followText "set-order"))) } }):wpAny (model prog w) A (newSet (.type "set")) Q E s:=by
 unfold newSet setsByText;refine AA (AA (HA (AF ?_)));dsimp only;simp only[newObj];refine AA (wpAny_alloc (AF (h ⟨_,#[],0,_,⟨AS _ rfl,⟨rfl,rfl,rfl⟩,rfl,by rfl,rfl,λ_=>rfl,by decide⟩,⟨λe a=>by simp at a,by simp,GF⟩⟩)))
end
section
variable{X:Cx}{tg iter elt tg2 iter2:IQ}{g g2:TG}{tc tc2:TT}{te:TE}{ifs ifs2:A1 IQ}{scope:JH}{cl:A1 (Str×A3)}{N':A1 Str}{cap:A1 (A5 Nat)}{pos:Pos}{wi wi2:TI}
def Gd(w:F8)(D:A3)(te:TE):RB:=λσ H Q=>te σ H λy a=>∃l k,y = .str k/\a D=some (Ie w D l)/\l.length+1<4096/\Q σ (IK a D (Ie w D (Ur l k)))
theorem Wl{D:A3}(b:X.xe=λ_ _=>False)(d:PE X elt te):UE X (emS elt (.ref D) X.env) (Gd X.w D te):=by
 intro a s σ H Q k F E I h e;unfold emS;refine AA (AA (B_ (Do b (d a s σ H _ I h)) (λu f ⟨y,g,i,j,l,kk,m,n,o,p⟩=>?_) λ_ _ z=>z));subst m;refine AA (FI (AA (B_ (Do b (zAm a f σ g (.ref D) [.str kk] (.ref D) [u] (λv c=>v = .non/\Q σ c) i rfl (.cons j .nil) ⟨D,l,kk,rfl,rfl,n,o,rfl,p⟩)) (λv q ⟨x,c,r,A,_,t⟩=>?_) λ_ _ z=>z)));exact AF (e q σ c r t)
theorem zAy{D:A3}(i:X.calm=true)(a:X.xe=λ_ _=>False)(hi:PI X tg2 iter2 wi2)(j:PG X tg2 g2)(l:RJ X ifs2 tc2)(m:PE X elt te)(n:∀x,foldedSetIterable iter2 X.env x=pure x) :
  UE X (emN (.SetComp elt [⟨tg,iter,ifs,0⟩,⟨tg2,iter2,ifs2,0⟩] scope pos) iter2 1 (.ref D) X.env) (zFg wi2 λJ σ H Q=>Fi g2 tc2 (Gd X.w D te) J σ H Q):=by
 intro b s σ H Q k F E I h o;unfold emN;have g:=hi b s σ H _ I h;rw[a]at g;refine AA (B_ g (λv G p=>?_) λ_ _ z=>z.elim);refine AA (FI (AA (FX (n v) (AA (CA (B_ p (λq K r=>?_) λ_ _ z=>z.elim))))));obtain⟨L,M,N,J,O,f,t,T,c,u,R2⟩:=r;subst f;refine AA (wpAny_runOwn ?_);refine w4 (X:=X) (e:=.SetComp elt [⟨tg,iter,ifs,0⟩,⟨tg2,iter2,ifs2,0⟩] scope pos) (d:=1) (tg:=tg2) (iter:=iter2) (ifs:=ifs2) rfl rfl (gs:=[⟨tg,iter,ifs,0⟩,⟨tg2,iter2,ifs2,0⟩]) rfl rfl T c ?_;exact X4 (X:=X) rfl rfl i a (Om elt tg iter tg2 iter2 ifs ifs2 scope pos _ _ _) j l (Wl a m) T t c u R2 λy σ' A B C=>o y σ' A B C
theorem Yj(S:MC X scope cl N' cap)(i:X.calm=true)(hi:PI X tg iter wi)
  (l:∀(a:A1 (A3×Obj)) (c:A1 A3) (d:A4) (f:Hp),PG (LE X scope cl N' a c d f) tg g/\RJ (LE X scope cl N' a c d f) ifs tc/\PI (LE X scope cl N' a c d f) tg2 iter2 wi2 /\
   PG (LE X scope cl N' a c d f) tg2 g2/\RJ (LE X scope cl N' a c d f) ifs2 tc2/\PE (LE X scope cl N' a c d f) elt te)
  (m:∀x,foldedSetIterable iter X.env x=pure x:=by intro _;rfl) (j:∀k x,foldedSetIterable iter2 k x=pure x:=by intro _ _;rfl) :
  PE X (.SetComp elt [⟨tg,iter,ifs,0⟩,⟨tg2,iter2,ifs2,0⟩] scope pos) (Iz wi (λD=>Ie X.w D []) cap λD J σ H Q=>Fi g tc (zFg wi2 λJ σ H Q=>Fi g2 tc2 (Gd X.w D te) J σ H Q) J σ H Q):=by
 refine Fp (newAcc:=newSet (.type "set")) (p2:=firstIterPos [⟨tg,iter,ifs,0⟩,⟨tg2,iter2,ifs2,0⟩] pos) rfl (λD=>Ie X.w D []) m S i hi (λa s σ H Q E I h=>?_) (λa c d f D A B C J σ s H Q R T I st n h p=>?_) (λ_ _ _=>rfl) (λ_ _ _=>rfl) (λE Q s h=>h)
 .refine Ve λz=>h _ (I.laid (t':=s.toks) (λb o e=>AG _ e) (Nat.le_refl _) (Yg z)) λb F e=>AG _ e
 .obtain⟨q,r,t,u,v,y⟩:=l a c d f;exact X4 (X:=LE X scope cl N' a c d f) rfl rfl i rfl (Od elt tg iter tg2 iter2 ifs ifs2 scope pos _ _ _) q r (zAy (X:=LE X scope cl N' a c d f) i rfl t u v y (j _)) T I st n h p
end
def Inv.drawn{X:Cx}{a:A1 (A3×Obj)}{σ:St}{H:Hp}{s:A4}(I:Inv X a σ H s)(d:Drawn):Inv X a σ H { s with drawn:=d } :=
 ⟨I.ok,I.os,I.bare,I.base,I.loc,I.cell,I.free,I.freeC,I.pin,I.hok,I.len⟩
section
variable{X:Cx}
theorem Gc(Z:X.calm=true):O0 X (.builtin "sorted") (λxs H Q=>∃(p:A3) (ss:A1 Str),xs = [.ref p]/\H p=some (Ie X.w p ss)/\∀(l:A3) (f:A1 Str),H l=none->f.Perm ss->f.Pairwise QP->Q (.ref l) (IK H l (.lst (f.map V.str)))):=by
 intro P s σ H xs m Q I r h;obtain⟨p,ss,rfl,hq,q⟩:=h;obtain⟨u,rfl,ru⟩:=g9 r;cases ru;obtain⟨o,es,ep,t,S,T⟩:=I.setw hq;refine TS.NL (ST.QE (show X.A.in1.handled=none from I.ok.hd Z) S λD d k1 g1 R E g=>?_);have U:∀v∈d,∃x i,v=Value.str x i:=λv n=>by
  obtain⟨e,F,rfl⟩:=AX.mp (g.mem_iff.mp n);obtain⟨x,i,rfl⟩:=T.el e F;exact⟨x,i,rfl⟩
 have z:StrsAre d (d.map strOf):=by
  have:∀l:A1 A2,(∀v∈l,∃x i,v=Value.str x i)->StrsAre l (l.map strOf):=by
   intro l
   induction l with
   | nil=>exact λ_=>.nil
   | cons v r G =>
    intro h;obtain⟨x,i,rfl⟩:=h v (BO ..);exact .cons _ _ (G λu B=>h u (BD _ B))
  exact this d U
 have W:d.length=es.size:=by rw[g.length_eq,AB,AU]
 have Y:=S.few;have J:(d.map strOf).Perm ss:=by
  refine(g.map strOf).trans ?_;rw[BL];refine List.Perm.trans (List.Perm.of_eq ?_) T.pm;refine HE λe F=>?_;obtain⟨x,i,rfl⟩:=T.el e F;rfl
 refine⟨R,by rw[sizeLine_eq];lia,strKind,oneType',λs2 _=>TS.PQ z,λc h' e ho k hg=>?_⟩;obtain⟨K,hs⟩:=ho;have L:∀v∈c.toList,∃x t,v = .str x t:=λv n=>U v (K.mem_iff.mp n);have n:IV ((c.toList.map strOf).map V.str) c.toList:=by
  have:∀m:A1 A2,(∀v∈m,∃x t,v = .str x t)->IV ((m.map strOf).map V.str) m:=by
   intro m
   induction m with
   | nil=>exact λ_=>.nil
   | cons v r G =>
    intro h;obtain⟨x,t,rfl⟩:=h v (BO ..);exact .cons ⟨t,rfl⟩ (G λu B=>h u (BD _ B))
  exact this _ L
 have j:(c.toList.map strOf).Perm ss:=(K.map strOf).trans J;have M:(c.toList.map strOf).Pairwise QP:=by
  rw[CS];refine(List.Pairwise.and_mem.mp hs).imp fun{u v} ⟨B,N,q⟩=>?_;obtain⟨x,t,rfl⟩:=L u B;obtain⟨y,t',rfl⟩:=L v N;have q':decide (y.cps.toList<x.cps.toList)=false:=q;exact of_decide_eq_false q'
 have k0:∀b o,s.heap.get? b=some o->h'.get? b=some o:=λb o eb=>k b o (k1 b o eb);have C:s.heap.objs.size<=D.heap.objs.size:=DL E;have hn:H D.heap.objs.size=none:=I.hok.fresh C;obtain⟨O,g',d',t',o'⟩:=D;have eo:o'=s.os:=R;have eg:g'=s.gens:=g1;subst eo;subst eg;refine⟨.ref O.objs.size,IK H O.objs.size (.lst ((c.toList.map strOf).map V.str)),?_,rfl,q _ _ hn j M⟩;exact(I.laid (a:=O.objs.size) (o:=.lst ((c.toList.map strOf).map V.str)) (t':=t') k0 C ⟨by rw[AB,AB,K.length_eq,sizeLine_eq];lia,c.toList,e,n,by simpa using hg⟩).drawn d'
end
def Pg(P:A7)(w:F8)(a:A3)(ks:A1 (A1 JC×A3)):HO:=.ext λh=>ST.NN (C4 P w) h a ks
def Lq(H:Hp)(ks:A1 (A1 JC×A3)):Prop:=∀q∈ks,H q.2=some (.tup (q.1.map kV))
section
variable{X:Cx}{pins:A1 (A3×Obj)}{σ:St}{H:Hp}{s:A4}{a:A3}{ks:A1 (A1 JC×A3)}
theorem Mz(P:A7)(w:F8):ST.Flat (C4 P w):=λv ⟨x,h⟩=>(C4 P w).byValue x v h
theorem Wy(P:A7)(w:F8):ST.SC (C4 P w):=λv ⟨x,h⟩=>by
 rcases G0 (show Ey x v=true from h)with⟨i,t,_,rfl⟩ | ⟨y,t,_,rfl⟩<;>rfl
theorem Xk{P:A7}{w:F8}{H:Hp}{h:IM}(z:ST.NN (C4 P w) h a ks):IZ P w H h a (Pg P w a ks) :=
 ⟨z,let⟨o,_,_,_,e,_⟩:=z;⟨o,e⟩,λd f ⟨o,b,c,t,e,r⟩ k=>⟨o,b,c,t,k o e,r⟩⟩
theorem Inv.sett(I:Inv X pins σ H s)(e:H a=some (Pg X.prog X.w a ks)):ST.NN (C4 X.prog X.w) s.heap a ks:=by
 obtain⟨z,_⟩:=(show IZ X.prog X.w H s.heap a (Pg X.prog X.w a ks)from I.hok a _ e);exact z
theorem Ov:O0 X (.type "set") (λxs H Q=>xs = []/\∀p,H p=none->Q (.ref p) (IK H p (Pg X.prog X.w p []))):=by
 intro pins s σ H xs c Q I r h;obtain⟨rfl,q⟩:=h;cases r;refine call_set_0 λa=>⟨.ref s.heap.objs.size,_,I.laid (t':=s.toks) (λb o e=>AG _ e) (Nat.le_refl _) (Xk ?_),rfl,q _ (I.hok.fresh (Nat.le_refl _))⟩;exact⟨_,#[],0,_,AS _ rfl,⟨rfl,rfl,rfl⟩,rfl,.refl _,⟨rfl,rfl,.inl rfl,by show 0*5<7*3;decide⟩⟩
def zGp(P:A7)(w:F8):R2:=λx y H Q=>∃a p ks k,y = .ref a/\x = .ref p/\H a=some (Pg P w a ks)/\H p=some (.tup (k.map kV))/\Lq H ks/\(∀q∈ks,q.1≠k)/\Q (.bl false) H
theorem Np(b:X.A.units+1<cLine):LG X (compareOp .In) (zGp X.prog X.w):=by
 intro pins s σ H x y v u Q I c d h;obtain⟨a,p,ks,k,rfl,rfl,e,f,g,i,q⟩:=h;cases d;cases c;exact ST.R5 (neg:=false) b (Mz _ _) (I.sett e) (λz j=>Ab I.hok (g z j)) (Ab I.hok f) i ⟨.bl false,H,I.tok _,rfl,q⟩
def zDs(P:A7)(w:F8):V->A1 V->Hp->VK->Prop:=λx b H Q=>∃a p ks k,x = .ref a/\b = [.ref p]/\H a=some (Pg P w a ks)/\H p=some (.tup (k.map kV))/\Lq H ks/\(∀q∈ks,q.1≠k)/\ks.length+1<=300/\Q .non (IK H a (Pg P w a (ks ++ [(k,p)])))
theorem Za(d:X.A.units+1<cLine):QW X "set.add" (zDs X.prog X.w):=by
 intro pins s σ H x B v C Q I f g h;obtain⟨a,p,ks,k,rfl,rfl,c,i,j,l,m,q⟩:=h;cases f;obtain⟨u,rfl,n⟩:=g.one;cases n;refine ST.RG d (Mz _ _) (Wy _ _) (I.sett c) (λz r=>Ab I.hok (j z r)) (Ab I.hok i) l m λD t z=>?_;exact⟨.non,_,I.write (x:=a) (e:=a) (by rw[c];exact True.intro) (.inl rfl) (λb q y e=>(t.2 b y).trans e) (let⟨o,_,_,_,e,_⟩:=z;⟨o,e⟩) (Xk z),rfl,q⟩
end
section
variable{X:Cx}{tg:IQ}
def zEr(K:PySem.W.Frag)(d:TE):TI:=λσ H R=>d σ H λx b=>∃a,x = .ref a/\(((∃c,IS K b a c)/\R (UI K a) b)\/((∃c,JJ K b a c)/\R (Itt K a) b))
theorem zDw{l:IQ}{n:TE}(r:PE X l n):PI X tg l (zEr X.K n):=by
 intro d s σ H R I h;refine JI (r d s σ H _ I h) λv c ⟨x,j,f,t,k⟩=>?_;obtain⟨a,e,k⟩:=k;subst e;cases t;have g:∀b,b∈[c.heap.objs.size]->Es X d j b:=λb u=>by
  have e:b=c.heap.objs.size:=by simpa using u
  subst e;exact f.fpOk (Nat.le_refl _) (f.hok.fresh (Nat.le_refl _))
 rcases k with⟨⟨w,m⟩,q⟩ | ⟨⟨w,m⟩,q⟩
 .obtain⟨i,y,p,z⟩:=f.list m;refine HW p.isList ?_;exact⟨c.heap.objs.size,[c.heap.objs.size],_,_,j,rfl,f.kept (t':=c.toks) λb o e=>AG _ e,Gg a _,⟨_,AS _ rfl,rfl,rfl⟩,g,q⟩
 .obtain⟨i,y,p,z⟩:=f.tuple m;refine wpAny_pyIter_tuple (show c.heap.IsTuple a i.toArray from p) ?_;exact⟨c.heap.objs.size,[c.heap.objs.size],_,_,j,rfl,f.kept (t':=c.toks) λb o e=>AG _ e,Oh a _,⟨_,AS _ rfl,rfl,rfl⟩,g,q⟩
end
section
variable{X:Cx}
theorem Ro:O0 X (.builtin "isinstance") (λxs H Q=>∃x n t b,xs = [x,.ty n]/\MV X.K H x t/\PySem.W.kitOne X.K t (.type n)=some b/\Q (.bl b) H):=by
 intro a s σ H xs g Q I r h;obtain⟨x,n,t,b,rfl,c,d,q⟩:=h;obtain⟨u,v,rfl,e,f⟩:=r.two;cases f;exact Tf I e c d λi=>⟨.bl b,H,I.tok _,rfl,q⟩
end
mutual
def Rp(K:PySem.W.Frag)(H:Hp):PyData->V->Prop
 | .none,v=>v = .non
 | .bool b,v=>v = .bl b
 | .int i,v=>v = .int i
 | .str x,v=>v = .str x
 | .list d,v=>∃a c,v = .ref a/\IS K H a c/\QV K H d c
 | .tuple d,v=>∃a c,v = .ref a/\JJ K H a c/\QV K H d c
 | .dict _,_=>False
def QV(K:PySem.W.Frag)(H:Hp):A1 PyData->A1 V->Prop
 | [],a=>a = []
 | d::b,a=>∃v r,a=v::r/\Rp K H d v/\QV K H b r
end
section
variable{X:Cx}{pins:A1 (A3×Obj)}{σ:St}{H:Hp}{s:A4}
mutual
theorem Inv.reads(I:Inv X pins σ H s):∀(d:PyData) (v:V) (u:A2),Rp X.K H d v->RelV v u->∃as,Reads s.heap u d as
 | .none,v,u,h,r=>by
  cases(show v = .non by simpa [Rp] using h);cases r;exact⟨_,.none⟩
 | .bool b,v,u,h,r=>by
  cases(show v = .bl b by simpa [Rp] using h);cases r;exact⟨_,.bool b⟩
 | .int i,v,u,h,r=>by
  cases(show v = .int i by simpa [Rp] using h);obtain⟨t,rfl⟩:=r;exact⟨_,.int i t⟩
 | .str x,v,u,h,r=>by
  cases(show v = .str x by simpa [Rp] using h);obtain⟨t,rfl⟩:=r;exact⟨_,.str x t⟩
 | .list j,v,u,h,r=>by
  obtain⟨a,c,e,k,l⟩:=(show ∃a c,v=V.ref a/\IS X.K H a c/\QV X.K H j c by simpa [Rp] using h);subst e;cases r;obtain⟨f,m,⟨o,n,e,p,q,g⟩,_⟩:=I.list k;obtain⟨as,z⟩:=I.readsAll j c f l m;exact⟨_,.list e p g (by simpa using z)⟩
 | .tuple j,v,u,h,r=>by
  obtain⟨a,c,e,k,l⟩:=(show ∃a c,v=V.ref a/\JJ X.K H a c/\QV X.K H j c by simpa [Rp] using h);subst e;cases r;obtain⟨f,m,⟨o,e,p,n,g⟩,_⟩:=I.tuple k;obtain⟨as,z⟩:=I.readsAll j c f l m;exact⟨_,.tuple e p g (by simpa using z)⟩
 | .dict _,v,u,h,r=>by simp[Rp]at h
theorem Inv.readsAll(I:Inv X pins σ H s):∀(ds:A1 PyData) (vs:A1 V) (us:A1 A2),QV X.K H ds vs->IV vs us->∃as,ReadsAll s.heap us ds as
 | [],vs,us,h,r=>by
  cases(show vs = [] by simpa [QV] using h);cases r;exact⟨_,.nil⟩
 | d::ds,vs,us,h,r=>by
  obtain⟨v,a,e,b,c⟩:=(show ∃v r,vs=v::r/\Rp X.K H d v/\QV X.K H ds r by simpa [QV] using h);subst e;cases r with
  | cons f g =>
   obtain⟨as,z⟩:=I.reads d v _ b f;obtain⟨j,i⟩:=I.readsAll ds a _ c g;exact⟨_,.cons z i⟩
end
def Pl(d:PyData):Prop:=d.canLay0=true/\d.depth<=50
def zGm(K:PySem.W.Frag):R2:=λx y H Q=>∃d e,Rp K H d x/\Rp K H e y/\Pl d/\Pl e/\Q (.bl (PyData.eqv d e)) H
def zBv(m:X.A.units+64<cLine):LG X (compareOp .Eq) (zGm X.K):=by
 intro a s σ H x y v u Q I f g h;obtain⟨d,e,i,j,b,c,q⟩:=h;obtain⟨n,k⟩:=I.reads d x v i f;obtain⟨o,l⟩:=I.reads e y u j g;exact PySem.SeqAt.compareEq_reads k l b.1 c.1 (by have:=b.2;have:=c.2;lia) ⟨.bl (PyData.eqv d e),H,I,rfl,q⟩
def zGg(K:PySem.W.Frag)(neg:Bool):R2:=λx y H Q=>∃d a,Rp K H d x/\(Rp K H (.list a) y\/Rp K H (.tuple a) y)/\Pl d/\PyData.canLayAll0 a=true/\Q (.bl (if neg then !(a.any λz=>PyData.eqv z d)else a.any λz=>PyData.eqv z d)) H
def Ql(n:X.A.units+64<cLine):LG X (compareOp .NotIn) (zGg X.K true):=by
 intro f s σ H x y v u Q I k g h;obtain⟨d,b,l,h2,c,i,q⟩:=h;obtain⟨o,j⟩:=I.reads d x v l k;have a:X.A.units+1+min (PyData.depthAll b) d.depth<cLine:=by have:=c.2;lia
 rcases h2 with h2 | h2
 .obtain⟨m,e⟩:=I.reads (.list b) y u h2 g;exact PySem.SeqAt.notIn_list_reads e j i c.1 a ⟨.bl _,H,I,rfl,q⟩
 .obtain⟨m,e⟩:=I.reads (.tuple b) y u h2 g;exact PySem.SeqAt.notIn_tuple_reads e j i c.1 a ⟨.bl _,H,I,rfl,q⟩
end
section
variable{X:Cx}
theorem IV.insert{xs:A1 V}{us:A1 A2}{x:V}{u:A2}(h:IV xs us)(r:RelV x u)(k:Nat):IV (xs.take k++x::xs.drop k) (us.take k++u::us.drop k):=(h.take k).append (.cons r (h.drop k))
def zAt:V->A1 V->Hp->VK->Prop:=λx b H Q=>∃l a i k y,x = .ref l/\b = [.int i,y]/\i =((k:Nat):Int)/\H l=some (.lst a)/\k<=a.length/\a.length<sizeLine/\Q .non (IK H l (.lst (a.take k++y::a.drop k)))
theorem zFa{k:Nat}{i:Int}(e:i =(k:Int))(h:k<=sizeLine):¬(!Builtin.List.listFitsIndex i)=true:=by
 rw[sizeLine_eq]at h;have a:-(2^63:Int)<=i:=by lia
 have b:i<2^63:=by lia
 have:=fitsIndex_both a b;simpa using this
theorem Qd:QW X "list.insert" zAt:=by
 intro c s σ H x E v G Q I m o h;obtain⟨l,J,i,k,y,rfl,rfl,d,f,K,L,q⟩:=h;cases m;obtain⟨M,g,rfl,⟨t,rfl⟩,p⟩:=o.two;obtain⟨z,a,n,r,N,e⟩:=I.lstM f;have u:k<=sizeLine:=by lia
 have w:=zFa d u;have A:a.toArray.size<=sizeLine:=by rw[AV];lia
 have B:=@PySem.AutoListH.list_insert_list_int_val_1 l a.toArray n i t g w A;refine call_meets F.slot_list_insert ⟨_,e,rfl⟩ F.entry_list_insert (F.args_list_insert_3 _ _ _) B ⟨e,?_⟩;refine⟨.non,_,I.lset (its':=a.take k++g::a.drop k) f e ?_ (r.insert p k) ?_,rfl,q⟩
 .have b:min k a.length=k:=by lia
  have C:¬((k:Int)<0):=by lia
  subst d;have j:¬((k:Int)+0<0):=by lia
  have D:List.take (a.length-k) (List.drop k a)=List.drop k a:=DA (by simp);simp[b,C,D]
 .rw[AW,AR,AZ,D_];lia
def Ru(K:PySem.W.Frag):V->A1 V->Hp->VK->Prop:=λx b H Q=>∃(l:A3) (a:A1 Str) (y:Str) (j:Nat),x = .ref l/\b = [.str y]/\IS K H l (a.map V.str)/\a[j]?=some y/\(∀m,m<j->a[m]?≠some y)/\Q (.int (j:Nat)) H
theorem X5{ss:A1 Str}{us:A1 A2}(h:IV (ss.map V.str) us){i:Nat}(hi:i<us.length):∃x t,ss[i]?=some x/\us[i] = .str x t:=by
 have b:=h.length;rw[AB]at b;obtain⟨x,a⟩:∃x,ss[i]?=some x:=⟨ss[i]'(by lia),AC (by lia)⟩;obtain⟨u,c,t,rfl⟩:=h.get (i:=i) (x:=.str x) (by rw[AH,a];rfl);refine⟨x,t,a,?_⟩;have:=AC hi;rw[c]at this;exact(BH this).symm
theorem Qw:QW X "list.index" (Ru X.K):=by
 intro B s σ H x W v Y Q I L M h;obtain⟨l,Z,y,j,rfl,rfl,N,C,k,q⟩:=h;cases L;obtain⟨u,rfl,⟨D,rfl⟩⟩:=M.one;obtain⟨a,r,⟨o,n,e,E,O,c⟩,G⟩:=I.list N;have d:=r.length;rw[AB]at d G;have b:j<a.length:=by
  have:=(AE.mp C).1;lia
 obtain⟨P,R,J,S⟩:=o;simp only at E O c;subst E c
 let p:A2->Bool:=λv=>match v with | .str x _=>x == y | _=>false
 have T:=PySem.SeqAt.list_indexAt l a.toArray n R S (.str y D) p j (by simpa using b) (by rw[sizeLine_eq]at G;lia) ?_ ?_
 .refine call_meets F.slot_list_index ⟨_,e,rfl⟩ F.entry_list_index (F.args_list_index_2 _ _) T ⟨e,?_,?_⟩
  .intro v U;have w:v∈a:=by simpa using U
   obtain⟨i,V,rfl⟩:=FZ w;obtain⟨x,t,_,f⟩:=X5 r V;rw[f];exact PySem.SeqAt.EqAt.str_str x t y D
  .exact⟨.int (j:Nat),H,I.tok _,⟨_,rfl⟩,q⟩
 .obtain⟨x,t,g,f⟩:=X5 r b;rw[C]at g;cases g;show p (a.toArray[j]'(by simpa using b))=true;rw[show a.toArray[j]'(by simpa using b)=a[j]from by simp,f];exact beq_self_eq_true y
 .intro m hm z;have A:m<a.length:=by simpa using hm
  obtain⟨x,t,g,f⟩:=X5 r A;show p (a.toArray[m]'hm)=false;rw[show a.toArray[m]'hm=a[m]from by simp,f];show(x == y)=false;rw[beq_eq_false_iff_ne];rintro rfl;exact k m z g
def Xc:V->A1 V->Hp->VK->Prop:=λx b H Q=>∃z y a,x = .str z/\b = [.str y]/\(decide (z.length<y.length)||decide (Builtin.Str.strKind z<Builtin.Str.strKind y))=false/\(y.length == 0)=false /\
 (Builtin.Str.occurrences z y 0 z.length (z.length+1)).isEmpty=false/\z.length<=4000/\Builtin.Str.partsBetween z (Builtin.Str.occurrences z y 0 z.length (z.length+1)) y.length=a/\a.length<=4000/\∀l,H l=none->Q (.ref l) (IK H l (.lst (a.map V.str)))
theorem Gy:∀(b:A1 Str) (a:Nat),IV (b.map V.str) (strsFrom a b)
 | [],_=>.nil
 | _::r,a=>.cons ⟨a,rfl⟩ (Gy r (a+1))
theorem Wh:QW X "str.split" Xc:=by
 intro a s σ H x k v l Q I c d h;obtain⟨z,y,m,rfl,rfl,e,f,g,n,rfl,o,q⟩:=h;obtain⟨t,rfl⟩:=c;obtain⟨u,rfl,⟨i,rfl⟩⟩:=d.one;have j:z.length<=sizeLine:=by rw[sizeLine_eq];lia
 have b:(Builtin.Str.partsBetween z (Builtin.Str.occurrences z y 0 z.length (z.length+1)) y.length).length<=sizeLine:=by rw[sizeLine_eq];lia
 refine call_meets F.slot_str_split (typeIs_str _ _ _) F.entry_str_split (F.args_str_split_2 _ _) (PySem.meets_str_split_sep z y t i e f g j b) ?_;exact⟨.ref s.heap.objs.size,_,I.lnew (Gy _ _) (by rw[AB];exact b),rfl,q _ I.fresh⟩
end
end L2
namespace L2
open PySem PySem.Spec PyProof.Rows
set_option genInjectivity false in
structure Fn(K:PySem.W.Frag)(mg:Str->A5 A2)(x:Str)(st:I7)(ps:A1 Str) where
 f:A3
 fd:JA
 F:QA K x x st f fd
 b:Binds K fd ps []
 m:mg x=some (.ref f)
set_option genInjectivity false in
structure Mt(K:PySem.W.Frag)(C:A3)(m qual:Str)(st:I7)(ps:A1 Str) where
 f:A3
 fd:JA
 F:QA K m qual st f fd
 b:Binds K fd ps []
 m:SE K C m f
section
variable{X:Cx}
theorem C9{x:Str}{st:I7}{g:A1 Str}{k:Nat}{sp:Sp}{e:IQ}{a:A1 IQ}{t:TA}{p pos:Pos}(D:Fn X.K X.mg x st g)(G:IU X.prog X.w X.K X.mg X.base JE k D.f D.fd g sp)(h:JQ k X.A)(i:PA X (e::a) t)
  (j:Gl X x:=by rfl) (c:(x ==("__debug__":Str))=false:=by decide) (l:starEach (e::a) X.env =(false,eval e X.env)::starEach a X.env:=by rfl) (d:(backTo pos (starEach a X.env)).any (·.1)=false:=by rfl) :
  PE X (.Call (.Name x p) (e::a) [] pos) (Ys sp [] E0 t):=Yk G h j D.m D.F.kp D.b .nil J9 i c l d
def Sy(P:A7)(w:F8)(x:V)(H:Hp):Prop:=∃p,x = .ref p/\((∃l,H p=some (Pf P w p l))\/(∃l,H p=some (Ie w p l))\/∃a,H p=some (Pg P w p a))
theorem zCo{c:A1 (A3×Obj)}{σ:St}{H:Hp}{s:A4}{x:V}{v:A2}(I:Inv X c σ H s)(r:RelV x v)(ty:Sy X.prog X.w x H):s.TypeIs v "set"/\∀a,v = .ref a->∃d,s.heap.get? a=some d/\d.dict=none:=by
 obtain⟨p,rfl,h⟩:=ty;cases r;have z:∃o,s.heap.get? p=some o/\o.ExactSet:=by
  rcases h with⟨l,h⟩ | ⟨l,h⟩ | ⟨l,h⟩
  .obtain⟨o,_,_,_,e,b,_⟩:=I.set h;exact⟨o,e,b⟩
  .obtain⟨o,_,_,_,S,_⟩:=I.setw h;exact⟨o,S.ho,S.ex⟩
  .obtain⟨o,_,_,_,e,b,_⟩:=I.sett h;exact⟨o,e,b⟩
 obtain⟨o,e,b⟩:=z;refine⟨⟨o,e,b.1⟩,λa f=>?_⟩;cases f;exact⟨o,e,b.2.1⟩
def zGu(P:A7)(w:F8)(r:V->A1 V->Hp->VK->Prop)(b:TE)(t:TA):TE:=λσ H Q=>b σ H λx a=>Sy P w x a/\t σ a λc d=>r x c d Q
theorem zAj{o e:IQ}{i:TE}{t:TA}{c a:Pos}{r:V->A1 V->Hp->VK->Prop}(m:QW X "set.add" r)(n:PE X o i)(p:PA X [e] t)
  (d:attributeBase o "add" X.env (eval o X.env)=eval o X.env:=by rfl)
  (g:((backTo a (starEach [e] X.env)).all (λx=>!x.1) &&(backToKw a (keywordEach [] X.env)).all (λx=>x.1.isSome)
   && decide ([e].length +([]:A1 Keyword).length +(if([]:A1 Keyword).isEmpty then 0 else 1)<30))=true:=by rfl)
  (f:(c.endLine == a.line)=true:=by rfl) (q:starEach [e] X.env = [(false,eval e X.env)]:=by rfl) :
  PE X (.Call (.Attribute o "add" c) [e] [] a) (zGu X.prog X.w r i t):=by
 intro b s σ H Q I h;refine wpAny_Call_method_late d g f rfl (JI (n b s σ H _ I h) λv u ⟨x,y,j,k,ty,z⟩=>?_);obtain⟨A,B⟩:=zCo j k ty;refine⟨"set", "set.add",F.plainAttrs_set,F.slot_set_add,F.type_set_add,A,B,?_⟩;have l:=p a b u σ y _ j z;rw[q]at l⊢;refine Calls.callWith_builtin rfl (Calls.evalArgs_plain ?_);exact JI l λC D ⟨E,G,J,K,L⟩=>m b D σ G x E v C Q J k K L
theorem zFf{x:Str}{i:Int}{pos:Pos}(h:∃t,X.mg x=some (.int i t))(a:Gl X x:=by rfl)(b:(x ==("__debug__":Str))=false:=by decide):PE X (.Name x pos) (tC (.int i)):=by
 obtain⟨t,e⟩:=h;exact Kx a e ⟨t,rfl⟩ b
theorem zFe{x y:Str}{pos:Pos}(h:∃t,X.mg x=some (.str y t))(a:Gl X x:=by rfl)(b:(x ==("__debug__":Str))=false:=by decide):PE X (.Name x pos) (tC (.str y)):=by
 obtain⟨t,e⟩:=h;exact Kx a e ⟨t,rfl⟩ b
theorem S6{x:Str}{n:String}{pos:Pos}(a:X.mg x=none)(b:bootBuiltins x=some (.type n))(c:Gl X x:=by rfl)(d:x≠ "__name__":=by decide)(e:(x ==("__debug__":Str))=false:=by decide):PE X (.Name x pos) (tC (.ty n)) :=
 Zx c a b rfl d e
theorem E1{x:Str}{id:String}{r:A1 V->Hp->VK->Prop}{e:IQ}{a:A1 IQ}{t:TA}{p pos:Pos}(d:O0 X (.builtin id) r)(f:X.mg x=none)(g:bootBuiltins x=some (.builtin id))(h:PA X (e::a) t)(i:Gl X x:=by rfl)(j:x≠ "__name__":=by decide)(b:(x ==("__debug__":Str))=false:=by decide)
  (k:starEach (e::a) X.env =(false,eval e X.env)::starEach a X.env:=by rfl) (c:(backTo pos (starEach a X.env)).any (·.1)=false:=by rfl):PE X (.Call (.Name x p) (e::a) [] pos) (SN r t):=Uw d i f g h j b k c
theorem Hq{x:Str}{T:String}{r:A1 V->Hp->VK->Prop}{e:IQ}{a:A1 IQ}{t:TA}{p pos:Pos}(d:O0 X (.type T) r)(f:X.mg x=none)(g:bootBuiltins x=some (.type T))(h:PA X (e::a) t)(i:Gl X x:=by rfl)(j:x≠ "__name__":=by decide)(b:(x ==("__debug__":Str))=false:=by decide)
  (k:starEach (e::a) X.env =(false,eval e X.env)::starEach a X.env:=by rfl) (c:(backTo pos (starEach a X.env)).any (·.1)=false:=by rfl):PE X (.Call (.Name x p) (e::a) [] pos) (SN r t):=Sr d i f g h j b k c
theorem P8{a:JH}{cl:A1 (Str×A3)}{N':A1 Str}{cap:A1 (A5 Nat)}(c:OS X a cl N' cap)(e:RA X cl)(d:closureFor a X.env=pure cl:=by rfl)(kind:a.kind = .function:=by rfl)(b:∀y∈a.names,y.2≠ .cell:=by decide +kernel)
  (f:∀y∈a.names,y.2 = .local->a.names.lookup y.1=some .local:=by decide +kernel) (g:((relabel a X.env).names.all λy=>!(y.2 == .cell||y.2 == .free)||(cl.lookup y.1).isSome)=true:=by rfl):MC X a cl N' cap:=⟨kind,b,f,d,e,g,c⟩
theorem MN{a:JH}{cl:A1 (Str×A3)}{N':A1 Str}{b:A1 (A3×Obj)}{c:A1 A3}{d:A4}{e:Hp}{x:Str}{pos:Pos}(i:Nat)(f:N'.Nodup:=by decide +kernel)(hi:N'[i]?=some x:=by rfl)(g:Loc (LE X a cl N' b c d e).env.scope x:=by exact Or.inl rfl)
  (h:(LE X a cl N' b c d e).env.scope.names.lookup x=some .local:=by rfl):PG (LE X a cl N' b c d e) (.Name x pos) (Y6 i):=C7 (X:=LE X a cl N' b c d e) f hi g (.inr h)
end
def Q1:bootBuiltins "len" = some (.builtin "len"):=by decide +kernel
def Ic:bootBuiltins "enumerate" = some (.type "enumerate"):=by decide +kernel
def Xr:bootBuiltins "min" = some (.builtin "min"):=by decide +kernel
def Xi:bootBuiltins "abs" = some (.builtin "abs"):=by decide +kernel
def X2:bootBuiltins "sorted" = some (.builtin "sorted"):=by decide +kernel
def Xh:bootBuiltins "int" = some (.type "int"):=by decide +kernel
def Mc:bootBuiltins "str" = some (.type "str"):=by decide +kernel
def Kz:bootBuiltins "bool" = some (.type "bool"):=by decide +kernel
def Q4:bootBuiltins "list" = some (.type "list"):=by decide +kernel
def S8:bootBuiltins "tuple" = some (.type "tuple"):=by decide +kernel
def Yc:bootBuiltins "set" = some (.type "set"):=by decide +kernel
def C2:bootBuiltins "isinstance" = some (.builtin "isinstance"):=by decide +kernel
def Qh:bootBuiltins "all" = some (.builtin "all"):=by decide +kernel
def KN(a:A3)(H0 H:Hp):Prop:=∀o,H0 a=some o->H a=some o
def Sm(D:A1 A3)(H H':Hp):Prop:=∀b o,H b=some o->b∉D->H' b=some o
def F1.at{H0 H:Hp}(h:F1 H0 H)(a:A3):KN a H0 H:=λo e=>h a o e
def F1.new{H:Hp}{p:A3}{o:HO}(h:H p=none):F1 H (IK H p o):=λb u e=>by rw[B6 (B3 e h)];exact e
def F1.upd{H0 H:Hp}{p:A3}{o:HO}(s:F1 H0 H)(h:H0 p=none):F1 H0 (IK H p o):=λb u e=>by rw[B6 (B3 e h)];exact s b u e
def F1.sm{D:A1 A3}{H H':Hp}(h:F1 H H'):Sm D H H':=λb o e _=>h b o e
def Sm.refl(D:A1 A3)(H:Hp):Sm D H H:=λ_ _ e _=>e
def Sm.trans{D:A1 A3}{H d e:Hp}(a:Sm D H d)(b:Sm D d e):Sm D H e:=λc o h n=>b c o (a c o h n) n
def Sm.new{D:A1 A3}{H c:Hp}{p:A3}{o:HO}(a:Sm D H c)(h:c p=none):Sm D H (L2.IK c p o):=λb u e n=>by
 have:=a b u e n;rw[B6 (B3 this h)];exact this
def Sm.upd{D:A1 A3}{H c:Hp}{p:A3}{o:HO}(a:Sm D H c)(h:p∈D):Sm D H (L2.IK c p o):=λb u e n=>by
 rw[B6 (show b≠p from λz=>n (by rw[z];exact h))];exact a b u e n
def Sm.updN{D:A1 A3}{H c:Hp}{p:A3}{o:HO}(a:Sm D H c)(h:H p=none):Sm D H (L2.IK c p o):=λb u e n=>by rw[B6 (B3 e h)];exact a b u e n
def Sm.at{D:A1 A3}{H H':Hp}(h:Sm D H H'){a:A3}(n:a∉D):KN a H H':=λo e=>h a o e n
def Sm.none{D:A1 A3}{H H':Hp}(h:Sm D H H'){a:A3}(n:a∉D)(e:H' a=Option.none):H a=Option.none:=by
 cases q:H a with
 | none=>rfl
 | some o=>rw[h a o q n]at e;cases e
def KN.seqL{K:PySem.W.Frag}{H H':Hp}{a:A3}{xs:A1 V}(e:KN a H H')(h:IS K H a xs):IS K H' a xs:=by
 rcases h with(h | ⟨o,h⟩) | h
 .exact .inl (.inl (e _ h))
 .exact .inl (.inr ⟨o,e _ h⟩)
 .exact .inr h
def KN.seqT{K:PySem.W.Frag}{H H':Hp}{a:A3}{xs:A1 V}(e:KN a H H')(h:JJ K H a xs):JJ K H' a xs:=by
 rcases h with(h | ⟨o,h⟩) | h
 .exact .inl (.inl (e _ h))
 .exact .inl (.inr ⟨o,e _ h⟩)
 .exact .inr h
def RP(K:PySem.W.Frag)(H:Hp)(a:A3)(xs:A1 V):Prop:=IS K H a xs\/JJ K H a xs
def KN.seq{K:PySem.W.Frag}{H H':Hp}{a:A3}{xs:A1 V}(e:KN a H H')(h:RP K H a xs):RP K H' a xs:=h.imp e.seqL e.seqT
structure LQ(J:It)(xs:A1 V)(a:A3)(H0:Hp):Prop where
 go:∀H i,KN a H0 H->i<xs.length->J.go i H
 stop:∀H,KN a H0 H->J.stop xs.length H
 yld:∀H i x H',KN a H0 H->i<xs.length->J.yld i H x H'->H'=H/\xs[i]?=some x
def MY{K:PySem.W.Frag}{H0:Hp}{a:A3}{xs:A1 V}(h:IS K H0 a xs):LQ (UI K a) xs a H0 :=
 ⟨λH i k b=>⟨xs,xs[i],k.seqL h,AC b⟩,λH k=>⟨xs,k.seqL h,Nat.le_refl _⟩,λH i x c k b ⟨e,y⟩=>⟨e,y xs (k.seqL h)⟩⟩
def asT{K:PySem.W.Frag}{H0:Hp}{a:A3}{xs:A1 V}(h:JJ K H0 a xs):LQ (Itt K a) xs a H0 :=
 ⟨λH i k b=>⟨xs,xs[i],k.seqT h,AC b⟩,λH k=>⟨xs,k.seqT h,Nat.le_refl _⟩,λH i x c k b ⟨e,y⟩=>⟨e,y xs (k.seqT h)⟩⟩
def Xb{K:PySem.W.Frag}{H:Hp}{σ:St}{a:A3}{xs:A1 V}{R:It->Hp->Prop}{i:Nat}(b:σ[i]?=some (some (.ref a)))(h:RP K H a xs)(r:∀J,LQ J xs a H->R J H):zEr K (Pe i) σ H R:=by
 refine⟨_,b,a,rfl,?_⟩;rcases h with h | h
 .exact .inl ⟨⟨xs,h⟩,r _ (MY h)⟩
 .exact .inr ⟨⟨xs,h⟩,r _ (asT h)⟩
def Wn{K:PySem.W.Frag}{o:A3->HO}{cap:A1 (A5 Nat)}{b:A3->It->St->Hp->(St->Hp->Prop)->Prop}{σ:St}{H:Hp}{Q:VK}{a:A3}{xs:A1 V}{i:Nat}(c:σ[i]?=some (some (.ref a)))(h:RP K H a xs)
  (r:∀J,LQ J xs a H->∀D,H D=none->b D J (Wg cap σ) (IK H D (o D)) λ_ d=>Q (.ref D) d):Iz (zEr K (Pe i)) o cap b σ H Q:=Xb c h r
def zAu{J:It}{n:Nat}{g:TG}{f:TS}{D:Ends}{σ:St}{H:Hp}(Pv:Nat->St->Hp->Prop)(j:Pv 0 σ H)(b:∀i σ H,i<n->Pv i σ H->J.go i H)(c:∀σ H,Pv n σ H->J.stop n H)
  (k:∀i σ H x H',i<n->Pv i σ H->J.yld i H x H'->g x σ H' λσ2 d=>f { D with nx:=Pv (i+1),ct:=Pv (i+1),bk:=D.nx } σ2 d) (l:∀σ H,Pv n σ H->D.nx σ H) :
  ∃W:Nat->Nat->St->Hp->Prop,(∃m,W 0 m σ H)/\∀i m σ H,W i m σ H ->
   (J.stop i H/\D.nx σ H)\/(J.go i H/\∃N:St->Hp->Prop,(∀σ' H',N σ' H'->∃h,h < m/\W (i+1) h σ' H')/\∀x H',J.yld i H x H'->g x σ H' λσ2 d=>f { D with nx:=N,ct:=N,bk:=D.nx } σ2 d):=by
 refine⟨λi m σ H=>m=n-i/\i<=n/\Pv i σ H,⟨n,by simp,CL _,j⟩,?_⟩;rintro i m σ H ⟨rfl,q,p⟩;by_cases a:i<n
 .exact .inr ⟨b i σ H a p,Pv (i+1),λσ' H' o=>⟨n-(i+1),by lia,rfl,a,o⟩,λx H' y=>k i σ H x H' a p y⟩
 .have e:i=n:=by lia
  subst e;exact .inl ⟨c σ H p,l σ H p⟩
def Bs{J:It}{xs:A1 V}{a:A3}{H0:Hp}(as:LQ J xs a H0){g:TG}{f:TS}{D:Ends}{σ:St}{H:Hp}(Pv:Nat->St->Hp->Prop)(j:Pv 0 σ H)(c:∀i σ H,i<=xs.length->Pv i σ H->KN a H0 H)
  (k:∀i σ H x,xs[i]?=some x->Pv i σ H->g x σ H λσ2 d=>f { D with nx:=Pv (i+1),ct:=Pv (i+1),bk:=D.nx } σ2 d) (l:∀σ H,Pv xs.length σ H->D.nx σ H) :
  ∃W:Nat->Nat->St->Hp->Prop,(∃m,W 0 m σ H)/\∀i m σ H,W i m σ H ->
   (J.stop i H/\D.nx σ H)\/(J.go i H/\∃N:St->Hp->Prop,(∀σ' H',N σ' H'->∃h,h < m/\W (i+1) h σ' H')/\∀x H',J.yld i H x H'->g x σ H' λσ2 d=>f { D with nx:=N,ct:=N,bk:=D.nx } σ2 d) :=
 zAu (n:=xs.length) Pv j (λi σ H b p=>as.go H i (c i σ H (DL b) p) b) (λσ H p=>as.stop H (c _ σ H (Nat.le_refl _) p)) (λi σ H x H' b p y=>by
  obtain⟨rfl,e⟩:=as.yld H i x H' (c i σ H (DL b) p) b y;exact k i σ _ x e p) l
def j4{J:It}{n:Nat}{g:TG}{f:TT}{h:RB}{σ:St}{H:Hp}{Q:St->Hp->Prop}(Pv:Nat->St->Hp->Prop)(k:Pv 0 σ H)(c:∀i σ H,i<n->Pv i σ H->J.go i H)(d:∀σ H,Pv n σ H->J.stop n H)
  (l:∀i σ H x H' (N:St->Hp->Prop),i<n->Pv i σ H->J.yld i H x H'->(∀σ' H',Pv (i+1) σ' H'->N σ' H')->g x σ H' λσ2 o=>f σ2 o λb j=>if b=true then h σ2 j N else N σ2 j)
  (q:∀σ H,Pv n σ H->Q σ H):Fi g f h J σ H Q:=by
 refine⟨λi m σ H=>m=n-i/\i<=n/\Pv i σ H,⟨n,by simp,CL _,k⟩,?_⟩;rintro i m σ H ⟨rfl,s,p⟩;by_cases a:i<n
 .exact .inr ⟨c i σ H a p,λx H' y=>l i σ H x H' _ a p y λσ3 t r=>⟨n-(i+1),by lia,rfl,a,r⟩⟩
 .have e:i=n:=by lia
  subst e;exact .inl ⟨d σ H p,q σ H p⟩
def S5{J:It}{xs:A1 V}{a:A3}{H0:Hp}(as:LQ J xs a H0){g:TG}{f:TT}{h:RB}{σ:St}{H:Hp}{Q:St->Hp->Prop}(Pv:Nat->St->Hp->Prop)(k:Pv 0 σ H)(d:∀i σ H,i<=xs.length->Pv i σ H->KN a H0 H)
  (l:∀i σ H x (N:St->Hp->Prop),xs[i]?=some x->Pv i σ H->(∀σ' H',Pv (i+1) σ' H'->N σ' H')->g x σ H λσ2 m=>f σ2 m λb j=>if b=true then h σ2 j N else N σ2 j)
  (o:∀σ H,Pv xs.length σ H->Q σ H):Fi g f h J σ H Q :=
 j4 (n:=xs.length) Pv k (λi σ H c p=>as.go H i (d i σ H (DL c) p) c) (λσ H p=>as.stop H (d _ σ H (Nat.le_refl _) p)) (λi σ H x H' N c p y q=>by
  obtain⟨rfl,e⟩:=as.yld H i x H' (d i σ H (DL c) p) c y;exact l i σ _ x N e p q) o
def o9{a:RB}{N:St->Hp->Prop}{σ:St}{H:Hp}{i:Nat}{x:V}(h:a (σ.set i (some x)) H N):Y6 i x σ H λσ2 d=>Cj σ2 d λb c=>if b=true then a σ2 c N else N σ2 c:=by
 show if true=true then a (σ.set i (some x)) H N else N (σ.set i (some x)) H
 rw[AL rfl];exact h
def Zo{a:RB}{N:St->Hp->Prop}{σ:St}{H:Hp}(h:a σ H N):Cj σ H λb c=>if b=true then a σ c N else N σ c:=by
 show if true=true then a σ H N else N σ H
 rw[AL rfl];exact h
section
variable{X:Cx}(K:PySem.W.Frag)(P:A7)(w:F8){tg:IQ}
theorem MZ{l:IQ}{a:TE}(b:PE X l a)(c:X.K=K:=by rfl):PI X tg l (zBx K a):=by subst c;exact Yr b
theorem piS{l:IQ}{a:TE}(b:PE X l a)(c:X.K=K:=by rfl):PI X tg l (zEr K a):=by subst c;exact zDw b
theorem TY{b:A1 IQ}{kk:Nat}{d:Pos}{a:IQ}{c:TA}{p pos:Pos}(e:X.mg "enumerate" = none)(f:PA X [a] c)(g:Gl X "enumerate":=by rfl)(h:starEach [a] X.env = [(false,eval a X.env)]:=by rfl)(i:X.K=K:=by rfl) :
  PI X (.Tuple b kk d) (.Call (.Name "enumerate" p) [a] [] pos) (zDo K c):=by subst i;exact Zf g e Ic f h
theorem TR{a:IQ}{b:TA}{p pos:Pos}(c:X.mg "range" = none)(d:PA X [a] b)(e:Gl X "range":=by rfl)(f:starEach [a] X.env = [(false,eval a X.env)]:=by rfl):PI X tg (.Call (.Name "range" p) [a] [] pos) (zDt b):=Qr e c d f
theorem QT{a:A1 IQ}{k:Nat}{t:SK}{n:Nat}{pos:Pos}(h:UD X a t)(c:X.calm=true:=by rfl)(d:(assignEach a X.env).length=n:=by rfl)(b:(assignEach a X.env).findIdx? (·.1)=none:=by rfl)(e:X.K=K:=by rfl):PG X (.Tuple a k pos) (zHb K n t):=by subst e;exact zEc c h d b
theorem PD{e:IQ}{a:TE}{f:Str}{pos:Pos}(b:PE X e a)(c:attributeBase e f X.env (eval e X.env)=eval e X.env:=by rfl)(d:X.K=K:=by rfl):PE X (.Attribute e f pos) (zEt K a f):=by subst d;exact zDz b c
theorem RM{o a:IQ}{c d:TE}{f:Str}{pos b:Pos}(e:PE X o c)(g:PE X a d)(h:swapsWith a (some (.Attribute o f b)) pos.line X.env=pure false:=by rfl)(i:X.K=K:=by rfl):PS X (.Assign [.Attribute o f b] a pos) (zGz K c d f):=by subst i;exact zDy e g h
theorem Q7(b:X.K=K:=by rfl):O0 X (.builtin "len") (λxs H Q=>∃p a,xs = [.ref p]/\(IS K H p a\/JJ K H p a)/\Q (.int a.length) H):=by subst b;exact Gn
theorem w8(b:X.K=K:=by rfl):O0 X (.type "list") (λxs H Q=>∃p a,xs = [.ref p]/\(IS K H p a\/JJ K H p a)/\∀l,H l=none->Q (.ref l) (IK H l (.lst a))):=by subst b;exact Iq
theorem Wo(b:X.K=K:=by rfl):O0 X (.type "tuple") (λxs H Q=>∃p a,xs = [.ref p]/\((IS K H p a/\∀l,H l=none->Q (.ref l) (IK H l (.tup a)))\/(JJ K H p a/\Q (.ref p) H))):=by subst b;exact Fc
theorem Tk(a:X.calm=true:=by rfl)(b:X.K=K:=by rfl):O0 X (.builtin "all") (λxs H Q=>∃(p:A3) (bs:A1 Bool),xs = [.ref p]/\IS K H p (bs.map V.bl)/\Q (.bl (bs.all id)) H):=by subst b;exact Wx a
theorem Ma(b:X.K=K:=by rfl):O0 X (.builtin "sorted") (λxs H Q=>∃(p:A3) (ss:A1 Str),xs = [.ref p]/\IS K H p (ss.map V.str)/\∀(l:A3) (a:A1 Str),H l=none->a.Perm ss->a.Pairwise QP->Q (.ref l) (IK H l (.lst (a.map V.str)))):=by subst b;exact Hm
theorem Nd(c:X.K=K:=by rfl):O0 X (.builtin "sorted") (λxs H Q=>∃(p:A3) (b:A1 JV),xs = [.ref p]/\IS K H p (b.map λq=>V.ref q.1)/\(∀q∈b,K9 H q)/\∀(l:A3) (a:A1 JV),H l=none->a.Perm b->a.Pairwise SG->Q (.ref l) (IK H l (.lst (a.map λq=>V.ref q.1)))):=by subst c;exact Hb
theorem Uz(b:X.calm=true:=by rfl)(hw:X.w=w:=by rfl):O0 X (.builtin "sorted") (λxs H Q=>∃(p:A3) (ss:A1 Str),xs = [.ref p]/\H p=some (Ie w p ss)/\∀(l:A3) (a:A1 Str),H l=none->a.Perm ss->a.Pairwise QP->Q (.ref l) (IK H l (.lst (a.map V.str)))):=by subst hw;exact Gc b
theorem M6(a:X.K=K:=by rfl):O0 X (.builtin "isinstance") (λxs H Q=>∃x n t b,xs = [x,.ty n]/\MV K H x t/\PySem.W.kitOne K t (.type n)=some b/\Q (.bl b) H):=by subst a;exact Ro
theorem Zj(a:X.prog=P:=by rfl)(hw:X.w=w:=by rfl):O0 X (.type "set") (λxs H Q=>xs = []/\∀p,H p=none->Q (.ref p) (IK H p (Pf P w p []))):=by subst a;subst hw;exact Rj
theorem We(a:X.prog=P:=by rfl)(hw:X.w=w:=by rfl):O0 X (.type "set") (λxs H Q=>xs = []/\∀p,H p=none->Q (.ref p) (IK H p (Pg P w p []))):=by subst a;subst hw;exact Ov
theorem Dx(a:X.A.units+64<cLine)(b:X.K=K:=by rfl):LG X (compareOp .NotIn) (zGg K true):=by subst b;exact Ql a
theorem zAl(a:X.A.units+64<cLine)(b:X.K=K:=by rfl):LG X (compareOp .Eq) (zGm K):=by subst b;exact zBv a
theorem Yt(a:X.K=K:=by rfl):LG X (compareOp .In) (TH K false):=by subst a;exact Sn
theorem Ex(a:X.K=K:=by rfl):LG X (compareOp .NotIn) (TH K true):=by subst a;exact Jc
theorem zEu(a:X.prog=P:=by rfl)(hw:X.w=w:=by rfl):LG X (compareOp .In) (zHc P w false):=by subst a;subst hw;exact Qb
theorem zFy(a:X.A.units+1<cLine)(b:X.prog=P:=by rfl)(hw:X.w=w:=by rfl):LG X (compareOp .In) (zGp P w):=by subst b;subst hw;exact Np a
theorem zBq(a:X.prog=P:=by rfl)(hw:X.w=w:=by rfl):QW X "set.add" (zBm P w):=by subst a;subst hw;exact zCr
theorem zCe(a:X.A.units+1<cLine)(b:X.prog=P:=by rfl)(hw:X.w=w:=by rfl):QW X "set.add" (zDs P w):=by subst b;subst hw;exact Za a
theorem Xe{o e:IQ}{g:TE}{t:TA}{b a:Pos}{r:V->A1 V->Hp->VK->Prop}(h:QW X "set.add" r)(i:PE X o g)(j:PA X [e] t)
  (c:attributeBase o "add" X.env (eval o X.env)=eval o X.env:=by rfl)
  (f:((backTo a (starEach [e] X.env)).all (λx=>!x.1) &&(backToKw a (keywordEach [] X.env)).all (λx=>x.1.isSome)
   && decide ([e].length +([]:A1 Keyword).length +(if([]:A1 Keyword).isEmpty then 0 else 1)<30))=true:=by rfl)
  (d:(b.endLine == a.line)=true:=by rfl) (k:starEach [e] X.env = [(false,eval e X.env)]:=by rfl) (l:X.prog=P:=by rfl) (hw:X.w=w:=by rfl) :
  PE X (.Call (.Attribute o "add" b) [e] [] a) (zGu P w r g t):=by subst l;subst hw;exact zAj h i j c f d k
theorem M_(a:X.K=K:=by rfl):UH X (zGy K):=by subst a;exact zBg
theorem P_(a:X.K=K:=by rfl):UH X (zGq K):=by subst a;exact zCy
theorem Mr(a:X.K=K:=by rfl):QW X "list.index" (Ru K):=by subst a;exact Qw
theorem TJ{a:IQ}{c:TE}(d:PE X a c)(e:∀b,isTrue a X.env b =(do let v <-b;standAt a.pos;holding [v] (truthy v)):=by intro _;rfl)(f:X.K=K:=by rfl):PT X a (λσ H Q=>c σ H λx H'=>∃k,zFz K x H' k/\Q k H'):=by subst f;exact Vu d e
theorem Jb{T id:String}{name:Str}{o e:IQ}{d:A1 IQ}{k:TE}{t:TA}{c a:Pos}{r:V->A1 V->Hp->VK->Prop}(l:PlainAttrs T)(h:Slot T name id)(j:typeOf (.builtin id)=pure (.type "method_descriptor"))(m:QW X id r)(n:PE X o k)(p:PA X (e::d) t)
  (f:attributeBase o name X.env (eval o X.env)=eval o X.env:=by rfl)
  (i:((backTo a (starEach (e::d) X.env)).all (λx=>!x.1) &&(backToKw a (keywordEach [] X.env)).all (λx=>x.1.isSome)
   && decide ((e::d).length +([]:A1 Keyword).length +(if([]:A1 Keyword).isEmpty then 0 else 1)<30))=true:=by rfl)
  (g:(c.endLine == a.line)=true:=by rfl) (q:starEach (e::d) X.env =(false,eval e X.env)::starEach d X.env:=by rfl) (b:(backTo a (starEach d X.env)).any (·.1)=false:=by rfl) (s:X.K=K:=by rfl) :
  PE X (.Call (.Attribute o name c) (e::d) [] a) (tBM K T r k t):=by subst s;exact zFd l h j m n p f i g q b
end
section
variable{X:Cx}{tg iter elt tg2 iter2:IQ}{g g2:TG}{tc tc2:TT}{te:TE}{ifs ifs2:A1 IQ}{scope:JH}{cl:A1 (Str×A3)}{N':A1 Str}{cap:A1 (A5 Nat)}{pos:Pos}{wi wi2:TI}
theorem zGd(w:F8)(S:MC X scope cl N' cap)(hi:PI X tg iter wi)
  (h:∀(a:A1 (A3×Obj)) (b:A1 A3) (c:A4) (d:Hp),PG (LE X scope cl N' a b c d) tg g/\RJ (LE X scope cl N' a b c d) ifs tc/\PI (LE X scope cl N' a b c d) tg2 iter2 wi2 /\
   PG (LE X scope cl N' a b c d) tg2 g2/\RJ (LE X scope cl N' a b c d) ifs2 tc2/\PE (LE X scope cl N' a b c d) elt te)
  (i:X.calm=true:=by rfl) (j:∀x,foldedSetIterable iter X.env x=pure x:=by intro _;rfl) (e:∀f x,foldedSetIterable iter2 f x=pure x:=by intro _ _;rfl) (hw:X.w=w:=by rfl) :
  PE X (.SetComp elt [⟨tg,iter,ifs,0⟩,⟨tg2,iter2,ifs2,0⟩] scope pos) (Iz wi (λD=>Ie w D []) cap λD J σ H Q=>Fi g tc (zFg wi2 λJ σ H Q=>Fi g2 tc2 (Gd w D te) J σ H Q) J σ H Q):=by
 subst hw;exact Yj S i hi h j e
end
section
variable{X:Cx}
theorem Pc{f:A1 (A3×Obj)}{σ:St}{H:Hp}{s:A4}{A:IR}{E:A2->A4->Prop}{Q:A2->A4->Prop}{b:Bool}{x:V}{u t:A2}{l:A3}{its:A1 A2}(I:Inv X f σ H s)(g:RelV x u)(ty:MV X.K H x t)(i:IsTup s.heap l its.toArray)(e:PySem.W.kitAny X.K t its=some b)(m:(∃y,x = .str y)\/(∃a xs,x = .ref a/\(H a=some (.lst xs)\/H a=some (.tup xs))))(h:∀r,Q (.bool b) { s with toks:=r }) :
  wpAny (model X.prog X.w) A (call (.builtin "isinstance") [u,.ref l]) Q E s:=by
 obtain⟨⟨G,J,v,B⟩,j,C,n,D⟩:=i;cases C;cases D;rcases m with⟨y,rfl⟩ | ⟨a,xs,rfl,ea | ea⟩
 .cases ty;obtain⟨t,q⟩:=(show ∃t,u=Value.str y t from g);cases q;exact PySem.W.kia_tup PySem.W.kitx_str I.kIn True.intro j e (λz=>nomatch z) h
 .cases(show u=Value.ref a from g);have d:t = .type "list":=by cases ty with
   | lst=>rfl
   | frz=>rfl
   | tup c=>rw[ea]at c;cases c
   | dK c=>rw[ea]at c;cases c
   | dT c=>rw[ea]at c;cases c
   | ins c=>rw[ea]at c;cases c
  subst d;obtain⟨_,_,n,_,k⟩:=(show IZ X.prog X.w H s.heap a (.lst xs)from I.hok a _ ea);exact PySem.W.kia_tup PySem.W.kitx_list I.kIn ⟨_,k,rfl⟩ j e (λz=>nomatch z) h
 .cases(show u=Value.ref a from g);have d:t = .type "tuple":=by cases ty with
   | tup=>rfl
   | frz c=>rw[ea]at c;cases c
   | lst c=>rw[ea]at c;cases c
   | dK c=>rw[ea]at c;cases c
   | dT c=>rw[ea]at c;cases c
   | ins c=>rw[ea]at c;cases c
  subst d;obtain⟨_,_,_,p⟩:=(show IZ X.prog X.w H s.heap a (.tup xs)from I.hok a _ ea);obtain⟨o,k,F,_⟩:=p;exact PySem.W.kia_tup PySem.W.kitx_tuple I.kIn ⟨o,k,F⟩ j e (λz=>nomatch z) h
def zDq(K:PySem.W.Frag):A1 V->Hp->VK->Prop:=λc H Q=>∃(x:V) (p:A3) (d:A1 String) (t:A2) (b:Bool),c = [x,.ref p]/\H p=some (.tup (d.map V.ty))/\MV K H x t/\((∃y,x = .str y)\/(∃a c,x = .ref a/\(H a=some (.lst c)\/H a=some (.tup c))))/\PySem.W.kitAny K t (d.map Value.type)=some b/\Q (.bl b) H
theorem Qc:∀{ns:A1 String} {us:A1 A2},IV (ns.map V.ty) us->us=ns.map Value.type
 | [],_,.nil=>rfl
 | _::_,_,.cons r t=>by rw[BK,Qc t];cases r;rfl
theorem Oi:O0 X (.builtin "isinstance") (zDq X.K):=by
 intro c s σ H l m Q I r h;obtain⟨x,p,n,t,b,rfl,e,f,g,i,q⟩:=h;obtain⟨u,v,rfl,j,a⟩:=r.two;cases a;obtain⟨k,a,d,o⟩:=I.tuple (JJ.of e);rw[Qc a]at d;exact Pc I j f d i g λw=>⟨.bl b,H,I.tok _,rfl,q⟩
variable(K:PySem.W.Frag)
theorem Mb(a:X.K=K:=by rfl):O0 X (.builtin "isinstance") (zDq K):=by subst a;exact Oi
end
section
variable{prog:A7}{w:F8}{A:IR}{E:A2->A4->Prop}{s:A4}{it l:A3}{i:Nat}{items:CW A2}{x:A2}{Q:A2->A4->Prop}
theorem Yh{α:Type}{Q:α->A4->Prop}(a:A.handled=none)(h:∀h' e,(∀b o,s.heap.get? b=some o->h'.get? b=some o)->(∃o,h'.get? e=some o/\o.cls = .type "StopIteration")->E (.ref e) { s with heap:=h' }):wpAny (model prog w) A (Builtin.SmallTypes.stopIteration (α:=α)) Q E s:=by
 refine AA (AA (HS (AA (AF (DJ ?_ (sizeOk_excFields ..)))) (by show 0<=sizeLine;decide)));refine AA (wpAny_handled ?_);rw[a];exact wpAny_throw (h _ _ (λb o e=>AG _ (AG _ e)) ⟨_,AS _ rfl,rfl⟩)
theorem X8(a:s.heap.IsTupleIter it l i)(g:s.heap.IsTuple l items)(h:items[i]?=some x)
  (j:∀h',h'.IsTupleIter it l (i+1)->Heap.SameBut it s.heap h'->Q x { s with heap:=h' }):wpAny (model prog w) A (Builtin.SmallTypes.nextOf (.ref it)) Q E s:=by
 obtain⟨o,d,k,b⟩:=id a;obtain⟨m,e,_,n,f⟩:=g;refine AA (EI a.typeIs F.slot_tuple_iterator_next (DD F.slot_tuple_iterator_next a.typeIs F.entry_tuple_iterator_next ?_ (F.args_tuple_iterator_next_1 _)));refine AA (AF (AA (FC d b rfl ?_)));refine EF (c:=(Value.ref l == Value.none)=true) rfl ?_;refine AA (FC d b rfl (AA (DN e f ?_)));dsimp only;rw[show items[(i:Int).toNat]?=some x from h];refine AA (FO d b (EW 1) (AF ⟨x,rfl,AF (j _ ⟨_,DC _ d (Obj.isFreed_of_fields (Obj.data_mapFields b _)),(Obj.cls_mapFields o _).trans k,(Obj.data_mapFields b _).trans ?_⟩ (DT _ _ _))⟩));rfl
theorem Cv(j:A.handled=none)(a:s.heap.IsTupleIter it l i)(m:s.heap.IsTuple l items)(n:items[i]?=none)
  (p:∀h' e,Heap.ExtBut it s.heap h'->(∃o,h'.get? e=some o/\o.cls = .type "StopIteration")->E (.ref e) { s with heap:=h' }):wpAny (model prog w) A (Builtin.SmallTypes.nextOf (.ref it)) Q E s:=by
 obtain⟨o,d,r,f⟩:=id a;obtain⟨t,g,_,u,h⟩:=m;refine AA (EI a.typeIs F.slot_tuple_iterator_next (DD F.slot_tuple_iterator_next a.typeIs F.entry_tuple_iterator_next ?_ (F.args_tuple_iterator_next_1 _)));refine AA (AF (AA (FC d f rfl ?_)));refine EF (c:=(Value.ref l == Value.none)=true) rfl ?_;refine AA (FC d f rfl (AA (DN g h ?_)));dsimp only;rw[show items[(i:Int).toNat]?=none from n];refine AA (EG (AA (FO d f (GG 1) ?_)));exact Yh j λh' e k d=>p h' e (λb o q e=>k b o (((DT _ _ _).2 b q).trans e)) d
theorem Pi{M:Model}{α β:Type}{a b:α}{i u v:β}{f:α->β->Sem (ForInStep β)}{Q:β->A4->Prop}(h:wpAny M A (f a i) (λr c=>r = .yield u/\wpAny M A (f b u) (λr c=>r = .yield v/\Q v c) E c) E s):wpAny M A (forIn [a,b] i f) Q E s:=by
 rw[HM];refine AA (B_ h (λr c z=>?_) λe c z=>z);obtain⟨rfl,z⟩:=z;show wpAny M A (forIn [b] u f) Q E c;rw[HM];refine AA (B_ z (λr c z=>?_) λe c z=>z);obtain⟨rfl,z⟩:=z;exact AF z
theorem Cy{z TI d f g p l2:A3}{B C:Nat}{xs M:CW A2}{x y a b:A2}(D:ZipApart z TI d f g p l2)(h:IsZip s.heap z TI d .none)(F:IsPair s.heap TI (.ref f) (.ref g))(G:IsPair s.heap d a b)
  (h1:s.heap.IsTupleIter f p B) (h2:s.heap.IsTupleIter g l2 C) (V:s.heap.IsTuple p xs) (W:s.heap.IsTuple l2 M) (X:xs[B]?=some x) (Y:M[C]?=some y)
  (Z:∀h',IsZip h' z TI d (rawInt s.heap.objs.size)->IsPair h' d x y->h'.IsTupleIter f p (B+1)->h'.IsTupleIter g l2 (C+1)->IsPair h' s.heap.objs.size x y->h'.objs.size=s.heap.objs.size+1->(∀c o,c≠z->c≠d->c≠f->c≠g->s.heap.get? c=some o->h'.get? c=some o)->Q (.ref s.heap.objs.size) { s with heap:=h' }) :
  wpAny (model prog w) A (Builtin.«zip.__next__» ⟨[.ref z],[]⟩) (λfin s'=>∃v,fin = .done (.ret v)/\Q v s') E s:=by
 obtain⟨H,gg,dd,tt,oo⟩:=s;refine AA (AF (AA (FC h rfl rfl (AA (FC h rfl rfl (AA (DN F rfl ?_)))))));refine EF rfl (AA (AA (FC h rfl rfl (AF (wpAny_ite_true rfl ?_)))));refine AA (EG (AA (FC h rfl rfl (AA (GN h (GG 4) λh3 z3 i=>?_)))));have a3:=h1.extBut i.extBut D.i1z;have b3:=h2.extBut i.extBut D.i2z;have c3:=V.extBut i.extBut D.l1z;have d3:=W.extBut i.extBut D.l2z;have e3:=(i.2 d D.TOz).trans G;refine AA ?_;rw[show(#[Value.ref f,Value.ref g].toList.zipIdx) = [(Value.ref f,0),(Value.ref g,1)]from rfl];refine Pi (u:=(none,())) (v:=(none,())) ?_;refine AA (wpAny_onRaise (EF rfl (AA (X8 a3 c3 X λh4 a4 j=>AF ?_))));have N:=(j.2 d D.TOi1).trans e3;refine AA (DN N rfl (AA (wpAny_updateSeq_pair N λh5 e5 k=>AA (II (AF ⟨rfl,?_⟩)))));have b5:=(b3.extBut j.extBut D.i12.symm).extBut k.extBut D.TOi2.symm;have d5:=(d3.extBut j.extBut D.l2i1).extBut k.extBut D.l2TO;refine AA (wpAny_onRaise (EF rfl (AA (X8 b5 d5 Y λh6 b6 l=>AF ?_))));have O:=(l.2 d D.TOi2).trans e5;refine AA (DN O rfl (AA (wpAny_updateSeq_pair O λq P m=>AA (II (AF ⟨rfl,?_⟩)))));have z7:=(m.2 z D.TOz.symm).trans ((l.2 z D.i2z.symm).trans ((k.2 z D.TOz.symm).trans ((j.2 z D.i1z.symm).trans z3)));have I:q.objs.size=H.objs.size:=m.1.trans (l.1.trans (k.1.trans (j.1.trans i.1)));have R:∀{c:A3} {o:Obj},H.get? c=some o->c≠q.objs.size:=λe=>by rw[I];exact BI (AM e)
 refine AA (DN P rfl (AA (HS (AA (AA (GN (AG _ z7) (GG 4) λh8 z8 J=>GN z8 (Nat.succ_lt_succ (GG 3)) λr S K=>AF ⟨_,rfl,?_⟩))) (by show 2<=sizeLine;decide))));have t:∀{c:A3} {o:Obj},c≠z->q.get? c=some o->r.get? c=some o:=λn e=>(K.2 _ n).trans ((J.2 _ n).trans (AG _ e));have L:r.objs.size=H.objs.size+1:=K.1.trans (J.1.trans ((DM ..).trans (congrArg (· + 1) I)));have T:r.get? q.objs.size=some ⟨.type "tuple",none,.seq #[x,y],#[]⟩:=(K.2 _ (R h).symm).trans ((J.2 _ (R h).symm).trans (AS _ rfl));rw[I]at S T⊢;refine Z r S (t D.TOz P) (a4.at λo e=>?_) (b6.at λo e=>?_) T L λc o n U n1 n2 e=>t n ?_
 .exact t D.i1z ((m.2 _ D.TOi1.symm).trans ((l.2 _ D.i12).trans ((k.2 _ D.TOi1.symm).trans e)))
 .exact t D.i2z ((m.2 _ D.TOi2.symm).trans e)
 .exact(m.2 _ U).trans ((l.2 _ n2).trans ((k.2 _ U).trans ((j.2 _ n1).trans ((i.2 _ n).trans e))))
theorem Fy{z TI g a b h l2:A3}{l:Nat}{xs:CW A2}{Q:PySem.Fin->A4->Prop}(t:A.handled=none)(D:ZipApart z TI g a b h l2)(d:IsZip s.heap z TI g .none)(i:IsPair s.heap TI (.ref a) (.ref b))
  (h1:s.heap.IsTupleIter a h l) (u:s.heap.IsTuple h xs) (v:xs[l]?=none)
  (x:∀h' e,(∀c o,c≠z->c≠g->c≠a->c≠b->s.heap.get? c=some o->h'.get? c=some o)->(∃o,h'.get? e=some o/\o.cls = .type "StopIteration")->E (.ref e) { s with heap:=h' }) :
  wpAny (model prog w) A (Builtin.«zip.__next__» ⟨[.ref z],[]⟩) Q E s:=by
 obtain⟨F,G,H,tt,I⟩:=s;refine AA (AF (AA (FC d rfl rfl (AA (FC d rfl rfl (AA (DN i rfl ?_)))))));refine EF rfl (AA (AA (FC d rfl rfl (AF (wpAny_ite_true rfl ?_)))));refine AA (EG (AA (FC d rfl rfl (AA (GN d (GG 4) λJ m j=>?_)))));refine AA ?_;rw[show(#[Value.ref a,Value.ref b].toList.zipIdx) = [(Value.ref a,0),(Value.ref b,1)]from rfl,HM];refine AA (AA (wpAny_onRaise (EF rfl (AA (Cv t (h1.extBut j.extBut D.i1z) (u.extBut j.extBut D.l1z) v λK e k f=>?_)))));refine GN (k z _ D.i1z.symm m) (GG 4) λy L n=>x y e (λc o p _ B _ e=>(n.2 _ p).trans (k c o B ((j.2 _ p).trans e))) ?_;obtain⟨o,f,r⟩:=f;have C:e≠z:=λq=>by
  subst q;rw[k e _ D.i1z.symm m]at f;cases f;exact absurd (show Value.type "zip" = .type "StopIteration" from r) (by decide)
 exact⟨o,(n.2 _ C).trans f,r⟩
theorem Mo{z TI a:A3}{b:A2}(c:IsZip s.heap z TI a b):s.TypeIs (.ref z) "zip":=⟨_,c,rfl⟩
theorem Zb(P:A.handled=none)(z TI f g j l l2:A3)(D:ZipApart z TI f g j l l2)(xs B:CW A2)(R:xs.size<=B.size) :
  WalksT prog w A z [z,TI,f,g,j,l,l2] [z,f,g,j] xs.size (λi G=>∃x y,xs[i]?=some x/\B[i]?=some y/\G = #[x,y])
   (λi h=>IsZip h z TI f .none/\IsPair h TI (.ref g) (.ref j)/\(∃a b,IsPair h f a b)/\h.IsTupleIter g l i/\h.IsTupleIter j l2 i/\h.IsTuple l xs/\h.IsTuple l2 B)
   (λi T h=>IsZip h z TI f (rawInt T)/\IsPair h TI (.ref g) (.ref j)/\(∃a b,IsPair h f a b)/\h.IsTupleIter g l (i+1)/\h.IsTupleIter j l2 (i+1)/\h.IsTuple l xs/\h.IsTuple l2 B/\T≠z/\T≠f/\T≠g/\T≠j) where
 sub:=by simp
 frame:=λi h C ⟨c,m,⟨a,b,r⟩,n,t,p,u⟩ k=>⟨k z (by simp) _ c,k TI (by simp) _ m,⟨a,b,k f (by simp) _ r⟩,n.at (k g (by simp)),t.at (k j (by simp)),p.at (k l (by simp)),u.at (k l2 (by simp))⟩
 item:=λi s Q E L ⟨c,m,⟨a,b,r⟩,n,t,p,u⟩ H=>by
  have I:xs[i]?=some xs[i]:=Array.getElem?_eq_getElem L;have M:B[i]?=some (B[i]'(BJ L R)):=Array.getElem?_eq_getElem _;refine AA (IG (EI (Mo c) F.slot_zip_next (DD F.slot_zip_next (Mo c) F.entry_zip_next (Cy D c m r n t p u I M λC J S U V W sz k=>AF ?_) (F.args_zip_next_1 _))));refine H _ _ C s.toks ⟨_,_,I,M,rfl⟩ (Nat.le_refl _) ⟨_,W,rfl,_,rfl⟩ ⟨J,k TI _ D.TIz D.TITO D.TIi1 D.TIi2 m,⟨_,_,S⟩,U,V,p.at λo e=>k l o D.l1z D.l1TO D.l1i1 D.l1i2 e,u.at λo e=>k l2 o D.l2z D.l2TO D.l2i1 D.l2i2 e,?_,?_,?_,?_⟩ λb o d e=>?_
  .exact(BI (AM c)).symm
  .exact(BI (AM r)).symm
  .obtain⟨o,e,_⟩:=n;exact(BI (AM e)).symm
  .obtain⟨o,e,_⟩:=t;exact(BI (AM e)).symm
  .simp only[AK,CD,or_false,not_or]at d;exact k b o d.1 d.2.1 d.2.2.1 d.2.2.2 e
 go:=λN k X i T s Q E ⟨c,m,⟨a,b,r⟩,n,t,p,u,_⟩ H=>wpAny_letOwnedTupleGo_zip c λC J v=>H C ⟨J,(v.2 _ D.TIz).trans m,⟨a,b,(v.2 _ D.TOz).trans r⟩,n.extBut v.extBut D.i1z,t.extBut v.extBut D.i2z,p.extBut v.extBut D.l1z,u.extBut v.extBut D.l2z⟩ λb o d e=>(v.2 b λq=>d (by rw[q];exact BO ..)).trans e
 apart:=λi T h ⟨_,_,_,_,_,_,_,Y,Z,n3,n4⟩ O=>by
  simp only[AK,CD,or_false]at O;rcases O with e | e | e | e
  .exact Y e
  .exact Z e
  .exact n3 e
  .exact n4 e
 done:=λs Q E ⟨c,m,⟨a,b,r⟩,n,t,p,u⟩ H=>by
  have I:xs[xs.size]?=none:=FH (Nat.le_refl _);refine AA (IG (EI (Mo c) F.slot_zip_next (DD F.slot_zip_next (Mo c) F.entry_zip_next (Fy P D c m n p I λC e k K=>?_) (F.args_zip_next_1 _))));obtain⟨o,K,hc⟩:=K;refine AA (IC ⟨o,K,hc⟩ isSubtype_stop (AF (H C s.toks λb o d e=>?_)));simp only[AK,CD,or_false,not_or]at d;exact k b o d.1 d.2.1 d.2.2.1 d.2.2.2 e
 self:=λi s Q E ⟨c,_⟩ q=>IE c q
end
section
variable{prog:A7}{w:F8}{A:IR}{E:A2->A4->Prop}{s:A4}
theorem Gj{M:Model}{T:String}{vs:A1 A2}{Q:A2->A4->Prop}(h:Q (.ref s.heap.objs.size) { s with heap:=s.heap.push { cls:=.type T,data:=.fields vs.toArray } })(a:sizeOk (.fields vs.toArray)):wpAny M A (Builtin.SmallTypes.newRecord (.type T) vs) Q E s:=DJ h a
theorem Td{d l2:A3}{xs n:CW A2}{Q:A2->A4->Prop}(y:s.heap.IsTuple d xs)(z:s.heap.IsTuple l2 n)
  (B:∀h',IsZip h' (s.heap.objs.size+4) (s.heap.objs.size+2) (s.heap.objs.size+3) .none->IsPair h' (s.heap.objs.size+2) (.ref s.heap.objs.size) (.ref (s.heap.objs.size+1))->IsPair h' (s.heap.objs.size+3) .none .none ->
   h'.IsTupleIter s.heap.objs.size d 0->h'.IsTupleIter (s.heap.objs.size+1) l2 0->(∀c o,s.heap.get? c=some o->h'.get? c=some o)->Q (.ref (s.heap.objs.size+4)) { s with heap:=h' }) :
  wpAny (model prog w) A (call (.type "zip") [.ref d,.ref l2]) Q E s:=by
 refine callType_new (S:=λA R j=>j=s/\∀h',IsZip h' (s.heap.objs.size+4) (s.heap.objs.size+2) (s.heap.objs.size+3) .none->IsPair h' (s.heap.objs.size+2) (.ref s.heap.objs.size) (.ref (s.heap.objs.size+1))->IsPair h' (s.heap.objs.size+3) .none .none ->
   h'.IsTupleIter s.heap.objs.size d 0->h'.IsTupleIter (s.heap.objs.size+1) l2 0->(∀c o,s.heap.get? c=some o->h'.get? c=some o)->R (.ok (.ret (.ref (s.heap.objs.size+4)))) { s with heap:=h' }) F.called_zip rfl (F.typeCall_zip_2 _ _) (F.newCall_zip_2 _ _) (λ_=>F.args_object_init_3 _ _ _) F.entry_zip_new (.of_wp λprog w A R j l=>?_) ⟨rfl,λh' p C D G H k=>⟨⟨_,p,rfl⟩,B h' p C D G H k⟩⟩
 obtain⟨rfl,l⟩:=l;obtain⟨a,I,J,tt,K⟩:=j;refine AA (AA (AF (EF rfl (AA (FX sub_zip (EF rfl (AF ?_)))))))
 let b:=a.push { cls:=.type "tuple_iterator",data:=.fields #[.ref d,.int 0 0] }
 let f:=b.push { cls:=.type "tuple_iterator",data:=.fields #[.ref l2,.int 0 0] }
 let g:=f.push { cls:=.type "tuple",data:=.seq #[.ref a.objs.size,.ref b.objs.size] }
 let i:=g.push { cls:=.type "tuple",data:=.seq #[.none,.none] }
 have r:b.objs.size=a.objs.size+1:=DM ..;have t:f.objs.size=a.objs.size+2:=(DM ..).trans (congrArg (· + 1) r);have x:g.objs.size=a.objs.size+3:=(DM ..).trans (congrArg (· + 1) t);have L:i.objs.size=a.objs.size+4:=(DM ..).trans (congrArg (· + 1) x);have m:b.IsTuple l2 n:=z.at λo e=>AG _ e;have M:b.get? a.objs.size=some { cls:=.type "tuple_iterator",data:=.fields #[.ref d,.int 0 0] }:=AS _ rfl;have N:f.get? b.objs.size=some { cls:=.type "tuple_iterator",data:=.fields #[.ref l2,.int 0 0] }:=AS _ rfl;have O:g.get? f.objs.size=some { cls:=.type "tuple",data:=.seq #[.ref a.objs.size,.ref b.objs.size] }:=AS _ rfl;have P:i.get? g.objs.size=some { cls:=.type "tuple",data:=.seq #[.none,.none] }:=AS _ rfl;have u:∀{h:IM} {o:Obj} {c:A3} {q:Obj},h.get? c=some q->(h.push o).get? c=some q:=λe=>AG _ e;refine EF rfl (AA (AA (Pi (u:=#[.ref a.objs.size]) (v:=#[.ref a.objs.size,.ref b.objs.size]) (AA (CA (wpAny_pyIter_tuple y (AF ⟨rfl,AA (CA (wpAny_pyIter_tuple m (AF ⟨rfl,AF ?_⟩)))⟩)))))));refine AA (HS (AA (HS (AA (Gj (AF ⟨_,rfl,?_⟩) ?_)) (by show 2<=sizeLine;decide))) (by show 2<=sizeLine;decide))
 .have T:=AS i (o:={ cls:=.type "zip",data:=.fields #[.none,.bool false,.bool false,.ref f.objs.size,.ref g.objs.size] }) rfl;have q:=l (i.push { cls:=.type "zip",data:=.fields #[.none,.bool false,.bool false,.ref f.objs.size,.ref g.objs.size] });rw[show(Shared.mk a I J tt K).heap.objs.size=a.objs.size from rfl,<-r,<-t,<-x,<-L]at q;exact q T (u (u O)) (u P) ⟨_,u (u (u (u M))),rfl,rfl⟩ ⟨_,u (u (u N)),rfl,rfl⟩ λc o e=>u (u (u (u (u e))))
 .show 5<=sizeLine+2;decide
end
def TB(e:Hp->A3->A1 V->Prop)(a b:A3):It :=
  ⟨λi H=>∃c d x y,e H a c/\e H b d/\c.length<=d.length/\c[i]?=some x/\d[i]?=some y,λi H v f=>∃T x y,v = .ref T/\H T=none/\f=IK H T (.tup [x,y])/\(∀c,e H a c->c[i]?=some x)/\∀d,e H b d->d[i]?=some y,
   λi H=>∃c d,e H a c/\e H b d/\c.length<=d.length/\c.length=i⟩
def Rx(c:IM->A3->A3->Nat->Prop)(z TI d e f a b:A3)(i:Nat)(h:IM):Prop:=IsZip h z TI d .none/\IsPair h TI (.ref e) (.ref f)/\(∃u v,IsPair h d u v)/\c h e a i/\c h f b i
section
variable{P:A7}{w:F8}{K:PySem.W.Frag}{elts:A1 IQ}{kk:Nat}{tp:Pos}{isIt:IM->A3->A3->Nat->Prop}{isq:IM->A3->CW A2->Prop}{sq:Hp->A3->A1 V->Prop}
theorem Hn(oI:∀h c l i,isIt h c l i->∃o,h.get? c=some o/\∀v,o.data≠ .cell v)(kI:∀h h' c l i,isIt h c l i->(∀o,h.get? c=some o->h'.get? c=some o)->isIt h' c l i)
  (gI:∀(X:Cx) f σ H s c xs,X.K=K->Inv X f σ H s->sq H c xs->∃its,IV xs its/\isq s.heap c its.toArray) (uI:∀(X:Cx) f σ H s c xs F,X.K=K->Inv X f σ H s->sq H c xs->sq H c F->xs=F)
  (z TI g j t a b:A3) (WI:∀(A:IR),A.handled=none->∀xs F:CW A2,xs.size<=F.size->WalksT P w A z [z,TI,g,j,t,a,b] [z,g,j,t] xs.size (λi J=>∃x y,xs[i]?=some x/\F[i]?=some y/\J = #[x,y])
   (λi h=>IsZip h z TI g .none/\IsPair h TI (.ref j) (.ref t)/\(∃a b,IsPair h g a b)/\isIt h j a i/\isIt h t b i/\isq h a xs/\isq h b F)
   (λi T h=>IsZip h z TI g (rawInt T)/\IsPair h TI (.ref j) (.ref t)/\(∃a b,IsPair h g a b)/\isIt h j a (i+1)/\isIt h t b (i+1)/\isq h a xs/\isq h b F/\T≠z/\T≠g/\T≠j/\T≠t)) :
  NA P w K (.Tuple elts kk tp) (TB sq a b) [z,TI,g,j,t] z (Rx isIt z TI g j t a b) where
 mem:=BO ..
 obj:=λi h st c B=>by
  obtain⟨h1,S,⟨u,v,V⟩,Y,Z⟩:=st;simp only[AK,CD,or_false]at B;rcases B with rfl | rfl | rfl | rfl | rfl
  .exact⟨_,h1,λv z=>by cases z⟩
  .exact⟨_,S,λv z=>by cases z⟩
  .exact⟨_,V,λv z=>by cases z⟩
  .exact oI _ _ _ _ Y
  .exact oI _ _ _ _ Z
 keep:=λi h h' st k=>by
  obtain⟨h1,S,⟨u,v,V⟩,Y,Z⟩:=st;exact⟨k z (by simp) _ h1,k TI (by simp) _ S,⟨u,v,k g (by simp) _ V⟩,kI _ _ _ _ _ Y (k j (by simp)),kI _ _ _ _ _ Z (k t (by simp))⟩
 item:=by
  intro X hP hw M B i f s σ H E I U st hg;subst hP hw;obtain⟨xs,F,x,y,hq,hr,N,hx,hy⟩:=hg;obtain⟨its,rv,p⟩:=gI _ _ _ _ _ _ _ M I hq;obtain⟨O,G,p'⟩:=gI _ _ _ _ _ _ _ M I hr;obtain⟨u,hu,ru⟩:=rv.get hx;obtain⟨v,hv,rv'⟩:=G.get hy;have hl:=rv.length;have R:=G.length;have W:=WI X.A (I.ok.hd B) its.toArray O.toArray (by rw[AV,AV,<-hl,<-R];exact N);have hi:i<its.toArray.size:=by rw[AV];exact(AE.mp hu).1
  obtain⟨s1,s2,s3,s4,s5⟩:=id st;refine W.item i s _ _ hi ⟨s1,s2,s3,s4,s5,p,p'⟩ λT J h' tk hvs hT ht hm k=>?_;obtain⟨x',y',hx',hy',rfl⟩:=hvs;have ex:x'=u:=BH (hx'.symm.trans ((GT ..).trans hu));have ey:y'=v:=BH (hy'.symm.trans ((GT ..).trans hv));subst ex ey;refine⟨.ref T,rfl,W.go elts kk tp i T _ _ _ hm λS D k2=>?_⟩;have kk2:∀b o,b∉[z,TI,g,j,t]->s.heap.get? b=some o->S.get? b=some o:=λc o d ec=>by
   have n4:c∉[z,g,j,t]:=λm=>d (by
    simp only[AK,CD,or_false]at m⊢;exact m.imp_right .inr)
   exact k2 c o n4 (k c o n4 ec)
  have hT2:S.IsTuple T #[x',y']:=ht.at λo e=>k2 T o (W.apart i T h' hm) e;have L:∀c∈[z,TI,g,j,t],∃C,s.heap.get? c=some C:=λc d=>by
   obtain⟨u3,v3,V⟩:=s3;obtain⟨o4,Y,_⟩:=oI _ _ _ _ s4;obtain⟨o5,Z,_⟩:=oI _ _ _ _ s5;simp only[AK,CD,or_false]at d;rcases d with rfl | rfl | rfl | rfl | rfl
   .exact⟨_,s1⟩
   .exact⟨_,s2⟩
   .exact⟨_,V⟩
   .exact⟨_,Y⟩
   .exact⟨_,Z⟩
  refine⟨.ref T,IK H T (.tup [x,y]),I.turnLaid (fp:=[z,TI,g,j,t]) kk2 U L hT ⟨?_,[x',y'],.cons ru (.cons rv' .nil),hT2⟩,rfl,⟨T,x,y,rfl,I.hok.fresh hT,rfl,λzs hz=>by rw[uI _ _ _ _ _ _ _ _ M I hz hq];exact hx,λzs hz=>by rw[uI _ _ _ _ _ _ _ _ M I hz hr];exact hy⟩,⟨D.1,D.2.1,D.2.2.1,D.2.2.2.1,D.2.2.2.2.1⟩,λc d=>?_⟩
  .show 2<=sizeLine;decide
  .obtain⟨C,eb⟩:=L c d;rw[B6 (BI (BJ (AM eb) hT))];exact(U c d).1
 done:=by
  intro X hP hw M B i f s σ H E I U st hg;subst hP hw;obtain⟨xs,F,hq,hr,N,hx⟩:=hg;obtain⟨its,rv,p⟩:=gI _ _ _ _ _ _ _ M I hq;obtain⟨O,G,p'⟩:=gI _ _ _ _ _ _ _ M I hr;have hl:=rv.length;have R:=G.length;have W:=WI X.A (I.ok.hd B) its.toArray O.toArray (by rw[AV,AV,<-hl,<-R];exact N);have hi:i=its.toArray.size:=by rw[AV,<-hl,hx]
  obtain⟨s1,s2,s3,s4,s5⟩:=id st;rw[hi]at s4 s5;refine W.done s _ _ ⟨s1,s2,s3,s4,s5,p,p'⟩ λh' tk k=>⟨rfl,?_⟩;have nf:∀b u,H b=some u->b∉[z,TI,g,j,t]:=λb u e hb=>by rw[(U b hb).1]at e;cases e
  have k':∀c o,c∉[z,TI,g,j,t]->s.heap.get? c=some o->h'.get? c=some o:=λc o d ec=>k c o (λm=>d (by
    simp only[AK,CD,or_false]at m⊢;exact m.imp_right .inr)) ec
  refine I.step (h':=h') (H':=H) (t':=tk) (g':=s.gens) (d':=s.drawn) (ch:=[z,TI,g,j,t]) (λb hb=>let⟨_,f1,_,f3,f4,f5⟩:=U b hb;⟨f3,f1,f4,f5⟩) (λb C _ _ B e _=>k' b C B e) (λb C _ _ B e _=>⟨C.slots,k' b C B e⟩) (λ_ _ _ _ n=>n)
   (λb C B e=>⟨C,k' b C B e⟩) (λ_ _ e=>e) (λ_ _ _ e=>e) (λb ps e=>⟨#[],by rw[e];simp⟩) (λm hm=>?_) (λb u eb=>?_) I.bare
  .obtain⟨C,es,ep,ho,r⟩:=hm;exact⟨C,es,ep,k' _ C (λhb=>(U _ hb).2.1 rfl) ho,r⟩
  .refine(I.hok b u eb).stay (λc v B q=>k' c v ?_ q) (λ_ q=>q) λ_ _ q=>q;rcases B with z | z
   .rw[z];exact nf b u eb
   .exact nf c _ z
 self:=λA i s Q E st h=>IE st.1 h
theorem Py(z TI f g j a b:A3)(D:ZipApart z TI f g j a b):NA P w K (.Tuple elts kk tp) (TB (IS K) a b) [z,TI,f,g,j] z (Rx Heap.IsListIter z TI f g j a b) :=
 Hn (isq:=Heap.IsList) (λh c l i ⟨o,e,_,d⟩=>⟨o,e,λv z=>by rw[d]at z;cases z⟩) (λh E c l i z k=>z.at k) (λX m σ H s c n q I r=>by subst q;obtain⟨t,x,p,_⟩:=I.list r;exact⟨t,x,p.isList⟩) (λX m σ H s c n u q I r y=>by subst q;exact I.list_inj r y)
  z TI f g j a b λA B n u C=>by
   have W:=WalksT.zip2 (prog:=P) (w:=w) B z TI f g j a b D n u
   rwa [GO C]at W
theorem Ug(z TI f g j a b:A3)(D:ZipApart z TI f g j a b):NA P w K (.Tuple elts kk tp) (TB (JJ K) a b) [z,TI,f,g,j] z (Rx Heap.IsTupleIter z TI f g j a b) :=
 Hn (isq:=Heap.IsTuple) (λh c l i ⟨o,e,_,d⟩=>⟨o,e,λv z=>by rw[d]at z;cases z⟩) (λh E c l i z k=>z.at k) (λX m σ H s c n q I r=>by subst q;obtain⟨t,x,p,_⟩:=I.tuple r;exact⟨t,x,p⟩) (λX m σ H s c n u q I r y=>by subst q;exact I.tuple_inj r y)
  z TI f g j a b λA B n u C=>Zb B z TI f g j a b D n u C
end
section
variable{X:Cx}{elts:A1 IQ}{kk:Nat}{tp:Pos}
def zGt(K:PySem.W.Frag)(R:It->Hp->Prop)(a b:A3)(xs c:A1 V)(H:Hp):Prop:=IS K H a xs/\IS K H b c/\R (TB (IS K) a b) H\/JJ K H a xs/\JJ K H b c/\R (TB (JJ K) a b) H
def zCc(K:PySem.W.Frag)(c:TA):TI:=λσ H R=>c σ H λd e=>∃a b f g,d = [.ref a,.ref b]/\zGt K R a b f g e
theorem zAo:bootBuiltins "zip" = some (.type "zip"):=by decide +kernel
theorem Zd{a b:IQ}{L:TA}{p pos:Pos}(N:Gl X "zip")(O:X.mg "zip" = none)(P:PA X [a,b] L)(Q:starEach [a,b] X.env =(false,eval a X.env)::starEach [b] X.env:=by rfl)(t:(backTo pos (starEach [b] X.env)).any (·.1)=false:=by rfl):PI X (.Tuple elts kk tp) (.Call (.Name "zip" p) [a,b] [] pos) (zCc X.K L):=by
 intro f s σ H R I h;refine Call_ (o7 I N O zAo (PyProof.Rows.callWith_type1 (JI (P pos f s σ H _ I h) λus d ⟨vs,w,g,S,T⟩=>?_) Q t));obtain⟨l,m,xs,ys,e,q⟩:=T;subst e;obtain⟨u,v,rfl,U,V⟩:=S.two;cases U;cases V;have i:∀c∈[d.heap.objs.size+4,d.heap.objs.size+2,d.heap.objs.size+3,d.heap.objs.size,d.heap.objs.size+1],Es X f w c:=λc M=>by
  have j:d.heap.objs.size<=c:=by
   simp only[AK,CD,or_false]at M;rcases M with rfl | rfl | rfl | rfl | rfl
   .exact EU ..
   .exact EU ..
   .exact EU ..
   .exact Nat.le_refl _
   .exact EU ..
  exact g.fpOk j (g.hok.fresh j)
 rcases q with⟨x,y,q⟩ | ⟨x,y,q⟩
 .obtain⟨z,W,n,Y⟩:=g.list x;obtain⟨A,Z,o,B⟩:=g.list y;have C:l<d.heap.objs.size:=by obtain⟨_,e,_⟩:=n.isList;exact AM e
  have D:m<d.heap.objs.size:=by obtain⟨_,e,_⟩:=o.isList;exact AM e
  refine call_zip_2 n.isList o.isList λh' r E F G J hsz k=>IE r ?_;exact⟨d.heap.objs.size+4,_,_,_,w,rfl,g.kept (t':=d.toks) k,Py _ _ _ _ _ l m (zipApart_new C D),⟨r,E,⟨_,_,F⟩,G,J⟩,i,q⟩
 .obtain⟨z,W,n,Y⟩:=g.tuple x;obtain⟨A,Z,o,B⟩:=g.tuple y;have C:l<d.heap.objs.size:=by obtain⟨_,e,_⟩:=id n;exact AM e
  have D:m<d.heap.objs.size:=by obtain⟨_,e,_⟩:=id o;exact AM e
  refine Td n o λh' r E F G J k=>IE r ?_;exact⟨d.heap.objs.size+4,_,_,_,w,rfl,g.kept (t':=d.toks) k,Ug _ _ _ _ _ l m (zipApart_new C D),⟨r,E,⟨_,_,F⟩,G,J⟩,i,q⟩
variable(K:PySem.W.Frag)
theorem zHr{a b:IQ}{d:TA}{p pos:Pos}(e:X.mg "zip" = none)(f:PA X [a,b] d)(g:Gl X "zip":=by rfl)(h:starEach [a,b] X.env =(false,eval a X.env)::starEach [b] X.env:=by rfl)(c:(backTo pos (starEach [b] X.env)).any (·.1)=false:=by rfl)(i:X.K=K:=by rfl):PI X (.Tuple elts kk tp) (.Call (.Name "zip" p) [a,b] [] pos) (zCc K d):=by subst i;exact Zd g e f h c
end
section
variable{X:Cx}{tg iter elt:IQ}{ifs:A1 IQ}{scope:JH}{cl:A1 (Str×A3)}{N':A1 Str}{cap:A1 (A5 Nat)}{wi:TI}{pos:Pos}
theorem Rz{e:IQ}{gs:A1 Comprehension}{newAcc:Sem A2}{p2:Pos}{use:A5 (A2->Sem Unit)}{Qv:A2->A4->Prop}(q:clausesOf e =⟨tg,iter,ifs,0⟩::gs)(o:A3->HO)(hs:∀x,foldedSetIterable iter X.env x=pure x)(S:MC X scope cl N' cap)(hc:X.calm=true)(hi:PI X tg iter wi)
  {lp:A3->It->St->Hp->(St->Hp->Prop)->Prop}
  (r:∀(a:A1 (A3×Obj)) (s:A4) (σ:St) (H:Hp) (Q:A2->A4->Prop) (E:A2->A4->Prop),Inv X a σ H s->(∀g,Inv X a σ (IK H s.heap.objs.size (o s.heap.objs.size)) g->(∀b f,s.heap.get? b=some f->g.heap.get? b=some f)->Q (.ref s.heap.objs.size) g)->wpAny (model X.prog X.w) X.A newAcc Q E s)
  (L:∀(a:A1 (A3×Obj)) (M:A1 A3) (s3:A4) (N:Hp) (D l:A3) (fp:A1 A3) (t:Nat->IM->Prop) (J:It) (σ:St) (s:A4) (H:Hp) (Q:St->Hp->Prop) (R:Result->A4->Prop),
   NA X.prog X.w X.K tg J fp l t->Inv (LE X scope cl N' a M s3 N) [] σ H s->t 0 s.heap->(∀b∈fp,Es (LE X scope cl N' a M s3 N) [] H b)->lp D J σ H Q ->
   (∀g σ' H',Inv (LE X scope cl N' a M s3 N) [] σ' H' g->Q σ' H'->R (.ok .next) g) ->
   codeAny (model X.prog X.w) X.A (.compLoop e 0 (.ref l) (.ref D) (compEnvC scope cl s3.heap.objs.size X.env)) R s)
  (O:∀l D i,X.A.under (.compStart e 0 (.ref l) (.ref D) i)=X.A) (u:∀l D i,(model X.prog X.w).den (.compStart e 0 (.ref l) (.ref D) i) =(compStart e 0 (.ref l) (.ref D) i).onRaise (λx=>do noteFrame x i;standAt theWindowsPlace))
  {a:A1 (A3×Obj)} {s:A4} {σ:St} {H:Hp} {Q:V->Hp->Prop} (I:Inv X a σ H s) (h:Iz wi o cap lp σ H Q)
  (B:∀(D:A3) (fp:A1 A3) (k:Hp) (s3 g:A4) (σ':St) (H':Hp),Inv X a σ k s3->(∀b∈fp,Es X a k b)->Inv (LE X scope cl N' a fp s3 k) [] σ' H' g->Q (.ref D) H'->compPost (model X.prog X.w) X.A X.xe use Qv (.ref D) s3.heap.objs.size (.ok .next) g) :
  wpAny (model X.prog X.w) X.A (comprehension e scope X.env p2 newAcc false (eval iter X.env) use) Qv X.xe s:=by
 refine wpAny_comprehension_free q hs S.clos S.kind S.loc (JI (hi a s σ H _ I h) λv s1 C=>JI C λitv j h2=>?_);obtain⟨l,fp,t,J,k,P,I2,T,F,f2,R2⟩:=h2;subst P;refine r a j σ k _ _ I2 λs3 U k3=>?_;have hD:k j.heap.objs.size=none:=I2.hok.fresh (Nat.le_refl _);have n:∀b∈fp,Es X a (IK k j.heap.objs.size (o j.heap.objs.size)) b/\∃f,s3.heap.get? b=some f:=λb m=>by
  obtain⟨f,e,_⟩:=T.obj _ _ F b m;obtain⟨W,fr⟩:=f2 b m;exact⟨⟨by rw[B6 (BI (AM e))];exact W,fr⟩,f,k3 b f e⟩
 refine wpAny_newFunctionEnv S.nocell (by intro y hy;simp at hy) (λC Y Z=>?_) S.kind;have hk:∀b f,s3.heap.get? b=some f->C.get? b=some f:=λb f e=>(Z.2 b (BI (AM e))).trans (AG _ e);have I4:Inv (LE X scope cl N' a fp s3 (IK k j.heap.objs.size (o j.heap.objs.size))) [] (Wg cap σ) (IK k j.heap.objs.size (o j.heap.objs.size)) { s3 with heap:=C,toks:=s3.toks +([]:A1 (Str×A2)).length } :=
  U.block S hc n Y hk
 have G:t 0 C:=T.keep 0 _ _ F λb m f e=>hk b f (k3 b f e);refine w4 (X:=LE X scope cl N' a fp s3 (IK k j.heap.objs.size (o j.heap.objs.size))) (gs:=⟨tg,iter,ifs,0⟩::gs) (e:=e) (d:=0) (tg:=tg) (iter:=iter) (ifs:=ifs) (O _ _ _) (u _ _ _) q rfl T G ?_;refine L a fp s3 _ j.heap.objs.size l fp t J (Wg cap σ) _ _ _ _ T I4 G (λb m=>?_) (R2 _ hD) λg σ' H' I' q'=>?_
 .obtain⟨⟨W,f1,f2',f3,f4,f5⟩,f,eo⟩:=n b m;refine⟨W,BI (AM eo),λhf=>?_,.inl m,λx c e=>f4 x c (S.cin.get e),λp hp=>f5 p (by simpa [LE] using hp)⟩;rcases AK.mp (U.stkSub b hf)with z | z
  .exact f1 z
  .exact f2' z
 .exact B _ fp _ s3 g σ' H' U (λb m=>(n b m).1) I' q'
theorem j0{i:Nat}{x:Str}{o j:Pos}{g:TG}{V:TT}{W:TE}(hN:X.N.Nodup)(hi:X.N[i]?=some x)(hx:Loc X.env.scope x)(S:MC X scope cl N' cap)(p:X.calm=true)(hI:PI X tg iter wi)
  (t:∀(d:A1 (A3×Obj)) (y:A1 A3) (l:A4) (A:Hp),PG (LE X scope cl N' d y l A) tg g/\RJ (LE X scope cl N' d y l A) ifs V/\PE (LE X scope cl N' d y l A) elt W)
  (hs:∀x,foldedSetIterable iter X.env x=pure x:=by intro _;rfl)
  (F:swapsWith (.ListComp elt [⟨tg,iter,ifs,0⟩] scope j) (some (.Name x o)) pos.line X.env=pure true:=by rfl)
  (G:X.fn x=true\/X.env.scope.names.lookup x=some .local:=by first | exact .inl rfl | exact .inr rfl | assumption) :
  PS X (.Assign [.Name x o] (.ListComp elt [⟨tg,iter,ifs,0⟩] scope j) pos) (TM (Iz wi (λ_=>.lst []) cap λD J σ H Q=>Fi g V (Ib D W) J σ H Q) (Y6 i)):=by
 intro d s σ H D I h;rw[exec_Assign];refine AA (FI (AA (FX F (wpAny_ite_true rfl (AA (AA ?_))))));refine Rz (newAcc:=newList []) (p2:=firstIterPos [⟨tg,iter,ifs,0⟩] j) rfl (λ_=>.lst []) hs S p hI (λd s σ H Q E I h=>?_) (λd y l A D it fp tn J σ s H Q R T I st G h hR=>?_) (λ_ _ _=>rfl) (λ_ _ _=>rfl) I h λE fp H2 l s' σ' H' Y K L q=>?_
 .refine IH ?_;exact h _ (I.lnew (t':=s.toks) (its:=[]) .nil (CL _)) λb f e=>AG _ e
 .obtain⟨b1,b2,b3⟩:=t d y l A;exact X4 (X:=LE X scope cl N' d y l A) rfl rfl p rfl (Db elt tg iter ifs scope j _ _ _) b1 b2 (Mq rfl b3) T I st G h hR
 .have IX:Inv X d σ H' s':=Y.unblock K L ⟨rfl,λ_ _=>rfl⟩;have w:Es X d H' l.heap.objs.size:=Y.fpOk (Nat.le_refl _) L.free;obtain⟨m,hn,_⟩:=L.loc;show wpAny _ _ (assign (.Name x o) X.env (.ref E)) _ _ _;refine wpAny_assign_Name (Hd (v:=.ref E) IX hN hi hx rfl (λC M ⟨a,O,ha⟩=>?_) G);have nC:l.heap.objs.size≠a:=by
   rcases ha with rfl | ha
   .exact w.2.1
   .exact(w.2.2.2.2.1 _ _ ha).symm
  refine⟨m,?_,λh' B=>AF (AF ?_)⟩
  .obtain⟨f,P,U,e1,r⟩:=hn;exact⟨f,P,U,(O.2 _ nC).trans e1,r⟩
  refine⟨_,H',?_,q⟩;have k:∀b f,b∉[l.heap.objs.size]->C.heap.get? b=some f->h'.get? b=some f:=λb f t e=>(B.2 b λz=>t (AD.mpr z)).trans e;refine M.step (h':=h') (H':=H') (t':=C.toks) (g':=C.gens) (d':=C.drawn) (ch:=[l.heap.objs.size]) (λb t=>by rw[AD.mp t];exact⟨w.2.2.2.1,w.2.1,w.2.2.2.2⟩) (λb f _ _ p e _=>k b f p e) (λb f _ _ p e _=>⟨f.slots,k b f p e⟩) (λ_ _ _ _ n=>n)
   (λb f p e=>⟨f,k b f p e⟩) (λ_ _ e=>e) (λ_ _ _ e=>e) (λb ps e=>⟨#[],by rw[e];simp⟩) (λm hm=>?_) (λb u Z=>?_) M.bare
  .obtain⟨f,P,U,ho,r⟩:=hm;exact⟨f,P,U,k _ f (λt=>w.2.1 (AD.mp t).symm) ho,r⟩
  .have nf:∀b u,H' b=some u->b∉[l.heap.objs.size]:=λb u e t=>by rw[AD.mp t,w.1]at e;cases e
   refine(M.hok b u Z).stay (λc v p q=>k c v ?_ q) (λ_ q=>q) λ_ _ q=>q;rcases p with z | z
   .rw[z];exact nf b u Z
   .exact nf c _ z
end
section
variable{X:Cx}
theorem zEv{x:Str}{C:A3}{pos:Pos}(h:X.mg x=some (.ref C))(a:Gl X x:=by rfl)(b:(x ==("__debug__":Str))=false:=by decide):PE X (.Name x pos) (tC (.ref C)):=Kx a h rfl b
end
def Jf:bootBuiltins "sum" = some (.builtin "sum"):=by decide +kernel
section
variable{X:Cx}
theorem Qj(f:X.calm=true):O0 X (.builtin "sum") (λxs H Q=>∃(p:A3) (ns:A1 Int),xs = [.ref p]/\IS X.K H p (ns.map V.int)/\Q (.int ns.sum) H):=by
 intro b s σ H xs o Q I r h;obtain⟨p,ns,rfl,g,q⟩:=h;obtain⟨u,rfl,i⟩:=g9 r;cases i;obtain⟨a,j,l,t⟩:=I.list g;have c:=y0 j;obtain⟨xs,d⟩:=c.allInts.items;refine sum_intListG (xs:=xs) (I.ok.hd f) (by rw[<-d];exact l.isList) λv w m k=>⟨.int ns.sum,H,I.kept k,⟨m,?_⟩,q⟩;have e:numsOf a=ns:=c.numsOf;have n:numsOf (intItems xs).toList=numsOf a:=by rw[<-d]
 rw[preSum_eq,DA (by simp),<-nums_intItems,n,e]
theorem Lr(K:PySem.W.Frag)(a:X.K=K:=by rfl)(b:X.calm=true:=by rfl):O0 X (.builtin "sum") (λxs H Q=>∃(p:A3) (ns:A1 Int),xs = [.ref p]/\IS K H p (ns.map V.int)/\Q (.int ns.sum) H):=by subst a;exact Qj b
end
def Itd(d:A3)(o:Obj)(a:A1 (JC×V)):It :=
 ⟨λi H=>H d=some (.frz o (.dK a))/\i<a.length,λi H x b=>b=H/\∃k v,a[i]?=some (k,v)/\x=kV k,λi H=>H d=some (.frz o (.dK a))/\a.length<=i⟩
def KV.at{c:A1 (JC×V)}{vs:A1 (JC×A2)}(h:KV c vs):∀{i:Nat} {k:JC} {v:V},c[i]?=some (k,v)->∃u,vs[i]?=some (k,u):=by
 induction h with
 | nil=>intro i k v e;rw[List.getElem?_nil]at e;cases e
 | cons r _ d =>
  intro i k v e;cases i with
  | zero =>
   rw[List.getElem?_cons_zero]at e⊢;cases e;obtain⟨a,b⟩:=r;exact⟨_,by rw[show k=_ from a]⟩
  | succ i=>exact d e
def Zn{k:JC}{u:A2}(h:Ey k u=true):RelV (kV k) u:=by
 cases k with
 | inl i=>obtain⟨t,rfl⟩:=Value.isInt_shape h;exact⟨t,rfl⟩
 | inr x=>obtain⟨t,rfl⟩:=Value.isStrOf_shape h;exact⟨t,rfl⟩
section
variable{X:Cx}{tg:IQ}
theorem Tv{P:A7}{w:F8}{K:PySem.W.Frag}{d g:A3}{o:Obj}{a:A1 (JC×V)}{C:CW DictEntry}{ep:Nat}(t:o.data = .dict C ep):NA P w K tg (Itd d o a) [g] g (λi h=>h.IsKeyIter g d i a.length ep) where
 mem:=by simp
 obj:=λi h st b j=>by
  have e:b=g:=by simpa using j
  subst e;obtain⟨o,e,c,d⟩:=st;exact⟨o,e,λv z=>by rw[d]at z;cases z⟩
 keep:=λi h x st k=>by
  obtain⟨o,e,r⟩:=st;exact⟨o,k g (by simp) o e,r⟩
 item:=by
  intro X D F G hc i f s σ H E I y st J;subst D F G;obtain⟨L,A⟩:=J;obtain⟨M,N,f2,O,Q,R⟩:=y g (by simp);obtain⟨m,hz,hS,S,r,ob,T,U,n,Y,p,Z⟩:=(show IZ X.prog X.w H s.heap d (.frz o (.dK a))from I.hok d _ L);rw[m]at n;cases n;rw[t]at p;cases p;have hx:a[i]?=some (a[i].1,a[i].2):=AC A;obtain⟨u,hu⟩:=r.at hx;have B:a.length=S.length:=r.length;rw[B]at st;refine wpAny_pyNext_dict_item (knd:=C4 X.prog X.w) st ⟨o,C,m,Y,t,Z⟩ hu λkey x q l sb=>?_;have I1:Inv X f σ H { s with heap:=x }:=I.turned (t':=s.toks) (λb o j e=>(sb.2 b j).trans e) M N O Q R;obtain⟨oi,ei,ci,di⟩:=id l;rw[<-B]at l;exact⟨key,rfl,No (s:={ s with heap:=x }) ei ci di (by decide) ⟨kV a[i].1,H,I1,Zn q,⟨rfl,_,_,hx,rfl⟩,l,λb j=>(y b j).1⟩⟩
 done:=by
  intro X D F G hc i f s σ H E I y st J;subst D F G;obtain⟨L,A⟩:=J;obtain⟨M,N,f2,O,Q,R⟩:=y g (by simp);obtain⟨m,hz,hS,S,r,ob,T,U,n,Y,p,Z⟩:=(show IZ X.prog X.w H s.heap d (.frz o (.dK a))from I.hok d _ L);rw[m]at n;cases n;rw[t]at p;cases p;have B:a.length=S.length:=r.length;rw[B]at st A;exact wpAny_pyNext_dict_end (knd:=C4 X.prog X.w) (I.ok.hd hc) st ⟨o,C,m,Y,t,Z⟩ (ET A) λx eb=>⟨rfl,I.turned (t':=s.toks) (λb o j e=>eb b o j e) M N O Q R⟩
 self:=λ_ _ _ _ _ st h=>wpAny_pyIter_keyiter st h
end
section
variable{prog:A7}{w:F8}{A:IR}{E:A2->A4->Prop}{s:A4}
theorem Vl{t b:A3}{vs g:A1 A2}{Q:A2->A4->Prop}(o:IsTup s.heap t vs.toArray)(p:IsTup s.heap b g.toArray)(q:vs = [])(h:Q (.ref b) s):wpAny (model prog w) A (binaryOp .Add (.ref t) (.ref b)) Q E s:=by
 obtain⟨⟨r,u,i,v⟩,j,k,n,l⟩:=id o;obtain⟨⟨m,e,data2,f⟩,a,c,x,d⟩:=id p;simp only at k l c d;subst k l c d;exact concat_meets ⟨_,j,rfl⟩ ⟨_,a,rfl⟩ noFill_tuple_add seq_tuple_add PySem.F.slot_tuple_add PySem.F.entry_tuple_add (PySem.F.args_tuple_add_2 _ _)
  (tuple_addW0 t b vs.toArray g.toArray n x u e v f (by simp[q])) ⟨j,a,h⟩
end
section
variable{X:Cx}(K:PySem.W.Frag)
def zGn:R2:=λx y H Q=>∃a b c d,x = .ref a/\y = .ref b/\JJ K H a c/\JJ K H b d/\d≠[]/\c.length+d.length<=sizeLine /\
 (c = []->Q (.ref b) H)/\(c≠[]->∀p,H p=none->Q (.ref p) (IK H p (.tup (c++d))))
theorem Yn(n:X.K=K:=by rfl):LG X (binaryOp .Add) (zGn K):=by
 subst n;intro d s σ H x y v u Q I e f h;obtain⟨a,b,g,o,i,j,k,l,p,q,r,t⟩:=h;by_cases c:g = []
 .subst i j c;cases e;cases f;obtain⟨w,A,B,_⟩:=I.tuple k;obtain⟨m,D,C,_⟩:=I.tuple l;exact Vl B C (A.nil_iff.mpr rfl) ⟨.ref b,H,I,rfl,r rfl⟩
 .exact zBd _ _ _ _ _ _ _ _ _ I e f ⟨a,b,g,o,i,j,k,l,c,q,λz=>absurd z p,λ_=>t c⟩
end
def zCz(i:Nat)(f:A3)(sp:Sp)(E:XK)(t:TA):TE:=λσ H Q=>σ[i]?=some (some (.ref f))/\Ys sp [] E t σ H Q
section
variable{X:Cx}{CX:RT}{k:Nat}{f:A3}{fd:JA}{ps:A1 Str}{sp:Sp}{x:Str}{e:IQ}{es:A1 IQ}{t:TA}{p pos:Pos}{E:XK}{ds:A1 A2}
theorem Vq{i:Nat}(F:IU X.prog X.w X.K X.mg X.base CX k f fd ps sp)(l:JQ k X.A)(m:PySem.W.keepIn X.K (.ref f)=true)(n:Binds X.K fd ps [])(o:Al CX X E)
  (y:PA X (e::es) t) (z:X.N[i]?=some x:=by rfl) (B:UC X.env.scope x:=by first | exact Or.inl rfl | exact Or.inr (Or.inl rfl) | exact Or.inr (Or.inr rfl)) (b:(x ==("__debug__":Str))=false:=by decide) (c:(x ==("__classdict__":Str))=false:=by decide)
  (C:starEach (e::es) X.env =(false,eval e X.env)::starEach es X.env:=by rfl) (d:(backTo pos (starEach es X.env)).any (·.1)=false:=by rfl) :
  PE X (.Call (.Name x p) (e::es) [] pos) (zCz i f sp E t):=by
 intro a s σ H Q I h;obtain⟨D,h⟩:=h;refine EX (JI (Xt (i:=i) (pos:=p) z B b c a s σ H (λv G=>v = .ref f/\G=H) I ⟨_,D,rfl,rfl⟩) λu J ⟨v,L,g,M,O,P⟩=>?_);subst O P;cases M;refine PySem.W.callWith_K (h₀:=X.base) g.ok.mod.kin m (JI (y pos a J σ L _ g h) λR S ⟨T,U,j,r,q⟩=>⟨j.kIn,?_⟩) C d;exact Lw F l n .nil o j r q
end
def Nc(v d:A3):HO:=.ext λh=>h.IsValuesView v d
def Itv(d:A3)(o:Obj)(a:A1 (JC×V)):It :=
 ⟨λi H=>H d=some (.frz o (.dK a))/\i<a.length,λi H x b=>b=H/\∃k,a[i]?=some (k,x),λi H=>H d=some (.frz o (.dK a))/\a.length<=i⟩
def KV.atV{c:A1 (JC×V)}{vs:A1 (JC×A2)}(h:KV c vs):∀{i:Nat} {k:JC} {v:V},c[i]?=some (k,v)->∃u,vs[i]?=some (k,u)/\RelV v u:=by
 induction h with
 | nil=>intro i k v e;rw[List.getElem?_nil]at e;cases e
 | cons r _ d =>
  intro i k v e;cases i with
  | zero =>
   rw[List.getElem?_cons_zero]at e⊢;cases e;obtain⟨a,b⟩:=r;exact⟨_,by rw[show k=_ from a],b⟩
  | succ i=>exact d e
section
variable{X:Cx}{tg:IQ}
def zFb(td:TE):TE:=λσ H Q=>td σ H λx b=>∃a c,x = .ref a/\b a=some (.dK c)/\∀v,b v=none->Q (.ref v) (IK b v (Nc v a))
theorem Pj{o:IQ}{c d:Pos}{td:TE}(q:PE X o td)(f:attributeBase o "values" X.env (eval o X.env)=eval o X.env:=by rfl)(g:(c.endLine == d.line)=true:=by rfl):PE X (.Call (.Attribute o "values" c) [] [] d) (zFb td):=by
 intro i s σ H Q I h;refine wpAny_Call_method0_late f g (JI (q i s σ H _ I h) λv m ⟨x,t,j,u,a,l,y,n,A⟩=>?_);subst y;obtain rfl:v=Value.ref a:=u;obtain⟨z,B,C,D,p⟩:=zBf j.hok n;obtain⟨E,G,_⟩:=zBn j (.inl ⟨l,.inl n⟩);refine⟨"dict", "dict.values",PySem.F.plainAttrs_dict,PySem.F.slot_dict_values,PySem.F.type_dict_values,E,G,Calls.callWith_builtin rfl (PySem.evalArgs_none ?_)⟩;refine call_meetsIn PySem.F.slot_dict_values p.typeIs PySem.F.entry_dict_values (PySem.F.args_dict_values_1 _) (meets_dict_values (C4 X.prog X.w) a B) ⟨⟨C,p⟩,?_⟩;exact⟨.ref m.heap.objs.size,IK t _ (Nc _ a),j.laid (t':=m.toks) (λb o J=>AG _ J) (Nat.le_refl _) ⟨⟨_,AS _ rfl,rfl,rfl⟩,⟨_,AS _ rfl⟩,λK L ⟨o,e,r⟩ k=>⟨o,k o e,r⟩⟩,rfl,A _ j.fresh⟩
theorem Ui{P:A7}{w:F8}{K:PySem.W.Frag}{d g:A3}{o:Obj}{a:A1 (JC×V)}{B:CW DictEntry}{ep:Nat}(q:o.data = .dict B ep):NA P w K tg (Itv d o a) [g] g (λi h=>h.IsValIter g d i a.length ep) where
 mem:=by simp
 obj:=λi h st b j=>by
  have e:b=g:=by simpa using j
  subst e;obtain⟨o,e,c,d⟩:=st;exact⟨o,e,λv z=>by rw[d]at z;cases z⟩
 keep:=λi h t st k=>by
  obtain⟨o,e,r⟩:=st;exact⟨o,k g (by simp) o e,r⟩
 item:=by
  intro X C D F Z i f s σ H E I x st G;subst C D F;obtain⟨J,y⟩:=G;obtain⟨L,M,f2,N,O,Q⟩:=x g (by simp);obtain⟨m,hz,hS,R,r,ob,S,T,n,U,p,Y⟩:=(show IZ X.prog X.w H s.heap d (.frz o (.dK a))from I.hok d _ J);rw[m]at n;cases n;rw[q]at p;cases p;have hx:a[i]?=some (a[i].1,a[i].2):=AC y;obtain⟨u,hu,ru⟩:=r.atV hx;have A:a.length=R.length:=r.length;rw[A]at st;refine wpAny_pyNext_values_item (knd:=C4 X.prog X.w) st ⟨o,B,m,U,q,Y⟩ hu λt l sb=>?_;have I1:Inv X f σ H { s with heap:=t }:=I.turned (t':=s.toks) (λb o j e=>(sb.2 b j).trans e) L M N O Q;obtain⟨oi,ei,ci,di⟩:=id l;rw[<-A]at l;exact⟨u,rfl,No (s:={ s with heap:=t }) ei ci di (by decide) ⟨a[i].2,H,I1,ru,⟨rfl,_,hx⟩,l,λb j=>(x b j).1⟩⟩
 done:=by
  intro X C D F Z i f s σ H E I x st G;subst C D F;obtain⟨J,y⟩:=G;obtain⟨L,M,f2,N,O,Q⟩:=x g (by simp);obtain⟨m,hz,hS,R,r,ob,S,T,n,U,p,Y⟩:=(show IZ X.prog X.w H s.heap d (.frz o (.dK a))from I.hok d _ J);rw[m]at n;cases n;rw[q]at p;cases p;have A:a.length=R.length:=r.length;rw[A]at st y;exact wpAny_pyNext_values_end (knd:=C4 X.prog X.w) (I.ok.hd Z) st ⟨o,B,m,U,q,Y⟩ (ET y) λt eb=>⟨rfl,I.turned (t':=s.toks) (λb o j e=>eb b o j e) L M N O Q⟩
 self:=λ_ _ _ _ _ st h=>wpAny_pyIter_valiter st h
def zHp(c:TE):TI:=λσ H R=>c σ H λx b=>∃v d a,x = .ref v/\b v=some (Nc v d)/\b d=some (.dK a)/\∀o,R (Itv d o a) (IK b d (.frz o (.dK a)))
theorem zDk{l:IQ}{t:TE}(j:PE X l t):PI X tg l (zHp t):=by
 intro c s σ H R I h;refine JI (j c s σ H _ I h) λv s1 ⟨x,g,k,D,E⟩=>?_;obtain⟨m,d,a,e,F,y,q⟩:=E;subst e;cases D;obtain⟨f,_⟩:=(show IZ X.prog X.w g s1.heap m (Nc m d)from k.hok m _ F);obtain⟨G,J,z,r,o,A,ep,i,B,n,C⟩:=(show IZ X.prog X.w g s1.heap d (.dK a)from k.hok d _ y);have p:Inv X c σ (IK g d (.frz o (.dK a))) { s1 with heap:=s1.heap,toks:=s1.toks }:=k.write (t':=s1.toks) (by rw[y];trivial) (.inl rfl) (λb u _ e=>e) ⟨_,i⟩ ⟨i,G,J,z,r,o,A,ep,i,B,n,C⟩;have j:a.length=z.length:=r.length;refine wpAny_pyIter_values (knd:=C4 X.prog X.w) (ep:=ep) f ⟨o,A,i,B,n,C⟩ ?_;refine⟨s1.heap.objs.size,[s1.heap.objs.size],_,_,IK g d (.frz o (.dK a)),rfl,p.kept (t':=s1.toks) λb o e=>AG _ e,Ui n,?_,λb K=>?_,q o⟩
 .rw[j];exact⟨_,AS _ rfl,rfl,rfl⟩
 have e:b=s1.heap.objs.size:=by simpa using K
 subst e;exact p.fpOk (Nat.le_refl _) (p.hok.fresh (Nat.le_refl _))
theorem Bg(ns:A1 Int):∀{n:Nat},n<=ns.length->preSum (λi=>ns.getD i 0) n =(ns.take n).sum
 | 0,_=>rfl
 | n+1,h=>by
  have e:ns[n]?=some ns[n]:=AC (by lia);show preSum (λi=>ns.getD i 0) n+ns.getD n 0=_;rw[Bg ns (by lia),List.take_succ,List.sum_append,AY,e];simp
def zEx:A1 V->Hp->VK->Prop:=λc H Q=>∃(v d:A3) (a:A1 (JC×V)) (b:A1 Int),c = [.ref v]/\H v=some (Nc v d)/\H d=some (.dK a)/\(a.map λq=>q.2)=b.map V.int/\Q (.int b.sum) H
theorem zAi(F:X.calm=true:=by rfl):O0 X (.builtin "sum") zEx:=by
 intro p s σ H N O Q I r h;obtain⟨v,d,a,c,rfl,G,J,x,q⟩:=h;obtain⟨u,rfl,j⟩:=g9 r;cases j;obtain⟨f,_⟩:=(show IZ X.prog X.w H s.heap v (Nc v d)from I.hok v _ G);obtain⟨P,R,g,r,o,y,ep,m,z,A,B⟩:=(show IZ X.prog X.w H s.heap d (.dK a)from I.hok d _ J);have S:a.length=g.length:=r.length;have K:a.length=c.length:=by have:=congrArg List.length x;rw[AB,AB]at this;exact this
 refine call_sum_walkG (wpAny_pyIter_values (knd:=C4 X.prog X.w) (ep:=ep) f ⟨o,y,m,z,A,B⟩ ?_);have n:d≠s.heap.objs.size:=BI (AM m);refine⟨s.heap.objs.size,_,_,g.length,_,_,λi=>c.getD i 0,rfl,Walks.dictValues (knd:=C4 X.prog X.w) (by simp only[Around.in1_handled];exact I.ok.hd F) s.heap.objs.size d n g ep,⟨⟨_,AS _ rfl,rfl,rfl⟩,o,y,AG _ m,z,A,B⟩,λb hb=>?_,λi u ⟨k,C⟩=>?_,λT L t' M=>⟨.int c.sum,H,I.kept (t':=L) λb o e=>M b o (by simpa using BI (AM e)) (AG _ e),⟨t',?_⟩,q⟩⟩
 .rw[DM];rcases AK.mp hb with rfl | hb
  .exact EW _
  .rw[AD.mp hb];exact EC (AM m)
 .have U:i<g.length:=(AE.mp C).1;have D:a[i]?=some (a[i].1,a[i].2):=AC (by lia);obtain⟨W,E,j⟩:=r.atV D;rw[C]at E;cases E;have e:=congrArg (λl=>l[i]?) x;rw[AH,AH,D,AC (by lia:i<c.length)]at e;have e:a[i].2=V.int c[i]:=BH e;rw[e]at j;obtain⟨t,rfl⟩:=j;exact⟨t,by show Value.int c[i] t=Value.int (c.getD i 0) t;rw[AY,AC (by lia:i<c.length)];rfl⟩
 .have:preSum (λi=>c.getD i 0) g.length=c.sum:=by
   rw[Bg _ (by lia),DA (by lia)]
  rw[this]
end
section
variable{X:Cx}
theorem zGf:PIp X .BitOr (ipI λi j=>Builtin.bitOr i j):=by
 intro a s σ H x y v u Q I b c h;obtain⟨i,j,d,e,q⟩:=h;subst d;subst e;obtain⟨t,rfl⟩:=b;obtain⟨f,rfl⟩:=c;exact ior_int ⟨.int _,H,I.tok _,⟨_,rfl⟩,q⟩
end
section
variable{X:Cx}{tg:IQ}
def zFl(c:TE):TI:=λσ H R=>c σ H λx b=>∃d a,x = .ref d/\Rd b d (.dK a)/\∀o,R (Itd d o a) (IK b d (.frz o (.dK a)))
theorem Wb{H:Hp}{d:A3}{o:HO}(h:H d=some o):IK H d o=H:=funext λb=>by
 by_cases e:b=d
 .subst e;rw[A9,h]
 .rw[B6 e]
theorem Zl{l:IQ}{D:TE}(B:PE X l D):PI X tg l (zFl D):=by
 intro i s σ H R I h;refine JI (B i s σ H _ I h) λv s1 ⟨x,z,A,E,F⟩=>?_;obtain⟨d,a,e,j,q⟩:=F;subst e;cases E;obtain⟨o,C,t,m,c,r,f,ep,g,n,k,p⟩:∃o,Inv X i σ (IK z d (.frz o (.dK a))) { s1 with heap:=s1.heap,toks:=s1.toks }/\a.length<=sizeLine/\(d == sysModules)=false/\∃c,KV a c/\∃f ep,s1.heap.get? d=some o/\o.ExactDict/\o.data = .dict f ep/\(PySem.KeysOf (C4 X.prog X.w) f/\Pairs (C4 X.prog X.w) f.toList c/\(c.map (·.1)).Nodup):=by
  rcases j with j | ⟨o,j⟩
  .obtain⟨t,m,c,r,o,f,ep,g,n,k,p⟩:=(show IZ X.prog X.w z s1.heap d (.dK a)from A.hok d _ j);exact⟨o,A.write (t':=s1.toks) (by rw[j];trivial) (.inl rfl) (λb u _ e=>e) ⟨_,g⟩ ⟨g,t,m,c,r,o,f,ep,g,n,k,p⟩,t,m,c,r,f,ep,g,n,k,p⟩
  .obtain⟨g,t,m,c,r,J,f,ep,y,n,k,p⟩:=(show IZ X.prog X.w z s1.heap d (.frz o (.dK a))from A.hok d _ j);rw[g]at y;cases y;exact⟨o,by rw[Wb j];exact A,t,m,c,r,f,ep,g,n,k,p⟩
 have B:a.length=c.length:=r.length;refine wpAny_pyIter_dict (knd:=C4 X.prog X.w) (ep:=ep) m ⟨o,f,g,n,k,p⟩ ?_;refine⟨s1.heap.objs.size,[s1.heap.objs.size],_,_,IK z d (.frz o (.dK a)),rfl,C.kept (t':=s1.toks) λb o e=>AG _ e,Tv k,?_,λb G=>?_,q o⟩
 .rw[B];exact⟨_,AS _ rfl,rfl,rfl⟩
 have e:b=s1.heap.objs.size:=by simpa using G
 subst e;exact C.fpOk (Nat.le_refl _) (C.hok.fresh (Nat.le_refl _))
end
def u7{a b:A3}{n:Nat}(h1:a<n)(h2:n<=b):b≠a:=λz=>by subst z;exact absurd h2 (Nat.not_le_of_lt h1)
section
variable{fs ex:A1 A3}{H:Hp}{h h':IM}{a:A3}
theorem MO.table{P:A7}{w:F8}{f g:CW A2}(i:MO P w H h)(j:H a=some (.tbl f))(k:∀b u,b≠a->h.get? b=some u->h'.get? b=some u)(l:h'.get? a=some { cls:=.none,data:=.fields g }):MO P w (IK H a (.tbl g)) h':=λb u q=>by
 by_cases d:b=a
 .subst d;rw[A9]at q;cases q;exact l
 .rw[B6 d]at q;have n:∀c o,H c=some o->o≠ .tbl f->c≠a:=λc o e m z=>by rw[z,j]at e;cases e;exact m rfl
  refine(i b u q).stay (λc v hc r=>k c v ?_ r) (λc r=>by rw[B6 (n c _ r (by intro z;cases z))];exact r) λc p r=>by rw[B6 (n c _ r (by intro z;cases z))];exact r
  rcases hc with rfl | hc
  .exact d
  .exact n c _ hc (by intro z;cases z)
end
section
variable{P:A7}{w:F8}{fs ex:A1 A3}{H H':Hp}{h h':IM}{a:A3}{o:HO}
theorem Un.more{p:A3}{g more:CW A2}(c:H p=some (.tbl g))(d:H' p=some (.tbl (g++more)))(a:∀b o,H b=some o->b≠p->H' b=some o)(f:∀b,b<h.objs.size->H b=none->H' b=none)
  (k:∀b u,b≠p->h.get? b=some u->h'.get? b=some u) (j:∃u,h'.get? p=some u):Un fs ex H H' h h':=by
 have i:∀b,H b=none->b≠p:=λb n e=>by rw[e,c]at n;cases n
 refine⟨λb u q n _ _=>k b u (i b n) q,λb u q n _ _=>⟨u.slots,k b u (i b n) q⟩,λb u q n _=>f b (AM q) n,λb u q _=>?_,λb l q=>a b _ q λe=>?_,λb o u q=>a b _ q λe=>?_,λb m q=>?_⟩
 .by_cases e:b=p
  .subst e;exact j
  .exact⟨u,k b u e q⟩
 .rw[e,c]at q;cases q
 .rw[e,c]at q;cases q
 .by_cases e:b=p
  .subst e;rw[c]at q;cases q;exact⟨more,d⟩
  .exact⟨#[],by rw[a b _ q e];simp⟩
theorem MO.track(x:MO P w H h)(f:H a=none)(d:IZ P w (IK H a o) h a o):MO P w (IK H a o) h:=λb u e=>by
 by_cases g:b=a
 .subst g;rw[A9]at e;cases e;exact d
 .rw[B6 g]at e;exact(x b u e).stay (λc v _ q=>q) (λc q=>by rw[B6 (B3 q f)];exact q) λc i q=>by rw[B6 (B3 q f)];exact q
end
def LP(c:A3)(q:Str):HO:=.ext λh=>h.CodeRec (.ref c) q
def OD(f c:A3)(q:Str)(a:Arguments)(b:IQ)(d:JH)(cl:A1 (Str×A3)):HO:=.ext λh=>∃e g,h.get? f=some (PySem.W.kla_obj "<lambda>" q a b d cl e c g)
def LP.ok{P:A7}{w:F8}{H:Hp}{h:IM}{c:A3}{q:Str}(r:h.CodeRec (.ref c) q):IZ P w H h c (LP c q):=by
 have g:=r;obtain⟨i,o,b,t,e,a,d,f⟩:=r;cases e;refine⟨g,⟨o,a⟩,λl m j k=>?_⟩;obtain⟨i,o,b,t,e,a,d,f⟩:=j;cases e;exact⟨c,o,b,t,rfl,k o a,d,f⟩
def OD.ok{P:A7}{w:F8}{H:Hp}{h:IM}{f c:A3}{q:Str}{d:Arguments}{b:IQ}{g:JH}{cl:A1 (Str×A3)}{a ct:A2}(r:h.get? f=some (PySem.W.kla_obj "<lambda>" q d b g cl a c ct)):IZ P w H h f (OD f c q d b g cl) :=
 ⟨⟨a,ct,r⟩,⟨_,r⟩,λi j ⟨a,ct,e⟩ k=>⟨a,ct,k _ e⟩⟩
def Q2(cells:A1 (Str×A3)):A1 (Str×KH)->A1 (Str×A3)->A1 (Str×A3)
 | [],a=>a
 | (n,k)::r,a=>Q2 cells r (if(k == NameKind.free)=true then(n,(cells.lookup n).getD 0)::a else a)
def p8{b:JH}{a:PR}(h:∀x∈b.names,x.2 = .free->(a.cells.lookup x.1).isSome=true):closureFor b a=pure (Q2 a.cells b.names []):=by
 have g:∀(l:A1 (Str×KH)) (f:A1 (Str×A3)),(∀x∈l,x.2 = .free->(a.cells.lookup x.1).isSome=true) ->
   (forIn (m:=Sem) l f λx i=>match x with
    | (name,j)=>if(j == NameKind.free)=true then do
      let d <-cellOf a name
      pure (ForInStep.yield ((name,d)::i))
     else pure (ForInStep.yield i))=pure (Q2 a.cells l f):=by
  intro l
  induction l with
  | nil=>intro f _;rfl
  | cons x r s =>
   obtain⟨n,k⟩:=x;intro f o;rw[HM];by_cases e:(k == NameKind.free)=true
   .have u:k = .free:=eq_of_beq e;obtain⟨c,t⟩:=EE.mp (o (n,k) (BO ..) u);have p:cellOf a n=pure c:=by
     unfold cellOf;rw[show List.lookup n a.cells=some c from t]
    simp only[e,GH,p,pure_bind];rw[s _ λy q=>o y (BD _ q)];show _=pure (Q2 a.cells r (if(k == NameKind.free)=true then(n,(a.cells.lookup n).getD 0)::f else f));rw[AL e,show List.lookup n a.cells=some c from t];rfl
   .simp only[e,A_,CY,pure_bind];rw[s _ λy q=>o y (BD _ q)];show _=pure (Q2 a.cells r (if(k == NameKind.free)=true then(n,(a.cells.lookup n).getD 0)::f else f));rw[AJ e]
 unfold closureFor;simp only[g b.names [] h,pure_bind]
def Cg{pos q:Pos}{c:A2}:∀(l:A1 A2),TriplesOk l->¬(pos.line=q.line/\pos.col=q.col)->codeAmong q (l ++ [rawInt pos.line,rawInt pos.col,c])=codeAmong q l
 | [],_,n=>by
  show(if((pos.line:Int) ==(q.line:Int) &&(pos.col:Int) ==(q.col:Int))=true then some c else none)=none;rw[AJ];intro z;rw[BW,beq_iff_eq,beq_iff_eq]at z;exact n ⟨by lia,by lia⟩
 | .int a _ :: .int b _::x::r,h,n=>by
  show(if(a ==(q.line:Int)&&b ==(q.col:Int))=true then some x else codeAmong q (r ++ [rawInt pos.line,rawInt pos.col,c]))=if(a ==(q.line:Int)&&b ==(q.col:Int))=true then some x else codeAmong q r
  rw[Cg r h n]
def M5(H:Hp)(P:A3)(ls:A1 (Pos×Str)):Prop:=∃a,H P=some (.tbl a)/\TriplesOk a.toList/\∀l∈ls,codeAmong l.1 a.toList=none\/∃c,codeAmong l.1 a.toList=some (.ref c)/\H c=some (LP c l.2)
structure TabAt(K:PySem.W.Frag)(mg:Str->A5 A2)(c P:A3):Prop where
 hd:∀h:IM,K.In h->PySem.W.CodeHd h c P
 ne:mainGlobals≠P
def zHj(P:A3)(ls:A1 (Pos×Str))(cl:A1 (Str×A3))(q:Str)(e:Arguments)(b:IQ)(g:JH):TE:=λ_ H Q=>M5 H P ls/\∀f c d,H f=none->M5 d P ls->d c=some (LP c q)->d f=some (OD f c q e b g cl)->f≠P->(∀a o,H a=some o->a≠P->d a=some o)->Q (.ref f) d
section
variable{X:Cx}
theorem zCs{args:Arguments}{f:IQ}{a:JH}{pos:Pos}{c P:A3}{ls:A1 (Pos×Str)}(T:TabAt X.K X.mg c P)(U:X.base.BuiltinsAt X.mg P)(V:X.env.code = .ref c)(hd1:args.defaults = [])(hd2:args.kw_defaults = [])
  (r:∀x∈a.names,x.2 = .free->X.env.scope.names.lookup x.1=some .cell) (hl:(pos,X.env.qual ++ "<lambda>")∈ls) (hu:∀l∈ls,∀l'∈ls,l.1.line=l'.1.line->l.1.col=l'.1.col->l=l') :
  PE X (.Lambda args f a pos) (zHj P ls (Q2 X.env.cells a.names []) (X.env.qual ++ "<lambda>") args f a):=by
 intro pins s σ H Q I h;obtain⟨⟨A,C,D,B⟩,q⟩:=h;have E:defaultsOf args X.env =([],[]):=by
  cases args;cases hd1;cases hd2;rfl
 rw[arm_eval_Lambda,E];refine AA (AF (AA (CA (AF ?_))));have v:s.heap.get? P=some (PySem.W.tabObj A):=I.hok P _ C;have r:∀x∈a.names,x.2 = .free->(X.env.cells.lookup x.1).isSome=true:=λx hx e=>by
  obtain⟨c,V⟩:=I.ok.has x.1 (.inl (r x hx e));rw[V];rfl
 have F:s.heap.Ns mainGlobals X.mg:=I.mod.glob.keeps I.bk;have U:s.heap.BuiltinsAt X.mg P:=let⟨bm,o,h1,Y,h3,h4,h5,h6⟩:=U;⟨bm,o,h1,Y,h3,h4,I.bk _ _ h5,h6⟩;rcases B _ hl with e | ⟨d,e,hc'⟩
 .refine PySem.W.kla_makeFunction (p8 r) I.ok.glob F V (T.hd _ I.kIn) v D e T.ne U λd m g tk xb le Z cr eP=>?_;have w:P<s.heap.objs.size:=AM v;have G:d≠P:=u7 w le;have p:g.objs.size≠P:=u7 w (Nat.le_trans le (DL Z));have J:g.objs.size≠d:=u7 Z (Nat.le_refl _);have L:H d=none:=I.hok.fresh le;have j:H g.objs.size=none:=I.hok.fresh (Nat.le_trans le (DL Z));have eO:(g.push (PySem.W.kla_obj "<lambda>" (X.env.qual ++ "<lambda>") args f a (Q2 X.env.cells a.names []) ((X.mg "__name__").getD .none) d m)).get? g.objs.size=some (PySem.W.kla_obj "<lambda>" (X.env.qual ++ "<lambda>") args f a (Q2 X.env.cells a.names []) ((X.mg "__name__").getD .none) d m):=AS _ rfl;have kk:∀b u,g.get? b=some u->(g.push (PySem.W.kla_obj "<lambda>" (X.env.qual ++ "<lambda>") args f a (Q2 X.env.cells a.names []) ((X.mg "__name__").getD .none) d m)).get? b=some u:=λb u e=>AG _ e;generalize g.push (PySem.W.kla_obj "<lambda>" (X.env.qual ++ "<lambda>") args f a (Q2 X.env.cells a.names []) ((X.mg "__name__").getD .none) d m)=Y at eO kk⊢;have k:∀b u,b≠P->s.heap.get? b=some u->Y.get? b=some u:=λb u n e=>kk b u (xb b u n e);have cr2:Y.CodeRec (.ref d) (X.env.qual ++ "<lambda>"):=by
   obtain⟨c1,o,vs,t,e1,ho,hd,hv⟩:=cr;exact⟨c1,o,vs,t,e1,kk _ _ ho,hd,hv⟩
  have M:=kk _ _ eP;have u1:IK H P (.tbl (A ++ #[rawInt pos.line,rawInt pos.col,.ref d])) d=none:=by rw[B6 G];exact L
  have u2:IK (IK H P (.tbl (A ++ #[rawInt pos.line,rawInt pos.col,.ref d]))) d (LP d (X.env.qual ++ "<lambda>")) g.objs.size=none:=by rw[B6 J,B6 p];exact j
  have N:=((I.hok.table C k M).track u1 (LP.ok cr2)).track u2 (OD.ok eO);have O:IK (IK (IK H P (.tbl (A ++ #[rawInt pos.line,rawInt pos.col,.ref d]))) d (LP d (X.env.qual ++ "<lambda>"))) g.objs.size (OD g.objs.size d (X.env.qual ++ "<lambda>") args f a (Q2 X.env.cells a.names [])) P=some (.tbl (A ++ #[rawInt pos.line,rawInt pos.col,.ref d])):=by rw[B6 p.symm,B6 G.symm,A9]
  have R:IK (IK (IK H P (.tbl (A ++ #[rawInt pos.line,rawInt pos.col,.ref d]))) d (LP d (X.env.qual ++ "<lambda>"))) g.objs.size (OD g.objs.size d (X.env.qual ++ "<lambda>") args f a (Q2 X.env.cells a.names [])) d=some (LP d (X.env.qual ++ "<lambda>")):=by rw[B6 J.symm,A9]
  have i:∀b o,H b=some o->b≠P->IK (IK (IK H P (.tbl (A ++ #[rawInt pos.line,rawInt pos.col,.ref d]))) d (LP d (X.env.qual ++ "<lambda>"))) g.objs.size (OD g.objs.size d (X.env.qual ++ "<lambda>") args f a (Q2 X.env.cells a.names [])) b=some o:=λb o e n=>by
   rw[B6 (B3 e j),B6 (B3 e L),B6 n];exact e
  refine⟨.ref g.objs.size,_,I.un (Un.more C O i (λb lb n=>?_) k ⟨_,M⟩) N,rfl,q _ d _ j ⟨_,O,?_,λl ml=>?_⟩ R A9 p i⟩
  .rw[B6 (u7 lb (Nat.le_trans le (DL Z))).symm,B6 (u7 lb le).symm,B6 (by intro z;rw[z,C]at n;cases n)];exact n
  .rw[BR];exact TriplesOk_snoc _ _ _ _ D
  .rw[BR];by_cases el:l =(pos,X.env.qual ++ "<lambda>")
   .subst el;exact .inr ⟨d,codeAmong_snoc _ D e,R⟩
   .have ne:¬(pos.line=l.1.line/\pos.col=l.1.col):=λz=>el (hu l ml _ hl z.1.symm z.2.symm);rw[show(#[rawInt pos.line,rawInt pos.col,Value.ref d]:CW A2).toList = [rawInt pos.line,rawInt pos.col,Value.ref d]from rfl,Cg _ D ne];rcases B l ml with z | ⟨cc,z,S⟩
    .exact .inl z
    .exact .inr ⟨cc,z,i _ _ S λy=>by rw[y,C]at S;cases S⟩
 .refine PySem.W.kla_makeFunctionHit (p8 r) I.ok.glob F V (T.hd _ I.kIn) v D e U λm g tk k le=>?_;have w:P<s.heap.objs.size:=AM v;have p:g.objs.size≠P:=u7 w le;have j:H g.objs.size=none:=I.hok.fresh le;have i:∀b o,H b=some o->IK H g.objs.size (OD g.objs.size d (X.env.qual ++ "<lambda>") args f a (Q2 X.env.cells a.names [])) b=some o:=λb o e=>by rw[B6 (B3 e j)];exact e
  refine⟨.ref g.objs.size,_,I.laid (t':=tk) (λb u e=>AG _ (k b u e)) le (OD.ok (AS _ rfl)),rfl,q _ d _ j ⟨A,i _ _ C,D,λl ml=>?_⟩ (i _ _ hc') A9 p λb o e _=>i b o e⟩;rcases B l ml with z | ⟨cc,z,S⟩
  .exact .inl z
  .exact .inr ⟨cc,z,i _ _ S⟩
structure N_(X:Cx)(base':IM)(σ:St):Prop where
 val:∀(i:Nat) (x:Str) (v:V) (c:A3),X.N[i]?=some x->σ[i]?=some (some v)->X.env.scope.names.lookup x=some .cell->X.env.cells.lookup x=some c->∃u,RelV v u/\base'.IsCell c (some u)
 inj:∀x y c,X.env.cells.lookup x=some c->X.env.cells.lookup y=some c->x=y
 has:∀x,X.env.scope.names.lookup x=some .cell->∃c,X.env.cells.lookup x=some c
def Ci(X:Cx)(h:IM):IM:=Uj h λb=>open Classical in if(X.base.get? b).isSome=true\/∃x,X.fn x=true/\X.env.cells.lookup x=some b then none else some (.own 0)
theorem Ij{h:IM}{b:A3}{o:Obj}(e:h.get? b=some o)(p:(X.base.get? b).isSome=true\/∃x,X.fn x=true/\X.env.cells.lookup x=some b):(Ci X h).get? b=some o:=Bb e (by rw[AL p])
theorem Ly{h:IM}{b:A3}{o:Obj}(e:(Ci X h).get? b=some o):h.get? b=some o/\((X.base.get? b).isSome=true\/∃x,X.fn x=true/\X.env.cells.lookup x=some b):=by
 obtain⟨c,a⟩:=Tq e;refine⟨c,FP λz=>?_⟩;rw[AJ z]at a;cases a
variable{pins:A1 (A3×Obj)}{σ:St}{H:Hp}{s:A4}
theorem Inv.wbs(I:Inv X pins σ H s){b:A3}{o:Obj}(e:X.base.get? b=some o):(Ci X s.heap).get? b=some o:=Ij (I.bk b o e) (.inl (by rw[e];rfl))
theorem Inv.wmod(I:Inv X pins σ H s):Mod X.K X.mg (Ci X s.heap):=by
 obtain⟨c,a,⟨g,h,d⟩,f⟩:=I.ok.mod;exact⟨c.keeps λb o e=>I.wbs e,a.keeps λb o e=>I.wbs e,⟨g,h.keeps λb o e=>I.wbs e,d⟩,f.keeps λb o e=>I.wbs e⟩
theorem Inv.cell_nofs(I:Inv X pins σ H s){x:Str}{c:A3}(a:X.fn x=true)(e:X.env.cells.lookup x=some c):c∉QD X.stack:=λz=>by
 rcases AK.mp (I.stkSub c z)with y | y
 .exact I.cne x c e y
 .obtain⟨_,o,b,_⟩:=I.ok.funs.mem y;exact absurd (AM b) (Nat.not_lt_of_le (I.ok.cab x c a e))
theorem Inv.wfuns(I:Inv X pins σ H s):s.heap.FunFrames (Ci X s.heap) X.stack:=by
 have a:∀l:A1 PR,(∀b∈QD l,b∈QD X.stack)->s.heap.FunFrames X.base l->s.heap.FunFrames (Ci X s.heap) l:=by
  intro l
  induction l with
  | nil=>intro _ _;trivial
  | cons e r f =>
   intro d g;obtain⟨i,⟨L,o,c,j,k,m⟩,n⟩:=g;have p:L∈QD X.stack:=d L (by unfold QD;rw[DR,c];exact BO);refine⟨i,⟨L,o,c,?_,k,m⟩,f (λb t=>d b (by unfold QD;rw[DR,c];exact BD _ t)) n⟩;cases q:(Ci X s.heap).get? L with
   | none=>rfl
   | some u =>
    rcases(Ly q).2 with z | ⟨x,z,y⟩
    .rw[j]at z;cases z
    .exact absurd p (I.cell_nofs z y)
 exact a X.stack (λ_ h=>h) I.stack
theorem Inv.wenv(I:Inv X pins σ H s):P7 X.prog X.w X.K X.mg (Ci X s.heap) X.A X.stack s H:=by
 refine⟨I.ok.frames,I.wmod,λb o e=>?_,Nat.le_of_eq (Ja _ _),I.wfuns,I.stkFree,I.hok,I.bare⟩;obtain⟨a,c⟩:=Ly e;refine⟨a,?_⟩;rcases c with z | ⟨x,_,y⟩
 .obtain⟨u,d⟩:=EE.mp z;exact(I.bs b u d).2
 .exact I.freeC x b y
theorem Inv.wcells(I:Inv X pins σ H s)(e:∀x,X.fn x=true):N_ X (Ci X s.heap) σ:=by
 refine⟨λi x v c f g a b=>?_,I.ok.inj,λx h=>I.ok.has x (.inl h)⟩;obtain⟨m,_,h⟩:=I.loc;obtain⟨u,r,l⟩:=h i x v f g (.inr (.inl a));refine⟨u,r,?_⟩;rcases l with⟨z,_⟩ | ⟨_,n,d,o,j,k⟩
 .rw[show X.env.kindOf x=some .cell from a]at z;cases z
 .rw[b]at d;cases d;exact⟨o,Ij j (.inr ⟨x,e x,b⟩),k⟩
end
structure NZ(N ps fr:A1 Str)(sc:JH):Prop where
 kind:sc.kind = .function
 co:sc.isCoroutine=false
 gen:sc.isGenerator=false
 eq:N=ps++fr
 nd:N.Nodup
 par:∀x∈ps,sc.names.lookup x=some .local
 fre:∀x∈fr,sc.names.lookup x=some .free
 nocell:∀y∈sc.names,y.2≠ .cell
 has:∀y∈sc.names,y.2 = .free->y.1∈fr
def Oe(P:A7)(w:F8)(K:PySem.W.Frag)(mg:Str->A5 A2)(base:IM)(N:A1 Str)(b:Str)(a:JH)(f:A3)(c:A2)(cl:A1 (Str×A3))(A:IR)(outer:A1 PR)(s:A4)(H:Hp):Cx where
 prog:=P
 w:=w
 K:=K
 mg:=mg
 base:=base
 A:=A.deeper (PySem.W.envX b a s.heap.objs.size f c cl)
 N:=N
 s₀:=s
 H₀:=H
 env:=PySem.W.envX b a s.heap.objs.size f c cl
 outer:=outer
 stack:=PySem.W.envX b a s.heap.objs.size f c cl::outer
 ex:=[]
 calm:=true
 fn:=λ_=>false
 pn:=[]
 xe:=λ_ _=>False
def Da{us:A1 A2}:∀{a:A1 Str} {us:A1 A2} {i:Nat} {x:Str} {u:A2},a.Nodup->a[i]?=some x->us[i]?=some u->(a.zip us).reverse.lookup x=some u
 | [],_,_,_,_,_,h,_=>by simp at h
 | _::_,[],_,_,_,_,_,h=>by simp at h
 | p::a,w::us,0,x,u,d,b,c=>by
  simp at b c;subst b c;rw[GM,List.reverse_cons,List.lookup_append];have:(a.zip us).reverse.lookup p=none:=by
   rw[List.lookup_eq_none_iff];intro q f;have:=(FR (List.mem_reverse.mp f)).1;simp;intro e;exact(BX.mp d).1 (e▸this)
  rw[this];simp
 | p::a,w::us,i+1,x,u,d,b,c=>by
  rw[GM,List.reverse_cons,List.lookup_append,Da (us:=us) (BX.mp d).2 (by simpa using b) (by simpa using c)];rfl
section
variable{P:A7}{w:F8}{K:PySem.W.Frag}{mg:Str->A5 A2}{base:IM}{N ps fr:A1 Str}{qual:Str}{scope:JH}{f c:A3}{cl:A1 (Str×A3)}{A:IR}{outer:A1 PR}{s:A4}{H:Hp}
structure QL(base:IM)(cl:A1 (Str×A3))(fr:A1 Str)(gs:A1 V):Prop where
 len:gs.length=fr.length
 val:∀(i:Nat) (x:Str) (v:V),fr[i]?=some x->gs[i]?=some v->∃c u,cl.lookup x=some c/\RelV v u/\base.IsCell c (some u)
 only:∀x c,cl.lookup x=some c->x∈fr
 inj:∀x y c,cl.lookup x=some c->cl.lookup y=some c->x=y
theorem Yv{us:A1 A2}{vs gs:A1 V}{h':IM}{J:Nat}(S:NZ N ps fr scope)(C:QL base cl fr gs)(g:A.handled=none)(a:P7 P w K mg base A outer s H)(G:vs.length=ps.length)(r:IV vs us)
  (ns:h'.Ns s.heap.objs.size λx=>(ps.zip us).reverse.lookup x) (k:∀b o,s.heap.get? b=some o->h'.get? b=some o) :
  Inv (Oe P w K mg base N qual scope f (.ref c) cl A outer s H) [] (vs.map some++gs.map some) H { s with heap:=h',toks:=J }:=by
 have j:∀x d,cl.lookup x=some d->∃u o,base.get? d=some o/\o.data = .cell (some u):=λx d e=>by
  obtain⟨i,q⟩:=GU.mp (C.only x d e);have t:i<gs.length:=by rw[C.len];exact(AE.mp q).1
  obtain⟨I,u,B,_,o,m,g⟩:=C.val i x gs[i] q (AC t);rw[e]at B;cases B;exact⟨u,o,m,g⟩
 have n:∀b:A3,b∉(Oe P w K mg base N qual scope f (.ref c) cl A outer s H).ex:=λb z=>absurd (show b∈([]:A1 A3)from z) (by simp);refine⟨⟨a.mod,S.kind,rfl,rfl,Nat.le_refl _,C.inj,λy hy=>?_,λy d z _=>?_,λ_=>g,Around.frames_deeper a.frames,.inr ⟨rfl,rfl⟩,λb z=>absurd z (n b),a.bs,a.bsz,λb _ _=>n b,λb z=>absurd z (n b),a.funs,a.frf⟩,
  rfl,a.bare,Un.kept k,⟨_,ns,λi y v l D T=>?_⟩,λy d h=>?_,a.hok.fresh (Nat.le_refl _),λy d h=>?_,λp L=>absurd (show p∈([]:A1 (A3×Obj))from L) (by simp),a.hok.kept k,?_⟩
 .have hy:scope.names.lookup y=some .cell\/scope.names.lookup y=some .free:=hy;rcases hy with hy | hy
  .exact absurd rfl (S.nocell _ (PySem.mem_of_lookup hy))
  .obtain⟨i,q⟩:=GU.mp (S.has _ (PySem.mem_of_lookup hy) rfl);have t:i<gs.length:=by rw[C.len];exact(AE.mp q).1
   obtain⟨I,_,B,_⟩:=C.val i y gs[i] q (AC t);exact⟨I,B⟩
 .cases(show false=true from z)
 .have l:(ps++fr)[i]?=some y:=by rw[<-S.eq];exact l
  have M:(ps++fr).Nodup:=by rw[<-S.eq];exact S.nd
  by_cases t:i<vs.length
  .rw[EA (by rw[AB];exact t),AH]at D;rw[EA (by lia)]at l;obtain⟨O,E,e⟩:=AQ.mp D;cases e;obtain⟨u,Q,F⟩:=r.get E;exact⟨u,F,.inl ⟨S.par y (AI l),Da (us:=us) (DK.mp M).1 l Q⟩⟩
  .rw[DW (by rw[AB];lia),AH,AB]at D;rw[DW (by lia)]at l;obtain⟨O,E,e⟩:=AQ.mp D;cases e;rw[G]at E;obtain⟨d,u,R,F,o,m,g⟩:=C.val _ y v l E;exact⟨u,F,.inr ⟨.inr (S.fre y (AI l)),d,R,o,k _ _ (a.bs _ _ m).1,g⟩⟩
 .obtain⟨u,o,m,g⟩:=j y d h;exact⟨_,o,k _ _ (a.bs _ _ m).1,g⟩
 .obtain⟨u,o,m,g⟩:=j y d h;exact(a.bs _ _ m).2
 .show _=N.length;rw[S.eq,AW,AB,AB,AW,G,C.len]
theorem zEd{args:Arguments}{a:IQ}{k:Nat}{gs:A1 V}{sp:Sp}{L ct:A2}(S:NZ N ps fr scope)(C:QL base cl fr gs)(i:∀vs H Q E,sp vs H Q E->vs.length=ps.length)
  (l:∀vs H Q E,sp vs H Q E->H f=some (OD f c qual args a scope cl)/\H c=some (LP c qual))
  (d:∀(A:IR) (outer:A1 PR) (s:A4) (H:Hp) (vs:A1 V) (Q:VK) (E:XK),JQ k (A.deeper (PySem.W.envX qual scope s.heap.objs.size f (.ref c) cl))->sp vs H Q E ->
   ∃t,PE (Oe P w K mg base N qual scope f (.ref c) cl A outer s H) a t/\t (vs.map some++gs.map some) H Q) :
  IU P w K mg base JE (k+1) f (PySem.W.kla_fn "<lambda>" qual args a scope cl L (.ref c) ct) ps sp:=by
 refine⟨i,λA outer s H g m vs Q E p j M r h=>?_⟩;have O:=i _ _ _ _ h;obtain⟨R,T⟩:=l _ _ _ _ h;obtain⟨⟨q,x,U⟩,_⟩:=(show IZ P w H s.heap f (OD f c qual args a scope cl)from j.hok f _ R);obtain⟨X,_⟩:=(show IZ P w H s.heap c (LP c qual)from j.hok c _ T);have z:s.heap.NoLimit:=j.mod.nolimit.keeps λb o e=>(j.bs b o e).1;have Y:∀y∈ps.zip m,scope.names.lookup y.1=some .local:=λ⟨n,v⟩ Z=>S.par n (FR Z).1;have B:BindsTo s (PySem.W.kla_fn "<lambda>" qual args a scope cl q (.ref c) x) g (ps.zip m):=M;refine PySem.W.kla_callFunE p.depth U rfl S.co S.gen rfl X (B _ _ _ _ ?_);refine wpAny_newFunctionEnv S.nocell Y (λF ns sb=>?_) S.kind;have G:∀b o,s.heap.get? b=some o->F.get? b=some o:=λb o e=>by
  rw[sb.2 b (BI (AM e))];exact AG _ e
 refine⟨z.keeps G,PySem.W.kla_codeExpr ?_⟩;obtain⟨t,ht,hq⟩:=d A outer s H vs Q E (p.deeper _) h;have I:Inv (Oe P w K mg base N qual scope f (.ref c) cl A outer s H) [] (vs.map some++gs.map some) H { s with heap:=F,toks:=s.toks +(ps.zip m).length }:=Yv S C p.hd j O r ns G;refine B_ (ht [] _ _ H Q I hq) (λu s' D=>?_) λe s' D=>D.elim;obtain⟨v,H',J,rv,qv⟩:=D;exact⟨v,H',J.os,J.bare,J.base,J.hok,rv,qv⟩
theorem Lz{cells:A1 (Str×A3)}:∀{names:A1 (Str×KH)} {cs:A1 (Str×A3)} {x:Str} {c:A3},(Q2 cells names cs).lookup x=some c->((x,NameKind.free)∈names/\c =(cells.lookup x).getD 0)\/cs.lookup x=some c
 | [],_,_,_,h=>.inr h
 | (n,k)::r,cs,x,c,h=>by
  rcases Lz (names:=r) h with⟨z,e⟩ | z
  .exact .inl ⟨BD _ z,e⟩
  .by_cases f:(k == NameKind.free)=true
   .rw[AL f]at z;by_cases e:x=n
    .subst e;rw[List.lookup_cons_self]at z;cases z;exact .inl ⟨by rw[eq_of_beq f];exact BO ..,rfl⟩
    .rw[IB,show(x == n)=false from by simpa using e]at z;exact .inr z
   .rw[AJ f]at z;exact .inr z
theorem Lh{cells:A1 (Str×A3)}{x:Str}:∀{names:A1 (Str×KH)} {cs:A1 (Str×A3)},(x,NameKind.free)∈names\/(∃c,cs.lookup x=some c)->∃c,(Q2 cells names cs).lookup x=some c
 | [],_,h=>h.resolve_left (by simp)
 | (n,k)::r,cs,h=>by
  refine Lh (names:=r) ?_;by_cases e:x=n
  .by_cases f:(k == NameKind.free)=true
   .subst e;exact .inr ⟨_,by rw[AL f,List.lookup_cons_self]⟩
   .rw[AJ f];rcases h with z | z
    .rcases AK.mp z with y | y
     .cases y;exact absurd rfl f
     .exact .inl y
    .exact .inr z
  .rcases h with z | ⟨c,z⟩
   .rcases AK.mp z with y | y
    .cases y;exact absurd rfl e
    .exact .inl y
   .refine .inr ⟨c,?_⟩;by_cases f:(k == NameKind.free)=true
    .rw[AL f,IB,show(x == n)=false from by simpa using e];exact z
    .rw[AJ f];exact z
theorem N_.clos{X:Cx}{a:IM}{σ:St}{fr:A1 Str}{gs:A1 V}{names:A1 (Str×KH)}(h:N_ X a σ)(n:∀y∈names,y.2=NameKind.free->y.1∈fr)(o:∀x∈fr,(x,NameKind.free)∈names)(g:∀x∈fr,X.env.scope.names.lookup x=some .cell)(f:gs.length=fr.length)
  (p:∀(i:Nat) (x:Str) (v:V),fr[i]?=some x->gs[i]?=some v->∃j:Nat,X.N[j]?=some x/\σ[j]?=some (some v)):QL a (Q2 X.env.cells names []) fr gs:=by
 have b:∀{x c},(Q2 X.env.cells names []).lookup x=some c->x∈fr/\X.env.cells.lookup x=some c:=fun{x c} e=>by
  rcases Lz e with⟨z,y⟩ | z
  .have m:=n _ z rfl;obtain⟨d,k⟩:=h.has x (g x m);rw[k]at y;rw[k,y];exact⟨m,rfl⟩
  .cases z
 refine⟨f,λi x v l q=>?_,λx c e=>(b e).1,λx y c s t=>h.inj x y c (b s).2 (b t).2⟩;have m:=AI l;obtain⟨c,e⟩:=Lh (cells:=X.env.cells) (cs:=[]) (.inl (o x m));obtain⟨j,w,A⟩:=p i x v l q;obtain⟨u,r,B⟩:=h.val j x v c w A (g x m) (b e).2;exact⟨c,u,e,r,B⟩
end
def QA.okC{P:A7}{w:F8}{K:PySem.W.Frag}{mg:Str->A5 A2}{base:IM}{x b:Str}{st:I7}{f:A3}{e:JA}{N g:A1 Str}{k:Nat}{sp:Sp}(F:QA K x b st f e)(S:IL N g (B7 st))(i:∀vs H Q E,sp vs H Q E->vs.length=g.length)
  (d:∀(c:A2) (A:IR) (a:A1 PR) (s:A4) (H:Hp) (vs:A1 V) (Q:VK) (E:XK),e.code=c->JQ k (A.deeper (envOfC b (B7 st) s.heap.objs.size f c))->sp vs H Q E ->
   ∃t,QN (Vv JE P w K mg base N b (B7 st) f c A a s H E).nox (P4 st) t/\t { nx:=λ_ H'=>Q .non H',rt:=Q } (Bl N vs) H):IU P w K mg base JE (k+1) f e g sp:=by
 obtain⟨p,r,kV,m,u,v,c,y,n,rfl,lk,j⟩:=F.ex;refine zBr lk j S i λA a s H vs Q E o l=>?_;obtain⟨t,h,q⟩:=d c A a s H vs Q E rfl o l;exact⟨t,h.nox,q⟩
def Ue{P:A7}{w:F8}{K:PySem.W.Frag}{mg N:Str->A5 A2}{k:Nat}{fa a:A3}{fd:JA}{x:Str}{sp:Sp}{s₁:A4}{vs:A1 A2}{ns:A1 Int}{ts:A1 A3}
  (f:∀p∈ts,s₁.heap.get? p=some (PySem.W.tabObj #[])) (O:∀p∈ts,isCodeTable s₁.heap p) (Q:∀p∈ts,s₁.heap.BuiltinsAt mg p) (t:∀p∈ts,K.lookup p=none)
  (KX:K.In s₁.heap) (y:s₁.heap.Ns mainGlobals mg) (R:s₁.heap.Ns builtinsNs N) (S:∀x:Str,x≠ "__name__"->N x=bootBuiltins x) (A:s₁.heap.NoLimit) (hg:s₁.gens = #[])
  (l:s₁.heap.get? a=some { cls:=.type "list",data:=.seq vs.toArray }) (hi:IntsAre vs ns) (hl:ns.length<=sizeLine) (hr:JQ k callerA)
  (F:∀base:IM,K.In base->base.Ns mainGlobals mg->(∀p∈ts,base.BuiltinsAt mg p)->IU P w K mg base JE k fa fd [x] sp) (j:∀(s:A4) (u:A2),BindsTo s fd ⟨[u],[]⟩ [(x,u)])
  (T:∀H:Hp,(∀p∈ts,H p=some (.tbl #[]))->IS K H a (ns.map V.int)->sp [.ref a] H (λv _=>v = .bl true) λ_ _ _=>False) :
  codeAny (model P w) callerA (.call (.ref fa) ⟨[.ref a],[]⟩) (λr B=>r = .ok (.ret (.bool true))/\OldK s₁.heap B.heap/\B.os=s₁.os/\AllBare B.gens) s₁:=by
 have rv:=Ik hi;have U:a∉ts:=λz=>by
  have:=f a z;rw[l]at this;cases this
 obtain⟨H,hT,hS,X,ok,hK⟩:∃H:Hp,(∀p∈ts,H p=some (.tbl #[]))/\IS K H a (ns.map V.int)/\(∀b o,H b=some o->(b∈ts/\o = .tbl #[])\/(b=a/\∃Y xs,o = .frz Y (.lst xs)))/\MO P w H s₁.heap/\∀b,H b≠none->K.lookup b=none:=by
  cases Z:K.lookup a with
  | some o =>
   have e:=KX a o Z;rw[l]at e;cases e;refine⟨λb=>if b∈ts then some (.tbl #[])else none,λp n=>AL n,.inr ⟨_,vs.toArray,_,Z,rfl,rfl,rfl,by rw[AV,hi.length];exact hl,by simpa using rv⟩,λb o e=>?_,λb o e=>?_,λb e=>?_⟩
   .dsimp only at e;by_cases c:b∈ts
    .rw[AL c]at e;cases e;exact .inl ⟨c,rfl⟩
    .rw[AJ c]at e;cases e
   .dsimp only at e;by_cases c:b∈ts
    .rw[AL c]at e;cases e;exact f b c
    .rw[AJ c]at e;cases e
   .by_cases c:b∈ts
    .exact t b c
    .exact absurd (AJ c) e
  | none =>
   refine⟨λb=>if b=a then some (.frz { cls:=.type "list",data:=.seq vs.toArray } (.lst (ns.map V.int)))else if b∈ts then some (.tbl #[])else none,λp n=>?_,.inl (.inr ⟨{ cls:=.type "list",data:=.seq vs.toArray },AL rfl⟩),λb o e=>?_,λb o e=>?_,λb e=>?_⟩
   .show(if p=a then _ else if p∈ts then _ else _)=_;have np:p≠a:=λz=>U (z▸n);rw[AJ np,AL n]
   .dsimp only at e;by_cases d:b=a
    .rw[AL d]at e;cases e;exact .inr ⟨d,_,_,rfl⟩
    .rw[AJ d]at e;by_cases c:b∈ts
     .rw[AL c]at e;cases e;exact .inl ⟨c,rfl⟩
     .rw[AJ c]at e;cases e
   .dsimp only at e;by_cases d:b=a
    .rw[AL d]at e;cases e;subst d;exact⟨l,by rw[AB];exact hl,vs,_,rv,l⟩
    .rw[AJ d]at e;by_cases c:b∈ts
     .rw[AL c]at e;cases e;exact f b c
     .rw[AJ c]at e;cases e
   .by_cases d:b=a
    .rw[d];exact Z
    .by_cases c:b∈ts
     .exact t b c
     .exact absurd ((AJ d).trans (AJ c)) e
 have nod:∀{b:A3} {o:Obj} {I:CW DictEntry} {J:Nat},s₁.heap.get? b=some o->o.data = .dict I J->H b=none:=fun{b o I J} e d=>by
  cases q:H b with
  | none=>rfl
  | some u =>
   rcases X b u q with⟨z,_⟩ | ⟨z,_⟩
   .rw[f b z]at e;cases e;cases d
   .rw[z,l]at e;cases e;cases d
 have g:∀{b:A3} {m:Str->A5 A2},s₁.heap.Ns b m->(Uj s₁.heap H).Ns b m:=fun{b m} ⟨o,I,J,e,d,r⟩=>⟨o,I,J,Bb e (nod e d),d,r⟩;have hBb:∀p∈ts,(Uj s₁.heap H).BuiltinsAt mg p:=λp n=>by
  obtain⟨L,o,h1,h2,h3,h4,C,h6,h7,h8⟩:=Q p n;refine⟨L,o,h1,h2,h3,h4,Bb C ?_,h6,h7,h8⟩;cases q:H L with
  | none=>rfl
  | some u =>
   rcases X L u q with⟨z,_⟩ | ⟨z,_⟩
   .rw[f L z]at C;cases C;cases h8
   .rw[z,l]at C;cases C;cases h8
 have D:K.In (Uj s₁.heap H):=λb o e=>Bb (KX b o e) (by
  cases q:H b with
  | none=>rfl
  | some u=>rw[hK b (by rw[q];simp)]at e;cases e)
 have hM:Mod K mg (Uj s₁.heap H):=⟨D,g y,⟨N,g R,S⟩,let⟨mc,h1,h2⟩:=A;⟨mc,g h1,h2⟩⟩;have e0:P7 P w K mg (Uj s₁.heap H) callerA [] s₁ H:=⟨rfl,hM,λb o e=>Tq e,Nat.le_of_eq (Ja _ _),trivial,λb R=>absurd (show b∈([]:A1 A3)from R) (by simp),ok,.of_eq hg⟩;refine codeAny_mono ((F _ D (g y) hBb).run callerA [] s₁ H ⟨[.ref a],[]⟩ [.ref a] [.ref a] _ _ hr e0 (j s₁ (.ref a)) (.cons rfl .nil) (T H hT hS)) λr B h=>?_;cases r with
 | error e=>exact h.elim
 | ok fl =>
  cases fl with
  | next=>exact False.elim h
  | brk=>exact False.elim h
  | cont=>exact False.elim h
  | ret u =>
   obtain⟨v,H',os,E,M,G,r',q⟩:=h;have q':v = .bl true:=q;subst q';obtain rfl:u=Value.bool true:=r';refine⟨rfl,⟨λb o e=>?_,λb o e=>M.there b o e (by simp)⟩,os,E⟩;cases q:H b with
   | none=>exact .inl (M.keep b o e q (λz=>absurd (show b∈([]:A1 A3)from z) (by simp)) (by simp))
   | some u =>
    rcases X b u q with⟨z,rfl⟩ | ⟨_,Y,xs,rfl⟩
    .obtain⟨i,em⟩:=M.tbls b _ q;have e2:B.heap.get? b=some { cls:=.none,data:=.fields (#[]++i) }:=G b _ em;rw[f b z]at e;cases e;exact .inr (.inl ⟨O b z,rfl,#[],i,rfl,e2⟩)
    .obtain⟨e1,_⟩:=ok b _ q;obtain⟨e2,_⟩:=G b _ (M.frzs b Y _ q);rw[e]at e1;cases e1;exact .inl e2
def RD{l:PySem.W.OpenLaw}{n k:Nat}{q:A7}{e:A1 Str}{O:(Str->A5 A2)->IM->Prop}{t:F8->IM->Prop}{d:DefRec}{K:Params->PySem.W.Frag}{sp:F8->Sp}{x:Str}{ts:A1 A3}
  (P:l.most=some n) (y:n<=sizeLine) (A:d.params.defaults = []) (Q:JQ k callerA) (R:∀(w:F8) (h:IM),t w h->(K w.params).In h) (j:∀(w:F8) (h:IM),t w h->∀p∈ts,h.get? p=some (PySem.W.tabObj #[]))
  (F:∀(w:F8) (mg:Str->A5 A2) (r:A3) (h:IM),(K w.params).In h->h.Ns mainGlobals mg->mg d.name=some (.ref r) ->
   (∀p∈ts,isCodeTable h p)/\(∀p∈ts,(K w.params).lookup p=none)/\∃B:JA,(∀(s:A4) (u:A2),BindsTo s B ⟨[u],[]⟩ [(x,u)]) /\
    ∀base:IM,(K w.params).In base->base.Ns mainGlobals mg->(∀p∈ts,base.BuiltinsAt mg p)->IU l.prog w (K w.params) mg base JE k r B [x] (sp w))
  (C:∀(w:F8) (H:Hp) (a:A3) (ns:A1 Int),ns.length<=n->(∀p∈ts,H p=some (.tbl #[]))->IS (K w.params) H a (ns.map V.int)->sp w [.ref a] H (λv _=>v = .bl true) λ_ _ _=>False) :
  PySem.W.WalkO q e O t l.row.toRowW d [] (λf vs=>PySem.call f vs):=by
 refine Att.QF P A λw s₀ s₁ mg mb r o pm cd S a vs ns G Y ho hd U D m i c X=>?_;have L:=R w _ Y;obtain⟨Z,h2,B,hb,hF⟩:=F w mg r _ L G.T.g D;have E:∀p∈ts,s₁.heap.BuiltinsAt mg p:=λp hp=>by
  obtain⟨bm,o,b1,b2,I,b4,b5,J⟩:=G.T.bmain;refine⟨bm,o,b1,b2,λz=>?_,λz=>?_,I,b4,b5,J⟩
  .obtain⟨o',es,ep,M,N,_⟩:=G.T.g;rw[<-z,I]at M;cases M;rw[J]at N;cases N
  .have:=j w _ Y p hp;rw[<-z,I]at this;cases this;cases J
 exact Ue (j w _ Y) Z E h2 L G.T.g G.T.b G.T.builtins G.T.nolimit X m i (Nat.le_trans c y) Q hF hb λH hO hS=>C w H a ns c hO hS
section
variable{prog:A7}{w:F8}{A:IR}{s:A4}{I:A3}{fp wr:A1 A3}{n:Nat}{P:Nat->A2->Prop}{St:Nat->IM->Prop}{R:Result->A4->Prop}
theorem Gu{id:String}{b:Builtin}{args:A1 A2}{d:A1 (Str×A2)}{Q E:A2->A4->Prop}(k:builtinKind id=none)(l:plainId id=true)(m:entryFor table id=some b)(n:argsOk id ⟨args,d⟩)
  (i:wpAny (model prog w) A.in1 (b ⟨args,d⟩) (λfin a=>match fin with
   | .done f=>(match(Except.ok f:Result)with | .ok (.ret v)=>Q v a | .ok _=>False | .error e=>E e a)
   | .again j=>j.quiet=true/\codeAny (model prog w) A j (λr a=>match r with | .ok (.ret v)=>Q v a | .ok _=>False | .error e=>E e a) a) E s) :
  wpAny (model prog w) A (call (.builtin id) args d) Q E s:=by
 refine wpAny_call (codeAny_call_builtin l m ?_);simp only[checkBuiltinCall,k];cases c:Manifest.signature? id with
 | none=>exact AF i
 | some g =>
  have h:Bind.checkArgs id g ⟨args,d⟩=pure ():=by simpa only[argsOk,c] using n
  simp only[h];exact AF i
end
def Cx.i1(X:Cx):Cx:={ X with A:=X.A.in1,xe:=λ_ _=>False }
section
variable{X:Cx}{pins:A1 (A3×Obj)}{σ:St}{H:Hp}{s:A4}
theorem Cx.Ok.i1(a:X.Ok):X.i1.Ok :=
 ⟨a.mod,a.kind,a.glob,a.blt,a.above,a.inj,a.has,a.cab,a.hd,a.frames,a.stk,a.exf,a.bs,a.bsz,a.noex,a.exfs,a.funs,a.frf⟩
theorem Cx.Ok.o1(a:X.i1.Ok):X.Ok :=
 ⟨a.mod,a.kind,a.glob,a.blt,a.above,a.inj,a.has,a.cab,a.hd,a.frames,a.stk,a.exf,a.bs,a.bsz,a.noex,a.exfs,a.funs,a.frf⟩
theorem Inv.i1(I:Inv X pins σ H s):Inv X.i1 pins σ H s:=⟨I.ok.i1,I.os,I.bare,I.base,I.loc,I.cell,I.free,I.freeC,I.pin,I.hok,I.len⟩
theorem Inv.o1(I:Inv X.i1 pins σ H s):Inv X pins σ H s:=⟨I.ok.o1,I.os,I.bare,I.base,I.loc,I.cell,I.free,I.freeC,I.pin,I.hok,I.len⟩
def OQ(X:Cx)(pins:A1 (A3×Obj))(b:A3):Prop:=(b∈X.ex\/X.s₀.heap.objs.size<=b)/\(∀x c,X.env.cells.lookup x=some c->c≠b)/\∀p∈X.pn++pins,p.1≠b
theorem OQ.turned{t':Nat}{a:A3}{h':IM}(o:OQ X pins a)(I:Inv X pins σ H s)(c:H a=none)(d:a≠X.env.locals)(k:∀b o,b≠a->s.heap.get? b=some o->h'.get? b=some o):Inv X pins σ H { s with heap:=h',toks:=t' } :=
 I.turned k c d o.1 o.2.1 o.2.2
end
def Jg(a:Nat->A1 Int):Nat->Nat
 | 0=>0
 | n+1=>if HT.lexLt (a (n+1)) (a (Jg a n))=true then n+1 else Jg a n
def Ty(a:Nat->A1 Int):∀n,Jg a n<=n
 | 0=>Nat.le_refl _
 | n+1=>by
  unfold Jg;split
  .exact Nat.le_refl _
  .exact Nat.le_succ_of_le (Ty a n)
section
variable{X:Cx}{pins:A1 (A3×Obj)}{σ:St}{l I S f:A3}{cs:A1 A3}{xs:A1 V}{kf:Nat->A1 Int}{G:Hp->Prop}{R:Result->A4->Prop}
def zFm(X:Cx)(cs:A1 A3)(σ:St)(f:A3)(xs:A1 V)(kf:Nat->A1 Int)(G:Hp->Prop):Prop:=∀(j:Nat) (x:V) (u:A2) (pins:A1 (A3×Obj)) (s:A4) (H:Hp),xs[j]?=some x->RelV x u->Inv X pins σ H s->G H ->
 wpAny (model X.prog X.w) X.A (call (.ref f) [u]) (EP X pins σ λv b=>∃a,v = .ref a/\a∉cs/\Sm cs H b/\G b/\JJ X.K b a ((kf j).map V.int)) X.xe s
theorem Ba{X:Cx}{pins:A1 (A3×Obj)}{σ:St}{H:Hp}{s:A4}{S I:A3}{a oI:Obj}(J:Inv X ((S,a) ::(I,oI)::pins) σ H s) :
  (s.heap.get? S=some a/\H S=none/\S≠X.env.locals/\S∉X.fs/\∀v,a.data≠ .cell v)/\(s.heap.get? I=some oI/\H I=none/\I≠X.env.locals/\I∉X.fs/\∀v,oI.data≠ .cell v)/\Inv X pins σ H s :=
 ⟨J.pin (S,a) (BG _ (.head _)),J.pin (I,oI) (BG _ (.tail _ (.head _))),J.pins_of λp b=>J.pin p (BG _ (.tail _ (.tail _ b)))⟩
theorem Wr{X:Cx}{pins:A1 (A3×Obj)}{σ:St}{H:Hp}{s:A4}{S I:A3}{a oI:Obj}(J:Inv X pins σ H s)(b:s.heap.get? S=some a/\H S=none/\S≠X.env.locals/\S∉X.fs/\∀v,a.data≠ .cell v)
  (c:s.heap.get? I=some oI/\H I=none/\I≠X.env.locals/\I∉X.fs/\∀v,oI.data≠ .cell v):Inv X ((S,a) ::(I,oI)::pins) σ H s:=J.pins_of λp hp=>by
 rcases AK.mp hp with rfl | hp
 .exact b
 rcases AK.mp hp with rfl | hp
 .exact c
 exact J.pin p (BG _ hp)
theorem Pz(hc:X.calm=true)(hu:X.A.units+1<cLine)(turn:zFm X.i1 cs σ f xs kf G)(hG:∀H,G H->IS X.K H l xs)(oI:OQ X pins I)(oS:OQ X pins S)(y:S≠I)(U:l≠I) :
  ∀(r j:Nat) (s:A4) (H:Hp) (P:A2) (b:A3) (c:Nat) (ob:Obj),xs.length-(j+1)=r->j+1<=xs.length->Inv X.i1 ((S,seqObj "list" #[P,.ref b] c) ::(I,ob)::pins) σ H s->s.heap.IsListIter I l (j+1) ->
   RelV (xs.getD (Jg kf j) .non) P->b∉cs->JJ X.K H b ((kf (Jg kf j)).map V.int)->G H ->
   (∀u Q H',Inv X pins σ H' Q->RelV (xs.getD (Jg kf (xs.length-1)) .non) u->Sm cs H H'->G H'->R (.ok (.ret u)) Q) ->
   codeAny (model X.prog X.w) X.A (.builtin "min.loop" ⟨[.ref I,.ref f,.ref S],[]⟩) R s:=by
 have n:(toString "min" ++ toString ".loop":String) = "min.loop":=by decide
 intro r
 induction r with
 | zero =>
  intro j s H P b c ob hr hj J L rb nb x g hR;have ej:j=xs.length-1:=by lia
  obtain⟨D,E,Y⟩:=Ba J;obtain⟨m,rv,pl,hz⟩:=J.list (hG H g);have p:m.toArray.size=xs.length:=by rw[AV];exact rv.length.symm
  have W:=Walks.list (prog:=X.prog) (w:=X.w) (A:=X.A.in1) (show X.A.in1.handled=none from Y.o1.ok.hd hc) I l U m.toArray;refine HN PySem.F.entry_min_loop ?_;rw[Around.under_plainId PySem.F.plain_min_loop _];show wpAny _ X.A.in1 (seqItems? (.ref S) >>= _) _ _ _;refine AA (DN D.1 rfl ?_);show wpAny _ X.A.in1 (tryCatch (pyNext (.ref I)) _ >>= _) _ _ _;refine AA (GC (W.done _ _ _ ⟨by rw[p,show xs.length=j+1 by lia];exact L,pl.isList⟩ λh' M q=>?_));have J1:Inv X.i1 pins σ H { s with heap:=h',toks:=M }:=OQ.turned (X:=X.i1) oI Y E.2.1 E.2.2.1 λb o x e=>q b o (by simpa using x) e;have hS':=q S _ (by simpa using y) D.1;show wpAny _ X.A.in1 (updateSeq S (λ_=>#[]) >>= _) _ _ _;refine AA ?_;refine HP hS' rfl (AA (II (AF ?_)));refine hR P _ H (OQ.turned (X:=X.i1) oS J1 D.2.1 D.2.2.1 λb o x e=>(CJ _ _ (Ne.symm x)).trans e).o1 (by rw[<-ej];exact rb) (Sm.refl _ _) g
 | succ r ih =>
  intro j s H P b c ob hr hj J L rb nb x g hR;have B:j+1<xs.length:=by lia
  obtain⟨D,E,Y⟩:=Ba J;obtain⟨m,rv,pl,hz⟩:=J.list (hG H g);have p:m.toArray.size=xs.length:=by rw[AV];exact rv.length.symm
  have W:=Walks.list (prog:=X.prog) (w:=X.w) (A:=X.A.in1) (show X.A.in1.handled=none from Y.o1.ok.hd hc) I l U m.toArray;refine HN PySem.F.entry_min_loop ?_;rw[Around.under_plainId PySem.F.plain_min_loop _];show wpAny _ X.A.in1 (seqItems? (.ref S) >>= _) _ _ _;refine AA (DN D.1 rfl ?_);show wpAny _ X.A.in1 (tryCatch (pyNext (.ref I)) _ >>= _) _ _ _;refine AA (GC (W.item (j+1) _ _ _ (by rw[p];exact B) ⟨L,pl.isList⟩ λv h' M hP Z q=>?_));have hv:m[j+1]?=some v:=by simpa using hP
  have ex:xs[j+1]?=some xs[j+1]:=AC B;obtain⟨v',hv',rx⟩:=rv.get ex;rw[hv]at hv';cases hv';obtain⟨t,hob',hoc,N⟩:=id Z.1;have J1:Inv X.i1 pins σ H { s with heap:=h',toks:=M }:=OQ.turned (X:=X.i1) oI Y E.2.1 E.2.2.1 λb o x e=>q b o (by simpa using x) e;have J2:=Wr J1 (S:=S) (I:=I) (oI:=t) ⟨q S _ (by simpa using y) D.1,D.2⟩ ⟨hob',E.2.1,E.2.2.1,E.2.2.2.1,λv z=>by rw[N]at z;cases z⟩;show wpAny _ X.A.in1 (tryCatch (holding [v] (call (.ref f) [v])) _ >>= _) _ _ _;refine AA (GC (CA (B_ (turn (j+1) _ v _ _ _ ex rx J2 g) (λu2 s2 he=>?_) λ_ _ hF=>False.elim hF)));obtain⟨v2,H2,J3,r2,a,rfl,na,sm,g2,ha⟩:=he;cases r2;have hb2:JJ X.K H2 b ((kf (Jg kf j)).map V.int):=x.imp (λh=>h.imp (λe=>sm _ _ e nb) λ⟨o,e⟩=>⟨o,sm _ _ e nb⟩) id;show wpAny _ X.A.in1 (tryCatch (holding [v,.ref a] (richCompare .Lt (.ref a) (.ref b) >>= _)) _ >>= _) _ _ _;refine AA (GC (CA (AA (B_ (zCu (X:=X.i1) hu _ s2 σ H2 (.ref a) (.ref b) (.ref a) (.ref b) (λv H'=>v = .bl (HT.lexLt (kf (j+1)) (kf (Jg kf j)))/\H'=H2) J3 rfl rfl ⟨a,b,_,_,rfl,rfl,ha,hb2,rfl,rfl⟩) (λu3 s3 he=>?_) λ_ _ hF=>False.elim hF))));obtain⟨v3,H3,J4,r3,rfl,rfl⟩:=he;cases r3;refine AA (CA (DI ?_));refine AA (II (AF ?_));obtain⟨d,C,J5⟩:=Ba J4;have T:Jg kf (j+1)=if HT.lexLt (kf (j+1)) (kf (Jg kf j))=true then j+1 else Jg kf j:=rfl
  cases hb':HT.lexLt (kf (j+1)) (kf (Jg kf j))with
  | true =>
   rw[hb',AL rfl]at T;simp only[GH];refine AA ?_;refine HP d.1 rfl (AA (II ?_));rw[n];have k:∀b o,b≠S->s3.heap.get? b=some o->(s3.heap.update S (Obj.mapSeq λ_=>#[v,.ref a])).get? b=some o:=λb o x e=>(CJ _ _ (Ne.symm x)).trans e;have J6:=OQ.turned (X:=X.i1) (t':=s3.toks) oS J5 d.2.1 d.2.2.1 k;obtain⟨c2,hc2⟩:∃c2,(s3.heap.update S (Obj.mapSeq λ_=>#[v,.ref a])).get? S=some (seqObj "list" #[v,.ref a] c2):=⟨_,get?_update_seq d.1 λ_=>#[v,.ref a]⟩;refine AF ⟨plainId_quiet PySem.F.plain_min_loop _,ih (j+1) _ H3 v a c2 t (by lia) B (Wr J6 ⟨hc2,d.2.1,d.2.2.1,d.2.2.2.1,λv z=>by cases z⟩ ⟨k _ _ (Ne.symm y) C.1,C.2⟩) ⟨t,k _ _ (Ne.symm y) C.1,hoc,N⟩ ?_ na ?_ g2 λu Q H' i r' O g'=>hR u Q H' i r' (sm.trans O) g'⟩
   .rw[T,AY,ex];exact rx
   .rw[T];exact ha
  | false =>
   rw[hb',AJ (by simp)]at T;simp only[A_,CY];refine AA (II ?_);rw[n];refine AF ⟨plainId_quiet PySem.F.plain_min_loop _,ih (j+1) _ H3 P b c t (by lia) B J4 ⟨t,C.1,hoc,N⟩ ?_ nb ?_ g2 λu Q H' i r' O g'=>hR u Q H' i r' (sm.trans O) g'⟩
   .rw[T];exact rb
   .rw[T];exact hb2
theorem Uf(a v:A2):argsOk "min" ⟨[a],[("key",v)]⟩:=by unfold argsOk;kernel_rfl
theorem Ry{H:Hp}{s:A4}{Q:VK}(hc:X.calm=true)(hu:X.A.units+1<cLine)(turn:zFm X.i1 cs σ f xs kf G)(hG:∀H,G H->IS X.K H l xs)(J:Inv X pins σ H s)(g:G H)(hx:xs≠[])
  (h:∀H',Sm cs H H'->G H'->Q (xs.getD (Jg kf (xs.length-1)) .non) H'):wpAny (model X.prog X.w) X.A (call (.builtin "min") [.ref l] [("key",.ref f)]) (EP X pins σ Q) X.xe s:=by
 have j:(toString "min" ++ toString ".loop":String) = "min.loop":=by decide
 obtain⟨n,rv,pl,hz⟩:=J.list (hG H g);have t:=pl.isList;obtain⟨ol,U,_⟩:=id t;have V:l<s.heap.objs.size:=AM U;have E:n.toArray.size=xs.length:=by rw[AV];exact rv.length.symm
 have m:0<xs.length:=List.length_pos_iff.mpr hx;refine Gu PySem.F.kind_min PySem.F.plain_min PySem.F.entry_min (Uf _ _) ?_;show wpAny _ X.A.in1 (Builtin.Builtins.bindParams "min" ["key", "default"] 0 ⟨[],[("key",.ref f)]⟩ >>= _) _ _ s;refine AA (FX (show Builtin.Builtins.bindParams "min" ["key", "default"] 0 ⟨[],[("key",.ref f)]⟩=pure [some (.ref f),none]from rfl) ?_);refine AA (AF ?_);refine AA (HW t ?_);refine AA (IH ?_ (CL _));rw[j];have hS:(s.heap.push { cls:=.type "list_iterator",data:=.fields #[.ref l,.int 0 0] }).objs.size=s.heap.objs.size+1:=DM ..;have d:(s.heap.push { cls:=.type "list_iterator",data:=.fields #[.ref l,.int 0 0] }).objs.size≠s.heap.objs.size:=by lia
 have x:l≠s.heap.objs.size:=BI V;have y:s.heap.objs.size<=(s.heap.push { cls:=.type "list_iterator",data:=.fields #[.ref l,.int 0 0] }).objs.size:=by lia
 have hle0:s.heap.objs.size<=s.heap.objs.size:=Nat.le_refl _;generalize Y:(s.heap.push { cls:=.type "list_iterator",data:=.fields #[.ref l,.int 0 0] }).objs.size=S at d y⊢;obtain⟨I,Z⟩:∃I,s.heap.objs.size=I:=⟨_,rfl⟩;rw[Z]at d x;have p:s.heap.objs.size<=I:=by lia
 rw[show(Value.ref s.heap.objs.size)=Value.ref I by rw[Z]];refine AF ⟨plainId_quiet PySem.F.plain_min_loop _,?_⟩;have kk:∀b o,s.heap.get? b=some o->((s.heap.push { cls:=.type "list_iterator",data:=.fields #[.ref l,.int 0 0] }).push (seqObj "list" #[] 0)).get? b=some o:=λb o e=>AG _ (AG _ e);have gI:((s.heap.push { cls:=.type "list_iterator",data:=.fields #[.ref l,.int 0 0] }).push (seqObj "list" #[] 0)).get? I=some { cls:=.type "list_iterator",data:=.fields #[.ref l,.int 0 0] } :=
  Z▸AG _ (AS _ rfl)
 have gS:((s.heap.push { cls:=.type "list_iterator",data:=.fields #[.ref l,.int 0 0] }).push (seqObj "list" #[] 0)).get? S=some (seqObj "list" #[] 0):=Y▸AS _ rfl;have q:=J.fpOk (H':=H) (b:=I) p (J.hok.fresh p);have D:=J.fpOk (H':=H) (b:=S) y (J.hok.fresh y);have oI:OQ X pins I:=⟨q.2.2.2.1,q.2.2.2.2.1,q.2.2.2.2.2⟩;have oS:OQ X pins S:=⟨D.2.2.2.1,D.2.2.2.2.1,D.2.2.2.2.2⟩;have W:=Walks.list (prog:=X.prog) (w:=X.w) (A:=X.A.in1) (show X.A.in1.handled=none from J.ok.hd hc) I l x n.toArray;have J0:=(J.kept (t':=s.toks) kk).i1;have L:((s.heap.push { cls:=.type "list_iterator",data:=.fields #[.ref l,.int 0 0] }).push (seqObj "list" #[] 0)).IsList l n.toArray:=by
  obtain⟨o,e,r⟩:=t;exact⟨o,kk _ _ e,r⟩
 refine HN PySem.F.entry_min_loop ?_;rw[Around.under_plainId PySem.F.plain_min_loop _];show wpAny _ X.A.in1 (seqItems? (.ref S) >>= _) _ _ _;refine AA (DN gS rfl ?_);show wpAny _ X.A.in1 (tryCatch (pyNext (.ref I)) _ >>= _) _ _ _;refine AA (GC (W.item 0 _ _ _ (by rw[E];exact m) ⟨⟨_,gI,rfl,rfl⟩,L⟩ λv h' tk' hP M N=>?_));have hv:n[0]?=some v:=by simpa using hP
 have ex:xs[0]?=some xs[0]:=AC m;obtain⟨v',O,rx⟩:=rv.get ex;rw[hv]at O;cases O;obtain⟨B,P,hoc,R⟩:=id M.1;have J1:=OQ.turned (X:=X.i1) (h':=h') (t':=tk') oI J0 q.1 q.2.1 λb o hb e=>N b o (by simpa using hb) e;have J2:=Wr J1 (S:=S) (I:=I) (oI:=B) ⟨N S _ (by simpa using d) gS,D.1,D.2.1,D.2.2.1,λv z=>by cases z⟩ ⟨P,q.1,q.2.1,q.2.2.1,λv z=>by rw[R]at z;cases z⟩;show wpAny _ X.A.in1 (tryCatch (holding [v] (call (.ref f) [v])) _ >>= _) _ _ _;refine AA (GC (CA (B_ (turn 0 _ v _ _ _ ex rx J2 g) (λu2 T he=>?_) λ_ _ hF=>False.elim hF)));obtain⟨v2,H2,J3,r2,a,rfl,na,sm,g2,ha⟩:=he;cases r2;obtain⟨c,C,J5⟩:=Ba J3;show wpAny _ X.A.in1 (updateSeq S (λ_=>#[v,.ref a]) >>= _) _ _ _;refine AA ?_;refine HP c.1 rfl ?_;rw[j];have k:∀b o,b≠S->T.heap.get? b=some o->(T.heap.update S (Obj.mapSeq λ_=>#[v,.ref a])).get? b=some o:=λb o hb e=>(CJ _ _ (Ne.symm hb)).trans e;have J6:=OQ.turned (X:=X.i1) (t':=T.toks) oS J5 c.2.1 c.2.2.1 k;obtain⟨c2,hc2⟩:∃c2,(T.heap.update S (Obj.mapSeq λ_=>#[v,.ref a])).get? S=some (seqObj "list" #[v,.ref a] c2):=⟨_,get?_update_seq c.1 λ_=>#[v,.ref a]⟩;refine AF ⟨plainId_quiet PySem.F.plain_min_loop _,Pz hc hu turn hG oI oS d x _ 0 _ H2 v a c2 B rfl m (Wr J6 ⟨hc2,c.2.1,c.2.2.1,c.2.2.2.1,λv z=>by cases z⟩ ⟨k _ _ (Ne.symm d) C.1,C.2⟩) ⟨B,k _ _ (Ne.symm d) C.1,hoc,R⟩ ?_ na ha g2 λu s' H' i r' sm' g'=>⟨_,H',i,r',h H' (sm.trans sm') g'⟩⟩;show RelV (xs.getD 0 .non) v;rw[AY,ex];exact rx
end
def SW(X:Cx)(k:Nat)(cs:A1 A3)(σ:St)(f:A3)(xs:A1 V)(h:Nat->A1 Int)(G:Hp->Prop):Prop:=∀b:IM,N_ X b σ->X.K.In b->∃(d:JA) (e:A1 Str) (g:Sp),IU X.prog X.w X.K X.mg b JE k f d e g/\Binds X.K d e [] /\
 ∀(j:Nat) (x:V) (H:Hp),xs[j]?=some x->G H->g [x] H (λv c=>∃a,v = .ref a/\a∉cs/\Sm cs H c/\G c/\JJ X.K c a ((h j).map V.int)) E0
def zGh(X:Cx)(k:Nat)(h:TA)(td:TE):TE:=λσ H Q=>h σ H λi j=>td σ j λd c=>∃(l f:A3) (e:A1 A3) (a:A1 V) (g:Nat->A1 Int) (G:Hp->Prop),i = [.ref l]/\d = .ref f/\a≠[]/\G c/\(∀H,G H->IS X.K H l a)/\SW X k e σ f a g G /\
 ∀b,Sm e c b->G b->Q (a.getD (Jg g (a.length-1)) .non) b
section
variable{X:Cx}{k:Nat}{e ed:IQ}{ta:TA}{td:TE}{p kp pos:Pos}
theorem SW.keyR{cs:A1 A3}{σ:St}{f:A3}{xs:A1 V}{l:Nat->A1 Int}{G:Hp->Prop}(h:SW X k cs σ f xs l G)(n:∀x,X.fn x=true)(d:JQ (k+1) X.A):zFm X.i1 cs σ f xs l G:=by
 intro j x u m s H o p I g;have cs:N_ X.i1 (Ci X.i1 s.heap) σ:=I.wcells n;obtain⟨y,q,z,F,c,t⟩:=h (Ci X.i1 s.heap) ⟨cs.val,cs.inj,cs.has⟩ I.wmod.kin;have a:=t j x H o g;have r:IV [x] [u]:=.cons p .nil;have v:[u].length=q.length:=by rw[<-r.length];exact F.len _ _ _ _ a
 have c:=c s [u] I.kIn (by rw[BU];exact v);rw[BU]at c;have i:JQ k X.A.in1:=⟨d.hd,by have:=d.dp;show X.A.depth+3*k+5<_;lia,by have:=d.un;show X.A.units+1+16*k+200<_;lia⟩;refine wpAny_call (codeAny_mono (F.run X.A.in1 X.stack s H ⟨[u],[]⟩ [u] [x] _ E0 i I.wenv c r a) λr B b=>?_);cases r with
 | error e=>exact b.elim
 | ok w =>
  cases w with
  | ret u=>exact I.after b
  | next=>exact False.elim b
  | brk=>exact False.elim b
  | cont=>exact False.elim b
theorem Yq(d:∀x,X.fn x=true)(b:JQ (k+1) X.A)(i:X.mg "min" = none)(j:PA X [e] ta)(m:PE X ed td)(n:X.calm=true:=by rfl)(o:Gl X "min":=by rfl)
  (c:starEach [e] X.env = [(false,eval e X.env)]:=by rfl):PE X (.Call (.Name "min" p) [e] [⟨some "key",ed,kp⟩] pos) (zGh X k ta td):=by
 intro a s σ H Q I h;refine EX (o7 I o i Xr ?_ (by decide) (by decide));refine callWith_kw (JI (j pos a s σ H _ I h) λL q ⟨M,r,t,v,w⟩=>kws_cons (JI (m a q σ r _ t w) λN O ⟨P,R,y,z,l,f,S,T,U,G,B,C,D,g,E,F,J⟩=>kws_nil ?_)) (by rw[c];rfl) (by rw[c];rfl);subst B C;obtain⟨u,rfl,K⟩:=g9 v;cases K;cases z;have:=b.un;exact Ry n (by lia) (F.keyR d b) E y g D J
end
section
variable{P:A7}{w:F8}{K:PySem.W.Frag}{mg:Str->A5 A2}{base:IM}
theorem QA.o1{x a:Str}{st:I7}{f:A3}{i:JA}{N e:A1 Str}{k:Nat}{sp:Sp}(F:QA K x a st f i)(S:IL N e (B7 st))
  (b:∀(d:A2) (A:IR) (c:A1 PR) (s:A4) (H:Hp) (vs:A1 V) (Q:VK) (E:XK),JQ k (A.deeper (envOfC a (B7 st) s.heap.objs.size f d))->sp vs H Q E ->
   ∃t,QN (Vv JE P w K mg base N a (B7 st) f d A c s H E).nox (P4 st) t/\t { nx:=λ_ H'=>Q .non H',rt:=Q } (Bl N vs) H) (g:∀vs H Q E,sp vs H Q E->vs.length=e.length:=by intro _ _ _ _ h;repeat first | (obtain⟨h,_⟩:=h;subst h;rfl) | (obtain⟨_,h⟩:=h)):IU P w K mg base JE (k+1) f i e sp:=F.ok S g b
end
def QA.oC{P:A7}{w:F8}{K:PySem.W.Frag}{mg:Str->A5 A2}{base:IM}{x a:Str}{st:I7}{f:A3}{e:JA}{N g:A1 Str}{k:Nat}{sp:Sp}(F:QA K x a st f e)(S:IL N g (B7 st))
  (b:∀(c:A2) (A:IR) (d:A1 PR) (s:A4) (H:Hp) (vs:A1 V) (Q:VK) (E:XK),e.code=c->JQ k (A.deeper (envOfC a (B7 st) s.heap.objs.size f c))->sp vs H Q E ->
   ∃t,QN (Vv JE P w K mg base N a (B7 st) f c A d s H E).nox (P4 st) t/\t { nx:=λ_ H'=>Q .non H',rt:=Q } (Bl N vs) H) (i:∀vs H Q E,sp vs H Q E->vs.length=g.length:=by intro _ _ _ _ h;repeat first | (obtain⟨h,_⟩:=h;subst h;rfl) | (obtain⟨_,h⟩:=h)):IU P w K mg base JE (k+1) f e g sp:=F.okC S i b
end L2
namespace Sw
open PySem L2
def KQ(i:Nat):I7:=PySem.Challenge.pw_strikeweave_k42_granted.main.body.getD i (.Pass ⟨0,0,0,0⟩)
abbrev LK:I7:=KQ 7
abbrev QB:I7:=KQ 10
abbrev OO:I7:=KQ 11
abbrev MD:I7:=KQ 13
abbrev ME:I7:=KQ 14
abbrev PK:I7:=KQ 15
abbrev O_:I7:=KQ 16
abbrev LL:I7:=KQ 17
abbrev LA:I7:=KQ 18
abbrev NQ:I7:=KQ 19
abbrev NW:I7:=KQ 20
abbrev NU:I7:=KQ 21
abbrev PO:I7:=KQ 23
abbrev ND:I7:=KQ 24
abbrev NV:I7:=KQ 25
abbrev OI:I7:=KQ 26
abbrev PN:I7:=KQ 31
abbrev NJ:I7:=KQ 32
abbrev MF:I7:=KQ 33
abbrev ON:I7:=KQ 34
abbrev PL:I7:=KQ 36
abbrev OY:I7:=KQ 37
abbrev OX:I7:=KQ 38
abbrev OJ:I7:=KQ 39
abbrev OV:I7:=KQ 40
abbrev NE:I7:=KQ 41
abbrev OK:I7:=KQ 42
abbrev NS:I7:=KQ 43
abbrev PM:I7:=KQ 44
abbrev OZ:I7:=KQ 45
abbrev MQ:I7:=KQ 46
abbrev NR:I7:=KQ 47
abbrev LC:I7:=KQ 48
abbrev OW:I7:=KQ 49
abbrev NF:I7:=KQ 50
abbrev OL:I7:=KQ 51
abbrev NG:I7:=KQ 52
abbrev NH:I7:=KQ 53
abbrev NT:I7:=KQ 54
abbrev OM:I7:=KQ 55
abbrev LW:I7:=O8 (KQ 9) 0
abbrev MK:I7:=O8 (KQ 9) 1
abbrev LV:I7:=O8 (KQ 9) 2
abbrev LD:I7:=O8 (KQ 9) 3
abbrev MU:I7:=O8 (KQ 9) 4
abbrev LO:I7:=O8 (KQ 9) 5
abbrev KZ:I7:=O8 (KQ 9) 6
abbrev KY:I7:=O8 (KQ 9) 7
abbrev PU:I7:=O8 (KQ 9) 8
abbrev MT:I7:=O8 (KQ 30) 0
abbrev MJ:I7:=O8 (KQ 30) 1
abbrev LN:I7:=O8 (KQ 30) 2
abbrev MS:I7:=O8 (KQ 30) 3
abbrev NX:I7:=O8 (KQ 30) 4
abbrev MI:I7:=O8 (KQ 30) 5
def Ha:Str:=("best_split":Str) ++ ".<locals>." ++ "<lambda>"
def C1:A1 (Pos×Str):=[(⟨97,27,97,74⟩,Ha)]
set_option genInjectivity false in
structure Tx(K:PySem.W.Frag)(mg:Str->A5 A2) where
 aH:Fn K mg "strikers_of_any" LK ["web", "some"]
 bi:Fn K mg "joined" QB ["sets"]
 a8:Fn K mg "first_bit" OO ["some"]
 ay:Fn K mg "standing_with" MD ["web", "some"]
 an:Fn K mg "standing_from" ME ["marks", "held"]
 aA:Fn K mg "tree_at" PK ["marks", "splits_at", "sets", "held", "known"]
 aB:Fn K mg "clash_at" O_ ["marks", "held"]
 al:Fn K mg "standing_splits" LL ["marks", "sets", "held"]
 au:Fn K mg "best_split" LA ["marks", "held", "splits"]
 bM:A3
 aa:A3
 bk:TabAt K mg bM aa
 bB:au.fd.code = .ref bM
 a1:Fn K mg "split_cost" NQ ["marks", "held", "added"]
 aD:Fn K mg "answers_at" NW ["marks", "held"]
 aI:Fn K mg "beyonds_at" NU ["marks", "sets", "held"]
 aM:Fn K mg "granted" PO ["web"]
 aU:Fn K mg "outer_drops" ND ["web", "told"]
 a2:Fn K mg "bare_drops" NV ["web", "drops"]
 aS:Fn K mg "next_bare" OI ["web", "dropped"]
 bj:Fn K mg "is_name" PN ["thing"]
 aV:Fn K mg "check_names" NJ ["names"]
 aQ:Fn K mg "check_strikes" MF ["names", "strikes"]
 a9:Fn K mg "is_strike" ON ["names", "thing"]
 bd:Fn K mg "_law_mix" PL ["_law_cell", "_law_k"]
 be:Fn K mg "_law_left" OY ["_law_script", "_law_k"]
 aq:Fn K mg "_law_pick" OX ["_law_left_here", "_law_many"]
 aT:Fn K mg "_law_names" OJ ["_law_left_here", "_law_many"]
 bf:Fn K mg "_law_size" OV ["_law_left_here"]
 aW:Fn K mg "_law_strikes" NE ["_law_left_here", "_law_names_here"]
 ba:Fn K mg "_law_masks" OK ["_law_names_here", "_law_strikes_here"]
 a3:Fn K mg "_law_set_of" NS ["_law_view", "_law_mask"]
 aZ:Fn K mg "_law_hit" PM ["_law_view", "_law_mask"]
 bg:Fn K mg "_law_kept" OZ ["_law_view", "_law_mask"]
 aJ:Fn K mg "_law_is_quiet" MQ ["_law_view", "_law_mask"]
 a4:Fn K mg "_law_stands" NR ["_law_view", "_law_mask"]
 aF:Fn K mg "_law_all_standing" LC ["_law_view"]
 ao:Fn K mg "_law_same" OW ["_law_found", "_law_due"]
 aX:Fn K mg "_law_quarrel" NF ["_law_left_here"]
 bb:Fn K mg "_law_drawn" OL ["_law_script", "_law_k"]
 aY:Fn K mg "_law_granted" NG ["_law_view", "_law_masks_here"]
 ap:Fn K mg "_law_changed" NH ["_law_thing"]
 a5:Fn K mg "_law_formed" NT ["_law_found"]
 ab:A3
 ad:RC K ab
 bH:mg "Marks" = some (.ref ab)
 aK:JT K ab "names"
 bn:JT K ab "full"
 a7:JT K ab "bit_of"
 aC:JT K ab "strikers_of"
 bh:JT K ab "struck_of"
 bm:JT K ab "loops"
 br:A3
 bq:JA
 bs:QA K "__init__" "Marks.__init__" LW br bq
 bt:Binds K bq ["self", "web"] []
 bI:Mk K ab br
 ac:Mt K ab "bits_in" "Marks.bits_in" MK ["self", "some"]
 ar:Mt K ab "names_in" "Marks.names_in" LV ["self", "some"]
 ai:Mt K ab "first_name" "Marks.first_name" LD ["self", "some"]
 aE:Mt K ab "set_of" "Marks.set_of" MU ["self", "some"]
 aj:Mt K ab "struck_by" "Marks.struck_by" LO ["self", "some"]
 ah:Mt K ab "strikers_at" "Marks.strikers_at" KZ ["self", "some"]
 av:Mt K ab "unstruck_by" "Marks.unstruck_by" KY ["self", "some"]
 bN:Mt K ab "kept" "Marks.kept" PU ["self", "some"]
 ag:A3
 am:RC K ag
 bJ:mg "Web" = some (.ref ag)
 aR:JT K ag "names"
 bc:JT K ag "strikes"
 aG:JT K ag "strikers_by_name"
 aL:JT K ag "struck_by_name"
 bw:A3
 bv:JA
 bx:QA K "__init__" "Web.__init__" MT bw bv
 bz:Binds K bv ["self", "names", "strikes"] []
 bK:Mk K ag bw
 af:Mt K ag "all_names" "Web.all_names" MJ ["self"]
 ax:Mt K ag "all_strikes" "Web.all_strikes" LN ["self"]
 ak:Mt K ag "strikers" "Web.strikers" MS ["self", "name"]
 aO:Mt K ag "struck" "Web.struck" NX ["self", "name"]
 as:Mt K ag "check_has" "Web.check_has" MI ["self", "name"]
 bG:∃t,mg "LETTERS" = some (.str "abcdefghijklmnopqrstuvwxyz" t)
 bA:∃t,mg "LONGEST_NAME" = some (.int 8 t)
 aw:mg "len" = none
 a0:mg "range" = none
 aP:mg "enumerate" = none
 bL:mg "zip" = none
 bC:mg "min" = none
 bl:mg "sum" = none
 bD:mg "abs" = none
 a6:mg "sorted" = none
 bE:mg "int" = none
 bo:mg "str" = none
 bp:mg "bool" = none
 az:mg "list" = none
 aN:mg "tuple" = none
 bF:mg "set" = none
 ae:mg "isinstance" = none
 bu:mg "all" = none
 bO:mg "ValueError" = none
end Sw
namespace L2
open PySem
def KU{N b:A1 Str}{a:JH}(h1:a.kind = .function:=by rfl)(h2:a.isCoroutine=false:=by rfl)(c:a.isGenerator=false:=by rfl)(d:N.Nodup:=by decide +kernel)(e:N.take b.length=b:=by rfl)(f:∀x∈b,a.names.lookup x=some .local\/a.names.lookup x=some .cell:=by decide +kernel)(g:∀y∈a.names,y.2≠ .free:=by decide +kernel):IL N b a:=⟨h1,h2,c,d,e,f,g⟩
def Rm{j k:Nat}{A:IR}(h:JQ k A)(e:j<=k:=by decide):JQ j A:=h.mono e
def X0{J:It}{xs:A1 V}{a:A3}{H0:Hp}(as:LQ J xs a H0){g:TG}{d:TS}{D:Ends}{σ:St}{H:Hp}(Pv:Nat->St->Hp->Prop)(f:Pv 0 σ H)(h:∀i σ H,i<=xs.length->Pv i σ H->KN a H0 H)
  (j:∀i σ H x,xs[i]?=some x->Pv i σ H->∀b:Ends,(∀σ' H',Pv (i+1) σ' H'->b.nx σ' H')->b.rt=D.rt->g x σ H λσ2 c=>d b σ2 c) (k:∀σ H,Pv xs.length σ H->D.nx σ H) :
  ∃W:Nat->Nat->St->Hp->Prop,(∃m,W 0 m σ H)/\∀i m σ H,W i m σ H ->
   (J.stop i H/\D.nx σ H)\/(J.go i H/\∃N:St->Hp->Prop,(∀σ' H',N σ' H'->∃e,e < m/\W (i+1) e σ' H')/\∀x H',J.yld i H x H'->g x σ H' λσ2 c=>d { D with nx:=N,ct:=N,bk:=D.nx } σ2 c) :=
 Bs as Pv f h (λi σ H x l n=>j i σ H x l n _ (λ_ _ z=>z) rfl) k
def U3{lo:Int}{n:Nat}{g:TG}{c:TS}{D:Ends}{σ:St}{H:Hp}(Pv:Nat->St->Hp->Prop)(e:Pv 0 σ H)
  (f:∀i σ H,i<n->Pv i σ H->∀a:Ends,(∀σ' H',Pv (i+1) σ' H'->a.nx σ' H')->a.rt=D.rt->g (.int (lo+i)) σ H λσ2 b=>c a σ2 b) (h:∀σ H,Pv n σ H->D.nx σ H) :
  ∃W:Nat->Nat->St->Hp->Prop,(∃m,W 0 m σ H)/\∀i m σ H,W i m σ H ->
   ((RS lo n).stop i H/\D.nx σ H)\/((RS lo n).go i H/\∃N:St->Hp->Prop,(∀σ' H',N σ' H'->∃d,d < m/\W (i+1) d σ' H')/\∀x H',(RS lo n).yld i H x H'->g x σ H' λσ2 b=>c { D with nx:=N,ct:=N,bk:=D.nx } σ2 b) :=
 Rf Pv e (λi σ H j k=>f i σ H j k _ (λ_ _ z=>z) rfl) h
def A6{α:Type}{A C:α->Prop}{a:α}(e:A a)(h:C a):∃v,A v/\C v:=⟨a,e,h⟩
def Bd{α0 α1 α2:Type}{d e f g h i:α0->α1->α2->Prop}{a:α0}{b:α1}{c:α2}(j:d a b c)(h1:e a b c)(h2:f a b c)(k:g a b c)(l:h a b c)(m:i a b c):∃a b c,d a b c/\e a b c/\f a b c/\g a b c/\h a b c/\i a b c:=⟨a,b,c,j,h1,h2,k,l,m⟩
def Yi{α0 α1 α2 α3 α4 α5 α6:Type}{h i j k:α0->α1->α2->α3->α4->α5->α6->Prop}{a:α0}{b:α1}{c:α2}{d:α3}{e:α4}{f:α5}{g:α6}(l:h a b c d e f g)(h1:i a b c d e f g)(h2:j a b c d e f g)(m:k a b c d e f g):∃a b c d e f g,h a b c d e f g/\i a b c d e f g/\j a b c d e f g/\k a b c d e f g:=⟨a,b,c,d,e,f,g,l,h1,h2,m⟩
def zFx{α0 α1 α2 α3 α4 α5:Type}{g h i j k l m n:α0->α1->α2->α3->α4->α5->Prop}{a:α0}{b:α1}{c:α2}{d:α3}{e:α4}{f:α5}(o:g a b c d e f)(h1:h a b c d e f)(h2:i a b c d e f)(p:j a b c d e f)(q:k a b c d e f)(r:l a b c d e f)(s:m a b c d e f)(t:n a b c d e f):∃a b c d e f,g a b c d e f/\h a b c d e f/\i a b c d e f/\j a b c d e f/\k a b c d e f/\l a b c d e f/\m a b c d e f/\n a b c d e f:=⟨a,b,c,d,e,f,o,h1,h2,p,q,r,s,t⟩
def zFj{α0 α1 α2 α3:Type}{e f g h i j k:α0->α1->α2->α3->Prop}{a:α0}{b:α1}{c:α2}{d:α3}(l:e a b c d)(h1:f a b c d)(h2:g a b c d)(m:h a b c d)(n:i a b c d)(o:j a b c d)(p:k a b c d):∃a b c d,e a b c d/\f a b c d/\g a b c d/\h a b c d/\i a b c d/\j a b c d/\k a b c d:=⟨a,b,c,d,l,h1,h2,m,n,o,p⟩
def C0{α0 α1:Type}{c d e:α0->α1->Prop}{a:α0}{b:α1}(f:c a b)(h1:d a b)(h2:e a b):∃a b,c a b/\d a b/\e a b:=⟨a,b,f,h1,h2⟩
def B9{t u:TS}{D:Ends}{σ:St}{H:Hp}(h:∀N:St->Hp->Prop,(∀σ' H',u D σ' H'->N σ' H')->t { D with nx:=N } σ H):TD t u D σ H:=h _ λ_ _ z=>z
def zAv{i:Nat}{v:V}{t u:TS}{D:Ends}{σ:St}{H:Hp}(h:∀N:St->Hp->Prop,(∀σ' H',u D σ' H'->N σ' H')->t { D with nx:=N } (σ.set i (some v)) H):Y6 i v σ H (λσ2 a=>TD t u D σ2 a):=h _ λ_ _ z=>z
end L2
namespace Sw
open PySem L2
section
variable{P:A7}{w:F8}{K:PySem.W.Frag}{mg:Str->A5 A2}{base:IM}
def Zs(c:Nat):Bool:=decide (97<=c)&&decide (c<=122)
def U7(x:Str):Bool:=decide (1<=x.length)&&decide (x.length<=8)&&x.cps.toList.all Zs
theorem Ko:("abcdefghijklmnopqrstuvwxyz":Str).cps.toList=List.range' 97 26:=by decide +kernel
theorem Zv(c:Nat):decide (c∈("abcdefghijklmnopqrstuvwxyz":Str).cps.toList)=Zs c:=by
 rw[Ko];unfold Zs;by_cases a:97<=c
 .by_cases b:c<=122
  .rw[BB (List.mem_range'_1.mpr (by lia)),BB a,BB b];rfl
  .rw[BF (λz=>by have:=List.mem_range'_1.mp z;lia),BF b,HX]
 .rw[BF (λz=>by have:=List.mem_range'_1.mp z;lia),BF a,EJ]
theorem Oq:IL ["thing"] ["thing"] (B7 PN):=KU
def Ot:Sp:=λb H Q _=>∃x,b = [.str x]/\x.length<=1000/\∀a,F1 H a->Q (.bl (U7 x)) a
theorem Oa(T:Tx K mg):IU P w K mg base JE 1 T.bj.f T.bj.fd ["thing"] Ot:=by
 refine T.bj.F.o1 Oq λr A b s H B Q E C h=>?_
 .obtain⟨x,rfl,G,k⟩:=h;refine⟨_,(B4 (M9 (PW.pt (t9 (R1 (O3 (E1 (M6 K) T.ae C2 (A8 (pv 0) (A8 (S6 T.bo Mc) B1))))) (Z8 (R1 (Uq zDh zDh B8 (E1 Hu T.aw Q1 (A8 (pv 0) B1)) (zFf T.bA)))))) (B5 (C3 Gf)) D4)
   (B5 (C3 (E1 (Tk K) T.bu Qh (A8 (X3 (N':=["letter"]) (cap:=[none]) (cl:=[]) (P8 trivial trivial) rfl (zBz (pv 0)) (λ_ _ _ _=>by exact⟨(MN 0),J8,(Q9 Ss (pv 0) (zFe T.bG) rfl)⟩)) B1))))),?_⟩
  have d:x.length<=sizeLine:=by rw[sizeLine_eq];lia
  have m:x.cps.size=x.length:=rfl;refine A6 rfl ⟨.str x, "str",_,true,rfl,.str x,rfl,A6 rfl ?_⟩;refine Z0 ?_;refine A6 rfl ⟨x,rfl,d,C0 rfl rfl (A6 rfl ?_)⟩;refine V0 (λa=>?_) (λa=>?_)
  .have a:(1:Int)<=(x.length:Int):=BV a;refine C0 rfl rfl (A6 rfl ?_);by_cases o:(x.length:Int)<=8
   .rw[BB o];refine Z0 ?_;refine A6 rfl ⟨x,rfl,λD p=>?_⟩;refine j4 (n:=x.cps.size) (λi σ g=>(∃v,σ = [v])/\F1 H g/\g D=some (.lst ((x.cps.toList.take i).map λc=>V.bl (Zs c)))) ⟨⟨_,rfl⟩,F1.new p,A9⟩ (λi _ _ q _=>q) (λ_ _ _=>rfl) ?_ ?_
    .rintro i σ t v g N q ⟨⟨I,rfl⟩,j,l⟩ ⟨rfl,c,u,rfl⟩ y;refine o9 ?_;refine A6 rfl (C0 rfl rfl ⟨_,l,?_,?_⟩)
     .rw[AB,AZ,sizeLine_eq];lia
     .rw[PySem.StrLaws.found_one,Zv];refine y _ _ ⟨⟨_,rfl⟩,j.upd p,?_⟩;rw[A9];have:x.cps.toList[i]?=some c:=by rw[BP];exact u
      rw[List.take_add_one,this,AN];rfl
    .rintro σ t ⟨_,j,l⟩;refine⟨D,x.cps.toList.map Zs,rfl,IS.of ?_,?_⟩
     .rw[l,<-AU,BQ,BL];rfl
     .have e:(x.cps.toList.map Zs).all id=U7 x:=by
       unfold U7;rw[BB (show 1<=x.length by lia),BB (show x.length<=8 by lia),List.all_map];rfl
      rw[e];exact k _ j
   .rw[BF o];refine Ul ?_;have e:U7 x=false:=by
     unfold U7;rw[BF (show ¬x.length<=8 by lia),HX,EJ]
    have:=k H (F1.refl H);rw[e]at this;exact this
  .have a:¬(1:Int)<=(x.length:Int):=λz=>a (BB z);refine A6 rfl ?_;refine Ul ?_;have e:U7 x=false:=by
    unfold U7;rw[BF (show ¬1<=x.length by lia),EJ,EJ]
   have:=k H (F1.refl H);rw[e]at this;exact this
theorem IW{α:Type}{l:A1 α}{i:Nat}{x:α}(h:l[i]?=some x):l.take (i+1)=l.take i ++ [x]:=by
 rw[List.take_add_one,h];rfl
theorem Dq{α:Type}{l:A1 α}{i:Nat}{x:α}(a:l.Nodup)(h:l[i]?=some x):x∉l.take i:=by
 intro b;obtain⟨j,c,e⟩:=FZ b;have d:j<i:=by rw[AZ]at c;lia
 rw[GV]at e;obtain⟨g,f⟩:=AE.mp h;have:=(List.getElem_inj a).mp (e.trans f.symm);lia
theorem KL:IL ["names", "seen", "place", "name"] ["names"] (B7 NJ):=KU
def W9(ss:A1 Str):Prop:=(∀x∈ss,U7 x=true)/\ss.Nodup/\ss.length<=100
def Cs(K:PySem.W.Frag):Sp:=λc H Q _=>∃(p:A3) (a:A1 Str),c = [.ref p]/\IS K H p (a.map V.str)/\W9 a/\∀b,F1 H b->Q .non b
theorem Pq{x:Str}(h:U7 x=true):1<=x.length/\x.length<=8:=by
 unfold U7 at h;rw[BW,BW]at h;exact⟨BV h.1.1,BV h.1.2⟩
theorem Cp(T:Tx K mg):IU P w K mg base JE 2 T.aV.f T.aV.fd ["names"] (Cs K):=by
 refine T.aV.F.o1 KL λU A C s H Z Q E J h=>?_
 .obtain⟨a,b,rfl,r,⟨V,W,hL⟩,k⟩:=h;have hu:=V6 J;refine⟨_,(B4 (C6 (i:=1) KL.nd rfl (.inl rfl) (Dl (Zj P w) (by rfl) T.bF Yc))
   (B5 (O6 PassesOwn.never rfl (TY K T.aP (A8 (pv 0) B1)) (QT K (n:=2) (C5 (C7 (i:=2) KL.nd rfl (.inl rfl)) (C5 (C7 (i:=3) KL.nd rfl (.inl rfl)) P9)))
   (B4 (M9 (PW.pt (t9 (R1 (O3 (C9 T.bj (Oa T) (Rm J) (A8 (pv 3) B1)))) (Z8 (D6 (zEu P w) (pv 3) (pv 1) rfl)))) (B5 Fz) D4)
   (B5 (J7 (Xe P w (zBq P w) (pv 1) (A8 (pv 3) B1)))))))),?_⟩
  refine⟨rfl,λp L=>?_⟩;have M:F1 H (IK H p (Pf P w p [])):=F1.new L;refine A6 rfl ⟨a,A6 rfl ⟨(M.at a).seqL r,zAu (n:=b.length) (λi σ g=>∃l m,σ = [some (.ref a),some (.ref p),l,m]/\F1 H g/\g p=some (Pf P w p ((b.take i).map Sum.inr))) ⟨_,_,rfl,M,A9⟩ ?_ ?_ ?_ ?_⟩⟩
  .rintro i σ g u ⟨l,m,rfl,c,o⟩;exact⟨_,_,(c.at a).seqL r,by rw[AH,AC u];rfl⟩
  .rintro σ g ⟨l,m,rfl,c,o⟩;exact⟨_,(c.at a).seqL r,by rw[AB]⟩
  .rintro i σ g v H' u ⟨l,m,rfl,c,o⟩ ⟨t,x,rfl,N,rfl,B⟩;have B:=B _ ((c.at a).seqL r);have j:b[i]?=some b[i]:=AC u;rw[AH,j]at B;cases B;have X:b[i]∈b:=GB u;have q:=V _ X;have O:=Pq q;have D:p≠t:=B3 o N;refine⟨t,A6 rfl ⟨JJ.of A9,rfl,_,A6 rfl (C0 rfl rfl ?_)⟩⟩;refine A6 rfl ⟨b[i],rfl,by lia,λR S=>⟨_,rfl,?_⟩⟩;rw[q];refine Z0 ?_;have G:F1 H R:=(c.trans (F1.new N)).trans S;have I:R p=some (Pf P w p ((b.take i).map Sum.inr)):=S _ _ (by rw[B6 D];exact o);have d:¬(Sum.inr b[i]:JC)∈(b.take i).map Sum.inr:=λz=>by
    obtain⟨y,Y,e⟩:=AX.mp z;cases e;exact Dq W j Y
   refine A6 rfl (A6 rfl ⟨p,_,Sum.inr b[i],rfl,rfl,I,A6 rfl ?_⟩);rw[AJ (by decide),BF d];refine Z0 ?_;refine A6 rfl ⟨⟨p,rfl,.inl ⟨_,I⟩⟩,A6 rfl ⟨p,_,Sum.inr b[i],rfl,rfl,I,?_,?_⟩⟩
   .rw[AB,AZ];lia
   .refine⟨_,A6 rfl ⟨G.upd L,?_⟩⟩;rw[A9];unfold zEs;rw[AJ d,IW j,AN];rfl
  .rintro σ g ⟨l,m,rfl,c,o⟩;exact k g c
end
def Ho(ss:A1 Str):(ss.map V.str).all Ep=true:=by
 rw[EH];intro v a;obtain⟨x,_,rfl⟩:=AX.mp a;rfl
def Px(x:Str)(ss:A1 Str):inV (.str x) (ss.map V.str)=decide (x∈ss):=by
 unfold inV;rw[List.any_map]
 induction ss with
 | nil=>rfl
 | cons y r a =>
  rw[GQ,a];show((y == x)||decide (x∈r))=decide (x∈y::r);by_cases e:x=y
  .subst e;simp
  .have:(y == x)=false:=by simpa using λz=>e z.symm
   rw[this,Bool.false_or];by_cases h:x∈r
   .rw[BB h,BB (BD _ h)]
   .rw[BF h,BF (λz=>(AK.mp z).elim e h)]
def Jl{K:PySem.W.Frag}{H:Hp}{p:A3}{x:Str}{ss:A1 Str}{Q:VK}(h:RP K H p (ss.map V.str))(q:Q (.bl (decide (x∈ss))) H):TH K false (.str x) (.ref p) H Q :=
 ⟨p,_,rfl,h,rfl,Ho ss,by rw[AJ (by decide),Px];exact q⟩
def w5{K:PySem.W.Frag}{H:Hp}{p:A3}{x:Str}{ss:A1 Str}{Q:VK}(h:RP K H p (ss.map V.str))(q:Q (.bl (!decide (x∈ss))) H):TH K true (.str x) (.ref p) H Q :=
 ⟨p,_,rfl,h,rfl,Ho ss,by rw[AL rfl,Px];exact q⟩
section
variable{P:A7}{w:F8}{K:PySem.W.Frag}{mg:Str->A5 A2}{base:IM}
theorem Iy:IL ["names", "thing"] ["names", "thing"] (B7 ON):=KU
def Hr(K:PySem.W.Frag):Sp:=λb H Q _=>∃(p:A3) (a:A1 Str) (t:A3) (x y:Str),b = [.ref p,.ref t]/\IS K H p (a.map V.str)/\H t=some (.tup [.str x,.str y])/\x∈a/\y∈a/\Q (.bl true) H
theorem Gs(T:Tx K mg):IU P w K mg base JE 1 T.a9.f T.a9.fd ["names", "thing"] (Hr K):=by
 refine T.a9.F.o1 Iy λe A c s H j Q E l h=>?_
 .obtain⟨p,m,t,x,y,rfl,d,b,g,i,k⟩:=h;refine⟨_,(B4 (M9 (PW.pt (t9 (R1 (O3 (E1 (M6 K) T.ae C2 (A8 (pv 1) (A8 (S6 T.aN S8) B1))))) (Z8 (D6 Of (E1 (Q7 K) T.aw Q1 (A8 (pv 1) B1)) B8 (E9 _))))) (B5 (C3 Gf)) D4)
   (B5 (C3 (Ak (Q9 (Yt K) (E7 (P_ K) (pv 1) B8 (λ_ _=>rfl)) (pv 0) rfl) (Cb (Q9 (Yt K) (E7 (P_ K) (pv 1) B8 (λ_ _=>rfl)) (pv 0) rfl)))))),?_⟩
  refine A6 rfl ⟨_, "tuple",_,true,rfl,.tup b,rfl,A6 rfl ?_⟩;refine Z0 ?_;refine A6 rfl (C0 (a:=t) rfl (.inr (JJ.of b)) ⟨rfl,A6 rfl ?_⟩);refine Z0 ?_;refine A6 rfl ⟨t,_,C0 rfl rfl ⟨JJ.of b,rfl,A6 rfl (Jl (.inl d) ⟨_,rfl,?_⟩)⟩⟩;rw[BB g];refine Ul ?_;refine A6 rfl ⟨t,_,C0 rfl rfl ⟨JJ.of b,rfl,A6 rfl (Jl (.inl d) ?_)⟩⟩;rw[BB i];exact k
structure OB(ss:A1 Str)(ps:A1 JV):Prop where
 nm:∀q∈ps,q.2.1∈ss/\q.2.2∈ss
 nd:(ps.map λq=>q.2).Nodup
 len:ps.length<=200
def O5(a:A1 JV):A1 V:=a.map λq=>V.ref q.1
def Kk(a:A1 JV):A1 (A1 JC×A3):=a.map λq=>([.inr q.2.1,.inr q.2.2],q.1)
theorem Wi{H:Hp}{a:A1 JV}(h:∀q∈a,K9 H q):Lq H (Kk a):=λk b=>by
 obtain⟨q,c,rfl⟩:=AX.mp b;exact h q c
theorem Q3{H H':Hp}{a:A1 JV}(s:F1 H H')(h:∀q∈a,K9 H q):∀q∈a,K9 H' q:=λq b=>s _ _ (h q b)
theorem J_:IL ["names", "strikes", "seen", "place", "strike"] ["names", "strikes"] (B7 MF):=KU
def Ao(K:PySem.W.Frag):Sp:=λe H Q _=>∃(p:A3) (c:A1 Str) (a:A3) (b:A1 JV),e = [.ref p,.ref a]/\IS K H p (c.map V.str)/\IS K H a (O5 b)/\(∀q∈b,K9 H q)/\OB c b/\∀d,F1 H d->Q .non d
theorem Aq(T:Tx K mg):IU P w K mg base JE 2 T.aQ.f T.aQ.fd ["names", "strikes"] (Ao K):=by
 refine T.aQ.F.o1 J_ λX A D s H vs Q E N h=>?_
 .obtain⟨n,Y,a,b,rfl,Z,y,O,⟨hN,hD,hL⟩,k⟩:=h;have R:=V6 N;refine⟨_,(B4 (C6 (i:=2) J_.nd rfl (.inl rfl) (Dl (We P w) (by rfl) T.bF Yc))
   (B5 (O6 PassesOwn.never rfl (TY K T.aP (A8 (pv 1) B1)) (QT K (n:=2) (C5 (C7 (i:=3) J_.nd rfl (.inl rfl)) (C5 (C7 (i:=4) J_.nd rfl (.inl rfl)) P9)))
   (B4 (M9 (PW.pt (t9 (R1 (O3 (C9 T.a9 (Gs T) (Rm N) (A8 (pv 0) (A8 (pv 4) B1))))) (Z8 (D6 (zFy P w R) (pv 4) (pv 2) rfl)))) (B5 Fz) D4)
   (B5 (J7 (Xe P w (zCe P w R) (pv 2) (A8 (pv 4) B1)))))))),?_⟩
  refine⟨rfl,λp S=>?_⟩;have U:F1 H (IK H p (Pg P w p [])):=F1.new S;refine A6 rfl ⟨a,A6 rfl ⟨(U.at a).seqL y,zAu (n:=b.length) (λi σ c=>∃l v4,σ = [some (.ref n),some (.ref a),some (.ref p),l,v4]/\F1 H c/\c p=some (Pg P w p (Kk (b.take i)))) ⟨_,_,rfl,U,A9⟩ ?_ ?_ ?_ ?_⟩⟩
  .rintro i σ c B ⟨G,l,rfl,d,m⟩;exact⟨_,_,(d.at a).seqL y,by unfold O5;rw[AH,AC B];rfl⟩
  .rintro σ c ⟨G,l,rfl,d,m⟩;exact⟨_,(d.at a).seqL y,by unfold O5;rw[AB]⟩
  .rintro i σ c v H' B ⟨G,l,rfl,d,m⟩ ⟨t,x,rfl,V,rfl,o⟩;have o:=o _ ((d.at a).seqL y);have g:b[i]?=some b[i]:=AC B;unfold O5 at o;rw[AH,g]at o;cases o;have W:b[i]∈b:=GB B;obtain⟨I,J⟩:=hN _ W;have L:p≠t:=B3 m V;have C:F1 H (IK c t (.tup [.int i,.ref b[i].1])):=d.trans (F1.new V);have j:=C _ _ (O _ W);refine⟨t,A6 rfl ⟨JJ.of A9,rfl,_,A6 rfl (C0 rfl rfl ?_)⟩⟩;refine A6 rfl (A6 rfl ⟨n,Y,b[i].1,b[i].2.1,b[i].2.2,rfl,(C.at n).seqL Z,j,I,J,A6 rfl ?_⟩);refine Z0 ?_;have M:(IK c t (.tup [.int i,.ref b[i].1])) p=some (Pg P w p (Kk (b.take i))):=by rw[B6 L];exact m
   have r:Lq (IK c t (.tup [.int i,.ref b[i].1])) (Kk (b.take i)):=Wi (Q3 C λq j=>O q (CH j));have u:∀q∈Kk (b.take i),q.1≠[.inr b[i].2.1,.inr b[i].2.2]:=λq j e=>by
    obtain⟨z,hz,rfl⟩:=AX.mp j;have e':z.2=b[i].2:=by
     obtain⟨z1,z2,z3⟩:=z;simp only[List.cons.injEq,Sum.inr.injEq,and_true]at e;exact Prod.ext e.1 e.2
    have h1:(b.map λq=>q.2)[i]?=some b[i].2:=by rw[AH,g];rfl
    refine Dq hD h1 ?_;rw[<-List.map_take,<-e'];exact AX.mpr ⟨z,hz,rfl⟩
   refine A6 rfl (A6 rfl ⟨p,b[i].1,_,[.inr b[i].2.1,.inr b[i].2.2],rfl,rfl,M,j,r,u,A6 rfl ?_⟩);refine Z0 ?_;refine A6 rfl ⟨⟨p,rfl,.inr (.inr ⟨_,M⟩)⟩,A6 rfl ⟨p,b[i].1,_,[.inr b[i].2.1,.inr b[i].2.2],rfl,rfl,M,j,r,u,?_,?_⟩⟩
   .unfold Kk;rw[AB,AZ];lia
   .refine⟨_,A6 rfl ⟨C.upd S,?_⟩⟩;rw[A9,IW g];unfold Kk;rw[AN];rfl
  .rintro σ c ⟨G,l,rfl,d,m⟩;exact k c d
end
def la(a:A1 (JC×V))(n:Str):A3:=match U2 a (.inr n)with | some (.ref l)=>l | _=>0
def Ke(a:A1 (JC×V))(n m:Str)(v:V):U2 (Av a (Sum.inr n:JC) v) (.inr m)=if m=n then some v else U2 a (.inr m):=by
 rw[Aw];by_cases e:m=n
 .rw[AL e,AL (by rw[e])]
 .rw[AJ e,AJ (λz=>e (Sum.inr.inj z))]
def Dd(a:A1 (JC×V))(n m:Str)(p:A3):la (Av a (.inr n) (.ref p)) m=if m=n then p else la a m:=by
 unfold la;rw[Ke];by_cases e:m=n
 .rw[AL e,AL e]
 .rw[AJ e,AJ e]
structure DOk(H0:Hp)(kvs:A1 (JC×V))(ns:A1 Str):Prop where
 val:∀n∈ns,U2 kvs (.inr n)=some (.ref (la kvs n))
 inj:∀n∈ns,∀m∈ns,la kvs n=la kvs m->n=m
 fr:∀n∈ns,H0 (la kvs n)=none
def Ye{K:PySem.W.Frag}{J:It}{a:A3}{ns:A1 Str}{H:Hp}{σ:St}{Q:St->Hp->Prop}(as:LQ J (ns.map V.str) a H)(hσ:∃v,σ = [v])(I:ns.Nodup)(L:ns.length<=1000){D:A3}(A:H D=none)
  (q:∀σ b H',F1 H H'->H' D=some (.dK b)->DOk H b ns->(∀n∈ns,H' (la b n)=some (.lst []))->(∀n∈ns,la b n≠D)->Q σ H') :
  Fi (Y6 0) Cj (Vw D (Pe 0) (zHe Yw)) J σ (IK H D (.dK [])) Q:=by
 obtain⟨v,rfl⟩:=hσ;refine S5 as (λi σ f=>(∃v,σ = [v])/\∃b,F1 H f/\f D=some (.dK b)/\b.length<=i/\DOk H b (ns.take i)/\(∀n∈ns.take i,f (la b n)=some (.lst []))/\∀n∈ns.take i,la b n≠D)
  ⟨⟨v,rfl⟩,[],F1.new A,A9,CL _,⟨λn h=>by simp at h,λn h=>by simp at h,λn h=>by simp at h⟩,λn h=>by simp at h,λn h=>by simp at h⟩ (λi σ f _ ⟨_,b,l,_⟩=>l.at a) ?_ ?_
 .rintro i σ f x N s ⟨⟨v,rfl⟩,b,l,w,C,t,o,y⟩ E;rw[AH]at s;have F:i<ns.length:=by
   rcases Nat.lt_or_ge i ns.length with z | z
   .exact z
   .rw[ET z]at s;cases s
  have u:ns[i]?=some ns[i]:=AC F;rw[u]at s;cases s;refine o9 ?_;refine A6 rfl ⟨CL _,λp r=>?_⟩;have g:D≠p:=B3 w r;refine⟨b,.inr ns[i],by rw[B6 g];exact w,rfl,by rw[sizeLine_eq];lia,E _ _ ⟨⟨_,rfl⟩,Av b (.inr ns[i]) (.ref p),?_,A9,?_,⟨?_,?_,?_⟩,?_,?_⟩⟩
  .exact(l.trans (F1.new r)).upd A
  .have:=R9 b (Sum.inr ns[i]:JC) (.ref p);lia
  all_goals rw[IW u]
  .intro n c;rw[Ke,Dd];by_cases e:n=ns[i]
   .rw[AL e,AL e]
   .rw[AJ e,AJ e];rcases AO.mp c with z | z
    .exact t.val n z
    .exact absurd (AD.mp z) e
  .intro n c m B;rw[Dd,Dd];have d:∀k∈ns.take i ++ [ns[i]],k≠ns[i]->k∈ns.take i:=λk G e=>(AO.mp G).elim id λz=>absurd (AD.mp z) e;by_cases e:n=ns[i]
   .by_cases j:m=ns[i]
    .exact λ_=>e.trans j.symm
    .rw[AL e,AJ j];intro z;have:=o m (d m B j);rw[<-z,r]at this;cases this
   .by_cases j:m=ns[i]
    .rw[AJ e,AL j];intro z;have:=o n (d n c e);rw[z,r]at this;cases this
    .rw[AJ e,AJ j];exact t.inj n (d n c e) m (d m B j)
  .intro n c;rw[Dd];by_cases e:n=ns[i]
   .rw[AL e];exact l.free r
   .rw[AJ e];rcases AO.mp c with z | z
    .exact t.fr n z
    .exact absurd (AD.mp z) e
  .intro n c;rw[Dd];by_cases e:n=ns[i]
   .rw[AL e,B6 g.symm,A9]
   .rw[AJ e];rcases AO.mp c with z | z
    .rw[B6 (y n z),B6 (B3 (o n z) r)];exact o n z
    .exact absurd (AD.mp z) e
  .intro n c;rw[Dd];by_cases e:n=ns[i]
   .rw[AL e];exact g.symm
   .rw[AJ e];rcases AO.mp c with z | z
    .exact y n z
    .exact absurd (AD.mp z) e
 .rintro σ f ⟨_,b,l,w,C,t,o,y⟩;rw[AB]at *;rw[BQ]at *;exact q σ b f l w t o y
def B2(a:A1 JV)(n:Str):A1 Str:=(a.filter λq=>decide (q.2.2=n)).map λq=>q.2.1
def E2(a:A1 JV)(n:Str):A1 Str:=(a.filter λq=>decide (q.2.1=n)).map λq=>q.2.2
def Be(a:A1 JV)(q:JV)(n:Str):B2 (a ++ [q]) n=B2 a n ++(if q.2.2=n then [q.2.1]else []):=by
 unfold B2;rw[EY,AN];by_cases e:q.2.2=n
 .rw[AL e,DQ,AL (BB e)];rfl
 .rw[AJ e,DQ,AJ (by simp[e])];rfl
def En(a:A1 JV)(q:JV)(n:Str):E2 (a ++ [q]) n=E2 a n ++(if q.2.1=n then [q.2.2]else []):=by
 unfold E2;rw[EY,AN];by_cases e:q.2.1=n
 .rw[AL e,DQ,AL (BB e)];rfl
 .rw[AJ e,DQ,AJ (by simp[e])];rfl
def wf(a b c d:A3):A1 (Str×V):=[("names",.ref a),("strikes",.ref b),("strikers_by_name",.ref c),("struck_by_name",.ref d)]
structure UB(ns:A1 Str)(qs:A1 JV):Prop where
 nd:ns.Nodup
 len:ns.length<=100
 srt:ns.Pairwise QP
 mem:∀q∈qs,q.2.1∈ns/\q.2.2∈ns
 ndq:(qs.map λq=>q.2).Nodup
 lenq:qs.length<=200
 srq:qs.Pairwise SG
structure KD(C:A3)(H:Hp)(x:A3)(ns:A1 Str)(qs:A1 JV):Prop where
 ok:UB ns qs
 ex:∃dx a b c d kc kd,H x=some (.ins C dx (wf a b c d))/\H a=some (.lst (ns.map V.str))/\H b=some (.lst (O5 qs))/\(∀q∈qs,K9 H q)/\H c=some (.dK kc)/\H d=some (.dK kd) /\
  (∀n∈ns,∃l,U2 kc (.inr n)=some (.ref l)/\H l=some (.lst ((B2 qs n).map V.str)))/\∀n∈ns,∃l,U2 kd (.inr n)=some (.ref l)/\H l=some (.lst ((E2 qs n).map V.str))
section
variable{P:A7}{w:F8}{K:PySem.W.Frag}{mg:Str->A5 A2}{base:IM}
theorem KW:IL ["self", "names", "strikes", "one", "other"] ["self", "names", "strikes"] (B7 MT):=KU
def Kg(K:PySem.W.Frag)(C:A3):Sp:=λg H Q _=>∃(x h n:A3) (b:A1 Str) (a:A3) (c:A1 JV),g = [.ref x,.ref n,.ref a]/\H x=some (.ins C h [])/\H n=some (.lst (b.map V.str))/\W9 b /\
 H a=some (.lst (O5 c))/\(∀q∈c,K9 H q)/\OB b c/\∀d e f,d.Perm b->d.Pairwise QP->e.Perm c->e.Pairwise SG->Sm [x] H f->KD C f x d e->Q .non f
theorem Ji(T:Tx K mg):IU P w K mg base JE 3 T.bw T.bv ["self", "names", "strikes"] (Kg K T.ag):=by
 refine T.bx.o1 KW λcdv A outer s H vs Q E hr h=>?_
 .obtain⟨x,g,n,ss,a,ps,rfl,hx,hS,hN,hP,hI,hO,k⟩:=h;have hu:=V6 hr;refine⟨_,(B4 (J7 (C9 T.aV (Cp T) (Rm hr) (A8 (pv 1) B1)))
   (B4 (J7 (C9 T.aQ (Aq T) (Rm hr) (A8 (pv 1) (A8 (pv 2) B1))))
   (B4 (RM K (pv 0) (E1 (Ma K) T.a6 X2 (A8 (pv 1) B1)))
   (B4 (RM K (pv 0) (E1 (Nd K) T.a6 X2 (A8 (pv 2) B1)))
   (B4 (RM K (pv 0) (Nt (N':=["name"]) (cap:=[none]) (cl:=[]) (P8 trivial trivial) rfl (MZ K (PD K (pv 0))) (λ_ _ _ _=>by exact⟨(MN 0),J8,(pv 0),(Q5 B1)⟩)))
   (B4 (RM K (pv 0) (Nt (N':=["name"]) (cap:=[none]) (cl:=[]) (P8 trivial trivial) rfl (MZ K (PD K (pv 0))) (λ_ _ _ _=>by exact⟨(MN 0),J8,(pv 0),(Q5 B1)⟩)))
   (B5 (O6 PassesOwn.never rfl (MZ K (PD K (pv 0))) (QT K (n:=2) (C5 (C7 (i:=3) KW.nd rfl (.inl rfl)) (C5 (C7 (i:=4) KW.nd rfl (.inl rfl)) P9)))
   (B4 (J7 (Jb K PySem.F.plainAttrs_list PySem.F.slot_list_append PySem.F.type_list_append K4 (K3 hu (PD K (pv 0)) (pv 4) (λ_ _=>rfl)) (A8 (pv 3) B1)))
   (B5 (J7 (Jb K PySem.F.plainAttrs_list PySem.F.slot_list_append PySem.F.type_list_append K4 (K3 hu (PD K (pv 0)) (pv 3) (λ_ _=>rfl)) (A8 (pv 4) B1))))))))))))),?_⟩
  obtain⟨hN1,hN2,hN3⟩:=id hN;obtain⟨hO1,hO2,hO3⟩:=id hO;refine B9 λZ1 hZ1=>?_;refine A6 rfl ⟨n,ss,rfl,IS.of hS,hN,λH1 s1=>?_⟩;refine hZ1 _ _ (B9 λZ2 hZ2=>?_);refine A6 rfl (A6 rfl ⟨n,ss,a,ps,rfl,IS.of (s1 _ _ hS),IS.of (s1 _ _ hP),Q3 s1 hI,hO,λH2 s2=>?_⟩);refine hZ2 _ _ (B9 λZ3 hZ3=>?_);have s12:=s1.trans s2;refine A6 rfl ⟨n,ss,rfl,IS.of (s12 _ _ hS),λj p hl1 p1 w1=>?_⟩;have M:x≠j:=B3 (s12 _ _ hx) hl1;refine A6 rfl ⟨x,T.ag,g,[],rfl,by rw[B6 M];exact s12 _ _ hx,T.am,T.aR,by decide,?_⟩;have hxa:a≠x:=S7 hP hx (by intro z;cases z);have k3:Sm [x] H (IK (IK H2 j (.lst (p.map V.str))) x (.ins T.ag g (R4 "names" (.ref j) []))):=(Sm.new s12.sm hl1).upd (by simp);have e3:(IK (IK H2 j (.lst (p.map V.str))) x (.ins T.ag g (R4 "names" (.ref j) []))) j=some (.lst (p.map V.str)):=by rw[B6 M.symm,A9]
  generalize hH3:IK (IK H2 j (.lst (p.map V.str))) x (.ins T.ag g (R4 "names" (.ref j) []))=H3 at k3 e3⊢;refine hZ3 _ _ (B9 λZ4 hZ4=>?_);have x3:H3 x=some (.ins T.ag g [("names",.ref j)]):=by rw[<-hH3,A9];rfl
  have r:∀{b:A3},b≠x->b∉[x]:=λh z=>h (AD.mp z);have U:∀q∈ps,K9 H3 q:=λq D=>k3 _ _ (hI q D) (r (S7 (hI q D) hx (by intro z;cases z)));refine A6 rfl ⟨a,ps,rfl,IS.of (k3 _ _ hP (r hxa)),U,λt y hl2 p2 w2=>?_⟩;have N:x≠t:=B3 x3 hl2;refine A6 rfl ⟨x,T.ag,g,[("names",.ref j)],rfl,by rw[B6 N];exact x3,T.am,T.bc,by simp,?_⟩;have k4:Sm [x] H3 (IK (IK H3 t (.lst (O5 y))) x (.ins T.ag g (R4 "strikes" (.ref t) [("names",.ref j)]))):=(Sm.new (Sm.refl _ _) hl2).upd (by simp);have e4:(IK (IK H3 t (.lst (O5 y))) x (.ins T.ag g (R4 "strikes" (.ref t) [("names",.ref j)]))) t=some (.lst (O5 y)):=by rw[B6 N.symm,A9]
  have R:(IK (IK H3 t (.lst (O5 y))) x (.ins T.ag g (R4 "strikes" (.ref t) [("names",.ref j)]))) x=some (.ins T.ag g [("names",.ref j),("strikes",.ref t)]):=by rw[A9];rfl
  refine hZ4 _ _ ?_;show TD _ _ _ _ (IK (IK H3 t (.lst (O5 y))) x (.ins T.ag g (R4 "strikes" (.ref t) [("names",.ref j)])));generalize IK (IK H3 t (.lst (O5 y))) x (.ins T.ag g (R4 "strikes" (.ref t) [("names",.ref j)]))=H4 at k4 e4 R⊢;have f4:H4 j=some (.lst (p.map V.str)):=k4 _ _ e3 (r M.symm);have u:∀q∈y,K9 H4 q:=λq D=>k4 _ _ (U q (p2.mem_iff.mp D)) (r (S7 (U q (p2.mem_iff.mp D)) x3 (by intro z;cases z)));have ndn:p.Nodup:=p1.nodup_iff.mpr hN2;have lnn:p.length<=1000:=by rw[p1.length_eq];lia
  refine B9 λZ5 hZ5=>?_;refine A6 rfl ⟨x,T.ag,g,_,A6 rfl ⟨R,T.am,T.aR,rfl,j,rfl,⟨_,IS.of f4⟩,λc hc=>Ye (K:=K) (MY (IS.of f4)) ⟨_,rfl⟩ ndn lnn hc λ_ I H5 s5 e5 D5 c5 n5=>?_⟩⟩;have x5:=s5 _ _ R;refine A6 rfl ⟨x,T.ag,g,A6 rfl ⟨x5,T.am,T.aG,by simp,?_⟩⟩;have k6:Sm [x] H5 (IK H5 x (.ins T.ag g (R4 "strikers_by_name" (.ref c) [("names",.ref j),("strikes",.ref t)]))):=(Sm.refl _ _).upd (by simp);have x6:(IK H5 x (.ins T.ag g (R4 "strikers_by_name" (.ref c) [("names",.ref j),("strikes",.ref t)]))) x=some (.ins T.ag g [("names",.ref j),("strikes",.ref t),("strikers_by_name",.ref c)]):=by rw[A9];rfl
  generalize IK H5 x (.ins T.ag g (R4 "strikers_by_name" (.ref c) [("names",.ref j),("strikes",.ref t)]))=H6 at k6 x6⊢;refine hZ5 _ _ (B9 λZ6 hZ6=>?_);have W:∀{b:A3} {o:HO},H4 b=some o->b≠x->H6 b=some o:=λe B=>k6 _ _ (s5 _ _ e) (r B);have f6:=W f4 M.symm;have g6:=W e4 N.symm;have c6:H6 c=some (.dK I):=k6 _ _ e5 (r (B3 R hc).symm);have cl6:∀n∈p,H6 (la I n)=some (.lst []):=λn f=>k6 _ _ (c5 n f) (r (B3 R (D5.fr n f)).symm);refine A6 rfl ⟨x,T.ag,g,_,A6 rfl ⟨x6,T.am,T.aR,rfl,j,rfl,⟨_,IS.of f6⟩,λd hd=>Ye (K:=K) (MY (IS.of f6)) ⟨_,rfl⟩ ndn lnn hd λ_ L H7 s7 e7 D7 c7 n7=>?_⟩⟩;have x7:=s7 _ _ x6;refine A6 rfl ⟨x,T.ag,g,A6 rfl ⟨x7,T.am,T.aL,by simp,?_⟩⟩;have k8:Sm [x] H7 (IK H7 x (.ins T.ag g (R4 "struck_by_name" (.ref d) [("names",.ref j),("strikes",.ref t),("strikers_by_name",.ref c)]))):=(Sm.refl _ _).upd (by simp);have x8:(IK H7 x (.ins T.ag g (R4 "struck_by_name" (.ref d) [("names",.ref j),("strikes",.ref t),("strikers_by_name",.ref c)]))) x=some (.ins T.ag g (wf j t c d)):=by rw[A9];rfl
  generalize IK H7 x (.ins T.ag g (R4 "struck_by_name" (.ref d) [("names",.ref j),("strikes",.ref t),("strikers_by_name",.ref c)]))=H8 at k8 x8⊢;refine hZ6 _ _ ?_;have O:∀{b:A3} {o:HO},H6 b=some o->b≠x->H8 b=some o:=λe B=>k8 _ _ (s7 _ _ e) (r B);have f8:=O f6 M.symm;have g8:=O g6 N.symm;have c8:=O c6 (B3 R hc).symm;have d8:H8 d=some (.dK L):=k8 _ _ e7 (r (B3 x6 hd).symm);have cl8:∀n∈p,H8 (la I n)=some (.lst []):=λn f=>O (cl6 n f) (B3 R (D5.fr n f)).symm;have dl8:∀n∈p,H8 (la L n)=some (.lst []):=λn f=>k8 _ _ (c7 n f) (r (B3 x6 (D7.fr n f)).symm);have pin8:∀q∈y,K9 H8 q:=λq D=>O (W (u q D) (S7 (u q D) R (by intro z;cases z))) (S7 (u q D) R (by intro z;cases z));have dif:∀n∈p,∀m∈p,la I n≠la L m:=λn f m G=>B3 (cl6 n f) (D7.fr m G);have C:∀{b:A3} {o:HO},H4 b=some o->b≠x->(∀n∈p,b≠la I n)/\∀n∈p,b≠la L n:=λe B=>⟨λn f=>B3 e (D5.fr n f),λn f=>B3 (W e B) (D7.fr n f)⟩;have kall:Sm [x] H H8:=λb o e B=>by
   have hb':b≠x:=λz=>B (by simp[z]);exact O (W (k4 _ _ (k3 _ _ e B) B) hb') hb'
  have odif:∀{b:A3} {o:HO},H b=some o->b≠x->(∀n∈p,b≠la I n)/\∀n∈p,b≠la L n:=λe B=>C (k4 _ _ (k3 _ _ e (r B)) (r B)) B;have X:(∀n∈p,x≠la I n)/\∀n∈p,x≠la L n:=⟨λn f=>B3 R (D5.fr n f),λn f=>B3 x6 (D7.fr n f)⟩;have cdif:(∀n∈p,c≠la I n)/\∀n∈p,c≠la L n:=⟨λn f=>(n5 n f).symm,λn f=>B3 c6 (D7.fr n f)⟩;have Y:(∀n∈p,d≠la I n)/\∀n∈p,d≠la L n:=⟨λn f=>(B3 (cl6 n f) hd).symm,λn f=>(n7 n f).symm⟩;refine⟨_,rfl,x,T.ag,g,_,_,rfl,x8,T.am,T.bc,rfl,t,rfl,⟨_,IS.of g8⟩,X0 (MY (IS.of g8)) (λi σ S=>(∃v3 v4,σ = [some (.ref x),some (.ref n),some (.ref a),v3,v4]) /\
   (∀b o,H8 b=some o->((∀n∈p,b≠la I n)/\∀n∈p,b≠la L n)->S b=some o)/\(∀n∈p,S (la I n)=some (.lst ((B2 (y.take i) n).map V.str)))/\∀n∈p,S (la L n)=some (.lst ((E2 (y.take i) n).map V.str)))
   ⟨⟨_,_,rfl⟩,λb o e _=>e,cl8,dl8⟩ ?_ ?_ ?_⟩
  .rintro i σ S _ ⟨_,J,_⟩ o e;exact J _ _ e (C e4 N.symm)
  .rintro i σ S v hv ⟨⟨v3,v4,rfl⟩,J,h2,h3⟩ D1 hD1 _;unfold O5 at hv;rw[AH]at hv;cases D:y[i]? with
   | none=>rw[D]at hv;cases hv
   | some q =>
    rw[D]at hv;cases hv;have G:q∈y:=AI D;have hq9:K9 S q:=J _ _ (pin8 q G) (C (u q G) (S7 (u q G) R (by intro z;cases z)));obtain⟨m1,Z⟩:=hO1 q (p2.mem_iff.mp G);have m1:q.2.1∈p:=p1.mem_iff.mpr m1;have Z:q.2.2∈p:=p1.mem_iff.mpr Z;have hlen:∀l:A1 JV,l.length<=200->∀n,(B2 l n).length<=200/\(E2 l n).length<=200:=λl hl n=>by
     unfold B2 E2;rw[AB,AB];exact⟨Nat.le_trans (BM ..) hl,Nat.le_trans (BM ..) hl⟩
    have hl200:(y.take i).length<=200:=by
     rw[AZ];have:=p2.length_eq;lia
    have x9:S x=some (.ins T.ag g (wf j t c d)):=J _ _ x8 X;refine⟨q.1,A6 rfl ⟨JJ.of hq9,rfl,_,A6 rfl (C0 rfl rfl ?_)⟩⟩;refine A6 rfl ⟨x,T.ag,g,_,A6 rfl ⟨x9,T.am,T.aG,rfl,A6 rfl ⟨c,.ref (la I q.2.2),rfl,by rw[<-D5.val _ Z];exact MM.k (k:=Sum.inr q.2.2) (J _ _ c8 cdif),.inl ⟨rfl,_,IS.of (h2 _ Z)⟩,A6 rfl ⟨_,C0 rfl rfl ⟨h2 _ Z,?_,?_⟩⟩⟩⟩⟩
    .rw[AB,sizeLine_eq];have:=(hlen _ hl200 q.2.2).1;lia
    have x10:(IK S (la I q.2.2) (.lst ((B2 (y.take i) q.2.2).map V.str ++ [.str q.2.1]))) x=some (.ins T.ag g (wf j t c d)):=by rw[B6 (X.1 _ Z)];exact x9
    have d10:(IK S (la I q.2.2) (.lst ((B2 (y.take i) q.2.2).map V.str ++ [.str q.2.1]))) d=some (.dK L):=by rw[B6 (Y.1 _ Z)];exact J _ _ d8 Y
    have l10:(IK S (la I q.2.2) (.lst ((B2 (y.take i) q.2.2).map V.str ++ [.str q.2.1]))) (la L q.2.1)=some (.lst ((E2 (y.take i) q.2.1).map V.str)):=by rw[B6 (dif _ Z _ m1).symm];exact h3 _ m1
    refine A6 rfl ⟨x,T.ag,g,_,A6 rfl ⟨x10,T.am,T.aL,rfl,A6 rfl ⟨d,.ref (la L q.2.1),rfl,by rw[<-D7.val _ m1];exact MM.k (k:=Sum.inr q.2.1) d10,.inl ⟨rfl,_,IS.of l10⟩,A6 rfl ⟨_,C0 rfl rfl ⟨l10,?_,?_⟩⟩⟩⟩⟩
    .rw[AB,sizeLine_eq];have:=(hlen _ hl200 q.2.1).2;lia
    refine hD1 _ _ ⟨⟨_,_,rfl⟩,λb o e B=>?_,λm G=>?_,λm G=>?_⟩
    .rw[B6 (B.2 _ m1),B6 (B.1 _ Z)];exact J b o e B
    .rw[B6 (dif m G _ m1),IW D,Be];by_cases e:q.2.2=m
     .rw[<-e,A9,AL rfl,AN];rfl
     .rw[AJ e,BU,B6 (λz=>e (D5.inj _ G _ Z z).symm)];exact h2 m G
    .rw[IW D,En];by_cases e:q.2.1=m
     .rw[<-e,A9,AL rfl,AN];rfl
     .rw[AJ e,BU,B6 (λz=>e (D7.inj _ G _ m1 z).symm),B6 (dif _ Z _ G).symm];exact h3 m G
  .rintro σ S ⟨_,J,h2,h3⟩;have hlq:(O5 y).length=y.length:=by unfold O5;rw[AB]
   rw[hlq,BQ]at h2 h3;refine k p y S p1 w1 p2 w2 (λb o e B=>?_) ⟨⟨ndn,by rw[p1.length_eq];exact hN3,w1,λq D=>⟨p1.mem_iff.mpr (hO1 q (p2.mem_iff.mp D)).1,p1.mem_iff.mpr (hO1 q (p2.mem_iff.mp D)).2⟩,(p2.map _).nodup_iff.mpr hO2,by rw[p2.length_eq];exact hO3,w2⟩,g,j,t,c,d,I,L,J _ _ x8 X,J _ _ f8 (C f4 M.symm),J _ _ g8 (C e4 N.symm),λq G=>J _ _ (pin8 q G) (C (u q G) (S7 (u q G) R (by intro z;cases z))),J _ _ c8 cdif,J _ _ d8 Y,λn f=>⟨_,D5.val n f,h2 n f⟩,λn f=>⟨_,D7.val n f,h3 n f⟩⟩;have hb':b≠x:=λz=>B (by simp[z]);exact J _ _ (kall b o e B) (odif e hb')
end
def KD.same{C:A3}{H H':Hp}{x:A3}{ns:A1 Str}{g:A1 JV}(h:KD C H x ns g)(s:F1 H H'):KD C H' x ns g:=by
 obtain⟨i,j,a,b,c,d,k,m,o,p,q,r,t,u,w,y⟩:=h;exact⟨i,j,a,b,c,d,k,m,s _ _ o,s _ _ p,s _ _ q,Q3 s r,s _ _ t,s _ _ u,λn f=>let⟨l,v,e⟩:=w n f;⟨l,v,s _ _ e⟩,λn f=>let⟨l,v,e⟩:=y n f;⟨l,v,s _ _ e⟩⟩
section
variable{P:A7}{w:F8}{K:PySem.W.Frag}{mg:Str->A5 A2}{base:IM}
theorem An:IL ["self"] ["self"] (B7 MJ):=KU
def Hc(C:A3):Sp:=λb H Q _=>∃(x:A3) (a:A1 Str) (c:A1 JV),b = [.ref x]/\KD C H x a c/\∀l,H l=none->Q (.ref l) (IK H l (.lst (a.map V.str)))
theorem I9(T:Tx K mg):IU P w K mg base JE 1 T.af.f T.af.fd ["self"] (Hc T.ag):=by
 refine T.af.F.o1 An λg A e s H m Q E n h=>?_
 .obtain⟨x,o,p,rfl,⟨q,i,a,b,c,d,r,t,j,l,u,v,y,z,B,C⟩,k⟩:=h;refine⟨_,(B5 (C3 (Hq (w8 K) T.az Q4 (A8 (PD K (pv 0)) B1)))),?_⟩;exact⟨_,rfl,x,T.ag,i,_,_,rfl,j,T.am,T.aR,rfl,a,_,rfl,.inl (IS.of l),k⟩
theorem As:IL ["self", "name"] ["self", "name"] (B7 MI):=KU
def Gq(C:A3):Sp:=λb H Q _=>∃(x:A3) (n:Str) (a:A1 Str) (c:A1 JV),b = [.ref x,.str n]/\KD C H x a c/\n∈a/\Q .non H
theorem V3(T:Tx K mg):IU P w K mg base JE 1 T.as.f T.as.fd ["self", "name"] (Gq T.ag):=by
 refine T.as.F.o1 As λg A e s H o Q E p h=>?_
 .obtain⟨x,n,q,r,rfl,⟨t,i,a,b,c,d,u,v,j,l,y,z,B,C,D,G⟩,m,k⟩:=h;refine⟨_,(B5 (M9 (D6 (Ex K) (pv 1) (PD K (pv 0)) rfl) (B5 Fz) D4)),?_⟩;refine A6 rfl (A6 rfl ⟨x,T.ag,i,_,A6 rfl ⟨j,T.am,T.aR,rfl,w5 (.inl (IS.of l)) ⟨_,rfl,?_⟩⟩⟩);rw[BB m];exact Z0 k
theorem Fk:IL ["self", "name"] ["self", "name"] (B7 NX):=KU
def Tc(C:A3):Sp:=λc H Q _=>∃(x:A3) (n:Str) (a:A1 Str) (b:A1 JV),c = [.ref x,.str n]/\KD C H x a b/\n∈a/\∀l,H l=none->Q (.ref l) (IK H l (.lst ((E2 b n).map V.str)))
theorem Ez(T:Tx K mg):IU P w K mg base JE 2 T.aO.f T.aO.fd ["self", "name"] (Tc T.ag):=by
 refine T.aO.F.o1 Fk λr A g s H C Q E i h=>?_
 .obtain⟨x,n,t,u,rfl,j,o,k⟩:=h;have y:=V6 i;obtain⟨D,p,a,b,c,d,G,I,q,J,L,M,N,z,O,B⟩:=id j;refine⟨_,(B4 (J7 (D8 (pv 0) T.am T.as.m (V3 T) (Rm i) T.as.b .nil J9 (A8 (pv 1) B1)))
   (B5 (C3 (Hq (w8 K) T.az Q4 (A8 (K3 y (PD K (pv 0)) (pv 1) (λ_ _=>rfl)) B1))))),?_⟩
  refine A6 rfl ⟨x,p,A6 rfl ⟨q,rfl,A6 rfl ⟨x,n,t,u,rfl,j,o,?_⟩⟩⟩;obtain⟨l,v,e⟩:=B n o;exact⟨_,rfl,x,T.ag,p,_,_,rfl,q,T.am,T.aL,rfl,_,rfl,d,_,rfl,by rw[<-v];exact MM.k (k:=Sum.inr n) z,l,_,rfl,.inl (IS.of e),k⟩
theorem Br:IL ["self", "name"] ["self", "name"] (B7 MS):=KU
def Lb(C:A3):Sp:=λc H Q _=>∃(x:A3) (n:Str) (a:A1 Str) (b:A1 JV),c = [.ref x,.str n]/\KD C H x a b/\n∈a/\∀l,H l=none->Q (.ref l) (IK H l (.lst ((B2 b n).map V.str)))
theorem M8(T:Tx K mg):IU P w K mg base JE 2 T.ak.f T.ak.fd ["self", "name"] (Lb T.ag):=by
 refine T.ak.F.o1 Br λr A g s H C Q E i h=>?_
 .obtain⟨x,n,t,u,rfl,j,o,k⟩:=h;have y:=V6 i;obtain⟨D,p,a,b,c,d,G,I,q,J,L,M,z,N,B,O⟩:=id j;refine⟨_,(B4 (J7 (D8 (pv 0) T.am T.as.m (V3 T) (Rm i) T.as.b .nil J9 (A8 (pv 1) B1)))
   (B5 (C3 (Hq (w8 K) T.az Q4 (A8 (K3 y (PD K (pv 0)) (pv 1) (λ_ _=>rfl)) B1))))),?_⟩
  refine A6 rfl ⟨x,p,A6 rfl ⟨q,rfl,A6 rfl ⟨x,n,t,u,rfl,j,o,?_⟩⟩⟩;obtain⟨l,v,e⟩:=B n o;exact⟨_,rfl,x,T.ag,p,_,_,rfl,q,T.am,T.aG,rfl,_,rfl,c,_,rfl,by rw[<-v];exact MM.k (k:=Sum.inr n) z,l,_,rfl,.inl (IS.of e),k⟩
theorem m8:IL ["self"] ["self"] (B7 LN):=KU
def Cz(C:A3):Sp:=λb H Q _=>∃(x:A3) (c:A1 Str) (a:A1 JV),b = [.ref x]/\KD C H x c a/\∀l,H l=none->Q (.ref l) (IK H l (.lst (O5 a)))
theorem n8(T:Tx K mg):IU P w K mg base JE 1 T.ax.f T.ax.fd ["self"] (Cz T.ag):=by
 refine T.ax.F.o1 m8 λg A e s H m Q E n h=>?_
 .obtain⟨x,o,p,rfl,⟨q,i,a,b,c,d,r,t,j,u,l,v,y,z,B,C⟩,k⟩:=h;refine⟨_,(B5 (C3 (Hq (w8 K) T.az Q4 (A8 (PD K (pv 0)) B1)))),?_⟩;exact⟨_,rfl,x,T.ag,i,_,_,rfl,j,T.am,T.bc,rfl,b,_,rfl,.inl (IS.of l),k⟩
theorem OU:IL ["_law_cell", "_law_k", "_law_m"] ["_law_cell", "_law_k"] (B7 PL):=KU
def zBt:Sp:=λb H Q _=>∃(a k:Int),b = [.int a,.int k]/\0<=k/\k<=2000000/\∀m:Int,0<=m->m<1999999973->Q (.int m) H
theorem Dk(T:Tx K mg):IU P w K mg base JE 1 T.bd.f T.bd.fd ["_law_cell", "_law_k"] zBt:=by
 refine T.bd.F.o1 OU λd A b s H e Q E g h=>?_
 .obtain⟨a,k,rfl,j,l,q⟩:=h;refine⟨_,(B4 (C6 (i:=2) OU.nd rfl (.inl rfl) (C8 Hv (C8 Dc (C8 Z7 (C8 Z7 (C8 Hv (pv 0) B8) (C8 Dc (C8 Dc (pv 1) (pv 1)) B8)) B8) B8) B8))
   (B5 (C3 (C8 Hv (C8 Dc (pv 2) (pv 2)) B8)))),?_⟩
  refine A6 rfl (C0 rfl rfl ⟨(show(0:Int)<2147483629 by decide),A6 rfl (A6 rfl (C0 rfl rfl ⟨.inl ⟨by lia,by lia⟩,C0 rfl rfl ⟨.inr ⟨by decide,by decide⟩,C0 rfl rfl (C0 rfl rfl (C0 rfl rfl ⟨.inr ⟨by decide,by decide⟩,C0 rfl rfl ⟨(show(0:Int)<2147483647 by decide),?_⟩⟩))⟩⟩))⟩);generalize c:(a % 2147483629+k*k*7919+11)*48271 % 2147483647=m;have n:0<=m:=by rw[<-c];exact GP _ (by decide)
  have o:m<2147483647:=by rw[<-c];exact FM _ (by decide)
  exact⟨_,rfl,_,rfl,_,_,rfl,rfl,.inl ⟨by lia,by lia⟩,_,_,rfl,rfl,(show(0:Int)<1999999973 by decide),q _ (GP _ (by decide)) (FM _ (by decide))⟩
def I_(H:Hp)(p:A3)(c:Int):Prop:=∃a b:Int,H p=some (.lst [.int a,.int b,.int c])/\0<=c
theorem I_.isS{H:Hp}{p:A3}{c:Int}(h:I_ H p c):(H p).isSome=true:=by
 obtain⟨_,_,e,_⟩:=h;rw[e];rfl
theorem I_.get{H:Hp}{p:A3}{c:Int}(h:I_ H p c):H p=some ((H p).get h.isS):=(Option.some_get _).symm
theorem I_.cast{H:Hp}{p:A3}{c a:Int}(h:I_ H p c)(e:c=a):I_ H p a:=e▸h
theorem I_.upd{H:Hp}{p a:A3}{c:Int}{o:HO}(h:I_ H p c)(n:p≠a):I_ (L2.IK H a o) p c:=by
 obtain⟨x,y,e,z⟩:=h;exact⟨x,y,by rw[B6 n];exact e,z⟩
theorem I_.same{H H':Hp}{p:A3}{c:Int}(h:I_ H p c)(s:F1 H H'):I_ H' p c:=by
 obtain⟨x,y,e,z⟩:=h;exact⟨x,y,s _ _ e,z⟩
theorem zGv(c:Bool):-(2^64) <(if c=true then(1:Int)else 0)/\(if c=true then(1:Int)else 0)<2^64:=by cases c<;>exact⟨by decide,by decide⟩
theorem OG:IL ["_law_script", "_law_k", "_law_cell"] ["_law_script", "_law_k"] (B7 OY):=KU
def Zz(K:PySem.W.Frag):Sp:=λb H Q _=>∃(p:A3) (c:A1 Int) (k:Nat),b = [.ref p,.int (k:Int)]/\IS K H p (c.map V.int)/\k<=1000/\∀l a,H l=none->F1 H a->I_ a l 0->Q (.ref l) a
theorem Ky(T:Tx K mg):IU P w K mg base JE 1 T.be.f T.be.fd ["_law_script", "_law_k"] (Zz K):=by
 refine T.be.F.o1 OG λo A g s H t Q E u h=>?_
 .obtain⟨p,d,k,rfl,n,v,q⟩:=h;refine⟨_,(B4 (C6 (i:=2) OG.nd rfl (.inl rfl) (Up (D6 zEy (pv 1) (E1 (Q7 K) T.aw Q1 (A8 (pv 0) B1)) (E9 _)) (E7 (M_ K) (pv 0) (pv 1) (λ_ _=>rfl)) B8))
   (B5 (C3 (Q5 (A8 (C8 Dc (E1 Nb T.bD Xi (A8 (pv 2) B1)) (Hq Te T.bE Xh (A8 (Q9 zGl (E1 Nb T.bD Xi (A8 (pv 2) B1)) (C8 zEh B8 B8) (E9 _)) B1))) (A8 (C8 Z7 (pv 2) (C8 Dc B8 (pv 1))) (A8 B8 B1))))))),?_⟩
  refine A6 rfl (A6 rfl (C0 (a:=p) rfl (.inl n) (C0 rfl rfl (A6 rfl ?_))));have j:decide ((k:Int) <((d.map V.int).length:Int))=true->∃c:Int,RH (d.map V.int) (k:Int)=some (.int c):=λb=>by
   have b:(k:Int) <((d.map V.int).length:Int):=BV b;rw[AB]at b;have m:d[k]?=some (d[k]'(by lia)):=AC (by lia);exact⟨_,D0 (by rw[AH,m];rfl)⟩
  refine V0 (λb=>?_) (λb=>?_)
  .obtain⟨c,r⟩:=j b;refine A6 rfl (A6 rfl ⟨p,_,C0 rfl rfl ⟨n,r,?_⟩⟩)
   (repeat first | refine⟨_,rfl,?_⟩ | refine⟨_,_,rfl,rfl,?_⟩)
   refine⟨⟨by decide,by decide,by decide⟩,?_⟩
   (repeat first | refine⟨_,rfl,?_⟩ | refine⟨_,_,rfl,rfl,?_⟩)
   refine .inr ⟨_,rfl,?_⟩
   (repeat first | refine⟨_,rfl,?_⟩ | refine⟨_,_,rfl,rfl,?_⟩)
   refine⟨.inr ?_,?_⟩
   .exact zGv _
   (repeat first | refine⟨_,rfl,?_⟩ | refine⟨_,_,rfl,rfl,?_⟩)
   refine⟨.inl ⟨by decide,by decide⟩,?_⟩
   (repeat first | refine⟨_,rfl,?_⟩ | refine⟨_,_,rfl,rfl,?_⟩)
   exact⟨by show 3<=sizeLine;decide,λl e=>q l _ e (F1.new e) ⟨_,_,A9,by decide⟩⟩
  .skip;(repeat first | refine⟨_,rfl,?_⟩ | refine⟨_,_,rfl,rfl,?_⟩)
   refine⟨⟨by decide,by decide,by decide⟩,?_⟩
   (repeat first | refine⟨_,rfl,?_⟩ | refine⟨_,_,rfl,rfl,?_⟩)
   refine .inr ⟨_,rfl,?_⟩
   (repeat first | refine⟨_,rfl,?_⟩ | refine⟨_,_,rfl,rfl,?_⟩)
   refine⟨.inr ?_,?_⟩
   .exact zGv _
   (repeat first | refine⟨_,rfl,?_⟩ | refine⟨_,_,rfl,rfl,?_⟩)
   refine⟨.inl ⟨by decide,by decide⟩,?_⟩
   (repeat first | refine⟨_,rfl,?_⟩ | refine⟨_,_,rfl,rfl,?_⟩)
   exact⟨by show 3<=sizeLine;decide,λl e=>q l _ e (F1.new e) ⟨_,_,A9,by decide⟩⟩
theorem OF:IL ["_law_left_here", "_law_many", "_law_digit"] ["_law_left_here", "_law_many"] (B7 OX):=KU
def zAn:Sp:=λe H Q _=>∃(p:A3) (c a:Int),e = [.ref p,.int a]/\I_ H p c/\c<=1000000/\0<a/\a<=1000000 /\
 ∀(d:Nat) b,(d:Int)<a->Sm [p] H b->I_ b p (c+1)->Q (.int (d:Int)) b
theorem I0(T:Tx K mg):IU P w K mg base JE 2 T.aq.f T.aq.fd ["_law_left_here", "_law_many"] zAn:=by
 refine T.aq.F.o1 OF λu A o s H x Q E r h=>?_
 .obtain⟨p,c,j,rfl,⟨a,b,e,y⟩,z,k,B,q⟩:=h;refine⟨_,(B4 (Ac (C8 Z7 (E7 (M_ K) (pv 0) B8 (λ_ _=>rfl)) B8) (Lg (pv 0) B8 Au))
   (B4 (M9 (D6 zFw (E7 (M_ K) (pv 0) B8 (λ_ _=>rfl)) B8 (E9 _)) (B4 (C6 (i:=2) OF.nd rfl (.inl rfl) (C8 Hv (E7 (M_ K) (pv 0) B8 (λ_ _=>rfl)) (pv 1)))
   (B4 (Ac (C8 Qi (E7 (M_ K) (pv 0) B8 (λ_ _=>rfl)) (pv 1)) (Lg (pv 0) B8 Au))
   (B5 (C3 (pv 2))))) D4)
   (B5 (C3 (C8 Hv (C8 Qi (C9 T.bd (Dk T) (Rm r) (A8 (C9 T.bd (Dk T) (Rm r) (A8 (E7 (M_ K) (pv 0) B8 (λ_ _=>rfl)) (A8 (E7 (M_ K) (pv 0) B8 (λ_ _=>rfl)) B1))) (A8 (C8 Z7 (E7 (M_ K) (pv 0) B8 (λ_ _=>rfl)) B8) B1))) B8) (pv 1)))))),?_⟩
  have t:∀d:Int,0<=d->d<j->∀l m,Q (.int d) (IK (IK H p (.lst [.int a,.int b,.int (c+1)])) p (.lst [.int l,.int m,.int (c+1)]))/\Q (.int d) (IK H p (.lst [.int l,.int m,.int (c+1)])):=λd v g l m=>by
   obtain⟨n,rfl⟩:=Int.eq_ofNat_of_zero_le v;exact⟨q n _ g (((Sm.refl _ _).upd (by simp)).upd (by simp)) ⟨l,m,A9,by lia⟩,q n _ g ((Sm.refl _ _).upd (by simp)) ⟨l,m,A9,by lia⟩⟩
  refine A6 rfl ⟨p,_,C0 rfl rfl ⟨IS.of e,rfl,C0 rfl rfl (A6 rfl ⟨p,_,_,2,rfl,rfl,e,rfl,?_⟩)⟩⟩;refine A6 rfl ⟨p,_,C0 rfl rfl ⟨IS.of A9,rfl,C0 rfl rfl (A6 rfl ?_)⟩⟩;refine V0 (λg=>?_) (λg=>?_)
  .have g:(0:Int)<a:=BV g;refine A6 rfl ⟨p,_,C0 rfl rfl ⟨IS.of A9,rfl,A6 rfl (C0 rfl rfl ⟨k,?_⟩)⟩⟩;refine A6 rfl ⟨p,_,C0 rfl rfl ⟨IS.of A9,rfl,A6 rfl (C0 rfl rfl ⟨⟨k,by lia⟩,A6 rfl ⟨p,_,_,0,rfl,rfl,A9,rfl,?_⟩⟩)⟩⟩;exact⟨_,rfl,(t _ (GP _ (by lia)) (FM _ k) _ _).1⟩
  .refine A6 rfl ⟨p,_,C0 rfl rfl ⟨IS.of A9,rfl,A6 rfl ⟨p,_,C0 rfl rfl ⟨IS.of A9,rfl,_,A6 rfl ⟨by lia,by lia,λC D G=>?_⟩⟩⟩⟩⟩;refine A6 rfl ⟨p,_,C0 rfl rfl ⟨IS.of A9,rfl,C0 rfl rfl ⟨_,A6 rfl ⟨by lia,by lia,λI J L=>?_⟩⟩⟩⟩;refine C0 rfl rfl ⟨⟨by decide,by decide⟩,A6 rfl (C0 rfl rfl ⟨k,?_⟩)⟩;exact(t _ (GP _ (by lia)) (FM _ k) _ _).2
end
def six{d n:Nat}(h:d<n):seqIndex? (d:Int) n=some d:=by
 unfold seqIndex?;simp;lia
def KF{α:Type}{l:A1 α}{i:Nat}{x:α}(h:l[i]?=some x):(x::l.eraseIdx i).Perm l:=ST.KF h
def Io{α β:Type}(f:α->β):∀(l:A1 α) (i:Nat),(l.map f).eraseIdx i =(l.eraseIdx i).map f
 | [],_=>rfl
 | _::_,0=>rfl
 | a::l,i+1=>by
  show f a ::(l.map f).eraseIdx i=f a ::(l.eraseIdx i).map f;rw[Io f l i]
def Wc{a b c:A1 Str}(d:(b++c).Perm a)(h1:∀x∈a,U7 x=true)(h2:a.Nodup)(f:a.length<=100):W9 c:=by
 refine⟨λx e=>h1 x (d.mem_iff.mp (BG _ e)),?_,?_⟩
 .exact(DK.mp (d.nodup_iff.mpr h2)).2.1
 .have:=d.length_eq;rw[AW]at this;lia
def Vx{c a b:A1 Str}{d:Nat}{x:Str}(e:(a++b).Perm c)(h:a[d]?=some x):(a.eraseIdx d ++(b ++ [x])).Perm c:=by
 refine List.Perm.trans ?_ e;rw[<-BE];refine CT.trans ?_;rw[<-BE];exact(KF h).append_right b
def NK{p b:A3}{H H':Hp}{o:HO}(h:Sm [p] H H')(e:H b=some o)(n:b≠p):H' b=some o:=h b o e λz=>n (AD.mp z)
section
variable{P:A7}{w:F8}{K:PySem.W.Frag}{mg:Str->A5 A2}{base:IM}
def QH:A1 Str:=["b", "aa", "zebra", "c", "quartzes", "ab", "m", "knows", "d", "mm", "likes", "z", "a", "ba", "abcdefgh", "y", "zz", "e", "x", "f"]
abbrev PJ:Str := "b aa zebra c quartzes ab m knows d mm likes z a ba abcdefgh y zz e x f"
theorem zAf:Builtin.Str.partsBetween PJ (Builtin.Str.occurrences PJ " " 0 PJ.length (PJ.length+1)) (" ":Str).length=QH:=by decide +kernel
theorem QG:(∀x∈QH,U7 x=true)/\QH.Nodup:=⟨by decide +kernel,by decide +kernel⟩
theorem Kq:∃a:A1 Str,a.length=20/\(∀x∈a,U7 x=true)/\a.Nodup/\∀(Q:VK) (H:Hp),(∀l,H l=none->Q (.ref l) (IK H l (.lst (a.map V.str))))->Xc (.str PJ) [.str " "] H Q :=
 ⟨QH,rfl,QG.1,QG.2,λQ H h=>⟨PJ, " ",QH,rfl,rfl,by decide +kernel,by decide +kernel,by decide +kernel,by decide +kernel,zAf,by decide +kernel,h⟩⟩
theorem K_:IL ["_law_left_here", "_law_many", "_law_some", "_law_names_here", "_law_k"] ["_law_left_here", "_law_many"] (B7 OJ):=KU
def Vo:Sp:=λe H Q _=>∃(p:A3) (c:Int) (a:Nat),e = [.ref p,.int (a:Int)]/\I_ H p c/\c<=900000/\a<=20 /\
 ∀l (d:A1 Str) b,H l=none->Sm [p] H b->b l=some (.lst (d.map V.str))->d.length=a->W9 d->I_ b p (c+a)->Q (.ref l) b
set_option maxHeartbeats 2000000 in
theorem Ag(T:Tx K mg):IU P w K mg base JE 3 T.aT.f T.aT.fd ["_law_left_here", "_law_many"] Vo:=by
 refine T.aT.F.o1 K_ λX A C s H vs Q E Y h=>?_
 .obtain⟨p,c,o,rfl,R,c1,m1,q⟩:=h;obtain⟨a0,b0,S,c0⟩:=id R;refine⟨_,(B4 (C6 (i:=2) K_.nd rfl (.inl rfl) (Jb K PySem.F.plainAttrs_str PySem.F.slot_str_split PySem.F.type_str_split Wh U5 (A8 U5 B1)))
   (B4 (C6 (i:=3) K_.nd rfl (.inl rfl) (Q5 B1))
   (B4 (O6 PassesOwn.never rfl (TR T.a0 (A8 (pv 1) B1)) (C7 (i:=4) K_.nd rfl (.inl rfl))
   (B5 (J7 (Jb K PySem.F.plainAttrs_list PySem.F.slot_list_append PySem.F.type_list_append K4 (pv 3) (A8 (Jb K PySem.F.plainAttrs_list PySem.F.slot_list_pop PySem.F.type_list_pop Wk (pv 2) (A8 (C9 T.aq (I0 T) (Rm Y) (A8 (pv 0) (A8 (E1 (Q7 K) T.aw Q1 (A8 (pv 2) B1)) B1))) B1)) B1)))))
   (B5 (C3 (pv 3)))))),?_⟩
  obtain⟨r,Z,a1,a2,t⟩:=Kq;refine⟨rfl,?_⟩;dsimp only[Wd,tC,Yw];refine t _ _ λa v=>?_;refine⟨CL _,λb D=>?_⟩;have j:H b=none:=(F1.new v).free D;have k:a≠b:=B3 A9 D;have l:p≠a:=B3 S v;have m:p≠b:=B3 S j;refine A6 rfl (A6 rfl ⟨by lia,by lia,?_⟩);rw[CK];refine U3 (λi σ n=>(∃G,σ = [some (.ref p),some (.int (o:Int)),some (.ref a),some (.ref b),G])/\Sm [p] H n/\I_ n p (c+i)/\∃e g:A1 Str,n a=some (.lst (e.map V.str))/\n b=some (.lst (g.map V.str))/\(e++g).Perm r/\g.length=i) ?_ ?_ ?_
  .refine⟨⟨_,rfl⟩,((F1.new v).trans (F1.new D)).sm,((R.cast (by lia)).upd l).upd m,r,[],by rw[B6 k,A9],by rw[A9];rfl,by rw[BU],rfl⟩
  .rintro i σ n hi ⟨⟨G,rfl⟩,I,J,e,g,x,y,z,B⟩ D1 L _;have U:e.length=20-i:=by
    have:=z.length_eq;rw[AW,B,Z]at this;lia
   refine A6 rfl ⟨.inl ⟨rfl,_,IS.of y⟩,A6 rfl ⟨.inl ⟨rfl,_,IS.of x⟩,A6 rfl (A6 rfl (C0 (a:=a) rfl (.inl (IS.of x)) (Bd (a:=p) (b:=c+i) rfl J (by lia) ?_ ?_ λd H2 hd M L2=>?_)))⟩⟩
   .rw[AB];lia
   .rw[AB];lia
   rw[AB]at hd;have u:d<e.length:=by lia
   have W:e[d]?=some e[d]:=AC u;have N:=NK M x l.symm;have O:=NK M y m.symm;refine⟨a,_,_,d,.str e[d],rfl,rfl,N,by lia,by lia,six (by rw[AB];exact u),by rw[AH,W];rfl,b,C0 rfl rfl ⟨by rw[B6 k.symm];exact O,?_,?_⟩⟩
   .rw[AB,sizeLine_eq];lia
   refine L _ _ ⟨⟨_,rfl⟩,?_,?_,e.eraseIdx d,g ++ [e[d]],?_,?_,Vx z W,by rw[AW,B];rfl⟩
   .exact((I.trans M).updN v).updN j
   .exact((L2.cast (by lia)).upd l).upd m
   .rw[B6 k,A9,Io]
   .rw[A9,AN];rfl
  .rintro σ n ⟨⟨G,rfl⟩,I,J,e,g,x,y,z,B⟩;exact⟨_,rfl,q b g n j I y B (Wc z a1 a2 (by lia)) J⟩
end
def pd(k:Str×Str):PyData:=.tuple [.str k.1,.str k.2]
def Y4{x:Str}(h:U7 x=true):PySem.PyData.strOk x=true:=by
 unfold U7 at h;rw[BW]at h;unfold PySem.PyData.strOk;rw[<-Array.all_toList,EH];intro c a;have:=(EH.mp h.2) c a;unfold Zs at this;rw[BW]at this;have:=BV this.2;exact BB (by lia)
def Sj{K:PySem.W.Frag}{H:Hp}{t:A3}{k:Str×Str}(h:H t=some (.tup [.str k.1,.str k.2])):Rp K H (pd k) (.ref t):=by
 unfold pd;simp only[Rp,QV];exact⟨t,_,rfl,JJ.of h,_,_,rfl,rfl,_,_,rfl,rfl,rfl⟩
def Ht{K:PySem.W.Frag}{H:Hp}:∀{a:A1 JV},(∀q∈a,K9 H q)->QV K H (a.map λq=>pd q.2) (O5 a)
 | [],_=>by simp[QV,O5]
 | q::r,h=>by
  show QV K H (pd q.2::r.map λq=>pd q.2) (V.ref q.1::O5 r);simp only[QV];exact⟨_,_,rfl,Sj (h q (BO ..)),Ht λz b=>h z (BD _ b)⟩
def Uv{K:PySem.W.Frag}{H:Hp}{l:A3}{a:A1 JV}(b:H l=some (.lst (O5 a)))(h:∀q∈a,K9 H q):Rp K H (.list (a.map λq=>pd q.2)) (.ref l):=by
 simp only[Rp];exact⟨l,_,rfl,IS.of b,Ht h⟩
def zDd(a b:Str×Str):PyData.eqv (pd a) (pd b)=decide (a=b):=by
 unfold pd;rw[PyData.eqv,PyData.eqvAll,PyData.eqvAll,PyData.eqvAll,PyData.eqv,PyData.eqv];by_cases c:a.1=b.1
 .by_cases d:a.2=b.2
  .rw[BB (Prod.ext c d),c,d];simp
  .rw[BF λz=>d (congrArg Prod.snd z)];simp[d]
 .rw[BF λz=>c (congrArg Prod.fst z)];simp[c]
def Iv(k:Str×Str):∀a:A1 JV,((a.map λq=>pd q.2).any λz=>PyData.eqv z (pd k))=decide (k∈a.map λq=>q.2)
 | []=>rfl
 | q::r=>by
  rw[BK,GQ,Iv k r,zDd,BK];by_cases e:q.2=k
  .rw[BB e,Bool.true_or,BB (show k∈q.2::_ from by rw[<-e];exact BO ..)]
  .rw[BF e,Bool.false_or];by_cases h:k∈r.map λq=>q.2
   .rw[BB h,BB (BD _ h)]
   .rw[BF h,BF λz=>(AK.mp z).elim (λz=>e z.symm) h]
def Xu{k:Str×Str}(h1:PySem.PyData.strOk k.1=true)(h2:PySem.PyData.strOk k.2=true):(pd k).canLay0=true:=by
 unfold pd;simp[PyData.canLay0,PyData.canLayAll0,h1,h2]
def Ra:∀{a:A1 JV},(∀q∈a,PySem.PyData.strOk q.2.1=true/\PySem.PyData.strOk q.2.2=true)->PyData.canLayAll0 (a.map λq=>pd q.2)=true
 | [],_=>rfl
 | q::r,h=>by
  rw[BK,PyData.canLayAll0,Xu (h q (BO ..)).1 (h q (BO ..)).2,Ra λz b=>h z (BD _ b)];rfl
def y7{K:PySem.W.Frag}{H:Hp}{t l:A3}{k:Str×Str}{a:A1 JV}{Q:VK}(c:H t=some (.tup [.str k.1,.str k.2]))(d:H l=some (.lst (O5 a)))(e:∀q∈a,K9 H q)
  (b:PySem.PyData.strOk k.1=true/\PySem.PyData.strOk k.2=true) (f:∀q∈a,PySem.PyData.strOk q.2.1=true/\PySem.PyData.strOk q.2.2=true) (q:Q (.bl (!decide (k∈a.map λq=>q.2))) H):zGg K true (.ref t) (.ref l) H Q :=
 ⟨pd k,_,Sj c,.inl (Uv d e),⟨Xu b.1 b.2,by simp[pd,PyData.depth,PyData.depthAll]⟩,Ra f,by rw[AL rfl,Iv];exact q⟩
structure FL(H:Hp)(l:A3)(ps:A1 JV)(ss:A1 Str):Prop where
 at_:H l=some (.lst (O5 ps))
 pin:∀q∈ps,K9 H q
 nm:∀q∈ps,q.2.1∈ss/\q.2.2∈ss
 nd:(ps.map λq=>q.2).Nodup
def FL.sm{H H':Hp}{p l:A3}{c:Int}{a:A1 JV}{ss:A1 Str}(h:FL H l a ss)(L:I_ H p c)(n:l≠p)(s:Sm [p] H H'):FL H' l a ss:=by
 obtain⟨x,y,e,_⟩:=L;exact⟨NK s h.at_ n,λq b=>NK s (h.pin q b) (S7 (h.pin q b) e (by intro z;cases z)),h.nm,h.nd⟩
def FL.new{H:Hp}{l t:A3}{o:HO}{a:A1 JV}{ss:A1 Str}(h:FL H l a ss)(n:H t=none):FL (IK H t o) l a ss :=
 ⟨by rw[B6 (B3 h.at_ n)];exact h.at_,λq b=>by unfold K9;rw[B6 (B3 (h.pin q b) n)];exact h.pin q b,h.nm,h.nd⟩
def FL.put{H:Hp}{l t:A3}{a:A1 JV}{ss:A1 Str}{x y:Str}(h:FL H l a ss)(k:Nat)(c:H t=some (.tup [.str x,.str y]))(f:x∈ss)(g:y∈ss)(i:(x,y)∉a.map λq=>q.2) :
  FL (IK H l (.lst ((O5 a).take k++V.ref t ::(O5 a).drop k))) l (a.take k ++(t,x,y)::a.drop k) ss:=by
 have d:(a.take k ++(t,x,y)::a.drop k).Perm ((t,x,y)::a):=by
  refine List.perm_middle.trans (List.Perm.cons _ ?_);rw[BT]
 have e:∀q∈a.take k ++(t,x,y)::a.drop k,q =(t,x,y)\/q∈a:=λq b=>AK.mp (d.mem_iff.mp b);refine⟨?_,λq b=>?_,λq b=>?_,?_⟩
 .rw[A9];unfold O5;rw[AN,List.map_take,BK,List.map_drop]
 .unfold K9;rcases e q b with rfl | z
  .rw[B6 (S7 c h.at_ (by intro z;cases z))];exact c
  .rw[B6 (S7 (h.pin q z) h.at_ (by intro z;cases z))];exact h.pin q z
 .rcases e q b with rfl | z
  .exact⟨f,g⟩
  .exact h.nm q z
 .rw[(d.map _).nodup_iff];show((x,y)::a.map λq=>q.2).Nodup;exact BX.mpr ⟨i,h.nd⟩
def FL.app{H:Hp}{l t:A3}{a:A1 JV}{ss:A1 Str}{x y:Str}(h:FL H l a ss)(b:H t=some (.tup [.str x,.str y]))(c:x∈ss)(d:y∈ss)(f:(x,y)∉a.map λq=>q.2) :
  FL (IK H l (.lst (O5 a ++ [V.ref t]))) l (a ++ [(t,x,y)]) ss:=by
 have:=h.put a.length b c d f;have e:(O5 a).length=a.length:=by unfold O5;rw[AB]
 rw[<-e,BQ,List.drop_length,e,BQ,List.drop_length]at this;exact this
def Nk(ss:A1 Str):∀tt:A1 Str,(tt.flatMap λa=>ss.map λb=>(a,b)).length=tt.length*ss.length
 | []=>by simp
 | a::r=>by rw[List.flatMap_cons,AW,AB,Nk ss r,AR,Nat.succ_mul];lia
def FL.len{H:Hp}{l:A3}{c:A1 JV}{ss:A1 Str}(h:FL H l c ss):c.length<=ss.length*ss.length:=by
 have:=h.nd.length_le_of_subset (l₂:=ss.flatMap λa=>ss.map λb=>(a,b)) (λk d=>by
  obtain⟨q,e,rfl⟩:=AX.mp d;obtain⟨f,g⟩:=h.nm q e;exact List.mem_flatMap.mpr ⟨q.2.1,f,AX.mpr ⟨q.2.2,g,rfl⟩⟩)
 rw[Nk,AB]at this;exact this
section
variable{P:A7}{w:F8}{K:PySem.W.Frag}{mg:Str->A5 A2}{base:IM}
theorem zAr(a b d:Nat)(h1:a<5)(h2:b<4)(h:d<8):∃n:Nat,n<=12/\RH [V.int (8 +(a:Int)),V.int b,V.int 4,V.int 5,V.int 6,V.int 7,V.int 5,V.int 6] (d:Int)=some (.int (n:Int)):=by
 suffices ∃n:Nat,n<=12/\[V.int (8 +(a:Int)),V.int b,V.int 4,V.int 5,V.int 6,V.int 7,V.int 5,V.int 6][d]?=some (.int (n:Int)) by
  obtain⟨n,h,e⟩:=this;exact⟨n,h,D0 e⟩
 match d,h with
 | 0,_=>exact⟨8+a,by lia,by show some (V.int _)=_;rw[Int.natCast_add];rfl⟩
 | 1,_=>exact⟨b,by lia,rfl⟩
 | 2,_=>exact⟨4,by lia,rfl⟩
 | 3,_=>exact⟨5,by lia,rfl⟩
 | 4,_=>exact⟨6,by lia,rfl⟩
 | 5,_=>exact⟨7,by lia,rfl⟩
 | 6,_=>exact⟨5,by lia,rfl⟩
 | 7,_=>exact⟨6,by lia,rfl⟩
theorem OE:IL ["_law_left_here", "_law_way"] ["_law_left_here"] (B7 OV):=KU
def Yp:Sp:=λb H Q _=>∃(p:A3) (c:Int),b = [.ref p]/\I_ H p c/\c<=900000 /\
 ∀(n:Nat) a,n<=12->Sm [p] H a->I_ a p (c+3)->Q (.int (n:Int)) a
theorem Kw(T:Tx K mg):IU P w K mg base JE 3 T.bf.f T.bf.fd ["_law_left_here"] Yp:=by
 refine T.bf.F.o1 OE λm A b s H G Q E g h=>?_
 .obtain⟨p,c,rfl,o,I,q⟩:=h;refine⟨_,(B4 (C6 (i:=1) OE.nd rfl (.inl rfl) (C9 T.aq (I0 T) (Rm g) (A8 (pv 0) (A8 B8 B1))))
   (@B5 _ _ _ (@C3 _ _ _ _ (@E7 _ _ _ _ _ _ _ (M_ K) (@Q5 _ _ _ _ (@A8 _ _ _ _ _ (C8 Z7 B8 (C9 T.aq (I0 T) (Rm g) (A8 (pv 0) (A8 B8 B1)))) (@A8 _ _ _ _ _ (C9 T.aq (I0 T) (Rm g) (A8 (pv 0) (A8 B8 B1))) (@A8 _ _ _ _ _ B8 (@A8 _ _ _ _ _ B8 (@A8 _ _ _ _ _ B8 (@A8 _ _ _ _ _ B8 (@A8 _ _ _ _ _ B8 (@A8 _ _ _ _ _ B8 B1 (by rfl)) (by rfl)) (by rfl)) (by rfl)) (by rfl)) (by rfl)) (by rfl)) (by rfl))) (pv 1) (λ_ _=>rfl))))),?_⟩
  refine A6 rfl (Bd (a:=p) rfl o (by lia) (by decide) (by decide) λd J L r t=>?_);refine A6 rfl (Bd (a:=p) rfl t (by lia) (by decide) (by decide) λu M v x L2=>?_);refine C0 rfl rfl ?_;refine A6 rfl (Bd (a:=p) rfl L2 (by lia) (by decide) (by decide) λy N z B j=>?_);refine⟨by show 8<=sizeLine;decide,λl k=>?_⟩;obtain⟨n,C,e⟩:=zAr u y d (by lia) (by lia) (by lia);have D:=j.get;refine A6 rfl ⟨l,_,C0 rfl rfl ⟨IS.of A9,e,?_⟩⟩;exact q n _ C (((r.trans x).trans B).new k) ((j.cast (by lia)).upd (B3 D k))
theorem I_.ne{H:Hp}{p n:A3}{c:Int}{ss:A1 Str}(h:I_ H p c)(d:H n=some (.lst (ss.map V.str))):n≠p:=by
 rintro rfl;obtain⟨a,b,e,_⟩:=h;rw[d]at e;cases ss with
 | nil=>cases e
 | cons x r=>cases e
theorem Wu(d:Nat)(h:d<4):∃n:Nat,0<n/\n<=9/\RH [V.int 4,V.int 6,V.int 9,V.int 3] (d:Int)=some (.int (n:Int)):=by
 suffices ∃n:Nat,0<n/\n<=9/\[V.int 4,V.int 6,V.int 9,V.int 3][d]?=some (.int (n:Int)) by
  obtain⟨n,a,b,e⟩:=this;exact⟨n,a,b,D0 e⟩
 match d,h with
 | 0,_=>exact⟨4,by lia,by lia,rfl⟩
 | 1,_=>exact⟨6,by lia,by lia,rfl⟩
 | 2,_=>exact⟨9,by lia,by lia,rfl⟩
 | 3,_=>exact⟨3,by lia,by lia,rfl⟩
theorem JS:IL ["_law_left_here", "_law_names_here", "_law_found", "_law_often", "_law_one", "_law_other"] ["_law_left_here", "_law_names_here"] (B7 NE):=KU
def Nz(K:PySem.W.Frag):Sp:=λf H Q _=>∃(p n:A3) (c:Int) (b:A1 Str),f = [.ref p,.ref n]/\I_ H p c/\c<=900000/\H n=some (.lst (b.map V.str))/\W9 b/\b.length<=12 /\
 ∀l (d:A1 JV) e a,H l=none->Sm [p] H a->a l=some (.lst (O5 d))->(∀q∈d,K9 a q)->OB b d->e<=c+1000->I_ a p e->Q (.ref l) a
def SI(H:Hp)(p f:A3)(ss:A1 Str)(b:Int)(a:Hp):Prop:=Sm [p] H a/\(∃c,c<=b/\I_ a p c)/\∃d,FL a f d ss
set_option maxHeartbeats 4000000 in
theorem Co(T:Tx K mg):IU P w K mg base JE 3 T.aW.f T.aW.fd ["_law_left_here", "_law_names_here"] (Nz K):=by
 refine T.aW.F.o1 JS λcdv A outer s H vs Q E hr h=>?_
 .obtain⟨p,n,c,u,rfl,hL,c1,hn,hN,m,q⟩:=h;obtain⟨a0,b0,e0,c0⟩:=id hL;refine⟨_,(B4 (C6 (i:=2) JS.nd rfl (.inl rfl) (Q5 B1))
   (B4 (C6 (i:=3) JS.nd rfl (.inl rfl) (E7 (M_ K) (Q5 (A8 B8 (A8 B8 (A8 B8 (A8 B8 B1))))) (C9 T.aq (I0 T) (Rm hr) (A8 (pv 0) (A8 B8 B1))) (λ_ _=>rfl)))
   (B4 (O6 PassesOwn.never rfl (MZ K (pv 1)) (C7 (i:=4) JS.nd rfl (.inl rfl))
   (B4 (O6 PassesOwn.never rfl (MZ K (pv 1)) (C7 (i:=5) JS.nd rfl (.inl rfl))
   (B5 (M9 (PW.pt (Ln (D6 Of (pv 4) (pv 5) (E9 _)) (Ln (D6 i8 (C9 T.aq (I0 T) (Rm hr) (A8 (pv 0) (A8 (pv 3) B1))) B8 (E9 _)) (Jo (D6 (Dx K hr.units) (E3 (A8 (pv 4) (A8 (pv 5) B1))) (pv 2) rfl))))) (B4 (J7 (Jb K PySem.F.plainAttrs_list PySem.F.slot_list_insert PySem.F.type_list_insert Qd (pv 2) (A8 (C9 T.aq (I0 T) (Rm hr) (A8 (pv 0) (A8 (C8 Z7 (E1 (Q7 K) T.aw Q1 (A8 (pv 2) B1)) B8) B1))) (A8 (E3 (A8 (pv 4) (A8 (pv 5) B1))) B1))))
   (B5 (M9 (PW.pt (Ln (D6 i8 (C9 T.aq (I0 T) (Rm hr) (A8 (pv 0) (A8 B8 B1))) B8 (E9 _)) (Jo (D6 (Dx K hr.units) (E3 (A8 (pv 5) (A8 (pv 4) B1))) (pv 2) rfl)))) (B5 (J7 (Jb K PySem.F.plainAttrs_list PySem.F.slot_list_append PySem.F.type_list_append K4 (pv 2) (A8 (E3 (A8 (pv 5) (A8 (pv 4) B1))) B1)))) D4))) D4)))
   (B5 (M9 (PW.pt (Ln (D6 i8 (C9 T.aq (I0 T) (Rm hr) (A8 (pv 0) (A8 B8 B1))) B8 (E9 _)) (Jo (D6 (Dx K hr.units) (E3 (A8 (pv 4) (A8 (pv 4) B1))) (pv 2) rfl)))) (B5 (J7 (Jb K PySem.F.plainAttrs_list PySem.F.slot_list_append PySem.F.type_list_append K4 (pv 2) (A8 (E3 (A8 (pv 4) (A8 (pv 4) B1))) B1)))) D4))))
   (B5 (C3 (pv 2)))))),?_⟩
  refine⟨CL _,λf hf=>?_⟩;have z:p≠f:=B3 e0 hf;have nnf:n≠f:=B3 hn hf;have nnp:n≠p:=hL.ne hn;have nnD:n∉[p]:=by simpa using nnp
  have N:∀x∈u,PySem.PyData.strOk x=true:=λx L=>Y4 (hN.1 x L);refine⟨by show 4<=sizeLine;decide,λt ht=>?_⟩;have s1:F1 H (IK (IK H f (.lst [])) t (.lst [.int 4,.int 6,.int 9,.int 3])):=(F1.new hf).trans (F1.new ht);have ef:(IK (IK H f (.lst [])) t (.lst [.int 4,.int 6,.int 9,.int 3])) f=some (.lst []):=by rw[B6 (B3 A9 ht),A9]
  refine A6 rfl (Bd (a:=p) (b:=c) rfl (hL.same s1) (by lia) (by decide) (by decide) λd C hd O W=>?_);obtain⟨S,o1,o2,eo⟩:=Wu d (by lia);have hpt:p≠t:=B3 ((F1.new hf) _ _ e0) ht;refine⟨t,_,C0 rfl rfl ⟨IS.of (NK O A9 hpt.symm),eo,?_⟩⟩;have i0:SI H p f u (c+1) C:=⟨s1.sm.trans O,⟨_,Int.le_refl _,W⟩,[],NK O ef z.symm,by simp,by simp,by simp⟩;have hseq:∀{C b},SI H p f u b C->IS K C n (u.map V.str):=λh=>(h.1.at nnD).seqL (IS.of hn);refine A6 rfl ⟨n,rfl,⟨_,hseq i0⟩,?_⟩;refine X0 (MY (K:=K) (IS.of hn)) (λi σ C=>(∃v4 v5,σ = [some (.ref p),some (.ref n),some (.ref f),some (.int (S:Int)),v4,v5])/\SI H p f u (c+1+37*i) C) ?_ ?_ ?_ ?_
  .exact⟨⟨_,_,rfl⟩,by simpa using i0⟩
  .rintro i σ C hi ⟨_,X⟩;exact X.1.at nnD
  .rintro i σ C x L ⟨⟨v4,v5,rfl⟩,X⟩ D1 hD1 _;rw[AH]at L;obtain⟨g,ho,rfl⟩:∃y,u[i]?=some y/\V.str y=x:=by
    cases e:u[i]? with
    | none=>rw[e]at L;cases L
    | some y=>rw[e]at L;exact⟨y,rfl,by injection L⟩
   have r:g∈u:=AI ho;have hi:i<u.length:=(AE.mp ho).1;refine A6 rfl ⟨n,rfl,⟨_,hseq X⟩,?_⟩;refine X0 (MY (K:=K) (IS.of hn)) (λj σ C=>(∃v5,σ = [some (.ref p),some (.ref n),some (.ref f),some (.int (S:Int)),some (.str g),v5])/\SI H p f u (c+1+37*i+3*j) C) ?_ ?_ ?_ ?_
   .exact⟨⟨_,rfl⟩,by simpa using X⟩
   .rintro i σ C hi ⟨_,X⟩;exact X.1.at nnD
   .rintro j σ C x L ⟨⟨v5,rfl⟩,X⟩ D2 M _;rw[AH]at L;obtain⟨l,ho,rfl⟩:∃y,u[j]?=some y/\V.str y=x:=by
     cases e:u[j]? with
     | none=>rw[e]at L;cases L
     | some y=>rw[e]at L;exact⟨y,rfl,by injection L⟩
    have J:l∈u:=AI ho;have hj:j<u.length:=(AE.mp ho).1;obtain⟨O,⟨c',Z,W⟩,v,Y⟩:=X;have done:∀{R c2 D},Sm [p] H R->c2<=c'+3->I_ R p c2->FL R f D u->SI H p f u (c+1+37*i+3 *((j+1:Nat):Int)) R:=fun{R c2 D} a b d e=>⟨a,⟨c2,by lia,d⟩,D,e⟩;refine A6 rfl (A6 rfl ⟨rfl,A6 rfl ?_⟩);refine V0 (λX=>?_) (λX=>Z0 (M _ _ ⟨⟨_,rfl⟩,done O (by lia) W Y⟩));refine A6 rfl (A6 rfl (Bd (a:=p) (b:=c') rfl W (by lia) (by lia) (by lia) λd1 R hd1 k2 L2=>⟨rfl,_,rfl,?_⟩));have F2:=Y.sm W z.symm k2;refine V0 (λh2=>?_) (λh2=>Z0 (M _ _ ⟨⟨_,rfl⟩,done (O.trans k2) (by lia) L2 F2⟩));refine A6 rfl (A6 rfl ⟨by show 2<=sizeLine;decide,λt2 ht2=>?_⟩);have F3:=F2.new (o:=.tup [.str g,.str l]) ht2;have e2:=L2.get;have L3:=L2.upd (o:=.tup [.str g,.str l]) (B3 e2 ht2);have k3:=(O.trans k2).new (o:=.tup [.str g,.str l]) ht2;refine A6 rfl (y7 (k:=(g,l)) A9 F3.at_ F3.pin ⟨N _ r,N _ J⟩ (λq hq=>⟨N _ (F3.nm q hq).1,N _ (F3.nm q hq).2⟩) ⟨_,rfl,?_⟩);refine V0 (λh3=>?_) (λh3=>M _ _ ⟨⟨_,rfl⟩,done k3 (by lia) L3 F3⟩);have h3':(g,l)∉v.map λq=>q.2:=by simpa using h3
    have OT:=F3.len;have U:v.length<=150:=Nat.le_trans OT (Nat.le_trans (Nat.mul_le_mul m m) (by decide));have rl:(O5 v).length=v.length:=by unfold O5;rw[AB]
    refine A6 rfl ⟨.inl ⟨rfl,_,IS.of F3.at_⟩,A6 rfl (A6 rfl (C0 (a:=f) rfl (.inl (IS.of F3.at_)) (C0 rfl rfl (Bd (a:=p) (b:=c'+1) rfl L3 (by lia) (by lia) (by lia) λd2 H4 hd2 k4 L4=>?_))))⟩;have F4:=F3.sm L3 z.symm k4;refine A6 rfl (A6 rfl ⟨by show 2<=sizeLine;decide,λt3 ht3=>?_⟩);have F5:=F4.new (o:=.tup [.str g,.str l]) ht3;have e4:=L4.get;have L5:=L4.upd (o:=.tup [.str g,.str l]) (B3 e4 ht3);have k5:=(k3.trans k4).new (o:=.tup [.str g,.str l]) ht3;refine⟨f,_,_,d2,A6 rfl ⟨rfl,rfl,F5.at_,by lia,by rw[sizeLine_eq];lia,?_⟩⟩;have F6:=F5.put d2 A9 r J h3';have L6:=L5.upd (o:=.lst ((O5 v).take d2++V.ref t3 ::(O5 v).drop d2)) z;have k6:=k5.updN (o:=.lst ((O5 v).take d2++V.ref t3 ::(O5 v).drop d2)) hf;generalize hps:v.take d2 ++(t3,g,l)::v.drop d2=ps' at F6;refine A6 rfl (Bd (a:=p) rfl L6 (by lia) (by decide) (by decide) λd3 H7 hd3 k7 L7=>⟨rfl,_,rfl,?_⟩);have F7:=F6.sm L6 z.symm k7;refine V0 (λh4=>?_) (λh4=>Z0 (M _ _ ⟨⟨_,rfl⟩,done (k6.trans k7) (by lia) L7 F7⟩));refine A6 rfl (A6 rfl ⟨by show 2<=sizeLine;decide,λt4 G=>?_⟩);have B:=F7.new (o:=.tup [.str l,.str g]) G;have e7:=L7.get;have L8:=L7.upd (o:=.tup [.str l,.str g]) (B3 e7 G);have k8:=(k6.trans k7).new (o:=.tup [.str l,.str g]) G;refine A6 rfl (y7 (k:=(l,g)) A9 B.at_ B.pin ⟨N _ J,N _ r⟩ (λq hq=>⟨N _ (B.nm q hq).1,N _ (B.nm q hq).2⟩) ⟨_,rfl,?_⟩);refine V0 (λh5=>?_) (λh5=>M _ _ ⟨⟨_,rfl⟩,done k8 (by lia) L8 B⟩);have h5':(l,g)∉ps'.map λq=>q.2:=by simpa using h5
    have OT:=B.len;have U:ps'.length<=150:=Nat.le_trans OT (Nat.le_trans (Nat.mul_le_mul m m) (by decide));have rl:(O5 ps').length=ps'.length:=by unfold O5;rw[AB]
    refine A6 rfl ⟨.inl ⟨rfl,_,IS.of B.at_⟩,A6 rfl (A6 rfl ⟨by show 2<=sizeLine;decide,λt5 I=>?_⟩)⟩;have F9:=B.new (o:=.tup [.str l,.str g]) I;have e8:=L8.get;have L9:=L8.upd (o:=.tup [.str l,.str g]) (B3 e8 I);have k9:=k8.new (o:=.tup [.str l,.str g]) I;refine⟨f,C0 rfl rfl ⟨F9.at_,by rw[sizeLine_eq];lia,M _ _ ⟨⟨_,rfl⟩,done (k9.updN hf) (by lia) (L9.upd z) (F9.app A9 J r h5')⟩⟩⟩
   .rintro σ C ⟨⟨v5,rfl⟩,O,⟨c',Z,W⟩,v,Y⟩;simp only[AB]at Z;have done:∀{R c2 D},Sm [p] H R->c2<=c'+1->I_ R p c2->FL R f D u->SI H p f u (c+1+37 *((i+1:Nat):Int)) R:=fun{R c2 D} a b d e=>⟨a,⟨c2,by lia,d⟩,D,e⟩;refine A6 rfl (Bd (a:=p) (b:=c') rfl W (by lia) (by decide) (by decide) λd3 H7 hd3 k7 L7=>⟨rfl,_,rfl,?_⟩);have F7:=Y.sm W z.symm k7;refine V0 (λh4=>?_) (λh4=>Z0 (hD1 _ _ ⟨⟨_,_,rfl⟩,done (O.trans k7) (by lia) L7 F7⟩));refine A6 rfl (A6 rfl ⟨by show 2<=sizeLine;decide,λt4 G=>?_⟩);have B:=F7.new (o:=.tup [.str g,.str g]) G;have e7:=L7.get;have L8:=L7.upd (o:=.tup [.str g,.str g]) (B3 e7 G);have k8:=(O.trans k7).new (o:=.tup [.str g,.str g]) G;refine A6 rfl (y7 (k:=(g,g)) A9 B.at_ B.pin ⟨N _ r,N _ r⟩ (λq hq=>⟨N _ (B.nm q hq).1,N _ (B.nm q hq).2⟩) ⟨_,rfl,?_⟩);refine V0 (λh5=>?_) (λh5=>hD1 _ _ ⟨⟨_,_,rfl⟩,done k8 (by lia) L8 B⟩);have h5':(g,g)∉v.map λq=>q.2:=by simpa using h5
    have OT:=B.len;have U:v.length<=150:=Nat.le_trans OT (Nat.le_trans (Nat.mul_le_mul m m) (by decide));have rl:(O5 v).length=v.length:=by unfold O5;rw[AB]
    refine A6 rfl ⟨.inl ⟨rfl,_,IS.of B.at_⟩,A6 rfl (A6 rfl ⟨by show 2<=sizeLine;decide,λt5 I=>?_⟩)⟩;have F9:=B.new (o:=.tup [.str g,.str g]) I;have e8:=L8.get;have L9:=L8.upd (o:=.tup [.str g,.str g]) (B3 e8 I);have k9:=k8.new (o:=.tup [.str g,.str g]) I;refine⟨f,C0 rfl rfl ⟨F9.at_,by rw[sizeLine_eq];lia,hD1 _ _ ⟨⟨_,_,rfl⟩,done (k9.updN hf) (by lia) (L9.upd z) (F9.app A9 r r h5')⟩⟩⟩
  .rintro σ C ⟨⟨v4,v5,rfl⟩,O,⟨c',Z,W⟩,v,Y⟩;simp only[AB]at Z;have OT:=Y.len;have U:v.length<=150:=Nat.le_trans OT (Nat.le_trans (Nat.mul_le_mul m m) (by decide));exact⟨_,rfl,q f v c' C hf O Y.at_ Y.pin ⟨Y.nm,Y.nd,by lia⟩ (by lia) W⟩
end
def QZ(x y:Nat):Builtin.bitOr (x:Int) (y:Int) =((x ||| y:Nat):Int):=by
 have b:¬0<=Builtin.bitNot (x:Int):=by unfold Builtin.bitNot;lia
 have c:¬0<=Builtin.bitNot (y:Int):=by unfold Builtin.bitNot;lia
 have a:∀z:Int,Builtin.bitNot (Builtin.bitNot z)=z:=λz=>by unfold Builtin.bitNot;lia
 rw[Builtin.bitOr,PyProof.Rows.bitAnd_nn b c,a,a,a];rfl
def Ub(x y:Nat):Builtin.bitAnd (x:Int) (y:Int) =((x &&& y:Nat):Int):=by simp[Builtin.bitAnd]
def TC(k:Nat):(1:Int)*2 ^((k:Int).toNat) =((2^k:Nat):Int):=by rw[Int.one_mul,CK,Int.natCast_pow];rfl
def Xn(m k:Nat):decide (V.int (Builtin.bitAnd ((m:Int) / 2 ^((k:Int).toNat)) 1)=V.int 1)=m.testBit k:=by
 have a:(m:Int) / 2 ^((k:Int).toNat) =((m / 2^k:Nat):Int):=by rw[CK,Int.natCast_ediv,Int.natCast_pow];rfl
 have b:Builtin.bitAnd ((m / 2^k:Nat):Int) 1 =((m / 2^k % 2:Nat):Int):=by
  rw[show(1:Int) =((1:Nat):Int)from rfl,Ub,Nat.and_one_is_mod]
 rw[a,b,Nat.testBit_eq_decide_div_mod_eq];refine decide_eq_decide.mpr ⟨λh=>?_,λh=>?_⟩
 .injection h with h;lia
 .rw[h];rfl
def O4(m:Nat):V:=.int (m:Int)
structure MB(ns:A1 Str)(ks:A1 (Str×Str))(B:A1 Nat):Prop where
 len:B.length=ns.length
 bit:∀i j,(B.getD i 0).testBit j=true↔∃k∈ks,ns[i]?=some k.1/\ns[j]?=some k.2
def MB.zero(ns:A1 Str):MB ns [] (List.replicate ns.length 0):=by
 refine⟨GR,λi j=>?_⟩;have e:(List.replicate ns.length 0).getD i 0=0:=by
  rw[AY,List.getElem?_replicate];by_cases h:i<ns.length
  .rw[AL h];rfl
  .rw[AJ h];rfl
 rw[e,CZ];simp
def Y1{α:Type}{l:A1 α}(h:l.Nodup){i j:Nat}{x:α}(hi:l[i]?=some x)(c:l[j]?=some x):i=j:=by
 obtain⟨a,e⟩:=AE.mp hi;obtain⟨b,d⟩:=AE.mp c;exact(List.getElem_inj h).mp (e.trans d.symm)
def MB.step{ns:A1 Str}{ks:A1 (Str×Str)}{B:A1 Nat}(h:MB ns ks B)(l:ns.Nodup){a b:Nat}{x y:Str}(f:ns[a]?=some x)(m:ns[b]?=some y):MB ns (ks ++ [(x,y)]) (B.set a (B.getD a 0 ||| 2^b)):=by
 have g:a<B.length:=by rw[h.len];exact(AE.mp f).1
 refine⟨by rw[List.length_set];exact h.len,λi j=>?_⟩;by_cases e:a=i
 .subst e;have e:(B.set a (B.getD a 0 ||| 2^b)).getD a 0=B.getD a 0 ||| 2^b:=by
   rw[AY,HV g];rfl
  rw[e,DX,DY,h.bit,CF,BN];constructor
  .rintro(⟨k,hk,c,d⟩ | rfl)
   .exact⟨k,CP _ hk,c,d⟩
   .exact⟨(x,y),BG _ (AD.mpr rfl),f,m⟩
  .rintro⟨k,hk,c,d⟩;rcases AO.mp hk with hk | hk
   .exact .inl ⟨k,hk,c,d⟩
   .rw[AD.mp hk]at d;exact .inr (Y1 l m d)
 .have n:(B.set a (B.getD a 0 ||| 2^b)).getD i 0=B.getD i 0:=by
   rw[AY,List.getElem?_set_ne e,<-AY]
  rw[n,h.bit];constructor
  .rintro⟨k,hk,c,d⟩;exact⟨k,CP _ hk,c,d⟩
  .rintro⟨k,hk,c,d⟩;rcases AO.mp hk with hk | hk
   .exact⟨k,hk,c,d⟩
   .rw[AD.mp hk]at c;exact absurd (Y1 l f c) e
def MB.mono{ns:A1 Str}{ks ks':A1 (Str×Str)}{B:A1 Nat}(h:MB ns ks B)(e:∀k,k∈ks↔k∈ks'):MB ns ks' B :=
 ⟨h.len,λi j=>by rw[h.bit];exact⟨λ⟨k,a,b⟩=>⟨k,(e k).mp a,b⟩,λ⟨k,a,b⟩=>⟨k,(e k).mpr a,b⟩⟩⟩
def Qk{x y:Str}(h:x.cps.toList=y.cps.toList):x=y:=by
 cases x;cases y;exact congrArg Str.mk (Array.toList_inj.mp h)
def Ww{x y:Str}(h1:QP x y)(h2:QP y x):x=y:=Qk (IA (as:=x.cps.toList) (bs:=y.cps.toList) h1 h2)
def t8{a b:A1 Str}(h1:a.Pairwise QP)(h2:b.Pairwise QP)(h:a.Perm b):a=b:=List.Perm.eq_of_pairwise (λ_ _ _ _=>Ww) h1 h2 h
def leK(k l:Str×Str):Prop:=SG (0,k) (0,l)
def Um{k l:Str×Str}(h1:leK k l)(h2:leK l k):k=l:=by
 have h1:¬TS.KM (Uk (0,l)) (Uk (0,k))=true:=λz=>by rw[show TS.KM (Uk (0,l)) (Uk (0,k))=false from h1]at z;cases z
 have h2:¬TS.KM (Uk (0,k)) (Uk (0,l))=true:=λz=>by rw[show TS.KM (Uk (0,k)) (Uk (0,l))=false from h2]at z;cases z
 rw[TS.JN]at h1 h2;have a:k.1.cps.toList=l.1.cps.toList:=IA (as:=k.1.cps.toList) (bs:=l.1.cps.toList) (λz=>h1 (.inl z)) (λz=>h2 (.inl z));have b:k.2.cps.toList=l.2.cps.toList:=IA (as:=k.2.cps.toList) (bs:=l.2.cps.toList) (λz=>h1 (.inr ⟨a.symm,z⟩)) (λz=>h2 (.inr ⟨a,z⟩));exact Prod.ext (Qk a) (Qk b)
def Ks{a b:A1 JV}(h1:a.Pairwise SG)(h2:b.Pairwise SG)(h:a.Perm b):(a.map λq=>q.2)=b.map λq=>q.2 :=
 List.Perm.eq_of_pairwise (le:=leK) (λ_ _ _ _=>Um) (CS.mpr h1) (CS.mpr h2) (h.map _)
structure KA(H:Hp)(p v:A3)(ns:A1 Str)(ks:A1 (Str×Str))(A B:A1 Nat):Prop where
 ex:∃a s t,H v=some (.lst [.ref a,.ref s,.ref t])/\H a=some (.lst (ns.map V.str))/\H s=some (.lst (A.map O4))/\H t=some (.lst (B.map O4))/\v≠p/\a≠p/\s≠p/\t≠p
 mA:MB ns (ks.map λk=>(k.2,k.1)) A
 mB:MB ns ks B
def KA.sm{H H':Hp}{p v:A3}{ns:A1 Str}{ks:A1 (Str×Str)}{A B:A1 Nat}(h:KA H p v ns ks A B)(s:Sm [p] H H'):KA H' p v ns ks A B:=by
 obtain⟨⟨a,b,c,i,j,k,l,d,e,f,g⟩,m,n⟩:=h;exact⟨⟨a,b,c,NK s i d,NK s j e,NK s k f,NK s l g,d,e,f,g⟩,m,n⟩
def KA.same{H H':Hp}{p v:A3}{ns:A1 Str}{ks:A1 (Str×Str)}{A B:A1 Nat}(h:KA H p v ns ks A B)(s:F1 H H'):KA H' p v ns ks A B:=h.sm s.sm
def Pk{n j:Nat}(h:j<n):RZ n (j:Int)=some j:=by
 unfold RZ;rw[AL (by lia),AL (by lia),CK]
def Fd{B:A1 Nat}{a:Nat}(h:a<B.length):RH (B.map O4) (a:Int)=some (.int ((B.getD a 0:Nat):Int)):=by
 refine D0 ?_;rw[AH,AC h,AY,AC h];rfl
def Lk(n:Nat):(List.replicate ((n:Int).toNat) [V.int 0]).flatten =(List.replicate n 0).map O4:=by
 rw[CK]
 induction n with
 | zero=>rfl
 | succ n a =>
  rw[EB,ED,a,EB,BK];rfl
def Mx(B:A1 Nat)(a m:Nat):(B.map O4).set a (.int (m:Int)) =(B.set a m).map O4:=by
 rw[List.map_set];rfl
section
variable{P:A7}{w:F8}{K:PySem.W.Frag}{mg:Str->A5 A2}{base:IM}
theorem JZ:IL ["_law_names_here", "_law_strikes_here", "_law_strikers", "_law_struck", "_law_one", "_law_other", "_law_a", "_law_b"] ["_law_names_here", "_law_strikes_here"] (B7 OK):=KU
def Vs:Sp:=λf H Q _=>∃(n a:A3) (b:A1 Str) (c:A1 JV),f = [.ref n,.ref a]/\H n=some (.lst (b.map V.str))/\W9 b/\H a=some (.lst (O5 c))/\(∀q∈c,K9 H q)/\OB b c /\
 ∀v d A B e,H v=none->F1 H e->d.Perm b->d.Pairwise QP->(∀p o,H p=some o->KA e p v d (c.map λq=>q.2) A B)->Q (.ref v) e
set_option maxHeartbeats 2000000 in
theorem He(T:Tx K mg):IU P w K mg base JE 1 T.ba.f T.ba.fd ["_law_names_here", "_law_strikes_here"] Vs:=by
 refine T.ba.F.o1 JZ λcdv A outer s H vs Q E hr h=>?_
 .obtain⟨n,a,ss,y,rfl,hn,hN,ha,hP,hO,q⟩:=h;refine⟨_,(B4 (C6 (i:=0) JZ.nd rfl (.inl rfl) (E1 (Ma K) T.a6 X2 (A8 (pv 0) B1)))
   (B4 (Yd (i:=2) (j:=3) rfl JZ.nd rfl rfl (by decide) rfl rfl (A8 (C8 Xq (Q5 (A8 B8 B1)) (E1 (Q7 K) T.aw Q1 (A8 (pv 0) B1))) (A8 (C8 Xq (Q5 (A8 B8 B1)) (E1 (Q7 K) T.aw Q1 (A8 (pv 0) B1))) B1)) rfl)
   (B4 (O6 PassesOwn.never rfl (MZ K (pv 1)) (QT K (n:=2) (C5 (C7 (i:=4) JZ.nd rfl (.inl rfl)) (C5 (C7 (i:=5) JZ.nd rfl (.inl rfl)) P9)))
   (B4 (Yd (i:=6) (j:=7) rfl JZ.nd rfl rfl (by decide) rfl rfl (A8 (Jb K PySem.F.plainAttrs_list PySem.F.slot_list_index PySem.F.type_list_index (Mr K) (pv 0) (A8 (pv 4) B1)) (A8 (Jb K PySem.F.plainAttrs_list PySem.F.slot_list_index PySem.F.type_list_index (Mr K) (pv 0) (A8 (pv 5) B1)) B1)) rfl)
   (B4 (Ac (C8 Ar (E7 (M_ K) (pv 2) (pv 7) (λ_ _=>rfl)) (C8 Du B8 (pv 6))) (Lg (pv 2) (pv 7) Au))
   (B5 (Ac (C8 Ar (E7 (M_ K) (pv 3) (pv 6) (λ_ _=>rfl)) (C8 Du B8 (pv 7))) (Lg (pv 3) (pv 6) Au))))))
   (B5 (C3 (Q5 (A8 (pv 0) (A8 (pv 2) (A8 (pv 3) B1))))))))),?_⟩
  refine A6 rfl ⟨n,ss,rfl,IS.of hn,λl b hl G srt=>?_⟩;have S:b.Nodup:=G.nodup_iff.mpr hN.2.1;have U:(b.map V.str).length=b.length:=AB ..;have ln:b.length<=100:=by rw[G.length_eq];exact hN.2.2
  have s1:F1 H (IK H l (.lst (b.map V.str))):=F1.new hl;refine⟨by show 1<=sizeLine;decide,λW d=>?_⟩;have s2:=s1.trans (F1.new (o:=.lst [V.int 0]) d);refine A6 rfl (C0 (a:=l) rfl (.inl (IS.of ((F1.new d) _ _ A9))) ⟨W,C0 rfl rfl ⟨A9,by lia,by lia,by rw[U,CK,sizeLine_eq];show 1*b.length<=_;lia,λs X=>?_⟩⟩);rw[U,Lk];have hs1:IK H l (.lst (b.map V.str)) s=none:=(F1.new d).free X;have I:H s=none:=s2.free X;have nls:l≠s:=B3 A9 hs1;have s3:=s2.trans (F1.new (o:=.lst ((List.replicate b.length 0).map O4)) X);refine⟨by show 1<=sizeLine;decide,λJ r=>?_⟩;have s4:=s3.trans (F1.new (o:=.lst [V.int 0]) r);have Y:(IK (IK (IK (IK H l (.lst (b.map V.str))) W (.lst [V.int 0])) s (.lst ((List.replicate b.length 0).map O4))) J (.lst [V.int 0])) l=some (.lst (b.map V.str)) :=
   (F1.new r) _ _ ((F1.new X) _ _ ((F1.new d) _ _ A9))
  have es:(IK (IK (IK (IK H l (.lst (b.map V.str))) W (.lst [V.int 0])) s (.lst ((List.replicate b.length 0).map O4))) J (.lst [V.int 0])) s=some (.lst ((List.replicate b.length 0).map O4)):=(F1.new r) _ _ A9;generalize hG:IK (IK (IK (IK H l (.lst (b.map V.str))) W (.lst [V.int 0])) s (.lst ((List.replicate b.length 0).map O4))) J (.lst [V.int 0])=H4 at s4 Y es⊢;have et2:H4 J=some (.lst [V.int 0]):=by rw[<-hG];exact A9
  refine A6 rfl (C0 (a:=l) rfl (.inl (IS.of Y)) ⟨J,C0 rfl rfl ⟨et2,by lia,by lia,by rw[U,CK,sizeLine_eq];show 1*b.length<=_;lia,λt Z=>?_⟩⟩);rw[U,Lk];have L:l≠t:=B3 Y Z;have e:s≠t:=B3 es Z;have s5:=s4.trans (F1.new (o:=.lst ((List.replicate b.length 0).map O4)) Z);have M:H t=none:=s4.free Z;refine⟨_,A6 rfl (A6 rfl ⟨a,rfl,⟨_,IS.of (s5 _ _ ha)⟩,?_⟩)⟩;refine X0 (MY (K:=K) (IS.of ha)) (λi σ u=>(∃v4 v5 v6 v7,σ = [some (.ref l),some (.ref a),some (.ref s),some (.ref t),v4,v5,v6,v7])/\F1 H u/\u l=some (.lst (b.map V.str)) /\
   ∃A B:A1 Nat,u s=some (.lst (A.map O4))/\u t=some (.lst (B.map O4))/\MB b ((y.take i).map λq=>(q.2.2,q.2.1)) A/\MB b ((y.take i).map λq=>q.2) B) ?_ ?_ ?_ ?_
  .exact⟨⟨_,_,_,_,rfl⟩,s5,by rw[B6 L];exact Y,_,_,by rw[B6 e];exact es,A9,MB.zero b,MB.zero b⟩
  .rintro i σ u hi ⟨_,g,_⟩;exact g.at a
  .rintro i σ u v c ⟨⟨v4,v5,v6,v7,rfl⟩,g,x,A,B,h3,h4,C,D⟩ D1 hD1 _;unfold O5 at c;rw[AH]at c;cases N:y[i]? with
   | none=>rw[N]at c;cases c
   | some q =>
    rw[N]at c;cases c;have hm:q∈y:=AI N;obtain⟨m1,m2⟩:=hO.nm q hm;have m1:q.2.1∈b:=G.mem_iff.mpr m1;have m2:q.2.2∈b:=G.mem_iff.mpr m2;obtain⟨j,O⟩:=GU.mp m1;obtain⟨k,R⟩:=GU.mp m2;have lj:j<b.length:=(AE.mp O).1;have lk:k<b.length:=(AE.mp R).1;refine⟨q.1,A6 rfl ⟨JJ.of (g _ _ (hP q hm)),rfl,_,A6 rfl (C0 rfl rfl ?_)⟩⟩;refine A6 rfl ⟨.inl ⟨rfl,_,IS.of x⟩,A6 rfl ⟨l,b,q.2.1,j,rfl,rfl,IS.of x,O,λm hm z=>by have:=Y1 S z O;lia,?_⟩⟩;refine A6 rfl ⟨.inl ⟨rfl,_,IS.of x⟩,A6 rfl ⟨l,b,q.2.2,k,rfl,rfl,IS.of x,R,λm hm z=>by have:=Y1 S z R;lia,?_⟩⟩;refine⟨_,A6 rfl ?_⟩;refine A6 rfl (A6 rfl ⟨s,_,C0 rfl rfl ⟨IS.of h3,Fd (by rw[C.len];exact lk),A6 rfl (C0 rfl rfl ⟨⟨by lia,by lia,by decide⟩,C0 rfl rfl ?_⟩)⟩⟩);dsimp only;rw[TC,QZ];refine A6 rfl (A6 rfl ⟨s,_,_,k,rfl,rfl,h3,Pk (by rw[AB,C.len];exact lk),?_⟩);rw[Mx];refine A6 rfl (A6 rfl ⟨t,_,C0 rfl rfl ⟨IS.of (by rw[B6 e.symm];exact h4),Fd (by rw[D.len];exact lj),A6 rfl (C0 rfl rfl ⟨⟨by lia,by lia,by decide⟩,C0 rfl rfl ?_⟩)⟩⟩);dsimp only;rw[TC,QZ];refine A6 rfl (A6 rfl ⟨t,_,_,j,rfl,rfl,by rw[B6 e.symm];exact h4,Pk (by rw[AB,D.len];exact lj),?_⟩);rw[Mx];refine hD1 _ _ ⟨⟨_,_,_,_,rfl⟩,(g.upd I).upd M,?_,A.set k (A.getD k 0 ||| 2^j),_,?_,A9,?_,?_⟩
    .rw[B6 L,B6 nls];exact x
    .rw[B6 e,A9]
    .rw[IW N,AN];exact C.step S R O
    .rw[IW N,AN];exact D.step S O R
  .rintro σ u ⟨⟨v4,v5,v6,v7,rfl⟩,g,x,A,B,h3,h4,C,D⟩;have lr:(O5 y).length=y.length:=by unfold O5;rw[AB]
   rw[lr,BQ]at C D;refine A6 rfl (A6 rfl (A6 rfl ⟨by show 3<=sizeLine;decide,λv c=>?_⟩));have s9:=F1.new (o:=.lst [.ref l,.ref s,.ref t]) c;refine q v b A B _ (g.free c) (g.trans s9) G srt λp o hp=>⟨⟨l,s,t,A9,s9 _ _ x,s9 _ _ h3,s9 _ _ h4,(B3 (g _ _ hp) c).symm,(B3 hp hl).symm,(B3 hp I).symm,(B3 hp M).symm⟩,?_,D⟩;rw[BL];exact C
end
def Eu(ns:A1 Str)(m i:Nat):A1 Str:=(List.range i).filterMap λk=>if m.testBit k=true then ns[k]? else none
def LH(ns:A1 Str)(m:Nat):A1 Str:=Eu ns m ns.length
def U4{ns:A1 Str}{m i:Nat}{x:Str}(h:ns[i]?=some x):Eu ns m (i+1)=Eu ns m i++if m.testBit i=true then [x]else []:=by
 unfold Eu;rw[EQ,List.filterMap_append];congr 1;by_cases e:m.testBit i=true
 .rw[AL e];simp[e,h]
 .rw[AJ e];simp[e]
def PP{ns:A1 Str}{m:Nat}{x:Str}:x∈LH ns m↔∃k,m.testBit k=true/\ns[k]?=some x:=by
 unfold LH Eu;rw[EV];constructor
 .rintro⟨k,a,e⟩;by_cases h:m.testBit k=true
  .rw[AL h]at e;exact⟨k,h,e⟩
  .rw[AJ h]at e;cases e
 .rintro⟨k,h,e⟩;exact⟨k,CB.mpr (AE.mp e).1,by rw[AL h];exact e⟩
def q0(ns:A1 Str)(m:Nat):∀i,i<=ns.length->(Eu ns m i).Sublist (ns.take i)
 | 0,_=>by simp[Eu]
 | i+1,h=>by
  have a:ns[i]?=some ns[i]:=AC (by lia);rw[U4 a,IW a];refine(q0 ns m i (by lia)).append ?_;by_cases e:m.testBit i=true
  .rw[AL e];exact List.Sublist.refl _
  .rw[AJ e];exact List.nil_sublist _
def X7(ns:A1 Str)(m:Nat):(LH ns m).Sublist ns:=by
 have:=q0 ns m ns.length (Nat.le_refl _)
 rwa [BQ]at this
section
variable{P:A7}{w:F8}{K:PySem.W.Frag}{mg:Str->A5 A2}{base:IM}
theorem Ga:IL ["_law_view", "_law_mask"] ["_law_view", "_law_mask"] (B7 NS):=KU
def Sq:Sp:=λc H Q _=>∃(p v:A3) (m:Nat) (a:A1 Str) (d:A1 (Str×Str)) (A B:A1 Nat),c = [.ref v,.int (m:Int)]/\KA H p v a d A B/\a.length<=100 /\
 ∀l b,H l=none->F1 H b->b l=some (.lst ((LH a m).map V.str))->Q (.ref l) b
theorem Fa(T:Tx K mg):IU P w K mg base JE 1 T.a3.f T.a3.fd ["_law_view", "_law_mask"] Sq:=by
 refine T.a3.F.o1 Ga λM A o s H S Q E U h=>?_
 .obtain⟨p,v,m,g,W,A,B,rfl,O,X,q⟩:=h;obtain⟨⟨a,s,t,R,k,Y,Z,_⟩,mA,mB⟩:=id O;refine⟨_,(B5 (C3 (X3 (N':=["_law_k", "_law_name", "_law_mask"]) (cap:=[none,none,some 1]) (cl:=[("_law_mask",_)]) (P8 ⟨⟨rfl,rfl,rfl,rfl⟩,trivial⟩ ⟨rfl,trivial⟩) rfl (TY K T.aP (A8 (E7 (M_ K) (pv 0) B8 (λ_ _=>rfl)) B1)) (λ_ _ _ _=>by exact⟨(QT K (n:=2) (C5 (MN 0) (C5 (MN 1) P9))),(U8 (D6 i8 (C8 R0 (C8 Xv (pv 2) (pv 0)) B8) B8 (E9 _))),(pv 1)⟩)))),?_⟩;dsimp only[TD,TM,Y6,zGi,SN,Wd,Yw];refine A6 rfl ⟨v,_,C0 rfl rfl ⟨IS.of R,rfl,a,A6 rfl ⟨IS.of k,λD r=>?_⟩⟩⟩;refine j4 (n:=g.length) (λi σ b=>(∃C G,σ = [C,G,some (.int (m:Int))])/\F1 H b/\b D=some (.lst ((Eu g m i).map V.str))) ⟨⟨_,_,rfl⟩,F1.new r,A9⟩ ?_ ?_ ?_ ?_
  .rintro i σ b u ⟨_,c,d⟩;exact⟨_,_,(c.at a).seqL (IS.of k),by rw[AH,AC u];rfl⟩
  .rintro σ b ⟨_,c,d⟩;exact⟨_,(c.at a).seqL (IS.of k),by rw[AB]⟩
  .rintro i σ b x H' N u ⟨⟨C,G,rfl⟩,c,d⟩ ⟨t,x,rfl,I,rfl,l⟩ J;have l:=l _ ((c.at a).seqL (IS.of k));have e:g[i]?=some g[i]:=AC u;rw[AH,e]at l;cases l;refine⟨t,A6 rfl ⟨JJ.of A9,rfl,_,A6 rfl (C0 rfl rfl ?_)⟩⟩;have j:D≠t:=B3 d I;have L:F1 H (IK b t (.tup [.int i,.str g[i]])):=c.trans (F1.new I);refine A6 rfl (A6 rfl (C0 rfl rfl ⟨(show(0:Int)<=(i:Int) by lia),C0 rfl rfl ⟨rfl,A6 rfl ?_⟩⟩));dsimp only;rw[Xn];have y:=(q0 g m i (by lia)).length_le;rw[AZ]at y;refine V0 (λz=>?_) (λz=>?_)
   .refine A6 rfl ⟨_,by rw[B6 j];exact d,by rw[AB,sizeLine_eq];lia,J _ _ ⟨⟨_,_,rfl⟩,L.upd r,?_⟩⟩;rw[A9,U4 e,AL z,AN];rfl
   .refine J _ _ ⟨⟨_,_,rfl⟩,L,?_⟩;rw[B6 j,U4 e,AJ z,BU];exact d
  .rintro σ b ⟨_,c,d⟩;exact q D b r c d
end
def n6(B:A1 Nat)(m j:Nat):Prop:=∃k,m.testBit k=true/\(B.getD k 0).testBit j=true
def So(n:Nat)(A B:A1 Nat)(m j:Nat):Prop:=j<n/\∀b,(A.getD j 0).testBit b=true->n6 B m b
def JP(B:A1 Nat)(m:Nat):Prop:=∀i j,m.testBit i=true->m.testBit j=true->¬(B.getD i 0).testBit j=true
def Ad(a h:Nat):decide (V.int (Builtin.bitAnd (a:Int) (Builtin.bitNot (h:Int)))=V.int 0)=true↔∀b,a.testBit b=true->h.testBit b=true:=by
 rw[BN,PyProof.Rows.bitAnd_not,Ub];constructor
 .intro e b c;injection e with e;have e:a=a &&& h:=by lia
  rw[e,C_,BW]at c;exact c.2
 .intro k;have e:a &&& h=a:=BS λb=>by
   rw[C_];cases c:a.testBit b with
   | false=>rfl
   | true=>rw[k b c];rfl
  rw[e,Int.sub_self]
def Fx(a m:Nat):decide (V.int (Builtin.bitAnd (a:Int) (m:Int))=V.int 0)=true↔∀b,a.testBit b=true->¬m.testBit b=true:=by
 rw[BN,Ub];constructor
 .intro e b c d;injection e with e;have e:a &&& m=0:=by lia
  have:(a &&& m).testBit b=true:=by rw[C_,c,d];rfl
  rw[e,CZ]at this;cases this
 .intro k;have e:a &&& m=0:=BS λb=>by
   rw[C_,CZ];cases c:a.testBit b with
   | false=>rfl
   | true =>
    have:=k b c;cases d:m.testBit b with
    | false=>rfl
    | true=>exact absurd d this
  rw[e];rfl
def X1(d k j:Nat):(d ||| 2^k).testBit j=true↔d.testBit j=true\/j=k:=by
 rw[DX,DY,CF,BN];exact⟨λh=>h.imp id Eq.symm,λh=>h.imp id Eq.symm⟩
section
variable{P:A7}{w:F8}{K:PySem.W.Frag}{mg:Str->A5 A2}{base:IM}
theorem Le:IL ["_law_view", "_law_mask", "_law_hit_here", "_law_k"] ["_law_view", "_law_mask"] (B7 PM):=KU
def zEf:Sp:=λb H Q _=>∃(p v:A3) (m:Nat) (a:A1 Str) (c:A1 (Str×Str)) (A B:A1 Nat),b = [.ref v,.int (m:Int)]/\KA H p v a c A B/\a.length<=100 /\
 ∀h:Nat,(∀j,h.testBit j=true↔n6 B m j)->Q (.int (h:Int)) H
theorem y8(T:Tx K mg):IU P w K mg base JE 1 T.aZ.f T.aZ.fd ["_law_view", "_law_mask"] zEf:=by
 refine T.aZ.F.o1 Le λx A g s H J Q E L h=>?_
 .obtain⟨p,v,m,M,N,A,B,rfl,y,O,q⟩:=h;obtain⟨⟨a,s,t,r,C,R,D,_⟩,S,u⟩:=id y;refine⟨_,(B4 (C6 (i:=2) Le.nd rfl (.inl rfl) B8)
   (B4 (O6 PassesOwn.never rfl (TR T.a0 (A8 (E1 (Q7 K) T.aw Q1 (A8 (E7 (M_ K) (pv 0) B8 (λ_ _=>rfl)) B1)) B1)) (C7 (i:=3) Le.nd rfl (.inl rfl))
   (B5 (M9 (D6 i8 (C8 R0 (C8 Xv (pv 1) (pv 3)) B8) B8 (E9 _)) (B5 (C6 (i:=2) Le.nd rfl (.inl rfl) (C8 Ar (pv 2) (E7 (M_ K) (E7 (M_ K) (pv 0) B8 (λ_ _=>rfl)) (pv 3) (λ_ _=>rfl))))) D4)))
   (B5 (C3 (pv 2))))),?_⟩
  refine A6 rfl ⟨v,_,C0 rfl rfl ⟨IS.of r,rfl,C0 (a:=a) rfl (.inl (IS.of C)) (A6 rfl ⟨?_,?_,?_⟩)⟩⟩
  .lia
  .rw[AB];lia
  rw[AB,CK];refine U3 (λi σ l=>l=H/\∃(h:Nat) (n:A5 V),σ = [some (.ref v),some (.int (m:Int)),some (.int (h:Int)),n]/\∀j,h.testBit j=true↔∃k,k<i/\m.testBit k=true/\(B.getD k 0).testBit j=true) ?_ ?_ ?_
  .exact⟨rfl,0,_,rfl,λj=>by rw[CZ];simp⟩
  .rintro i σ l G ⟨rfl,h,n,rfl,d⟩ U c _;rw[Int.zero_add];refine A6 rfl (A6 rfl (C0 rfl rfl ⟨(show(0:Int)<=(i:Int) by lia),C0 rfl rfl ⟨rfl,A6 rfl ?_⟩⟩));dsimp only;rw[Xn];refine V0 (λo=>?_) (λo=>?_)
   .refine A6 rfl (A6 rfl ⟨v,_,C0 rfl rfl ⟨IS.of r,rfl,A6 rfl ⟨t,_,C0 rfl rfl ⟨IS.of D,Fd (by rw[u.len];exact G),C0 rfl rfl ?_⟩⟩⟩⟩);dsimp only;rw[QZ];refine c _ _ ⟨rfl,_,_,rfl,λj=>?_⟩;rw[DX,DY,d];constructor
    .rintro(⟨k,b,h2⟩ | h2)
     .exact⟨k,by lia,h2⟩
     .exact⟨i,by lia,o,h2⟩
    .rintro⟨k,b,h2⟩;by_cases e:k=i
     .rw[e]at h2;exact .inr h2.2
     .exact .inl ⟨k,by lia,h2⟩
   .refine c _ _ ⟨rfl,h,_,rfl,λj=>?_⟩;rw[d];constructor
    .rintro⟨k,b,h2⟩;exact⟨k,by lia,h2⟩
    .rintro⟨k,b,h2⟩;by_cases e:k=i
     .rw[e]at h2;exact absurd h2.1 o
     .exact⟨k,by lia,h2⟩
  .rintro σ l ⟨rfl,h,n,rfl,d⟩;refine A6 rfl (q h λj=>?_);rw[d];constructor
   .rintro⟨k,b,h2⟩;exact⟨k,h2⟩
   .rintro⟨k,b,h2⟩;refine⟨k,?_,b,h2⟩;obtain⟨z,_,I,_⟩:=(u.bit k j).mp h2;exact(AE.mp I).1
theorem KS:IL ["_law_view", "_law_mask", "_law_hit_here", "_law_kept_here", "_law_k"] ["_law_view", "_law_mask"] (B7 OZ):=KU
def Zg:Sp:=λb H Q _=>∃(p v:A3) (m:Nat) (a:A1 Str) (c:A1 (Str×Str)) (A B:A1 Nat),b = [.ref v,.int (m:Int)]/\KA H p v a c A B/\a.length<=100 /\
 ∀h:Nat,(∀j,h.testBit j=true↔So a.length A B m j)->Q (.int (h:Int)) H
theorem Jh(T:Tx K mg):IU P w K mg base JE 2 T.bg.f T.bg.fd ["_law_view", "_law_mask"] Zg:=by
 refine T.bg.F.o1 KS λM A x s H Z Q E N h=>?_
 .obtain⟨p,v,m,O,R,A,B,rfl,I,S,q⟩:=h;obtain⟨⟨a,s,t,J,U,W,e4,_⟩,X,mB⟩:=id I;refine⟨_,(B4 (C6 (i:=2) KS.nd rfl (.inl rfl) (C9 T.aZ (y8 T) (Rm N) (A8 (pv 0) (A8 (pv 1) B1))))
   (B4 (C6 (i:=3) KS.nd rfl (.inl rfl) B8)
   (B4 (O6 PassesOwn.never rfl (TR T.a0 (A8 (E1 (Q7 K) T.aw Q1 (A8 (E7 (M_ K) (pv 0) B8 (λ_ _=>rfl)) B1)) B1)) (C7 (i:=4) KS.nd rfl (.inl rfl))
   (B5 (M9 (D6 i8 (C8 R0 (E7 (M_ K) (E7 (M_ K) (pv 0) B8 (λ_ _=>rfl)) (pv 4) (λ_ _=>rfl)) (Zk Xw (pv 2))) B8 (E9 _)) (B5 (C6 (i:=3) KS.nd rfl (.inl rfl) (C8 Ar (pv 3) (C8 Du B8 (pv 4))))) D4)))
   (B5 (C3 (pv 3)))))),?_⟩
  refine A6 rfl (A6 rfl (Yi (a:=p) (b:=v) (c:=m) (d:=O) (e:=R) (f:=A) (g:=B) rfl I S λo k=>?_));refine A6 rfl ⟨v,_,C0 rfl rfl ⟨IS.of J,rfl,C0 (a:=a) rfl (.inl (IS.of U)) (A6 rfl ⟨?_,?_,?_⟩)⟩⟩
  .lia
  .rw[AB];lia
  rw[AB,CK];refine U3 (λi σ y=>y=H/\∃(h:Nat) (C:A5 V),σ = [some (.ref v),some (.int (m:Int)),some (.int (o:Int)),some (.int (h:Int)),C]/\∀j,h.testBit j=true↔So i A B m j) ?_ ?_ ?_
  .exact⟨rfl,0,_,rfl,λj=>by rw[CZ];exact⟨λz=>(by cases z),λz=>absurd z.1 (FS _)⟩⟩
  .rintro i σ y Y ⟨rfl,h,C,rfl,u⟩ D1 r _;rw[Int.zero_add];refine A6 rfl ⟨v,_,C0 rfl rfl ⟨IS.of J,rfl,A6 rfl ⟨s,_,C0 rfl rfl ⟨IS.of W,Fd (by rw[X.len];exact Y),A6 rfl (A6 rfl (C0 rfl rfl ⟨rfl,A6 rfl ?_⟩))⟩⟩⟩⟩;dsimp only;have L:=Ad (A.getD i 0) o;refine V0 (λD=>?_) (λD=>?_)
   .refine A6 rfl (A6 rfl (C0 rfl rfl ⟨⟨by lia,by lia,by decide⟩,C0 rfl rfl ?_⟩));dsimp only;rw[TC,QZ];refine r _ _ ⟨rfl,_,_,rfl,λj=>?_⟩;rw[X1,u];constructor
    .rintro(⟨G,l⟩ | rfl)
     .exact⟨by lia,l⟩
     .exact⟨by lia,λb n=>(k b).mp (L.mp D b n)⟩
    .rintro⟨G,l⟩;by_cases e:j=i
     .exact .inr e
     .exact .inl ⟨by lia,l⟩
   .refine r _ _ ⟨rfl,h,_,rfl,λj=>?_⟩;rw[u];constructor
    .rintro⟨G,l⟩;exact⟨by lia,l⟩
    .rintro⟨G,l⟩;by_cases e:j=i
     .subst e;exact absurd (L.mpr λb n=>(k b).mpr (l b n)) D
     .exact⟨by lia,l⟩
  .rintro σ y ⟨rfl,h,C,rfl,u⟩;exact⟨_,rfl,q h u⟩
theorem Cc:IL ["_law_view", "_law_mask"] ["_law_view", "_law_mask"] (B7 MQ):=KU
def Pw:Sp:=λc H Q _=>∃(p v:A3) (m:Nat) (a:A1 Str) (d:A1 (Str×Str)) (A B:A1 Nat),c = [.ref v,.int (m:Int)]/\KA H p v a d A B/\a.length<=100 /\
 ∀b:Bool,(b=true↔JP B m)->Q (.bl b) H
theorem W3(T:Tx K mg):IU P w K mg base JE 2 T.aJ.f T.aJ.fd ["_law_view", "_law_mask"] Pw:=by
 refine T.aJ.F.o1 Cc λt A l s H I Q E u h=>?_
 .obtain⟨p,v,m,x,y,A,B,rfl,z,C,q⟩:=h;refine⟨_,(B5 (C3 (Q9 i8 (C8 R0 (C9 T.aZ (y8 T) (Rm u) (A8 (pv 0) (A8 (pv 1) B1))) (pv 1)) B8 (E9 _)))),?_⟩;refine A6 rfl (A6 rfl (Yi (a:=p) (b:=v) (c:=m) (d:=x) (e:=y) (f:=A) (g:=B) rfl z C λD k=>?_));refine A6 rfl (C0 rfl rfl ⟨rfl,?_⟩);refine q _ ?_;dsimp only;rw[Fx];constructor
  .intro h i j n o r;exact h j ((k j).mpr ⟨i,n,r⟩) o
  .intro h j o G;obtain⟨i,n,r⟩:=(k j).mp o;exact h i j n G r
end
def pB(p:Prop):Bool:=@decide p (Classical.propDecidable p)
def NM{p:Prop}:pB p=true↔p:=@BN p (Classical.propDecidable p)
def zDm{p:Prop}{b:Bool}(h:b=true↔p):b=pB p:=CC.mpr (h.trans NM.symm)
def Rc:∀(j a b:Nat),(∀j,a.testBit j=true->¬b.testBit j=true)->(a+b).testBit j =(a.testBit j||b.testBit j)
 | 0,a,b,h=>by
  have c:=h 0;rw[CQ,CQ,BN,BN]at c;rw[CQ,CQ,CQ,<-Bool.decide_or];exact decide_eq_decide.mpr ⟨λz=>by lia,λz=>by lia⟩
 | j+1,a,b,h=>by
  have c:=h 0;rw[CQ,CQ,BN,BN]at c;rw[DF,DF,DF,show(a+b) / 2=a / 2+b / 2 by lia];exact Rc j (a / 2) (b / 2) λi=>by have:=h (i+1);rw[DF,DF]at this;exact this
def Cl:∀{l:A1 Nat},l.Nodup->∀j,((l.map λk=>2^k).sum).testBit j=true↔j∈l
 | [],_,j=>by simp
 | k::l,b,j=>by
  obtain⟨c,d⟩:=BX.mp b;have a:=Cl d;rw[BK,HH,Nat.add_comm,Rc j _ _ λi z y=>?_,DY,a,CF,BN,AK];rotate_left
  .rw[CF,BN]at y;exact c (y▸(a i).mp z)
  exact⟨λh=>h.elim .inr λe=>.inl e.symm,λh=>h.elim (λe=>.inr e.symm) .inl⟩
def Yz:∀(s:Nat),0<s->∃k,s.testBit k=true/\s-(s &&&(s-1))=2^k/\∀i,i<k->¬s.testBit i=true:=by
 intro s
 induction s using Nat.strongRecOn with
 | _ s b =>
  intro h;by_cases o:s % 2=1
  .refine⟨0,by rw[CQ];exact BB o,?_,λi a=>absurd a (FS _)⟩;have e:s &&&(s-1)=s-1:=BS λi=>by
    rw[C_];cases i with
    | zero=>rw[CQ,CQ,BF (by lia:¬(s-1) % 2=1),HX]
    | succ i=>rw[DF,DF,show(s-1) / 2=s / 2 by lia,Bool.and_self]
   rw[e];lia
  .obtain⟨k,c,f,d⟩:=b (s / 2) (by lia) (by lia);refine⟨k+1,by rw[DF];exact c,?_,λi a=>by
    cases i with
    | zero=>rw[CQ,BN];exact o
    | succ i=>rw[DF];exact d i (by lia)⟩
   have e:s &&&(s-1)=2 *(s / 2 &&&(s / 2-1)):=BS λi=>by
    rw[C_];cases i with
    | zero=>rw[CQ,CQ,BF o,EJ,CQ,BF (by lia)]
    | succ i=>rw[DF,DF,DF,Nat.mul_div_cancel_left _ (by decide),C_,show(s-1) / 2=s / 2-1 by lia]
   have:s / 2 &&&(s / 2-1)<=s / 2:=Nat.and_le_left;rw[e,Nat.pow_succ];lia
def OC(n m:Nat):Prop:=∀j,m.testBit j=true->j<n
def OC.or{n m k:Nat}(h:OC n m)(b:k<n):OC n (m ||| 2^k):=λj a=>((X1 m k j).mp a).elim (h j) λe=>by lia
def OC.zero(n:Nat):OC n 0:=λj a=>by rw[CZ]at a;cases a
def OC.lt{n m:Nat}(h:OC n m):m<2^n:=Nat.lt_pow_two_of_testBit m λi a=>DB.mpr λz=>by have:=h i z;lia
structure SL(n:Nat)(A B:A1 Nat):Prop where
 tr:∀i j,(A.getD i 0).testBit j=true↔(B.getD j 0).testBit i=true
 lt:∀i j,(B.getD i 0).testBit j=true->i<n/\j<n
def MB.net{ns:A1 Str}{ks:A1 (Str×Str)}{A B:A1 Nat}(a:MB ns (ks.map λk=>(k.2,k.1)) A)(b:MB ns ks B):SL ns.length A B:=by
 refine⟨λi j=>?_,λi j h=>?_⟩
 .rw[a.bit,b.bit];constructor
  .rintro⟨_,e,c,d⟩;obtain⟨k,f,rfl⟩:=AX.mp e;exact⟨k,f,d,c⟩
  .rintro⟨k,e,c,d⟩;exact⟨_,AX.mpr ⟨k,e,rfl⟩,d,c⟩
 .obtain⟨k,_,c,d⟩:=(b.bit i j).mp h;exact⟨(AE.mp c).1,(AE.mp d).1⟩
def Ce(n:Nat)(A B:A1 Nat)(m:Nat):Prop:=OC n m/\JP B m/\∀j,m.testBit j=true->So n A B m j
def Sub(c a:Nat):Prop:=∀j,c.testBit j=true->a.testBit j=true
def Kj(m i:Nat):((Builtin.bitAnd ((2^i:Nat):Int) (m:Int)) != 0)=m.testBit i:=by
 rw[Ub];have e:(2^i &&& m)=if m.testBit i=true then 2^i else 0:=BS λj=>by
  rw[C_,CF];by_cases h:m.testBit i=true
  .rw[AL h,CF];by_cases c:i=j
   .subst c;rw[h,Bool.and_true]
   .rw[BF c,EJ]
  .rw[AJ h,CZ];by_cases c:i=j
   .subst c;rw[DB.mpr h,HX]
   .rw[BF c,EJ]
 rw[e];have p:0<2^i:=Nat.pow_pos (by decide);by_cases h:m.testBit i=true
 .rw[AL h,h,bne_iff_ne];lia
 .rw[AJ h,DB.mpr h];rfl
def zHl(x y:Nat)(h:∀j,y.testBit j=true->x.testBit j=true):∃z:Nat,Builtin.bitXor (x:Int) (y:Int) =(z:Int)/\∀j,z.testBit j=true↔x.testBit j=true/\¬y.testBit j=true:=by
 have b:∀j,(x ^^^ y).testBit j=true↔x.testBit j=true/\¬y.testBit j=true:=λj=>by
  rw[Nat.testBit_xor];cases d:x.testBit j<;>cases f:y.testBit j<;>simp;exact absurd (h j f) (by rw[d];decide)
 refine⟨x ^^^ y,?_,b⟩;have e:(x ^^^ y)+y=x:=BS λj=>by
  rw[Rc j _ _ λi z=>((b i).mp z).2,CC,DY,b];exact⟨λz=>z.elim (·.1) (h j),λz=>by by_cases c:y.testBit j=true<;>simp[z,c]⟩
 have a:x &&& y=y:=BS λj=>by
  rw[C_,CC,BW];exact⟨(·.2),λz=>⟨h j z,z⟩⟩
 rw[PyProof.Rows.bitXor_and,Ub,a];lia
def bK(M:A1 Nat)(n:Nat):A1 (JC×V):=(List.range n).map λi=>((Sum.inl ((2^i:Nat):Int):JC),O4 (M.getD i 0))
def Qq{i j:Nat}(h:((2^i:Nat):Int) =((2^j:Nat):Int)):i=j:=(Nat.pow_right_inj (by decide)).mp (Int.ofNat_inj.mp h)
def Lx(M:A1 Nat):∀{n i:Nat},i<n->U2 (bK M n) (.inl ((2^i:Nat):Int))=some (O4 (M.getD i 0))
 | n+1,i,h=>by
  unfold U2 bK;rw[EQ,AN,List.find?_append];by_cases c:i<n
  .have a:=Lx M c;unfold U2 bK at a;cases e:(List.find? (λb:JC×V=>decide (b.1=Sum.inl ((2^i:Nat):Int))) ((List.range n).map λi=>((Sum.inl ((2^i:Nat):Int):JC),O4 (M.getD i 0))))with
   | none=>rw[e]at a;cases a
   | some q=>rw[e]at a;rw[Option.some_or];exact a
  .have e:i=n:=by lia
   subst e;rw[FN.mpr λq d z=>?_,Option.none_or]
   .rw[BK,FE,BB rfl];rfl
   .obtain⟨k,f,rfl⟩:=AX.mp d;have:=Qq (Sum.inl.inj (BV z));have:=CB.mp f;lia
def mf(a b c d:A3)(n L:Nat):A1 (Str×V):=[("names",.ref a),("full",O4 (2^n-1)),("bit_of",.ref b),("strikers_of",.ref c),("struck_of",.ref d),("loops",O4 L)]
structure IP(C:A3)(H:Hp)(x c:A3)(ns:A1 Str)(A B:A1 Nat)(L:Nat):Prop where
 ex:∃dx a b d kb,H x=some (.ins C dx (mf a b c d ns.length L))/\H a=some (.lst (ns.map V.str))/\Rd H b (.dK kb)/\(∀i n,ns[i]?=some n->U2 kb (.inr n)=some (O4 (2^i)))/\Rd H c (.dK (bK A ns.length))/\H d=some (.dK (bK B ns.length))/\d≠c/\b≠c
 net:SL ns.length A B
 nd:ns.Nodup
 len:ns.length<=100
 loops:∀j,L.testBit j=true↔(A.getD j 0).testBit j=true
def zDr{H:Hp}{a c:A3}{b:A1 (JC×V)}{o:HO}(r:Rd H c (.dK b))(h:H a=some o)(e:∀b,o≠ .dK b)(f:∀d u,o≠ .frz d u):a≠c:=by
 rintro rfl;rcases r with r | ⟨d,r⟩
 .rw[h]at r;exact e _ (BH r)
 .rw[h]at r;exact f _ _ (BH r)
def zFu{H H':Hp}{b c:A3}{u:HO}(r:Rd H b u)(s:Sm [c] H H')(n:b≠c):Rd H' b u:=r.imp (λh=>NK s h n) λ⟨o,h⟩=>⟨o,NK s h n⟩
def IP.fz{C:A3}{H H':Hp}{x c:A3}{ns:A1 Str}{A B:A1 Nat}{L:Nat}(h:IP C H x c ns A B L)(s:Sm [c] H H')(r:Rd H' c (.dK (bK A ns.length))):IP C H' x c ns A B L:=by
 obtain⟨⟨k,a,b,d,l,e,f,m,n,g,o,i,j⟩,p,q,t,u⟩:=h;exact⟨⟨k,a,b,d,l,NK s e (zDr g e (λ_ z=>by cases z) λ_ _ z=>by cases z),NK s f (zDr g f (λ_ z=>by cases z) λ_ _ z=>by cases z),zFu m s j,n,r,NK s o i,i,j⟩,p,q,t,u⟩
def IP.same{C:A3}{H H':Hp}{x c:A3}{ns:A1 Str}{A B:A1 Nat}{L:Nat}(h:IP C H x c ns A B L)(s:F1 H H'):IP C H' x c ns A B L :=
 h.fz s.sm (let⟨_,_,_,_,_,_,_,_,_,a,_⟩:=h.ex;a.imp (s _ _) λ⟨o,e⟩=>⟨o,s _ _ e⟩)
def E4(m i:Nat):A1 Nat:=(List.range i).filter λk=>m.testBit k
def U6(m i:Nat):E4 m (i+1)=E4 m i++if m.testBit i=true then [i]else []:=by
 unfold E4;rw[EQ,EY,DQ,HQ]
def P5(m i:Nat):(E4 m i).length<=i:=Nat.le_trans (BM ..) (by rw[BZ];exact Nat.le_refl _)
section
variable{P:A7}{w:F8}{K:PySem.W.Frag}{mg:Str->A5 A2}{base:IM}
theorem Ap:IL ["self", "some"] ["self", "some"] (B7 MK):=KU
def u9(C:A3):Sp:=λd H Q _=>∃(x c:A3) (b:A1 Str) (A B:A1 Nat) (L m:Nat),d = [.ref x,.int (m:Int)]/\IP C H x c b A B L/\∀l a,H l=none->Sm [c] H a->IP C a x c b A B L->a l=some (.lst ((E4 m b.length).map λk=>O4 (2^k)))->Q (.ref l) a
theorem E6(T:Tx K mg):IU P w K mg base JE 1 T.ac.f T.ac.fd ["self", "some"] (u9 T.ab):=by
 refine T.ac.F.o1 Ap λW A p s H vs Q E hr h=>?_
 .obtain⟨x,c,e,A,B,L,m,rfl,r,q⟩:=h;obtain⟨X,a,b,d,kb,Y,e2,e3,e4,Z,e6,n1,n2⟩:=r.ex;have ln:=r.len;refine⟨_,(B5 (C3 (X3 (N':=["bit", "some"]) (cap:=[none,some 1]) (cl:=[("some",_)]) (P8 ⟨⟨rfl,rfl,rfl,rfl⟩,trivial⟩ ⟨rfl,trivial⟩) rfl (Zl (PD K (pv 0))) (λ_ _ _ _=>by exact⟨(MN 0),(U8 (TJ K (C8 R0 (pv 0) (pv 1)))),(pv 0)⟩)))),?_⟩;refine A6 rfl ⟨x,T.ab,X,_,A6 rfl ⟨Y,T.ad,T.aC,rfl,c,_,rfl,Z,λo D j=>?_⟩⟩;have t:D≠c:=λz=>by rw[z,A9]at j;cases j
  have u:Sm [c] H (IK H c (.frz o (.dK (bK A e.length)))):=(Sm.refl _ _).upd (by simp);have O:Rd (IK H c (.frz o (.dK (bK A e.length)))) c (.dK (bK A e.length)):=.inr ⟨o,A9⟩;have C:(IK H c (.frz o (.dK (bK A e.length)))) c=some (.frz o (.dK (bK A e.length))):=A9;have I:H D=none:=by rw[B6 t]at j;exact j
  have R:=r.fz u O;generalize IK H c (.frz o (.dK (bK A e.length)))=H1 at j u O C R⊢;have S:(bK A e.length).length=e.length:=by unfold bK;rw[AB,BZ]
  refine j4 (n:=e.length) (λi σ G=>(∃U,σ = [U,some (.int (m:Int))])/\F1 H1 G/\G D=some (.lst ((E4 m i).map λk=>O4 (2^k)))) ⟨⟨_,rfl⟩,F1.new j,A9⟩ ?_ ?_ ?_ ?_
  .rintro i σ G J ⟨_,g,_⟩;exact⟨g _ _ C,by rw[S];exact J⟩
  .rintro σ G ⟨_,g,_⟩;exact⟨g _ _ C,by rw[S];exact Nat.le_refl _⟩
  .rintro i σ G y H' N J ⟨⟨U,rfl⟩,g,l⟩ ⟨rfl,k,v,M,rfl⟩ V;unfold bK at M;rw[AH,List.getElem?_range J]at M;obtain⟨rfl,rfl⟩:=Prod.mk.inj (BH M);refine A6 rfl (A6 rfl (C0 rfl rfl ⟨_,rfl,?_⟩));dsimp only;rw[Kj];have hl:=P5 m i;refine V0 (λz=>A6 rfl ⟨_,l,by rw[AB,sizeLine_eq];lia,V _ _ ⟨⟨_,rfl⟩,g.upd j,?_⟩⟩) (λz=>V _ _ ⟨⟨_,rfl⟩,g,?_⟩)
   .rw[A9,U6,AL z,AN];rfl
   .rw[U6,AJ z,BU];exact l
  .rintro σ G ⟨_,g,l⟩;exact q D G I (u.trans g.sm) (R.same g) l
end
def zGk{α:Type}{J:It}{b:A1 α}{r:α->V}(f:α->V){a D:A3}{H:Hp}(as:LQ J (b.map r) a H){j:TT}{k:TE}{c:St}{l:A5 V}{Q:St->Hp->Prop}(p:α->Bool)(z:b.length<=5000)(m:H D=none)
  (A:∀y∈b,∀G,F1 H G->∀M:Bool->Hp->Prop,(∀e,F1 G e->M (p y) e)->j (some (r y)::c) G M) (B:∀y∈b,∀G,F1 H G->∀M:VK,(∀e,F1 G e->M (f y) e)->k (some (r y)::c) G M)
  (q:∀σ G,F1 H G->G D=some (.lst ((b.filter p).map f))->Q σ G):Fi (Y6 0) j (Ib D k) J (l::c) (IK H D (.lst [])) Q:=by
 refine S5 as (λi σ G=>(∃v,σ=v::c)/\F1 H G/\G D=some (.lst (((b.take i).filter p).map f))) ⟨⟨_,rfl⟩,F1.new m,A9⟩ (λi σ G _ h=>h.2.1.at a) ?_ ?_
 .rintro i σ G v N n ⟨⟨l,rfl⟩,d,g⟩ o;rw[AH]at n;obtain⟨y,s,rfl⟩:=AQ.mp n;have t:=AI s;refine A y t G d _ λe u=>?_;have g:=u _ _ g;have d:=d.trans u;have w:(b.take (i+1)).filter p =(b.take i).filter p++if p y=true then [y]else []:=by
   rw[IW s,EY,DQ,HQ]
  have C:=BM p (b.take i);rw[AZ]at C;refine V0 (λc=>B y t e d _ λE x=>⟨_,x _ _ g,by rw[AB,sizeLine_eq];lia,o _ _ ⟨⟨_,rfl⟩,(d.trans x).upd m,?_⟩⟩) (λc=>o _ _ ⟨⟨_,rfl⟩,d,?_⟩)
  .rw[A9,w,AL c,AN];rfl
  .rw[w,AJ c,BU];exact g
 .rintro σ G ⟨_,d,g⟩;rw[AB,BQ]at g;exact q σ G d g
def Er{α:Type}{J:It}{d:A1 α}{r:α->V}(f:α->V){a D:A3}{H:Hp}(as:LQ J (d.map r) a H){h:TT}{i:TE}{c:St}{k:A5 V}{Q:St->Hp->Prop}(p:α->Bool)(g:d.length<=5000)(l:H D=none)
  (m:∀y∈d,∀G,F1 H G->∀M:Bool->Hp->Prop,(∀j,F1 G j->M (p y) j)->h (some (r y)::c) G M) (n:∀y∈d,∀G,F1 H G->∀M:VK,M (f y) G->i (some (r y)::c) G M)
  (q:∀σ G,F1 H G->G D=some (.lst ((d.filter p).map f))->Q σ G):Fi (Y6 0) h (Ib D i) J (k::c) (IK H D (.lst [])) Q :=
 zGk f as p g l m (λy t G s M u=>n y t G s M (u G λb o e=>e)) q
def JO{m n k:Nat}:k∈E4 m n↔k<n/\m.testBit k=true:=by
 unfold E4;rw[BC,CB]
def Nm(n j:Nat):(2^n-1).testBit j=true↔j<n:=by rw[Nat.testBit_two_pow_sub_one,BN]
section
variable{P:A7}{w:F8}{K:PySem.W.Frag}{mg:Str->A5 A2}{base:IM}
theorem w6:IL ["self", "some"] ["self", "some"] (B7 LV):=KU
def Jr(C:A3):Sp:=λd H Q _=>∃(x c:A3) (b:A1 Str) (A B:A1 Nat) (L m:Nat),d = [.ref x,.int (m:Int)]/\IP C H x c b A B L/\∀l a,H l=none->F1 H a->a l=some (.lst ((LH b m).map V.str))->Q (.ref l) a
theorem T9(T:Tx K mg):IU P w K mg base JE 1 T.ar.f T.ar.fd ["self", "some"] (Jr T.ab):=by
 refine T.ar.F.o1 w6 λS A l s H vs Q E U h=>?_
 .obtain⟨x,c,t,A,B,L,m,rfl,u,q⟩:=h;have W:=V6 U;obtain⟨v,a,b,d,C,I,J,X,Y,e5,e6,n1,n2⟩:=u.ex;have ln:=u.len;refine⟨_,(B5 (C3 (X3 (N':=["name", "some", "self"]) (cap:=[none,some 1,some 0]) (cl:=[("some",_),("self",_)]) (P8 ⟨⟨rfl,rfl,rfl,rfl⟩,⟨⟨rfl,rfl,rfl,rfl⟩,trivial⟩⟩ ⟨rfl,⟨rfl,trivial⟩⟩) rfl (MZ K (PD K (pv 0))) (λ_ _ _ _=>by exact⟨(MN 0),(U8 (TJ K (C8 R0 (K3 W (PD K (pv 2)) (pv 0) (λ_ _=>rfl)) (pv 1)))),(pv 0)⟩)))),?_⟩;refine A6 rfl ⟨x,T.ab,v,_,A6 rfl ⟨I,T.ad,T.aK,rfl,a,rfl,⟨_,IS.of J⟩,λD p=>?_⟩⟩;refine S5 (MY (IS.of J)) (λi σ G=>(∃M,σ = [M,some (.int (m:Int)),some (.ref x)])/\F1 H G/\G D=some (.lst ((Eu t m i).map V.str))) ⟨⟨_,rfl⟩,F1.new p,A9⟩ (λi σ G _ h=>h.2.1.at a) ?_ ?_
  .rintro i σ G y N O ⟨⟨M,rfl⟩,g,j⟩ R;rw[AH]at O;obtain⟨n,k,rfl⟩:=AQ.mp O;have li:=(AE.mp k).1;have Z:Rd G b (.dK C):=X.imp (g _ _) λ⟨o,e⟩=>⟨o,g _ _ e⟩;refine A6 rfl ⟨x,T.ab,v,_,A6 rfl ⟨g _ _ I,T.ad,T.a7,rfl,A6 rfl ⟨b,_,rfl,.inl ⟨C,.inr n,Z,rfl,(Y i n k).symm⟩,A6 rfl (C0 rfl rfl ⟨_,rfl,?_⟩)⟩⟩⟩;dsimp only;rw[Kj];have r:=(q0 t m i (by lia)).length_le;rw[AZ]at r;refine V0 (λz=>A6 rfl ⟨_,j,by rw[AB,sizeLine_eq];lia,R _ _ ⟨⟨_,rfl⟩,g.upd p,?_⟩⟩) (λz=>R _ _ ⟨⟨_,rfl⟩,g,?_⟩)
   .rw[A9,U4 k,AL z,AN];rfl
   .rw[U4 k,AJ z,BU];exact j
  .rintro σ G ⟨_,g,j⟩;rw[AB]at j;exact q D G p g j
theorem MX:IL ["sets", "whole", "one"] ["sets"] (B7 QB):=KU
def Ts(K:PySem.W.Frag):Sp:=λb H Q _=>∃(l:A3) (a:A1 Nat),b = [.ref l]/\H l=some (.lst (a.map O4))/\∀r:Nat,(∀j,r.testBit j=true↔∃z∈a,z.testBit j=true)->Q (.int (r:Int)) H
theorem Ig(T:Tx K mg):IU P w K mg base JE 1 T.bi.f T.bi.fd ["sets"] (Ts K):=by
 refine T.bi.F.o1 MX λu A c s H B Q E a h=>?_
 .obtain⟨l,v,rfl,p,q⟩:=h;refine⟨_,(B4 (C6 (i:=1) MX.nd rfl (.inl rfl) B8)
   (B4 (O6 PassesOwn.never rfl (MZ K (pv 0)) (C7 (i:=2) MX.nd rfl (.inl rfl))
   (B5 (zBp (i:=1) MX.nd rfl (Or.inl rfl) (pv 2) zGf)))
   (B5 (C3 (pv 1))))),?_⟩
  refine B9 λC d=>?_;refine d _ _ (B9 λD g=>?_);refine A6 rfl ⟨l,rfl,⟨_,IS.of p⟩,?_⟩;refine X0 (MY (K:=K) (IS.of p)) (λi σ G=>G=H/\∃(r:Nat) (k:A5 V),σ = [some (.ref l),some (.int (r:Int)),k]/\∀j,r.testBit j=true↔∃z∈v.take i,z.testBit j=true) ⟨rfl,0,_,rfl,λj=>by simp⟩ (λi σ G _ h=>by rw[h.1];exact λo e=>e) ?_ ?_
  .rintro i σ G y t ⟨rfl,r,k,rfl,a⟩ I m _;rw[AH]at t;obtain⟨z,x,rfl⟩:=AQ.mp t;refine A6 rfl (A6 rfl (C0 rfl rfl ?_));dsimp only;rw[QZ];refine m _ _ ⟨rfl,_,_,rfl,λj=>?_⟩;rw[DX,DY,a,IW x];constructor
   .rintro(⟨n,h1,b⟩ | h)
    .exact⟨n,CP _ h1,b⟩
    .exact⟨z,BG _ (AD.mpr rfl),h⟩
   .rintro⟨n,h1,b⟩;rcases AO.mp h1 with h1 | h1
    .exact .inl ⟨n,h1,b⟩
    .rw[AD.mp h1]at b;exact .inr b
  .rintro σ G ⟨rfl,r,k,rfl,a⟩;rw[AB,BQ]at a;exact g _ _ (A6 rfl (q r a))
def Sd(C:A3)(f:A1 Nat->A1 Nat->A1 Nat):Sp:=λd H Q _=>∃(x c:A3) (b:A1 Str) (A B:A1 Nat) (L m:Nat),d = [.ref x,.int (m:Int)]/\IP C H x c b A B L/\∀(r:Nat) a,Sm [c] H a->IP C a x c b A B L->(∀j,r.testBit j=true↔n6 (f A B) m j)->Q (.int (r:Int)) a
theorem Rs{n m r:Nat}{M:A1 Nat}(b:∀k j,(M.getD k 0).testBit j=true->k<n)(h:∀j,r.testBit j=true↔∃z∈(E4 m n).map (λk=>M.getD k 0),z.testBit j=true)(j:Nat):r.testBit j=true↔n6 M m j:=by
 rw[h];constructor
 .rintro⟨z,c,e⟩;obtain⟨k,a,rfl⟩:=AX.mp c;exact⟨k,(JO.mp a).2,e⟩
 .rintro⟨k,a,e⟩;exact⟨_,AX.mpr ⟨k,JO.mpr ⟨b k j e,a⟩,rfl⟩,e⟩
theorem m9:IL ["self", "some"] ["self", "some"] (B7 LO):=KU
theorem M7(T:Tx K mg):IU P w K mg base JE 2 T.aj.f T.aj.fd ["self", "some"] (Sd T.ab λ_ B=>B):=by
 refine T.aj.F.o1 m9 λJ A t s H V Q E n h=>?_
 .obtain⟨x,c,y,A,B,L,m,rfl,g,q⟩:=h;have N:=V6 n;obtain⟨u,a,b,d,O,v,_⟩:=g.ex;have W:=g.len;refine⟨_,(B5 (C3 (C9 T.bi (Ig T) (Rm n) (A8 (X3 (N':=["bit", "self"]) (cap:=[none,some 0]) (cl:=[("self",_)]) (P8 ⟨⟨rfl,rfl,rfl,rfl⟩,trivial⟩ ⟨rfl,trivial⟩) rfl (MZ K (D8 (pv 0) T.ad T.ac.m (E6 T) (Rm n) T.ac.b .nil J9 (A8 (pv 1) B1))) (λ_ _ _ _=>by exact⟨(MN 0),J8,(K3 N (PD K (pv 1)) (pv 0) (λ_ _=>rfl))⟩)) B1)))),?_⟩;refine A6 rfl ⟨x,u,A6 rfl ⟨v,rfl,A6 rfl ⟨x,c,y,A,B,L,m,rfl,g,λl X Y R z C=>?_⟩⟩⟩;obtain⟨u,a,b,d,O,v,Z,e3,e4,e5,S,n1,n2⟩:=z.ex;refine⟨l,rfl,⟨_,IS.of C⟩,λD U=>?_⟩;refine Er (λk=>O4 (B.getD k 0)) (MY (IS.of C)) (λ_=>true) (Nat.le_trans (P5 ..) (by lia)) U (λk I G i M g=>g G λb o e=>e) (λk I G i M g=>?_) λσ' G i p=>?_
  .exact A6 rfl ⟨x,T.ab,u,_,A6 rfl ⟨i _ _ v,T.ad,T.bh,rfl,A6 rfl ⟨d,_,rfl,.inl ⟨_,.inl ((2^k:Nat):Int),.inl (i _ _ S),rfl,(Lx B (JO.mp I).1).symm⟩,g⟩⟩⟩
  rw[F_.mpr λ_ _=>rfl]at p;have p:G D=some (.lst (((E4 m y.length).map λk=>B.getD k 0).map O4)):=by rw[p,BL];rfl
  refine⟨D,_,rfl,p,λr n=>q r G (R.trans i.sm) (z.same i) (Rs (λk j e=>(g.net.lt k j e).1) n)⟩
theorem Y9:IL ["self", "some"] ["self", "some"] (B7 KZ):=KU
theorem K0(T:Tx K mg):IU P w K mg base JE 2 T.ah.f T.ah.fd ["self", "some"] (Sd T.ab λA _=>A):=by
 refine T.ah.F.o1 Y9 λJ A t s H V Q E n h=>?_
 .obtain⟨x,c,y,A,B,L,m,rfl,g,q⟩:=h;have N:=V6 n;obtain⟨u,a,b,d,O,v,_⟩:=g.ex;have W:=g.len;refine⟨_,(B5 (C3 (C9 T.bi (Ig T) (Rm n) (A8 (X3 (N':=["bit", "self"]) (cap:=[none,some 0]) (cl:=[("self",_)]) (P8 ⟨⟨rfl,rfl,rfl,rfl⟩,trivial⟩ ⟨rfl,trivial⟩) rfl (MZ K (D8 (pv 0) T.ad T.ac.m (E6 T) (Rm n) T.ac.b .nil J9 (A8 (pv 1) B1))) (λ_ _ _ _=>by exact⟨(MN 0),J8,(K3 N (PD K (pv 1)) (pv 0) (λ_ _=>rfl))⟩)) B1)))),?_⟩;refine A6 rfl ⟨x,u,A6 rfl ⟨v,rfl,A6 rfl ⟨x,c,y,A,B,L,m,rfl,g,λl X Y R z C=>?_⟩⟩⟩;obtain⟨u,a,b,d,O,v,Z,e3,e4,S,e6,n1,n2⟩:=z.ex;refine⟨l,rfl,⟨_,IS.of C⟩,λD U=>?_⟩;refine Er (λk=>O4 (A.getD k 0)) (MY (IS.of C)) (λ_=>true) (Nat.le_trans (P5 ..) (by lia)) U (λk I G i M g=>g G λb o e=>e) (λk I G i M g=>?_) λσ' G i p=>?_
  .exact A6 rfl ⟨x,T.ab,u,_,A6 rfl ⟨i _ _ v,T.ad,T.aC,rfl,A6 rfl ⟨c,_,rfl,.inl ⟨_,.inl ((2^k:Nat):Int),S.imp (i _ _) λ⟨o,e⟩=>⟨o,i _ _ e⟩,rfl,(Lx A (JO.mp I).1).symm⟩,g⟩⟩⟩
  rw[F_.mpr λ_ _=>rfl]at p;have p:G D=some (.lst (((E4 m y.length).map λk=>A.getD k 0).map O4)):=by rw[p,BL];rfl
  refine⟨D,_,rfl,p,λr n=>q r G (R.trans i.sm) (z.same i) (Rs (λk j e=>(g.net.lt j k ((g.net.tr k j).mp e)).2) n)⟩
theorem Y8:IL ["self", "some"] ["self", "some"] (B7 KY):=KU
def Kh(C:A3):Sp:=λd H Q _=>∃(x c:A3) (a:A1 Str) (A B:A1 Nat) (L m:Nat),d = [.ref x,.int (m:Int)]/\IP C H x c a A B L/\∀(r:Nat) b,Sm [c] H b->IP C b x c a A B L->(∀j,r.testBit j=true↔j<a.length/\¬n6 B m j)->Q (.int (r:Int)) b
theorem Y7(T:Tx K mg):IU P w K mg base JE 3 T.av.f T.av.fd ["self", "some"] (Kh T.ab):=by
 refine T.av.F.o1 Y8 λt A i s H I Q E g h=>?_
 .obtain⟨x,c,n,A,B,L,m,rfl,l,q⟩:=h;obtain⟨o,a,b,d,J,p,_⟩:=l.ex;refine⟨_,(B5 (C3 (C8 Xp (PD K (pv 0)) (D8 (pv 0) T.ad T.aj.m (M7 T) (Rm g) T.aj.b .nil J9 (A8 (pv 1) B1))))),?_⟩;refine A6 rfl ⟨x,T.ab,o,_,A6 rfl ⟨p,T.ad,T.bn,rfl,A6 rfl ⟨x,o,A6 rfl ⟨p,rfl,A6 rfl ⟨x,c,n,A,B,L,m,rfl,l,λr u v y g=>?_⟩⟩⟩⟩⟩;obtain⟨z,C,D⟩:=zHl (2^n.length-1) r λj G=>by
   obtain⟨k,_,e⟩:=(g j).mp G;exact(Nm _ _).mpr (l.net.lt k j e).2
  refine⟨_,_,rfl,rfl,?_⟩;dsimp only;rw[C];exact q z u v y λj=>by rw[D,Nm,g]
theorem Gi:IL ["some"] ["some"] (B7 OO):=KU
def Ut:Sp:=λa H Q _=>∃s:Nat,a = [.int (s:Int)]/\0<s/\∀k:Nat,s.testBit k=true->(∀i,i<k->¬s.testBit i=true)->Q (.int ((2^k:Nat):Int)) H
theorem Hi(T:Tx K mg):IU P w K mg base JE 1 T.a8.f T.a8.fd ["some"] Ut:=by
 refine T.a8.F.o1 Gi λb A a s H j Q E l h=>?_
 .obtain⟨s,rfl,c,q⟩:=h;refine⟨_,(B5 (C3 (C8 R0 (pv 0) (Zk zDl (pv 0))))),?_⟩;refine A6 rfl (A6 rfl ⟨_,rfl,C0 rfl rfl ?_⟩);obtain⟨k,d,m,g⟩:=Yz s c;have e:-(s:Int)=Builtin.bitNot (((s-1:Nat)):Int):=by unfold Builtin.bitNot;lia
  have:=q k d g;dsimp only;rw[e,PyProof.Rows.bitAnd_not,Ub];have i:(s:Int)-((s &&&(s-1):Nat):Int) =((2^k:Nat):Int):=by
   have:s &&&(s-1)<=s:=Nat.and_le_left;lia
  rw[i];exact this
end
def Kl(κ:Nat->JC)(v:Nat->V){N:Nat}(b:∀i j,i<N->j<N->κ i=κ j->i=j):∀n,n<=N->∀i,i<N->U2 ((List.range n).map λk=>(κ k,v k)) (κ i)=if i<n then some (v i)else none
 | 0,_,i,_=>rfl
 | n+1,h,i,f=>by
  have a:=Kl κ v b n (by lia) i f;unfold U2 at a⊢;rw[EQ,AN,List.find?_append];by_cases c:i<n
  .rw[AL c]at a;rw[AL (by lia)];cases e:(List.find? (λd:JC×V=>decide (d.1=κ i)) ((List.range n).map λk=>(κ k,v k)))with
   | none=>rw[e]at a;cases a
   | some q=>rw[e]at a;rw[Option.some_or];exact a
  .rw[AJ c]at a;cases e:(List.find? (λd:JC×V=>decide (d.1=κ i)) ((List.range n).map λk=>(κ k,v k)))with
   | some q=>rw[e]at a;cases a
   | none =>
    rw[Option.none_or,BK,FE];by_cases g:i=n
    .subst g;rw[BB rfl,AL (by lia)];rfl
    .rw[BF λz=>g (b n i (by lia) f z).symm,AJ (by lia)];rfl
def Re(κ:Nat->JC)(v:Nat->V){N:Nat}(a:∀i j,i<N->j<N->κ i=κ j->i=j){n:Nat}(h:n<N):Av ((List.range n).map λk=>(κ k,v k)) (κ n) (v n) =(List.range (n+1)).map λk=>(κ k,v k):=by
 rw[Wv _ (by rw[Kl κ v a n (by lia) n h,AJ (by lia)]),EQ,AN];rfl
def Ng:∀n,(((List.range n).map λk=>((2^k:Nat):Int)).sum) =((2^n-1:Nat):Int)
 | 0=>rfl
 | n+1=>by
  rw[EQ,AN,List.sum_append,Ng n];have:0<2^n:=Nat.pow_pos (by decide);simp only[BK,EK,HH,List.sum_nil,Nat.pow_succ];lia
def Mp(l:A1 Nat):((l.map λk=>((2^k:Nat):Int)).sum) =(((l.map λk=>2^k).sum:Nat):Int):=by
 induction l with
 | nil=>rfl
 | cons a r b=>rw[BK,HH,b,BK,HH];lia
def Hj{ns:A1 Str}{y:Str}(h:y∈ns):ns[ns.idxOf y]?=some y:=by
 rw[AC (List.idxOf_lt_length_of_mem h),List.getElem_idxOf]
def ML(ns:A1 Str)(g:Str->A1 Str):A1 Nat:=ns.map λn=>((g n).map λy=>2^ns.idxOf y).sum
def zAb{ns:A1 Str}{g:Str->A1 Str}{i:Nat}{n:Str}(h:ns[i]?=some n):(ML ns g).getD i 0 =(((g n).map λy=>ns.idxOf y).map λk=>2^k).sum:=by
 unfold ML;rw[AY,AH,h,BL];rfl
def zCw{ns:A1 Str}{g:Str->A1 Str}{ks:A1 (Str×Str)}(p:ns.Nodup)(q:∀n∈ns,(g n).Nodup)(h:∀n∈ns,∀y,y∈g n↔(n,y)∈ks)(c:∀k∈ks,k.1∈ns/\k.2∈ns):MB ns ks (ML ns g):=by
 refine⟨by unfold ML;rw[AB],λi j=>?_⟩;cases l:ns[i]? with
 | none =>
  have e:(ML ns g).getD i 0=0:=by unfold ML;rw[AY,AH,l];rfl
  rw[e,CZ];exact⟨λz=>(by cases z),λ⟨k,_,z,_⟩=>(by cases z)⟩
 | some n =>
  have d:=AI l;have r:((g n).map λy=>ns.idxOf y).Nodup:=by
   refine CS.mpr (FY (fun{a b} s t u e=>u ?_) (q n d));have o:=Hj (c _ ((h n d a).mp s)).2;have v:=Hj (c _ ((h n d b).mp t)).2;rw[e,v]at o;exact(BH o).symm
  rw[zAb l,Cl r,AX];constructor
  .rintro⟨y,w,rfl⟩;have f:=(h n d y).mp w;exact⟨_,f,rfl,Hj (c _ f).2⟩
  .rintro⟨k,f,m,x⟩;have m:=BH m;refine⟨k.2,(h n d k.2).mpr (by rw[m];exact f),?_⟩;exact Y1 p (Hj (c _ f).2) x
def Mi{J:It}{a D:A3}{ns:A1 Str}{H:Hp}{Q:St->Hp->Prop}(as:LQ J (ns.map V.str) a H){j l:TE}{r:St}{m:A5 V}(M:A1 Nat)(t:ns.length<=1000)(o:H D=none)
  (u:∀i n G (R:VK),ns[i]?=some n->F1 H G->R (O4 (2^i)) G->j (some (.str n)::r) G R)
  (w:∀i n G (R:VK),ns[i]?=some n->F1 H G->(∀f,F1 G f->R (O4 (M.getD i 0)) f)->l (some (.str n)::r) G R)
  (q:∀σ G,F1 H G->G D=some (.dK (bK M ns.length))->Q σ G):Fi (Y6 0) Cj (Vw D j l) J (m::r) (IK H D (.dK [])) Q:=by
 refine S5 as (λi σ G=>(∃v,σ=v::r)/\F1 H G/\G D=some (.dK (bK M i))) ⟨⟨_,rfl⟩,F1.new o,A9⟩ (λi σ G _ h=>h.2.1.at a) ?_ ?_
 .rintro i σ G v N p ⟨⟨m,rfl⟩,c,d⟩ x;rw[AH]at p;obtain⟨n,g,rfl⟩:=AQ.mp p;have y:=(AE.mp g).1;refine o9 (u i n G _ g c (w i n G _ g c λf s=>?_));refine⟨bK M i,.inl ((2^i:Nat):Int),s _ _ d,rfl,by unfold bK;rw[AB,BZ,sizeLine_eq];lia,x _ _ ⟨⟨_,rfl⟩,(c.trans s).upd o,?_⟩⟩;rw[A9];unfold bK;rw[Re (λk=>(Sum.inl ((2^k:Nat):Int):JC)) (λk=>O4 (M.getD k 0)) (N:=i+1) (λa b _ _ e=>Qq (Sum.inl.inj e)) (EW i)]
 .rintro σ G ⟨_,c,d⟩;rw[AB]at d;exact q σ G c d
def KD.smx{C M:A3}{H H':Hp}{x w g:A3}{ns:A1 Str}{i:A1 JV}(h:KD C H w ns i)(j:H x=some (.ins M g []))(s:Sm [x] H H'):KD C H' w ns i:=by
 obtain⟨m,p,a,b,c,d,r,t,u,y,A,B,D,E,F,G⟩:=h;have k:∀{b:A3} {o:HO},H b=some o->o≠ .ins M g []->H' b=some o:=λe n=>s _ _ e λz=>n (by rw[AD.mp z,j]at e;exact(BH e).symm);exact⟨m,p,a,b,c,d,r,t,k u (by unfold wf;intro z;cases z),k y (by intro z;cases z),k A (by intro z;cases z),λq I=>k (B q I) (by intro z;cases z),k D (by intro z;cases z),k E (by intro z;cases z),λn f=>let⟨l,v,e⟩:=F n f;⟨l,v,k e (by intro z;cases z)⟩,λn f=>let⟨l,v,e⟩:=G n f;⟨l,v,k e (by intro z;cases z)⟩⟩
def Ip{a:A1 JV}{n y:Str}:y∈B2 a n↔(n,y)∈(a.map λq=>q.2).map λk=>(k.2,k.1):=by
 unfold B2;rw[BL,AX,AX];constructor
 .rintro⟨q,h,rfl⟩;obtain⟨b,c⟩:=BC.mp h;exact⟨q,b,Prod.ext (BV c) rfl⟩
 .rintro⟨q,h,e⟩;exact⟨q,BC.mpr ⟨h,BB (congrArg Prod.fst e)⟩,congrArg Prod.snd e⟩
def Kr{a:A1 JV}{n y:Str}:y∈E2 a n↔(n,y)∈a.map λq=>q.2:=by
 unfold E2;rw[AX,AX];constructor
 .rintro⟨q,h,rfl⟩;obtain⟨b,c⟩:=BC.mp h;exact⟨q,b,Prod.ext (BV c) rfl⟩
 .rintro⟨q,h,e⟩;exact⟨q,BC.mpr ⟨h,BB (congrArg Prod.fst e)⟩,congrArg Prod.snd e⟩
def Jv{c:A1 JV}(h:(c.map λq=>q.2).Nodup)(n:Str):(B2 c n).Nodup:=by
 unfold B2;refine CS.mpr (FY (fun{a b} d f g e=>g ?_) ((CS.mp h).sublist CV));exact Prod.ext e ((BV (BC.mp d).2).trans (BV (BC.mp f).2).symm)
def Rg{c:A1 JV}(h:(c.map λq=>q.2).Nodup)(n:Str):(E2 c n).Nodup:=by
 unfold E2;refine CS.mpr (FY (fun{a b} d f g e=>g ?_) ((CS.mp h).sublist CV));exact Prod.ext ((BV (BC.mp d).2).trans (BV (BC.mp f).2).symm) e
def QM(ns:A1 Str)(i:Nat):A1 (JC×V):=(List.range i).map λk=>((Sum.inr (ns.getD k ""):JC),O4 (2^k))
def Fm{ns:A1 Str}{i:Nat}{n:Str}(h:ns[i]?=some n):ns.getD i "" = n:=by rw[AY,h];rfl
def Ya{ns:A1 Str}(c:ns.Nodup):∀i j,i<ns.length->j<ns.length->(Sum.inr (ns.getD i ""):JC)=Sum.inr (ns.getD j "")->i=j:=λi j a b e=>by
 have e:=Sum.inr.inj e;rw[Fm (AC a),Fm (AC b)]at e;exact Y1 c (AC a) (by rw[AC b,e])
def Lu{ns:A1 Str}(b:ns.Nodup){i:Nat}{n:Str}(h:ns[i]?=some n):U2 (QM ns ns.length) (.inr n)=some (O4 (2^i)):=by
 have a:=(AE.mp h).1;have:=Kl (λk=>(Sum.inr (ns.getD k ""):JC)) (λk=>O4 (2^k)) (Ya b) ns.length (Nat.le_refl _) i a;rw[AL a]at this;rw[Fm h]at this;exact this
section
variable{P:A7}{w:F8}{K:PySem.W.Frag}{mg:Str->A5 A2}{base:IM}
theorem Mu{G:Hp}{b l:A3}{ns a:A1 Str}{R:VK}(n:ns.Nodup)(q:G b=some (.dK (QM ns ns.length)))(r:G l=some (.lst (a.map V.str)))(s:∀y∈a,y∈ns)(t:a.length<=1000)(u:∀g,F1 G g->R (.int ((((a.map λy=>ns.idxOf y).map λk=>2^k).sum:Nat):Int)) g) :
  ∀D,G D=none->Fi (Y6 0) Cj (Ib D (Uo (Pe 1) (Pe 0))) (UI K l) [none,some (.ref b)] (IK G D (.lst [])) λ_ h=>∃(p:A3) (i:A1 Int),[V.ref D] = [.ref p]/\IS K h p (i.map V.int)/\R (.int i.sum) h:=λD v=>by
 refine Er (λy=>O4 (2^ns.idxOf y)) (MY (IS.of r)) (λ_=>true) (by lia) v (λy j c d M f=>f c λb o e=>e) (λy j c d M f=>?_) λσ c d m=>?_
 .exact A6 rfl (A6 rfl ⟨b,_,rfl,.inl ⟨_,.inr y,.inl (d _ _ q),rfl,(Lu n (Hj (s y j))).symm⟩,f⟩)
 .rw[F_.mpr λ_ _=>rfl]at m;refine⟨D,(a.map λy=>ns.idxOf y).map λk=>((2^k:Nat):Int),rfl,IS.of (by rw[m,BL,BL];rfl),?_⟩;rw[Mp];exact u c d
theorem LJ:IL ["self", "web", "bits"] ["self", "web"] (B7 LW):=KU
def Fh(e g:A3):Sp:=λh H Q _=>∃(x i f:A3) (a:A1 Str) (b:A1 JV),h = [.ref x,.ref f]/\H x=some (.ins e i [])/\KD g H f a b /\
 ∀(c:A3) (A B:A1 Nat) (L:Nat) d,H c=none->Sm [x] H d->IP e d x c a A B L->MB a ((b.map λq=>q.2).map λk=>(k.2,k.1)) A->MB a (b.map λq=>q.2) B->Q .non d
set_option maxHeartbeats 4000000 in
theorem Ej(T:Tx K mg):IU P w K mg base JE 3 T.br T.bq ["self", "web"] (Fh T.ab T.ag):=by
 refine T.bs.o1 LJ λcdv A outer s H vs Q E hr h=>?_
 .obtain⟨x,e,wb,ns,r,rfl,hx,hW,q⟩:=h;have hu:=V6 hr;have u:=hW.ok;have ln:=u.len;have U:=u.nd;refine⟨_,(B4 (RM K (pv 0) (U9 (pv 1) T.am T.af.m (I9 T) (Rm hr) T.af.b .nil J9))
   (B4 (C6 (i:=2) LJ.nd rfl (.inr rfl) (Nt (N':=["place", "name"]) (cap:=[none,none]) (cl:=[]) (P8 trivial trivial) rfl (TY K T.aP (A8 (PD K (pv 0)) B1)) (λ_ _ _ _=>by exact⟨(QT K (n:=2) (C5 (MN 0) (C5 (MN 1) P9))),J8,(pv 1),(C8 Du B8 (pv 0))⟩)))
   (B4 (RM K (pv 0) (E1 zAi T.bl Jf (A8 (Pj (pv 2)) B1)))
   (B4 (RM K (pv 0) (pv 2))
   (B4 (RM K (pv 0) (Nt (N':=["name", "bits", "web"]) (cap:=[none,some 2,some 1]) (cl:=[("web",_),("bits",_)]) (P8 ⟨⟨rfl,rfl,rfl,rfl⟩,⟨⟨rfl,rfl,rfl,rfl⟩,trivial⟩⟩ ⟨rfl,⟨rfl,trivial⟩⟩) rfl (MZ K (PD K (pv 0))) (λ_ _ _ _=>by exact⟨(MN 0),J8,(K3 hu (pv 1) (pv 0) (λ_ _=>rfl)),(E1 (Lr K) T.bl Jf (A8 (X3 (N':=["one", "bits"]) (cap:=[none,some 1]) (cl:=[("bits",_)]) (P8 ⟨⟨rfl,rfl,rfl,rfl⟩,trivial⟩ ⟨rfl,trivial⟩) rfl (MZ K (D8 (pv 2) T.am T.ak.m (M8 T) (Rm hr) T.ak.b .nil J9 (A8 (pv 0) B1))) (λ_ _ _ _=>by exact⟨(MN 0),J8,(K3 hu (pv 1) (pv 0) (λ_ _=>rfl))⟩)) B1))⟩)))
   (B4 (RM K (pv 0) (Nt (N':=["name", "bits", "web"]) (cap:=[none,some 2,some 1]) (cl:=[("web",_),("bits",_)]) (P8 ⟨⟨rfl,rfl,rfl,rfl⟩,⟨⟨rfl,rfl,rfl,rfl⟩,trivial⟩⟩ ⟨rfl,⟨rfl,trivial⟩⟩) rfl (MZ K (PD K (pv 0))) (λ_ _ _ _=>by exact⟨(MN 0),J8,(K3 hu (pv 1) (pv 0) (λ_ _=>rfl)),(E1 (Lr K) T.bl Jf (A8 (X3 (N':=["one", "bits"]) (cap:=[none,some 1]) (cl:=[("bits",_)]) (P8 ⟨⟨rfl,rfl,rfl,rfl⟩,trivial⟩ ⟨rfl,trivial⟩) rfl (MZ K (D8 (pv 2) T.am T.aO.m (Ez T) (Rm hr) T.aO.b .nil J9 (A8 (pv 0) B1))) (λ_ _ _ _=>by exact⟨(MN 0),J8,(K3 hu (pv 1) (pv 0) (λ_ _=>rfl))⟩)) B1))⟩)))
   (B5 (RM K (pv 0) (E1 (Lr K) T.bl Jf (A8 (X3 (N':=["bit", "self"]) (cap:=[none,some 0]) (cl:=[("self",_)]) (P8 ⟨⟨rfl,rfl,rfl,rfl⟩,trivial⟩ ⟨rfl,trivial⟩) rfl (zDk (Pj (pv 2))) (λ_ _ _ _=>by exact⟨(MN 0),(U8 (TJ K (C8 R0 (pv 0) (K3 hu (PD K (pv 1)) (pv 0) (λ_ _=>rfl))))),(pv 0)⟩)) B1)))))))))),?_⟩
  have f:∀{b:A3},b≠x->b∉[x]:=λh z=>h (AD.mp z);refine B9 λZ1 hZ1=>?_;obtain⟨_,dw,_,_,_,_,_,_,ew,_⟩:=id hW;refine A6 rfl ⟨wb,dw,A6 rfl ⟨ew,rfl,wb,ns,r,rfl,hW,λa hl1=>?_⟩⟩;have C:x≠a:=B3 hx hl1;refine A6 rfl ⟨x,T.ab,e,[],rfl,(B6 C).trans hx,T.ad,T.aK,by decide,?_⟩;have k1:Sm [x] H (IK (IK H a (.lst (ns.map V.str))) x (.ins T.ab e (R4 "names" (.ref a) []))):=(Sm.new (Sm.refl _ _) hl1).upd (by simp);have a1:(IK (IK H a (.lst (ns.map V.str))) x (.ins T.ab e (R4 "names" (.ref a) []))) a=some (.lst (ns.map V.str)):=(B6 C.symm).trans A9;have x1:(IK (IK H a (.lst (ns.map V.str))) x (.ins T.ab e (R4 "names" (.ref a) []))) x=some (.ins T.ab e [("names",.ref a)]):=by rw[A9];rfl
  generalize IK (IK H a (.lst (ns.map V.str))) x (.ins T.ab e (R4 "names" (.ref a) []))=H1 at k1 a1 x1⊢;refine hZ1 _ _ (B9 λZ2 hZ2=>?_);refine A6 rfl ⟨x,T.ab,e,_,A6 rfl ⟨x1,T.ad,T.aK,rfl,a,A6 rfl ⟨IS.of a1,λb hb=>?_⟩⟩⟩;refine j4 (n:=ns.length) (λi σ G=>(∃v0 v1,σ = [v0,v1])/\F1 H1 G/\G b=some (.dK (QM ns i))) ⟨⟨_,_,rfl⟩,F1.new hb,A9⟩ ?_ ?_ ?_ ?_
  .rintro i σ G W ⟨_,p,_⟩;exact⟨_,_,(p.at a).seqL (IS.of a1),by rw[AH,AC W];rfl⟩
  .rintro σ G ⟨_,p,_⟩;exact⟨_,(p.at a).seqL (IS.of a1),by rw[AB]⟩
  .rintro i σ G y H' N W ⟨⟨v0,v1,rfl⟩,p,eG⟩ ⟨t,y,rfl,ht,rfl,O⟩ hN;have O:=O _ ((p.at a).seqL (IS.of a1));have hi':ns[i]?=some ns[i]:=AC W;rw[AH,hi']at O;cases O;refine⟨t,A6 rfl ⟨JJ.of A9,rfl,_,A6 rfl (C0 rfl rfl (Zo ?_))⟩⟩;refine A6 rfl (A6 rfl (C0 rfl rfl ⟨⟨by lia,by lia,by decide⟩,?_⟩));dsimp only;rw[TC];have st:=p.trans (F1.new (o:=.tup [.int i,.str ns[i]]) ht);refine⟨QM ns i,.inr ns[i],(B6 (B3 eG ht)).trans eG,rfl,by unfold QM;rw[AB,BZ,sizeLine_eq];lia,hN _ _ ⟨⟨_,_,rfl⟩,st.upd hb,?_⟩⟩;rw[A9];have:=Re (λk=>(Sum.inr (ns.getD k ""):JC)) (λk=>O4 (2^k)) (Ya U) W;rw[Fm hi']at this;exact congrArg (λz=>some (HO.dK z)) this
  rintro σ2 H2 ⟨_,s2,b2⟩;have F:x≠b:=B3 x1 hb;have x2:=s2 _ _ x1;have a2:=s2 _ _ a1;have k2:=k1.trans s2.sm;refine hZ2 _ _ (B9 λZ3 hZ3=>?_);refine A6 rfl ⟨b,_,rfl,b2,λv hv=>?_⟩;have I:=F1.new (o:=Nc v b) hv;have fv:(IK H2 v (Nc v b)) v=some (Nc v b):=A9;generalize IK H2 v (Nc v b)=X at I fv⊢;refine⟨v,b,QM ns ns.length,(List.range ns.length).map λk=>((2^k:Nat):Int),rfl,fv,I _ _ b2,by unfold QM;rw[BL,BL];rfl,?_⟩;rw[Ng];have x2:=I _ _ x2;have a2:=I _ _ a2;have b2:=I _ _ b2;have k2:=k2.trans I.sm;refine A6 rfl ⟨x,T.ab,e,_,rfl,x2,T.ad,T.bn,by simp,?_⟩;have k3:Sm [x] X (IK X x (.ins T.ab e (R4 "full" (.int ((2^ns.length-1:Nat):Int)) [("names",.ref a)]))):=(Sm.refl _ _).upd (by simp);have x3:(IK X x (.ins T.ab e (R4 "full" (.int ((2^ns.length-1:Nat):Int)) [("names",.ref a)]))) x=some (.ins T.ab e [("names",.ref a),("full",O4 (2^ns.length-1))]):=by rw[A9];rfl
  generalize IK X x (.ins T.ab e (R4 "full" (.int ((2^ns.length-1:Nat):Int)) [("names",.ref a)]))=H3 at k3 x3⊢;have a3:=k3 _ _ a2 (f C.symm);have b3:=k3 _ _ b2 (f F.symm);have k3:=k2.trans k3;refine hZ3 _ _ (B9 λZ4 hZ4=>?_);refine A6 rfl (A6 rfl ⟨x,T.ab,e,_,rfl,x3,T.ad,T.a7,by simp,?_⟩);have k4:Sm [x] H3 (IK H3 x (.ins T.ab e (R4 "bit_of" (.ref b) [("names",.ref a),("full",O4 (2^ns.length-1))]))):=(Sm.refl _ _).upd (by simp);have x4:(IK H3 x (.ins T.ab e (R4 "bit_of" (.ref b) [("names",.ref a),("full",O4 (2^ns.length-1))]))) x=some (.ins T.ab e [("names",.ref a),("full",O4 (2^ns.length-1)),("bit_of",.ref b)]):=by rw[A9];rfl
  generalize IK H3 x (.ins T.ab e (R4 "bit_of" (.ref b) [("names",.ref a),("full",O4 (2^ns.length-1))]))=H4 at k4 x4⊢;have a4:=k4 _ _ a3 (f C.symm);have b4:=k4 _ _ b3 (f F.symm);have k4:=k3.trans k4;refine hZ4 _ _ (B9 λZ5 hZ5=>?_);have mA:=zCw (ns:=ns) (g:=B2 r) (ks:=(r.map λq=>q.2).map λk=>(k.2,k.1)) U (λn _=>Jv u.ndq n) (λn _ y=>Ip) λk hk=>by
   rw[BL]at hk;obtain⟨q,hq,rfl⟩:=AX.mp hk;exact⟨(u.mem q hq).2,(u.mem q hq).1⟩
  have mB:=zCw (ns:=ns) (g:=E2 r) (ks:=r.map λq=>q.2) U (λn _=>Rg u.ndq n) (λn _ y=>Kr) λk hk=>by
   obtain⟨q,hq,rfl⟩:=AX.mp hk;exact u.mem q hq
  have S:SL ns.length (ML ns (B2 r)) (ML ns (E2 r)):=MB.net mA mB;have W4:=hW.smx hx k4;have ins1:∀{n:Str} (y:Str),y∈B2 r n->y∈ns:=λy O=>by
   obtain⟨q,hq,rfl⟩:=AX.mp O;exact(u.mem q (BC.mp hq).1).1
  have ins2:∀{n:Str} (y:Str),y∈E2 r n->y∈ns:=λy O=>by
   obtain⟨q,hq,rfl⟩:=AX.mp O;exact(u.mem q (BC.mp hq).1).2
  have lq:=u.lenq;have RF:∀n,(B2 r n).length<=1000:=λn=>by unfold B2;rw[AB];have:=BM (λq:JV=>decide (q.2.2=n)) r;lia
  have QX:∀n,(E2 r n).length<=1000:=λn=>by unfold E2;rw[AB];have:=BM (λq:JV=>decide (q.2.1=n)) r;lia
  refine A6 rfl ⟨x,T.ab,e,_,A6 rfl ⟨x4,T.ad,T.aK,rfl,a,rfl,⟨_,IS.of a4⟩,λc hc=>?_⟩⟩;refine Mi (MY (IS.of a4)) (ML ns (B2 r)) (by lia) hc (λi n G R Y p hR=>?_) (λi n G R Y p hR=>?_) λσ5 H5 s5 c5=>?_
  .exact A6 rfl (A6 rfl ⟨b,_,rfl,.inl ⟨_,.inr n,.inl (p _ _ b4),rfl,(Lu U Y).symm⟩,hR⟩)
  .have WG:=W4.same p;obtain⟨_,dw,_,_,_,_,_,_,ew,_⟩:=id WG;refine A6 rfl ⟨wb,dw,A6 rfl ⟨ew,rfl,A6 rfl ⟨wb,n,ns,r,rfl,WG,AI Y,λl hl=>?_⟩⟩⟩;have ul:=F1.new (o:=.lst ((B2 r n).map V.str)) hl;refine⟨l,rfl,⟨_,IS.of A9⟩,Mu U (ul _ _ (p _ _ b4)) A9 (λy O=>ins1 y O) (RF n) λG' s'=>?_⟩;have:=hR G' (ul.trans s');rw[zAb Y]at this;exact this
  generalize ML ns (B2 r)=A at mA S c5;have hc0:H c=none:=k4.none (f (B3 x4 hc).symm) hc;have nxc:x≠c:=B3 x4 hc;have x5:=s5 _ _ x4;have a5:=s5 _ _ a4;have b5:=s5 _ _ b4;have bc:b≠c:=B3 b4 hc;have k5:=k4.trans s5.sm;refine A6 rfl ⟨x,T.ab,e,_,rfl,x5,T.ad,T.aC,by simp,?_⟩;have k6:Sm [x] H5 (IK H5 x (.ins T.ab e (R4 "strikers_of" (.ref c) [("names",.ref a),("full",O4 (2^ns.length-1)),("bit_of",.ref b)]))):=(Sm.refl _ _).upd (by simp);have x6:(IK H5 x (.ins T.ab e (R4 "strikers_of" (.ref c) [("names",.ref a),("full",O4 (2^ns.length-1)),("bit_of",.ref b)]))) x=some (.ins T.ab e [("names",.ref a),("full",O4 (2^ns.length-1)),("bit_of",.ref b),("strikers_of",.ref c)]):=by rw[A9];rfl
  generalize IK H5 x (.ins T.ab e (R4 "strikers_of" (.ref c) [("names",.ref a),("full",O4 (2^ns.length-1)),("bit_of",.ref b)]))=H6 at k6 x6⊢;have a6:=k6 _ _ a5 (f C.symm);have b6:=k6 _ _ b5 (f F.symm);have c6:=k6 _ _ c5 (f nxc.symm);have k6:=k5.trans k6;have W6:=hW.smx hx k6;refine hZ5 _ _ (B9 λZ6 hZ6=>?_);refine A6 rfl ⟨x,T.ab,e,_,A6 rfl ⟨x6,T.ad,T.aK,rfl,a,rfl,⟨_,IS.of a6⟩,λd hd=>?_⟩⟩;refine Mi (MY (IS.of a6)) (ML ns (E2 r)) (by lia) hd (λi n G R Y p hR=>?_) (λi n G R Y p hR=>?_) λσ7 H7 s7 d7=>?_
  .exact A6 rfl (A6 rfl ⟨b,_,rfl,.inl ⟨_,.inr n,.inl (p _ _ b6),rfl,(Lu U Y).symm⟩,hR⟩)
  .have WG:=W6.same p;obtain⟨_,dw,_,_,_,_,_,_,ew,_⟩:=id WG;refine A6 rfl ⟨wb,dw,A6 rfl ⟨ew,rfl,A6 rfl ⟨wb,n,ns,r,rfl,WG,AI Y,λl hl=>?_⟩⟩⟩;have ul:=F1.new (o:=.lst ((E2 r n).map V.str)) hl;refine⟨l,rfl,⟨_,IS.of A9⟩,Mu U (ul _ _ (p _ _ b6)) A9 (λy O=>ins2 y O) (QX n) λG' s'=>?_⟩;have:=hR G' (ul.trans s');rw[zAb Y]at this;exact this
  generalize ML ns (E2 r)=B at mB S d7;have nxd:x≠d:=B3 x6 hd;have x7:=s7 _ _ x6;have a7:=s7 _ _ a6;have b7:=s7 _ _ b6;have c7:=s7 _ _ c6;have dc:d≠c:=(B3 c6 hd).symm;have k7:=k6.trans s7.sm;refine A6 rfl ⟨x,T.ab,e,_,rfl,x7,T.ad,T.bh,by simp,?_⟩;have k8:Sm [x] H7 (IK H7 x (.ins T.ab e (R4 "struck_of" (.ref d) [("names",.ref a),("full",O4 (2^ns.length-1)),("bit_of",.ref b),("strikers_of",.ref c)]))):=(Sm.refl _ _).upd (by simp);have x8:(IK H7 x (.ins T.ab e (R4 "struck_of" (.ref d) [("names",.ref a),("full",O4 (2^ns.length-1)),("bit_of",.ref b),("strikers_of",.ref c)]))) x=some (.ins T.ab e [("names",.ref a),("full",O4 (2^ns.length-1)),("bit_of",.ref b),("strikers_of",.ref c),("struck_of",.ref d)]):=by rw[A9];rfl
  generalize IK H7 x (.ins T.ab e (R4 "struck_of" (.ref d) [("names",.ref a),("full",O4 (2^ns.length-1)),("bit_of",.ref b),("strikers_of",.ref c)]))=H8 at k8 x8⊢;have a8:=k8 _ _ a7 (f C.symm);have b8:=k8 _ _ b7 (f F.symm);have c8:=k8 _ _ c7 (f nxc.symm);have d8:=k8 _ _ d7 (f nxd.symm);have k8:=k7.trans k8;refine hZ6 _ _ ?_;refine A6 rfl ⟨b,_,rfl,b8,λv hv=>?_⟩;have I:=F1.new (o:=Nc v b) hv;have fv:(IK H8 v (Nc v b)) v=some (Nc v b):=A9;generalize IK H8 v (Nc v b)=H9 at I fv⊢;refine⟨v,b,_,rfl,fv,I _ _ b8,λo D hD=>?_⟩;have nDb:D≠b:=λz=>by rw[z,A9]at hD;cases hD
  have kz:Sm [b] H9 (IK H9 b (.frz o (.dK (QM ns ns.length)))):=(Sm.refl _ _).upd (by simp);have fz:(IK H9 b (.frz o (.dK (QM ns ns.length)))) b=some (.frz o (.dK (QM ns ns.length))):=A9;have hb0:H b=none:=k1.none (f F.symm) hb;have kx:Sm [x] H (IK H9 b (.frz o (.dK (QM ns ns.length)))):=(k8.trans I.sm).updN hb0;have nb:∀{b':A3},b'≠b->b'∉[b]:=λh z=>h (AD.mp z);have nab:a≠b:=B3 a1 hb;have x9:=kz _ _ (I _ _ x8) (nb F);have a9:=kz _ _ (I _ _ a8) (nb nab);have c9:=kz _ _ (I _ _ c8) (nb bc.symm);have nbd:d≠b:=(B3 b6 hd).symm;have d9:=kz _ _ (I _ _ d8) (nb nbd);generalize IK H9 b (.frz o (.dK (QM ns ns.length)))=H10 at kz fz kx hD x9 a9 c9 d9⊢;have lb:(QM ns ns.length).length=ns.length:=by unfold QM;rw[AB,BZ]
  refine j4 (n:=ns.length) (λi σ G=>(∃v0,σ = [v0,some (.ref x)])/\F1 H10 G/\G D=some (.lst (((List.range i).filter λk=>(A.getD k 0).testBit k).map λk=>O4 (2^k)))) ⟨⟨_,rfl⟩,F1.new hD,A9⟩ ?_ ?_ ?_ ?_
  .rintro i σ G W ⟨_,p,_⟩;exact⟨p _ _ fz,by rw[lb];exact W⟩
  .rintro σ G ⟨_,p,_⟩;exact⟨p _ _ fz,by rw[lb];exact Nat.le_refl _⟩
  .rintro i σ G y H' N W ⟨⟨v0,rfl⟩,p,eG⟩ ⟨rfl,k,hk⟩ hN;unfold QM at hk;rw[AH,List.getElem?_range W]at hk;obtain⟨_,rfl⟩:=Prod.mk.inj (BH hk);refine A6 rfl (A6 rfl ⟨x,T.ab,e,_,A6 rfl ⟨p _ _ x9,T.ad,T.aC,rfl,A6 rfl ⟨c,_,rfl,.inl ⟨_,.inl ((2^i:Nat):Int),.inl (p _ _ c9),rfl,(Lx A W).symm⟩,C0 rfl rfl ⟨_,rfl,?_⟩⟩⟩⟩);dsimp only;rw[Kj];have hl:=BM (λk=>(A.getD k 0).testBit k) (List.range i);rw[BZ]at hl;refine V0 (λz=>A6 rfl ⟨_,eG,by rw[AB,sizeLine_eq];lia,hN _ _ ⟨⟨_,rfl⟩,p.upd hD,?_⟩⟩) (λz=>hN _ _ ⟨⟨_,rfl⟩,p,?_⟩)
   .rw[A9,EQ,EY,DQ,AL z,AN];rfl
   .rw[EQ,EY,DQ,AJ z,HQ,BU];exact eG
  rintro σ11 Z ⟨_,J,e11⟩;generalize hLl:(List.range ns.length).filter (λk=>(A.getD k 0).testBit k)=Ll at e11;refine⟨D,Ll.map λk=>((2^k:Nat):Int),rfl,IS.of (by rw[e11,BL];rfl),?_⟩;rw[Mp];have hL:∀j,((Ll.map λk=>2^k).sum).testBit j=true↔(A.getD j 0).testBit j=true:=λj=>by
   rw[Cl (by rw[<-hLl];exact CV.nodup HB),<-hLl,BC,CB];exact⟨(·.2),λh=>⟨(S.lt j j ((S.tr j j).mp h)).1,h⟩⟩
  generalize (Ll.map λk=>2^k).sum=L at hL;have x11:=J _ _ x9;refine A6 rfl ⟨x,T.ab,e,_,rfl,x11,T.ad,T.bm,by simp,?_⟩;have M:Sm [x] Z (IK Z x (.ins T.ab e (R4 "loops" (.int (L:Int)) [("names",.ref a),("full",O4 (2^ns.length-1)),("bit_of",.ref b),("strikers_of",.ref c),("struck_of",.ref d)]))):=(Sm.refl _ _).upd (by simp);have x12:(IK Z x (.ins T.ab e (R4 "loops" (.int (L:Int)) [("names",.ref a),("full",O4 (2^ns.length-1)),("bit_of",.ref b),("strikers_of",.ref c),("struck_of",.ref d)]))) x=some (.ins T.ab e (mf a b c d ns.length L)):=by rw[A9];rfl
  generalize IK Z x (.ins T.ab e (R4 "loops" (.int (L:Int)) [("names",.ref a),("full",O4 (2^ns.length-1)),("bit_of",.ref b),("strikers_of",.ref c),("struck_of",.ref d)]))=H12 at M x12⊢;refine q c A B L H12 hc0 ((kx.trans J.sm).trans M) ⟨⟨e,a,b,d,QM ns ns.length,x12,M _ _ (J _ _ a9) (f C.symm),.inr ⟨o,M _ _ (J _ _ fz) (f F.symm)⟩,λi n h=>Lu U h,.inl (M _ _ (J _ _ c9) (f nxc.symm)),M _ _ (J _ _ d9) (f nxd.symm),dc,bc⟩,S,U,ln,hL⟩ mA mB
end
def T8(ns:A1 Str)(m:Nat):Str:=(LH ns m).headD ""
def Hl(n:Nat)(p:Nat->Prop):Nat:=(((List.range n).filter λj=>pB (p j)).map λk=>2^k).sum
def Cd{n:Nat}{p:Nat->Prop}(j:Nat):(Hl n p).testBit j=true↔j<n/\p j:=by
 unfold Hl;rw[Cl (HB.sublist CV),BC,CB,NM]
def Va{z n:Nat}{p:Nat->Prop}(h:∀j,z.testBit j=true↔p j)(lo:OC n z):z=Hl n p:=BS λj=>CC.mpr (by
 rw[Cd];exact⟨λy=>⟨lo j y,(h j).mp y⟩,λy=>(h j).mpr y.2⟩)
def zFi(m:Nat):Nat:=((List.range (m+1)).find? λj=>m.testBit j).getD 0
def Ym{m k:Nat}(h:m.testBit k=true)(a:∀i,i<k->¬m.testBit i=true):zFi m=k:=by
 have b:k<m+1:=Nat.lt_succ_of_le (Nat.le_trans (DL Nat.lt_two_pow_self) (Nat.ge_two_pow_of_testBit h));unfold zFi;have e:(List.range (m+1)).find? (λj=>m.testBit j)=some k:=by
  rw[List.find?_range_eq_some];exact⟨h,CB.mpr b,λi c=>by simpa using a i c⟩
 rw[e];rfl
def Vz{ns:A1 Str}{m j:Nat}(a:j<ns.length)(h:m.testBit j=true):LH ns m≠[]:=λz=>by
 have:ns[j]∈LH ns m:=PP.mpr ⟨j,h,AC a⟩;rw[z]at this;cases this
def y6{C:A3}{H:Hp}{x c:A3}{ns:A1 Str}{A B:A1 Nat}{L:Nat}(h:IP C H x c ns A B L):H c≠none:=λz=>by
 obtain⟨_,_,_,_,_,_,_,_,_,a,_⟩:=h.ex;rcases a with e | ⟨o,e⟩<;>rw[z]at e<;>cases e
section
variable{P:A7}{w:F8}{K:PySem.W.Frag}{mg:Str->A5 A2}{base:IM}
theorem g7:IL ["self", "some"] ["self", "some"] (B7 LD):=KU
def Et(C:A3):Sp:=λd H Q _=>∃(x c:A3) (a:A1 Str) (A B:A1 Nat) (L m j:Nat),d = [.ref x,.int (m:Int)]/\IP C H x c a A B L/\j<a.length/\m.testBit j=true/\∀b,F1 H b->Q (.str (T8 a m)) b
theorem M0(T:Tx K mg):IU P w K mg base JE 2 T.ai.f T.ai.fd ["self", "some"] (Et T.ab):=by
 refine T.ai.F.o1 g7 λp A e s H G Q E t h=>?_
 .obtain⟨x,c,i,A,B,L,m,j,rfl,k,u,v,q⟩:=h;obtain⟨y,a,b,d,I,z,_⟩:=k.ex;refine⟨_,(B5 (C3 (E7 (M_ K) (D8 (pv 0) T.ad T.ar.m (T9 T) (Rm t) T.ar.b .nil J9 (A8 (pv 1) B1)) B8 (λ_ _=>rfl)))),?_⟩;refine A6 rfl ⟨x,y,A6 rfl ⟨z,rfl,A6 rfl ⟨x,c,i,A,B,L,m,rfl,k,λl C J D o=>?_⟩⟩⟩;cases g:LH i m with
  | nil=>exact absurd g (Vz u v)
  | cons n r =>
   rw[g]at o;have q:=q C D;unfold T8 at q;rw[g]at q;exact⟨l,_,C0 rfl rfl ⟨IS.of o,(show RH (V.str n::r.map V.str) ((0:Nat):Int)=_ from D0 rfl),q⟩⟩
end
def Hh(A B:A1 Nat)(n L m ad:Nat):A1 Nat:=(List.range n).filter λj=>ad.testBit j && @decide (L.testBit j=true\/n6 B m j\/n6 A m j) (Classical.propDecidable _)
def Sc{A B:A1 Nat}{n L m ad z:Nat}(h:∀j,z.testBit j=true↔L.testBit j=true\/n6 B m j\/n6 A m j):E4 (ad &&& z) n=Hh A B n L m ad:=by
 unfold E4 Hh;refine List.filter_congr λj _=>?_;rw[C_];congr 1;rw[CC,h];exact⟨λy=>@BB _ (Classical.propDecidable _) y,λy=>@BV _ (Classical.propDecidable _) y⟩
def Jm(A B:A1 Nat)(n L m ad:Nat):A1 Int :=
 [((E4 ad n).length:Int)-((Hh A B n L m ad).length:Int),((E4 ad n).length:Int)]
section
variable{P:A7}{w:F8}{K:PySem.W.Frag}{mg:Str->A5 A2}{base:IM}
theorem LR:IL ["marks", "held", "added", "clashing", "many"] ["marks", "held", "added"] (B7 NQ):=KU
def Uc(C:A3):Sp:=λe H Q _=>∃(x c:A3) (d:A1 Str) (A B:A1 Nat) (L m ad:Nat),e = [.ref x,.int (m:Int),.int (ad:Int)]/\IP C H x c d A B L/\∀a b,H a=none->Sm [c] H b->IP C b x c d A B L ->
 b a=some (.tup ((Jm A B d.length L m ad).map V.int))->Q (.ref a) b
theorem Ef(T:Tx K mg):IU P w K mg base JE 3 T.a1.f T.a1.fd ["marks", "held", "added"] (Uc T.ab):=by
 refine T.a1.F.o1 LR λS A t s H vs Q E r h=>?_
 .obtain⟨x,c,n,A,B,L,m,ad,rfl,I,q⟩:=h;obtain⟨g,a,b,d,u,k,_⟩:=I.ex;refine⟨_,(B4 (C6 (i:=3) LR.nd rfl (.inl rfl) (C8 Ar (C8 Ar (PD K (pv 0)) (D8 (pv 0) T.ad T.aj.m (M7 T) (Rm r) T.aj.b .nil J9 (A8 (pv 1) B1))) (D8 (pv 0) T.ad T.ah.m (K0 T) (Rm r) T.ah.b .nil J9 (A8 (pv 1) B1))))
   (B4 (C6 (i:=4) LR.nd rfl (.inl rfl) (E1 (Q7 K) T.aw Q1 (A8 (D8 (pv 0) T.ad T.ac.m (E6 T) (Rm r) T.ac.b .nil J9 (A8 (pv 2) B1)) B1)))
   (B5 (C3 (E3 (A8 (C8 Xd (pv 4) (E1 (Q7 K) T.aw Q1 (A8 (D8 (pv 0) T.ad T.ac.m (E6 T) (Rm r) T.ac.b .nil J9 (A8 (C8 R0 (pv 2) (pv 3)) B1)) B1))) (A8 (pv 4) B1))))))),?_⟩
  refine B9 λN1 v=>?_;refine A6 rfl ⟨x,T.ab,g,_,A6 rfl ⟨k,T.ad,T.bm,rfl,A6 rfl ⟨x,g,A6 rfl ⟨k,rfl,A6 rfl ⟨x,c,n,A,B,L,m,rfl,I,λr1 H1 U J z=>?_⟩⟩⟩⟩⟩;refine C0 rfl rfl ?_;obtain⟨g,a,b,d,u,k,_⟩:=J.ex;refine A6 rfl ⟨x,g,A6 rfl ⟨k,rfl,A6 rfl ⟨x,c,n,A,B,L,m,rfl,J,λr2 H2 V M C=>?_⟩⟩⟩;refine C0 rfl rfl ?_;dsimp only;rw[QZ,QZ];refine v _ _ (B9 λN2 D=>?_);obtain⟨g,a,b,d,u,k,_⟩:=M.ex;refine A6 rfl ⟨x,g,A6 rfl ⟨k,rfl,A6 rfl ⟨x,c,n,A,B,L,ad,rfl,M,λl H3 hl W N X=>?_⟩⟩⟩;refine⟨l,_,rfl,.inl (IS.of X),?_⟩;rw[AB];refine D _ _ ?_;obtain⟨g,a,b,d,u,k,_⟩:=N.ex;refine A6 rfl (A6 rfl ⟨x,g,A6 rfl ⟨k,rfl,A6 rfl (A6 rfl (C0 rfl rfl ?_))⟩⟩);dsimp only;rw[Ub];refine⟨x,c,n,A,B,L,ad &&&(L ||| r1 ||| r2),rfl,N,λY Z hl2 k4 O G=>?_⟩;refine⟨Y,_,rfl,.inl (IS.of G),?_⟩;rw[AB];refine C0 rfl rfl (A6 rfl ?_);refine⟨by show 2<=sizeLine;decide,λp o=>?_⟩;have R:Sm [c] H Z:=((U.trans V).trans W).trans k4;refine q p _ (R.none (λy=>by rw[AD.mp y]at o;exact y6 O o) o) (R.new o) (O.same (F1.new o)) ?_;rw[A9];have e:E4 (ad &&&(L ||| r1 ||| r2)) n.length=Hh A B n.length L m ad:=Sc λj=>by rw[DX,DX,DY,DY,z,C,or_assoc]
  rw[e];rfl
end
def E5(A B:A1 Nat)(n m:Nat):A1 Nat:=(List.range n).filter λj=>@decide (n6 A m j/\¬n6 B m j) (Classical.propDecidable _)
def L_{A B:A1 Nat}{n m j:Nat}:j∈E5 A B n m↔j<n/\n6 A m j/\¬n6 B m j:=by
 unfold E5;rw[BC,CB];exact⟨λh=>⟨h.1,@BV _ (Classical.propDecidable _) h.2⟩,λh=>⟨h.1,@BB _ (Classical.propDecidable _) h.2⟩⟩
def Qm{A B:A1 Nat}{n m z:Nat}(h:∀j,z.testBit j=true↔n6 A m j/\j<n/\¬n6 B m j):E4 z n=E5 A B n m:=by
 unfold E4 E5;refine List.filter_congr λj a=>?_;rw[CC,h];exact⟨λy=>@BB _ (Classical.propDecidable _) ⟨y.1,y.2.2⟩,λy=>let h:=@BV _ (Classical.propDecidable _) y;⟨h.1,CB.mp a,h.2⟩⟩
def W1(A B:A1 Nat)(n m:Nat):A1 Nat:=(E5 A B n m).map λj=>A.getD j 0
def W0(A B:A1 Nat)(n L m:Nat)(ads:A1 Nat):Nat:=Jg (λj=>Jm A B n L m (ads.getD j 0)) (ads.length-1)
def O1(A B:A1 Nat)(n L m:Nat):Nat:=(W1 A B n m).getD (W0 A B n L m (W1 A B n m)) 0
def Q6(B:A1 Nat)(m:Nat):Prop:=∃j,m.testBit j=true/\n6 B m j
def Q0(A B:A1 Nat)(n L:Nat):Nat->Nat->A5 Nat
 | 0,_=>none
 | k+1,m=>@ite _ (Q6 B m) (Classical.propDecidable _) none (if E5 A B n m = []then some m else(E4 (O1 A B n L m) n).findSome? λj=>Q0 A B n L k (m ||| 2^j))
def p9{A B:A1 Nat}{n L m:Nat}{ads:A1 Nat}(h:ads≠[]):W0 A B n L m ads<ads.length:=by
 have:=Ty (λj=>Jm A B n L m (ads.getD j 0)) (ads.length-1);have a:=List.length_pos_iff.mpr h;unfold W0;lia
def Bq{A B:A1 Nat}{n L m:Nat}(h:E5 A B n m≠[]):∃d∈E5 A B n m,O1 A B n L m=A.getD d 0:=by
 have b:W1 A B n m≠[]:=λz=>h (EM.mp z);have a:=p9 (A:=A) (B:=B) (n:=n) (L:=L) (m:=m) b;have c:O1 A B n L m∈W1 A B n m:=by
  unfold O1;rw[AY,AC a];exact GB a
 obtain⟨d,f,e⟩:=AX.mp c;exact⟨d,f,e.symm⟩
def Gb{m j:Nat}(h:¬m.testBit j=true):∀n,(E4 (m ||| 2^j) n).length =(E4 m n).length+if j<n then 1 else 0
 | 0=>rfl
 | n+1=>by
  rw[U6,U6,AW,AW,Gb h n];by_cases e:n=j
  .subst e;rw[AL ((X1 m n n).mpr (.inr rfl)),AJ h,AJ (CU _),AL (EW _)];rfl
  .have a:(m ||| 2^j).testBit n=m.testBit n:=by
    rw[CC,X1];exact⟨λz=>z.resolve_right e,.inl⟩
   rw[a];by_cases l:j<n
   .rw[AL l,AL (EC l)];lia
   .rw[AJ l,AJ (show ¬j<n+1 by lia)];rfl
def Dv{A B:A1 Nat}{n L:Nat}(a:SL n A B):∀(k m r:Nat),OC n m->Q0 A B n L k m=some r->Ce n A B r/\∀j,m.testBit j=true->r.testBit j=true
 | 0,m,r,_,h=>by cases h
 | k+1,m,r,lo,h=>by
  unfold Q0 at h;by_cases c:Q6 B m
  .rw[AL c]at h;cases h
  rw[AJ c]at h;by_cases d:E5 A B n m = []
  .rw[AL d]at h;cases h;refine⟨⟨lo,λi j g f z=>c ⟨j,f,i,g,z⟩,λj f=>⟨lo j f,λb o=>?_⟩⟩,λ_ h=>h⟩;have l:b<n:=(a.lt b j ((a.tr j b).mp o)).1;by_cases z:n6 B m b
   .exact z
   .have:b∈E5 A B n m:=L_.mpr ⟨l,⟨j,f,o⟩,z⟩;rw[d]at this;cases this
  rw[AJ d]at h;obtain⟨j,f,e⟩:=List.exists_of_findSome?_eq_some h;obtain⟨p,q⟩:=Dv a k _ r (lo.or (JO.mp f).1) e;exact⟨p,λi g=>q i ((X1 m j i).mpr (.inl g))⟩
def o8{A B:A1 Nat}{n L m j:Nat}(a:SL n A B)(h:E5 A B n m≠[])(b:(O1 A B n L m).testBit j=true):j<n/\¬m.testBit j=true:=by
 obtain⟨d,f,e⟩:=Bq (L:=L) h;rw[e]at b;have c:=(a.tr d j).mp b;exact⟨(a.lt j d c).1,λz=>(L_.mp f).2.2 ⟨j,z,c⟩⟩
def Dh{A B:A1 Nat}{n L S:Nat}(a:SL n A B)(st:Ce n A B S):∀(k m:Nat),(∀j,m.testBit j=true->S.testBit j=true)->n<k +(E4 m n).length->Q0 A B n L k m≠none
 | 0,m,_,l=>by
  have:=P5 m n;lia
 | k+1,m,sub,l=>by
  unfold Q0;have c:¬Q6 B m:=λ⟨j,h,i,o,z⟩=>st.2.1 i j (sub i o) (sub j h) z;rw[AJ c];by_cases d:E5 A B n m = []
  .rw[AL d];exact λz=>by cases z
  rw[AJ d];obtain⟨b,s,e⟩:=Bq (L:=L) d;obtain⟨t,⟨i,o,p⟩,w⟩:=L_.mp s;obtain⟨j,h,q⟩:=(st.2.2 i (sub i o)).2 b p;have f:(O1 A B n L m).testBit j=true:=by rw[e];exact(a.tr b j).mpr q
  obtain⟨g,r⟩:=o8 a d f;have u:=Dh (L:=L) a st k (m ||| 2^j) (λx v=>((X1 m j x).mp v).elim (sub x) λe=>e▸h) (by rw[Gb r,AL g];lia);intro z;exact u (DG.mp z j (JO.mpr ⟨g,f⟩))
section
variable(ns:A1 Str)(A B:A1 Nat)(L m:Nat)
def S_:Nat:=Hl ns.length λj=>m.testBit j=true/\n6 B m j
def UA:Str:=T8 ns (A.getD (zFi (S_ ns B m)) 0 &&& m)
def T_:Str:=T8 ns (S_ ns B m)
def anA(j:Nat):Str:=T8 ns (B.getD j 0 &&& m)
def anB(j:Nat):Str:=T8 ns (2^j)
def QU:Nat:=(E5 A B ns.length m).getD (W0 A B ns.length L m (W1 A B ns.length m)) 0
def Z9:A1 Nat:=E4 (A.getD (QU ns A B L m) 0) ns.length
end
def JM(ns:A1 Str)(A B:A1 Nat)(L:Nat)(H:Hp):Nat->Nat->A3->Prop
 | 0,_,_=>False
 | k+1,m,r=>(Q6 B m/\H r=some (.tup [.str "clash",.str (UA ns A B m),.str (T_ ns B m)]))\/(¬Q6 B m/\E5 A B ns.length m≠[]/\∃(l:A3) (a:A1 A3),H r=some (.tup [.str "answer",.str (anA ns B m (QU ns A B L m)),.str (anB ns (QU ns A B L m)),.ref l])/\H l=some (.tup (a.map V.ref)) /\
   a.length =(Z9 ns A B L m).length/\∀(i j:Nat) b,(Z9 ns A B L m)[i]?=some j->a[i]?=some b->JM ns A B L H k (m ||| 2^j) b)
def JM.keep{ns:A1 Str}{A B:A1 Nat}{L:Nat}{H H':Hp}(kk:∀b xs,H b=some (.tup xs)->H' b=some (.tup xs)):∀{k m:Nat} {r:A3},JM ns A B L H k m r->JM ns A B L H' k m r
 | 0,_,_,h=>h
 | k+1,m,r,h=>h.imp (λ⟨c,e⟩=>⟨c,kk _ _ e⟩) λ⟨c,d,l,a,f,g,n,h⟩=>⟨c,d,l,a,kk _ _ f,kk _ _ g,n,λi j o p q=>(h i j o p q).keep kk⟩
def Fg(n m:Nat):Nat:=n+1-(E4 m n).length
section
variable{ns:A1 Str}{A B A' B':A1 Nat}{L m:Nat}
theorem Ta(h:E5 A B ns.length m≠[]):QU ns A B L m∈E5 A B ns.length m/\O1 A B ns.length L m=A.getD (QU ns A B L m) 0:=by
 have c:W1 A B ns.length m≠[]:=λz=>h (EM.mp z);have a:=p9 (A:=A) (B:=B) (n:=ns.length) (L:=L) (m:=m) c;have b:(W1 A B ns.length m).length =(E5 A B ns.length m).length:=AB ..;have e:=AC (b▸a);have d:QU ns A B L m =(E5 A B ns.length m)[W0 A B ns.length L m (W1 A B ns.length m)]'(b▸a):=by
  unfold QU;rw[AY,e];rfl
 rw[d];refine⟨GB _,?_⟩;unfold O1;rw[AY];show((W1 A B ns.length m)[_]?).getD 0=_;unfold W1 at e⊢;rw[AH,e];rfl
theorem zBb(a:SL ns.length A B)(h:E5 A B ns.length m≠[]){j:Nat}(b:j∈Z9 ns A B L m):j<ns.length/\¬m.testBit j=true:=by
 unfold Z9 at b;refine o8 (L:=L) a h ?_;rw[(Ta h).2];exact(JO.mp b).2
theorem Wa(a:SL ns.length A B)(lo:OC ns.length m)(h:E5 A B ns.length m≠[]){j:Nat}(b:j∈Z9 ns A B L m):Fg ns.length m=Fg ns.length (m ||| 2^j)+1:=by
 obtain⟨c,d⟩:=zBb a h b;have e:=Gb d ns.length;rw[AL c]at e;have f:=P5 (m ||| 2^j) ns.length;unfold Fg;lia
end
def Jq{M:A1 Nat}{k j:Nat}:n6 M (2^k) j↔(M.getD k 0).testBit j=true:=by
 constructor
 .rintro⟨i,a,e⟩;rw[CF,BN]at a;rw[a];exact e
 .exact λh=>⟨k,HI,h⟩
section
variable{P:A7}{w:F8}{K:PySem.W.Frag}{mg:Str->A5 A2}{base:IM}
theorem OH:IL ["marks", "held", "hit"] ["marks", "held"] (B7 O_):=KU
def Fl(C:A3):Sp:=λe H Q _=>∃(x c:A3) (b:A1 Str) (A B:A1 Nat) (L m:Nat),e = [.ref x,.int (m:Int)]/\IP C H x c b A B L/\(∀j,m.testBit j=true->j<b.length)/\∀d,Sm [c] H d->IP C d x c b A B L ->
 ((∀j,m.testBit j=true->¬n6 B m j)->Q .non d)/\∀a,Q6 B m->H a=none->d a=some (.tup [.str "clash",.str (UA b A B m),.str (T_ b B m)])->Q (.ref a) d
theorem Bf(T:Tx K mg):IU P w K mg base JE 3 T.aB.f T.aB.fd ["marks", "held"] (Fl T.ab):=by
 refine T.aB.F.o1 OH λcdv A G s H vs Q E e h=>?_
 .obtain⟨x,c,n,A,B,L,m,rfl,I,J,q⟩:=h;obtain⟨g,a,b,d,W,l,_⟩:=I.ex;refine⟨_,(B4 (C6 (i:=2) OH.nd rfl (.inl rfl) (C8 R0 (pv 1) (D8 (pv 0) T.ad T.aj.m (M7 T) (Rm e) T.aj.b .nil J9 (A8 (pv 1) B1))))
   (B4 (M9 (R1 (TJ K (pv 2))) (B5 (C3 d6)) D4)
   (B5 (C3 (E3 (A8 U5 (A8 (D8 (pv 0) T.ad T.ai.m (M0 T) (Rm e) T.ai.b .nil J9 (A8 (C8 R0 (D8 (pv 0) T.ad T.ah.m (K0 T) (Rm e) T.ah.b .nil J9 (A8 (C9 T.a8 (Hi T) (Rm e) (A8 (pv 2) B1)) B1)) (pv 1)) B1)) (A8 (D8 (pv 0) T.ad T.ai.m (M0 T) (Rm e) T.ai.b .nil J9 (A8 (pv 2) B1)) B1)))))))),?_⟩
  refine B9 λN1 M=>?_;refine A6 rfl (A6 rfl ⟨x,g,A6 rfl ⟨l,rfl,A6 rfl ⟨x,c,n,A,B,L,m,rfl,I,λr H1 X N e=>?_⟩⟩⟩);refine C0 rfl rfl ?_;dsimp only;rw[Ub];refine M _ _ ?_;have o:∀j,(m &&& r).testBit j=true↔m.testBit j=true/\n6 B m j:=λj=>by rw[C_,BW,e]
  refine B9 λN2 O=>?_;refine A6 rfl ⟨_,rfl,?_⟩;dsimp only;refine V0 (λz=>?_) (λz=>?_)
  .have u:m &&& r=0:=by
    by_cases y:m &&& r=0
    .exact y
    .exact absurd z (by simp;lia)
   exact(q H1 X N).1 λj v C=>by
    have:=(o j).mpr ⟨v,C⟩;rw[u,CZ]at this;cases this
  .have u:m &&& r≠0:=λy=>by
    rw[y]at z;exact z rfl
   obtain⟨j,D⟩:=Nat.exists_testBit_of_ne_zero u;obtain⟨v,C⟩:=(o j).mp D;refine O _ _ ?_;obtain⟨g,a,b,d,W,l,_⟩:=N.ex;obtain⟨i,R,Y⟩:=id C;have eh:m &&& r=S_ n B m:=Va o λj D=>J j ((o j).mp D).1;refine A6 rfl ⟨x,g,A6 rfl ⟨l,rfl,A6 rfl ⟨x,g,A6 rfl ⟨l,rfl,A6 rfl ⟨_,rfl,Nat.pos_of_ne_zero u,λk Z kl=>?_⟩⟩⟩⟩⟩;obtain⟨h3,i,R,Y⟩:=(o k).mp Z;have ek:=Ym Z kl;refine⟨x,c,n,A,B,L,2^k,rfl,N,λr2 H2 k2 M2 S=>?_⟩;have U:r2=A.getD k 0:=BS λi=>CC.mpr ((S i).trans Jq);subst U;refine A6 rfl (C0 rfl rfl ?_);dsimp only;rw[Ub];refine⟨x,c,n,A,B,L,A.getD k 0 &&& m,i,rfl,M2,J i R,by rw[C_,BW];exact⟨(I.net.tr k i).mpr Y,R⟩,λH3 s3=>?_⟩;have V:=M2.same s3;obtain⟨g,a,b,d,W,l,_⟩:=V.ex;refine A6 rfl ⟨x,g,A6 rfl ⟨l,rfl,A6 rfl ⟨x,c,n,A,B,L,m &&& r,j,rfl,V,J j v,D,λH4 s4=>?_⟩⟩⟩;refine⟨by show 3<=sizeLine;decide,λp t=>?_⟩;have M4:=V.same s4;have k4:Sm [c] H H4:=(X.trans k2).trans (s3.sm.trans s4.sm);refine(q _ (k4.new t) (M4.same (F1.new t))).2 p ⟨j,v,C⟩ (k4.none (λy=>by rw[AD.mp y]at t;exact y6 M4 t) t) ?_;rw[A9];unfold UA T_;rw[<-eh,ek]
end
def er(H:Hp)(l:A3):Hp:=λb=>if b=l then none else H b
def Ob{H:Hp}{l b:A3}(n:b≠l):er H l b=H b:=AJ n
def Bt(H:Hp)(l:A3):F1 (er H l) H:=λb o e=>by
 unfold er at e;by_cases c:b=l
 .rw[AL c]at e;cases e
 .rw[AJ c]at e;exact e
def Rw(H:Hp)(l:A3)(o:HO):er (IK H l o) l=er H l:=funext λb=>by
 unfold er;by_cases c:b=l
 .rw[AL c,AL c]
 .rw[AJ c,AJ c,B6 c]
def IP.er{C:A3}{H H':Hp}{x c l:A3}{ns:A1 Str}{A B:A1 Nat}{L:Nat}(h:IP C (er H l) x c ns A B L)(k:Sm [c] H H')(h':IP C H' x c ns A B L)(n:l≠c):IP C (Sw.er H' l) x c ns A B L:=by
 refine h.fz (λb o e a=>?_) ?_
 .have:b≠l:=λz=>by subst z;unfold Sw.er at e;rw[AL rfl]at e;cases e
  rw[Ob this];exact k b o (Bt H l b o e) a
 .obtain⟨_,_,_,_,_,_,_,_,_,d,_⟩:=h'.ex;unfold Rd;rw[Ob n.symm];exact d
abbrev SB:=A3×A3×A1 Str×Nat
def KO(H:Hp)(t:SB):Prop:=H t.1=some (.tup [.ref t.2.1,.int (t.2.2.2:Int)])/\H t.2.1=some (.tup (t.2.2.1.map V.str))/\t.2.2.1.length<=5
def KO.same{H H':Hp}{t:SB}(h:KO H t)(s:F1 H H'):KO H' t:=⟨s _ _ h.1,s _ _ h.2.1,h.2.2⟩
def Y0{C:A3}{H:Hp}{x c a:A3}{o:HO}{ns:A1 Str}{A B:A1 Nat}{L:Nat}(h:IP C H x c ns A B L)(e:H a=some o)(d:∀k,o≠ .dK k)(f:∀u v,o≠ .frz u v):a≠c:=λz=>by
 obtain⟨_,_,_,_,_,_,_,_,_,g,_⟩:=h.ex;rw[z]at e;rcases g with b | ⟨u,b⟩<;>rw[e]at b<;>cases b
 .exact d _ rfl
 .exact f _ _ rfl
def O7{C:A3}{H:Hp}{x c a:A3}{xs:A1 V}{ns:A1 Str}{A B:A1 Nat}{L:Nat}(h:IP C H x c ns A B L)(e:H a=some (.lst xs)):a≠c:=Y0 h e (λ_ y=>by cases y) λ_ _ y=>by cases y
def Y3{C:A3}{H:Hp}{x c a:A3}{xs:A1 V}{ns:A1 Str}{A B:A1 Nat}{L:Nat}(h:IP C H x c ns A B L)(e:H a=some (.tup xs)):a≠c:=Y0 h e (λ_ y=>by cases y) λ_ _ y=>by cases y
def KO.sm{C:A3}{H H':Hp}{x c:A3}{ns:A1 Str}{A B:A1 Nat}{L:Nat}{t:SB}(h:KO H t)(M:IP C H x c ns A B L)(k:Sm [c] H H'):KO H' t:=⟨NK k h.1 (Y3 M h.1),NK k h.2.1 (Y3 M h.2.1),h.2.2⟩
def KO.upd{H:Hp}{l:A3}{o:HO}{xs:A1 V}{t:SB}(h:KO H t)(e:H l=some (.lst xs)):KO (IK H l o) t:=⟨(B6 (S7 h.1 e (by intro y;cases y))).trans h.1,(B6 (S7 h.2.1 e (by intro y;cases y))).trans h.2.1,h.2.2⟩
def Gx(ns:A1 Str)(A B:A1 Nat)(m j:Nat):A1 Str×Nat:=([("answer":Str),anA ns B m j,anB ns j],A.getD j 0)
def Ch{ns:A1 Str}{A B:A1 Nat}{m:Nat}{ts:A1 SB}(h:(ts.map λt=>t.2.2) =(E5 A B ns.length m).map (Gx ns A B m)):(ts.map λt=>t.2.2.2)=W1 A B ns.length m:=by
 have:=congrArg (List.map λq:A1 Str×Nat=>q.2) h;rw[BL,BL]at this;exact this
section
variable{P:A7}{w:F8}{K:PySem.W.Frag}{mg:Str->A5 A2}{base:IM}
theorem KR:IL ["marks", "held", "splits", "doubt", "doubted"] ["marks", "held"] (B7 NW):=KU
def Dm(C:A3):Sp:=λe H Q _=>∃(x c:A3) (a:A1 Str) (A B:A1 Nat) (L m:Nat),e = [.ref x,.int (m:Int)]/\IP C H x c a A B L/\(∀j,m.testBit j=true->j<a.length) /\
 ∀l (d:A1 SB) b,H l=none->Sm [c] H b->IP C b x c a A B L->b l=some (.lst (d.map λt=>V.ref t.1))->(∀t∈d,KO b t)->(d.map λt=>t.2.2) =(E5 A B a.length m).map (Gx a A B m)->Q (.ref l) b
set_option maxHeartbeats 2000000 in
theorem l0(T:Tx K mg):IU P w K mg base JE 4 T.aD.f T.aD.fd ["marks", "held"] (Dm T.ab):=by
 refine T.aD.F.o1 KR λcdv A outer s H vs Q E N h=>?_
 .obtain⟨x,c,g,A,B,L,m,rfl,hM,hm,q⟩:=h;refine⟨_,(B4 (C6 (i:=2) KR.nd rfl (.inl rfl) (Q5 B1))
   (B4 (O6 PassesOwn.never rfl (MZ K (D8 (pv 0) T.ad T.ac.m (E6 T) (Rm N) T.ac.b .nil J9 (A8 (C8 R0 (D8 (pv 0) T.ad T.ah.m (K0 T) (Rm N) T.ah.b .nil J9 (A8 (pv 1) B1)) (D8 (pv 0) T.ad T.av.m (Y7 T) (Rm N) T.av.b .nil J9 (A8 (pv 1) B1))) B1))) (C7 (i:=3) KR.nd rfl (.inl rfl))
   (B4 (C6 (i:=4) KR.nd rfl (.inl rfl) (D8 (pv 0) T.ad T.ai.m (M0 T) (Rm N) T.ai.b .nil J9 (A8 (C8 R0 (D8 (pv 0) T.ad T.aj.m (M7 T) (Rm N) T.aj.b .nil J9 (A8 (pv 3) B1)) (pv 1)) B1)))
   (B5 (J7 (Jb K PySem.F.plainAttrs_list PySem.F.slot_list_append PySem.F.type_list_append K4 (pv 2) (A8 (E3 (A8 (E3 (A8 U5 (A8 (pv 4) (A8 (D8 (pv 0) T.ad T.ai.m (M0 T) (Rm N) T.ai.b .nil J9 (A8 (pv 3) B1)) B1)))) (A8 (D8 (pv 0) T.ad T.ah.m (K0 T) (Rm N) T.ah.b .nil J9 (A8 (pv 3) B1)) B1))) B1))))))
   (B5 (C3 (pv 2))))),?_⟩
  refine B9 λN1 hN1=>?_;refine⟨CL _,λl hl=>?_⟩;have ul:=F1.new (o:=.lst []) hl;have hMe:IP T.ab (Sw.er (IK H l (.lst [])) l) x c g A B L:=by
   rw[Rw];exact hM.same λb o e=>by rw[Ob (B3 e hl)];exact e
  have Z:=hM.same ul;have el:(IK H l (.lst [])) l=some (.lst []):=A9;have k1:Sm [c] H (IK H l (.lst [])):=ul.sm;generalize IK H l (.lst [])=H1 at Z el k1 hMe⊢;refine hN1 _ _ (B9 λN2 hN2=>?_);obtain⟨u,a,b,d,kb,v,_⟩:=Z.ex;refine A6 rfl ⟨x,u,A6 rfl ⟨v,rfl,A6 rfl ⟨x,u,A6 rfl ⟨v,rfl,A6 rfl ⟨x,c,g,A,B,L,m,rfl,Z,λr1 H2 k2 M2 hr1=>?_⟩⟩⟩⟩⟩;obtain⟨u,a,b,d,kb,v,_⟩:=M2.ex;refine A6 rfl ⟨x,u,A6 rfl ⟨v,rfl,A6 rfl ⟨x,c,g,A,B,L,m,rfl,M2,λr2 H3 k3 M3 hr2=>?_⟩⟩⟩;refine C0 rfl rfl ?_;dsimp only;rw[Ub];refine⟨x,c,g,A,B,L,r1 &&& r2,rfl,M3,λD H4 hD k4 M4 eD=>?_⟩;have eds:E4 (r1 &&& r2) g.length=E5 A B g.length m:=Qm λj=>by rw[C_,BW,hr1,hr2]
  rw[eds]at eD;have O:Sm [c] H1 H4:=(k2.trans k3).trans k4;have el4:=NK O el (O7 Z el);have Me4:=hMe.er O M4 (O7 Z el);have nDl:D≠l:=λz=>by
   have:=NK (k2.trans k3) el (O7 Z el);rw[<-z,hD]at this;cases this
  have k04:Sm [c] H H4:=k1.trans O;have nDc:=O7 M4 eD;have R:=O7 M4 el4;refine⟨D,rfl,⟨_,IS.of eD⟩,X0 (D:={ nx:=N2,rt:=Q }) (MY (IS.of eD)) (λi σ G=>(∃v3 v4,σ = [some (.ref x),some (.int (m:Int)),some (.ref l),v3,v4])/\Sm [c] H G/\Sm [c,l] H4 G/\IP T.ab (Sw.er G l) x c g A B L/\IP T.ab G x c g A B L/\∃I:A1 SB,G l=some (.lst (I.map λt=>V.ref t.1))/\(∀t∈I,KO G t)/\(I.map λt=>t.2.2) =((E5 A B g.length m).take i).map (Gx g A B m)) ⟨⟨_,_,rfl⟩,k04,Sm.refl _ _,Me4,M4,[],el4,λt ht=>absurd ht CD,rfl⟩ (λi σ G _ h o e=>by rw[eD]at e;cases e;exact h.2.2.1 _ _ eD (by simp[nDl,nDc])) ?_ ?_⟩
  .rintro i σ G y hy ⟨⟨v3,v4,rfl⟩,kG,kG4,MeG,MG,I,eG,aG,mG⟩ D1 hD1 _;rw[AH]at hy;obtain⟨j,hj,rfl⟩:=AQ.mp hy;obtain⟨hjn,⟨p,hp,hpj⟩,nh⟩:=L_.mp (AI hj);refine zAv λN3 hN3=>?_;obtain⟨u,a,b,d,kb,v,_⟩:=MG.ex;refine A6 rfl ⟨x,u,A6 rfl ⟨v,rfl,A6 rfl ⟨x,u,A6 rfl ⟨v,rfl,A6 rfl ⟨x,c,g,A,B,L,2^j,rfl,MG,λr3 G1 J S hr3=>?_⟩⟩⟩⟩⟩;have er3:r3=B.getD j 0:=BS λi=>CC.mpr ((hr3 i).trans Jq);subst er3;refine A6 rfl (C0 rfl rfl ?_);dsimp only;rw[Ub];refine⟨x,c,g,A,B,L,B.getD j 0 &&& m,p,rfl,S,hm p hp,by rw[C_,BW];exact⟨(hM.net.tr p j).mp hpj,hp⟩,λG2 C=>?_⟩;have k:=S.same C;refine hN3 _ _ ?_;have U:=C _ _ (NK J eG (O7 MG eG));have MeG2:=(MeG.er J S R).er (C.sm (D:=[c])) k R;have aG2:∀t∈I,KO G2 t:=λt ht=>((aG t ht).sm MG J).same C;have kG2:Sm [c] G G2:=J.trans C.sm;have lts:I.length<=100:=by
    have h1:=congrArg List.length mG;rw[AB,AB,AZ]at h1;have h2:(E5 A B g.length m).length<=g.length:=by
     unfold E5;exact Nat.le_trans (BM ..) (by rw[BZ];exact Nat.le_refl _)
    have:=hM.len;lia
   obtain⟨u,a,b,d,kb,v,_⟩:=k.ex;refine A6 rfl ⟨.inl ⟨rfl,_,IS.of U⟩,?_⟩;refine A6 rfl (A6 rfl ⟨x,u,A6 rfl ⟨v,rfl,A6 rfl ⟨x,c,g,A,B,L,2^j,j,rfl,k,hjn,HI,λG3 sg3=>?_⟩⟩⟩);refine⟨by show 3<=sizeLine;decide,λh hh=>?_⟩;have uh:=F1.new (o:=.tup [.str "answer",.str (T8 g (B.getD j 0 &&& m)),.str (T8 g (2^j))]) hh;have eh:(IK G3 h (.tup [.str "answer",.str (T8 g (B.getD j 0 &&& m)),.str (T8 g (2^j))])) h=some (.tup ([("answer":Str),T8 g (B.getD j 0 &&& m),T8 g (2^j)].map V.str)):=A9;have W:=sg3.trans uh;generalize IK G3 h (.tup [.str "answer",.str (T8 g (B.getD j 0 &&& m)),.str (T8 g (2^j))])=G4 at W eh⊢;have X:=k.same W;obtain⟨u,a,b,d,kb,v,_⟩:=X.ex;refine A6 rfl ⟨x,u,A6 rfl ⟨v,rfl,A6 rfl ⟨x,c,g,A,B,L,2^j,rfl,X,λr4 G5 kg5 MG5 hr4=>?_⟩⟩⟩;have er4:r4=A.getD j 0:=BS λi=>CC.mpr ((hr4 i).trans Jq);subst er4;refine⟨by show 2<=sizeLine;decide,λt ht=>?_⟩;have ut:=F1.new (o:=.tup [.ref h,.int ((A.getD j 0:Nat):Int)]) ht;have st:KO (IK G5 t (.tup [.ref h,.int ((A.getD j 0:Nat):Int)])) (t,h,[("answer":Str),T8 g (B.getD j 0 &&& m),T8 g (2^j)],A.getD j 0):=⟨A9,ut _ _ (NK kg5 eh (Y3 X eh)),by show 3<=5;decide⟩;have r:Sm [c] G2 (IK G5 t (.tup [.ref h,.int ((A.getD j 0:Nat):Int)])):=(W.sm.trans kg5).trans ut.sm;have MG6:=MG5.same ut;generalize IK G5 t (.tup [.ref h,.int ((A.getD j 0:Nat):Int)])=G6 at ut st r MG6⊢;have Y:=NK r U (O7 k U);have MeG6:=MeG2.er r MG6 R;refine⟨l,_,_,rfl,rfl,Y,by rw[AB,sizeLine_eq];lia,?_⟩;have M:IP T.ab (Sw.er (L2.IK G6 l (.lst ((I.map λt=>V.ref t.1) ++ [.ref t]))) l) x c g A B L:=by rw[Rw];exact MeG6
   refine hD1 _ _ ⟨⟨_,_,rfl⟩,λb o e n=>?_,λb o e n=>?_,M,M.same (Bt _ _),I ++ [(t,h,[("answer":Str),T8 g (B.getD j 0 &&& m),T8 g (2^j)],A.getD j 0)],?_,λt' ht'=>?_,?_⟩
   .rw[B6 (B3 e hl)];exact(kG.trans (kG2.trans r)) b o e n
   .have n1:b≠c:=λz=>n (by rw[z];exact .head _);have n2:b≠l:=λz=>n (by rw[z];exact .tail _ (.head _));rw[B6 n2];exact(kG2.trans r) b o (kG4 b o e n) (by simpa using n1)
   .rw[A9,AN];rfl
   .rcases AO.mp ht' with z | z
    .exact((aG2 t' z).sm k r).upd Y
    .rw[AD.mp z];exact st.upd Y
   .rw[AN,mG,IW hj,AN];rfl
  .rintro σ G ⟨⟨v3,v4,rfl⟩,kG,kG4,MeG,MG,I,eG,aG,mG⟩;rw[AB,BQ]at mG;exact hN2 _ _ (A6 rfl (q l I G hl kG MG eG aG mG))
end
def o0{C:A3}{H H':Hp}{x c p:A3}{ns:A1 Str}{A B:A1 Nat}{L:Nat}{ls:A1 (Pos×Str)}(h:M5 H p ls)(M:IP C H x c ns A B L)(k:Sm [c] H H'):M5 H' p ls:=by
 obtain⟨b,e,t,q⟩:=h;exact⟨b,NK k e (Y0 M e (λ_ y=>by cases y) λ_ _ y=>by cases y),t,λl f=>(q l f).imp id λ⟨d,e,a⟩=>⟨d,e,NK k a (Y0 M a (λ_ y=>by cases y) λ_ _ y=>by cases y)⟩⟩
section
variable{P:A7}{w:F8}{K:PySem.W.Frag}{mg:Str->A5 A2}{base:IM}
def zAc(f c:A3)(q:Str)(b:Arguments)(d:IQ)(a:JH)(cl:A1 (Str×A3))(g:V->Hp->VK->Prop):Sp:=λe H Q _=>∃u,e = [u]/\H f=some (OD f c q b d a cl)/\H c=some (LP c q)/\g u H Q
theorem Qp{f c:A3}{q:Str}{i:Arguments}{e:IQ}{b:JH}{cl:A1 (Str×A3)}{fr:A1 Str}{gs:A1 V}{k:Nat}{g:V->Hp->VK->Prop}(S:NZ ("split" :: fr) ["split"] fr b)(C:QL base cl fr gs)
  (d:∀(A:IR) (a:A1 PR) (s:A4) (H:Hp) (u:V) (Q:VK),JQ k (A.deeper (PySem.W.envX q b s.heap.objs.size f (.ref c) cl))->g u H Q ->
   ∃t,PE (Oe P w K mg base ("split" :: fr) q b f (.ref c) cl A a s H) e t/\t (some u::gs.map some) H Q) :
  IU P w K mg base JE (k+1) f (PySem.W.kla_fn "<lambda>" q i e b cl .none (.ref c) .none) ["split"] (zAc f c q i e b cl g):=by
 refine zEd S C (λj H Q E h=>?_) (λj H Q E h=>?_) λA a s H j Q E l h=>?_
 .obtain⟨u,rfl,_⟩:=h;rfl
 .obtain⟨u,rfl,m,n,_⟩:=h;exact⟨m,n⟩
 .obtain⟨u,rfl,_,_,h⟩:=h;exact d A a s H u Q l h
theorem Zt{e:Hp}{f c:A3}{q:Str}{j:Arguments}{i:IQ}{a:JH}{cl:A1 (Str×A3)}{fr:A1 Str}{gs:A1 V}{k:Nat}{g:V->Hp->VK->Prop}(n:e f=some (OD f c q j i a cl))(o:e c=some (LP c q))(S:NZ ("split" :: fr) ["split"] fr a)(C:QL base cl fr gs)
  (p:Binds K (PySem.W.kla_fn "<lambda>" q j i a cl .none (.ref c) .none) ["split"] [])
  (b:∀(A:IR) (d:A1 PR) (s:A4) (H:Hp) (u:V) (Q:VK),JQ k (A.deeper (PySem.W.envX q a s.heap.objs.size f (.ref c) cl))->g u H Q ->
   ∃t,PE (Oe P w K mg base ("split" :: fr) q a f (.ref c) cl A d s H) i t/\t (some u::gs.map some) H Q) :
  ∃(l:JA) (m:A1 Str) (sp:Sp),IU P w K mg base JE (k+1) f l m sp/\Binds K l m []/\∀u H Q,H f=e f->H c=e c->g u H Q->sp [u] H Q E0 :=
 ⟨_,_,_,Qp S C b,p,λu H Q r v h=>⟨u,rfl,r.trans n,v.trans o,h⟩⟩
theorem Ft:IL ["marks", "held", "splits"] ["marks", "held", "splits"] (B7 LA):=KU
def Ku(C d:A3):Sp:=λf H Q _=>∃(x c l:A3) (e:A1 Str) (A B:A1 Nat) (L m:Nat) (a:A1 SB),f = [.ref x,.int (m:Int),.ref l]/\IP C H x c e A B L/\H l=some (.lst (a.map λt=>V.ref t.1))/\a≠[]/\(∀t∈a,KO H t)/\M5 H d C1 /\
 ∀b,Sm [c,d] H b->IP C b x c e A B L->M5 b d C1->(∀t∈a,KO b t)->Q ((a.map λt=>V.ref t.1).getD (W0 A B e.length L m (a.map λt=>t.2.2.2)) .non) b
set_option maxHeartbeats 2000000 in
theorem q9(T:Tx K mg)(hB:base.BuiltinsAt mg T.aa):IU P w K mg base JE 7 T.au.f T.au.fd ["marks", "held", "splits"] (Ku T.ab T.aa):=by
 refine T.au.F.oC Ft λcdv A N s H vs Q E hcd hr h=>?_
 .obtain⟨x,c,l,ns,A,B,L,m,Y,rfl,hM,hl,hne,hS,hT,q⟩:=h;have hu:=V6 hr;refine⟨_,(B5 (C3 (Yq (k:=5) (λ_=>rfl) (Rm hr) T.bC (A8 (pv 2) B1) (zCs (ls:=C1) T.bk hB (hcd.symm.trans T.bB) rfl rfl (by show ∀x:Str×KH,x∈_->x.2=NameKind.free->(B7 LA).names.lookup x.1=some NameKind.cell;decide +kernel) (by first | exact .head _ | exact .tail _ (.head _) | exact .tail _ (.tail _ (.head _))) (by decide +kernel))))),?_⟩;refine A6 rfl ⟨hT,λf cc Z hf T2 D G nfp I=>?_⟩;have p:∀{z:A3} {o:HO},H z=some o->(∀u,o≠ .tbl u)->z≠T.aa:=fun{z o} e n y=>by
   obtain⟨ps,e',_⟩:=hT;rw[y,e']at e;cases e;exact n _ rfl
  have M2:IP T.ab Z x c ns A B L:=by
   obtain⟨⟨dx,a,b,d,kb,e1,e2,e3,e4,e5,e6,n1,n2⟩,J,h3,h4,h5⟩:=hM;have kR:∀{z:A3} {o:HO},(∀u,o≠ .tbl u)->Rd H z o->Rd Z z o:=fun{z o} n r=>r.imp (λe=>I _ _ e (p e n)) λ⟨u,e⟩=>⟨u,I _ _ e (p e λ_ y=>by cases y)⟩;exact⟨⟨dx,a,b,d,kb,I _ _ e1 (p e1 λ_ y=>by cases y),I _ _ e2 (p e2 λ_ y=>by cases y),kR (λ_ y=>by cases y) e3,e4,kR (λ_ y=>by cases y) e5,I _ _ e6 (p e6 λ_ y=>by cases y),n1,n2⟩,J,h3,h4,h5⟩
  have hl2:=I _ _ hl (p hl λ_ y=>by cases y);have S2:∀t∈Y,KO Z t:=λt W=>by
   obtain⟨a1,a2,a3⟩:=hS t W;exact⟨I _ _ a1 (p a1 λ_ y=>by cases y),I _ _ a2 (p a2 λ_ y=>by cases y),a3⟩
  refine⟨l,f,[c],_,λj=>Jm A B ns.length L m ((Y.map λt=>t.2.2.2).getD j 0),λC=>IP T.ab C x c ns A B L/\C l=some (.lst (Y.map λt=>V.ref t.1))/\(∀t∈Y,KO C t)/\M5 C T.aa C1/\C f=Z f/\C cc=Z cc,rfl,rfl,by simpa using hne,⟨M2,hl2,S2,T2,rfl,rfl⟩,λC g=>IS.of g.2.1,?K,λC k' g=>?R⟩
  case R =>
   have:=q C (λb o e n=>k' b o (I b o e λz=>n (by rw[z];exact .tail _ (.head _))) λz=>n (by rw[AD.mp z];exact .head _)) g.1 g.2.2.2.1 g.2.2.1;unfold W0 at this;rw[AB]at this⊢;exact this
  case K =>
   intro O S kin;obtain⟨fd,ps,sp,M,J,h3⟩:=Zt (P:=P) (w:=w) (K:=K) (mg:=mg) (base:=O) (k:=4) (fr:=["marks", "held"]) (gs:=[.ref x,.int (m:Int)]) (g:=λv C Q'=>∃ad:Nat,(∃t:A3,v = .ref t/\∃hd:A3,C t=some (.tup [.ref hd,.int (ad:Int)]))/\Uc T.ab [.ref x,.int (m:Int),.int (ad:Int)] C Q' E0) G D ⟨rfl,rfl,rfl,rfl,by decide +kernel,by decide +kernel,by decide +kernel,by decide +kernel,by decide +kernel⟩ (S.clos (by decide +kernel) (by decide +kernel) (by show ∀x∈_,(B7 LA).names.lookup x=some NameKind.cell;decide +kernel) rfl λi x v M J=>by
    match i,M,J with
    | 0,M,J=>cases M;cases J;exact⟨0,rfl,rfl⟩
    | 1,M,J=>cases M;cases J;exact⟨1,rfl,rfl⟩
    | n+2,M,_=>cases M) (Binds.all λus hl=>by match us,hl with | [_],_=>rfl) (λA N s H u Q hr h=>by
    obtain⟨ad,⟨t,rfl,hd,et⟩,h⟩:=h;refine⟨_,C9 T.a1 (Ef T) (Rm hr) (A8 (pv 1) (A8 (pv 2) (A8 (E7 (P_ K) (pv 0) B8 (λ_ _=>rfl)) B1))),?_⟩;exact A6 rfl (A6 rfl (A6 rfl ⟨t,_,C0 rfl rfl ⟨JJ.of et,rfl,h⟩⟩)))
   .refine⟨fd,ps,sp,M,J,λj v C ev g=>h3 v C _ g.2.2.2.2.1 g.2.2.2.2.2 ?_⟩;rw[AH]at ev;obtain⟨t,W,rfl⟩:=AQ.mp ev;obtain⟨U,gl,gS,gT,gf,gc⟩:=g;refine⟨t.2.2.2,⟨t.1,rfl,t.2.1,(gS t (AI W)).1⟩,x,c,ns,A,B,L,m,t.2.2.2,rfl,U,λa H3 ha X M3 e3=>⟨a,rfl,λz=>?_,X,⟨M3,NK X gl (O7 U gl),λt W=>(gS t W).sm U X,o0 gT U X,?_,?_⟩,JJ.of ?_⟩⟩
    .rw[AD.mp z]at ha;exact y6 U ha
    .exact(NK X (gf.trans G) (Y0 U (gf.trans G) (λ_ y=>by cases y) λ_ _ y=>by cases y)).trans G.symm
    .exact(NK X (gc.trans D) (Y0 U (gc.trans D) (λ_ y=>by cases y) λ_ _ y=>by cases y)).trans D.symm
    .have:(Y.map λt=>t.2.2.2).getD j 0=t.2.2.2:=by rw[AY,AH,W];rfl
     rw[e3];dsimp only;rw[this]
end
def TV:A5 Nat->V
 | some r=>.int (r:Int)
 | none=>.non
def zAe{α:Type}{f:Nat->A5 α}{l:A1 Nat}{i j:Nat}{r:α}(h:l[i]?=some j)(h1:∀x∈l.take i,f x=none)(h2:f j=some r):l.findSome? f=some r:=by
 have a:=(AE.mp h).1;have e:l=l.take i++j::l.drop (i+1):=by
  conv=>lhs;rw[<-BT i l]
  rw[ER a];congr 2;exact BH ((AC a).symm.trans h)
 rw[e,List.findSome?_append,DG.mpr h1,List.findSome?_cons,h2];rfl
def Bx{H:Hp}{p a:A3}{o:HO}{ls:A1 (Pos×Str)}(h:M5 H p ls)(e:H a=some o)(n:∀u,o≠ .tbl u):a≠p:=λy=>by
 obtain⟨c,b,_⟩:=h;rw[y,b]at e;cases e;exact n _ rfl
section
variable{P:A7}{w:F8}{K:PySem.W.Frag}{mg:Str->A5 A2}{base:IM}
theorem JY:IL ["marks", "held", "splits", "bit", "found"] ["marks", "held"] (B7 ME):=KU
def Ax(C d:A3)(k:Nat):Sp:=λe H Q _=>∃(x c:A3) (a:A1 Str) (A B:A1 Nat) (L m:Nat),e = [.ref x,.int (m:Int)]/\IP C H x c a A B L/\OC a.length m/\M5 H d C1/\a.length<k +(E4 m a.length).length /\
 ∀b,Sm [c,d] H b->IP C b x c a A B L->M5 b d C1->Q (TV (Q0 A B a.length L k m)) b
set_option maxHeartbeats 4000000 in
theorem Aa(T:Tx K mg)(hB:base.BuiltinsAt mg T.aa){n k:Nat}{S:Sp}(h1:7<=n)(g:IU P w K mg base JE n T.an.f T.an.fd ["marks", "held"] S)(hS:∀J,k=J+1->S=Ax T.ab T.aa J) :
  IU P w K mg base JE (n+1) T.an.f T.an.fd ["marks", "held"] (Ax T.ab T.aa k):=by
 have I:IU P w K mg base JE n T.aB.f T.aB.fd ["marks", "held"] (Fl T.ab):=(Bf T).mono (by lia);have v:IU P w K mg base JE n T.aD.f T.aD.fd ["marks", "held"] (Dm T.ab):=(l0 T).mono (by lia);have C:IU P w K mg base JE n T.au.f T.au.fd ["marks", "held", "splits"] (Ku T.ab T.aa):=(q9 T hB).mono h1;have p:IU P w K mg base JE n T.ac.f T.ac.fd ["self", "some"] (u9 T.ab):=(E6 T).mono (by lia);refine T.an.F.o1 JY λcdv A outer s H vs Q E Y h=>?_
 .obtain⟨x,c,u,A,B,L,m,rfl,hM,lo,hT,hk,q⟩:=h;refine⟨_,(B4 (M9 (D6 Fu (C9 T.aB I (Y.mono (Nat.le_refl _)) (A8 (pv 0) (A8 (pv 1) B1))) d6 (E9 _)) (B5 (C3 d6)) D4)
   (B4 (C6 (i:=2) JY.nd rfl (.inl rfl) (C9 T.aD v (Y.mono (Nat.le_refl _)) (A8 (pv 0) (A8 (pv 1) B1))))
   (B4 (M9 (R1 (TJ K (pv 2))) (B5 (C3 (pv 1))) D4)
   (B4 (O6 PassesOwn.never rfl (MZ K (D8 (pv 0) T.ad T.ac.m p (Y.mono (Nat.le_refl _)) T.ac.b .nil J9 (A8 (E7 (P_ K) (C9 T.au C (Y.mono (Nat.le_refl _)) (A8 (pv 0) (A8 (pv 1) (A8 (pv 2) B1)))) B8 (λ_ _=>rfl)) B1))) (C7 (i:=3) JY.nd rfl (.inl rfl))
   (B4 (C6 (i:=4) JY.nd rfl (.inl rfl) (C9 T.an g (Y.mono (Nat.le_refl _)) (A8 (pv 0) (A8 (C8 Ar (pv 1) (pv 3)) B1))))
   (B5 (M9 (D6 Fu (pv 4) d6 (E9 _)) (B5 (C3 (pv 4))) D4))))
   (B5 (C3 d6)))))),?_⟩
  obtain⟨J,rfl⟩:∃J,k=J+1:=⟨k-1,by have:=P5 m u.length;lia⟩;have eS:=hS J rfl;subst eS;have up:∀{G G':Hp},Sm [c] G G'->Sm [c,T.aa] G G':=λk b o e n=>k b o e λz=>n (by rw[AD.mp z];exact .head _);refine B9 λN1 hN1=>?_;refine A6 rfl (A6 rfl ⟨x,c,u,A,B,L,m,rfl,hM,lo,λH1 k1 M1=>⟨λnc=>?_,λa cl ha et=>?_⟩⟩);rotate_left
  .refine⟨rfl,_,rfl,V0 (λ_=>?_) λz=>absurd (by simp) z⟩;have e:Q0 A B u.length L (J+1) m=none:=by
    unfold Q0;rw[AL cl]
   have:=q H1 (up k1) M1 (o0 hT hM k1);rw[e]at this;exact this
  have Z:¬Q6 B m:=λ⟨j,O,hh⟩=>nc j O hh;have T1:=o0 hT hM k1;refine⟨rfl,_,rfl,V0 (λz=>absurd z (by simp)) λ_=>hN1 _ _ (B9 λN2 hN2=>?_)⟩;refine A6 rfl (A6 rfl ⟨x,c,u,A,B,L,m,rfl,M1,lo,λl R H2 hl k2 M2 el aS mS=>?_⟩);have mS:=Ch mS;have T2:=o0 T1 M1 k2;refine hN2 _ _ (B9 λN3 hN3=>?_);refine A6 rfl ⟨_,.inl ⟨_,IS.of el,rfl⟩,?_⟩;have k02:=up (k1.trans k2);cases N:R with
  | nil =>
   subst N;refine V0 (λ_=>A6 rfl ?_) λz=>absurd rfl z;have e:Q0 A B u.length L (J+1) m=some m:=by
    unfold Q0;rw[AJ Z,AL (EM.mp (show W1 A B u.length m = []from mS.symm))]
   have:=q H2 k02 M2 T2;rw[e]at this;exact this
  | cons t0 ts0 =>
   rw[<-N];have U:R≠[]:=by rw[N];exact List.cons_ne_nil _ _
   have dne:E5 A B u.length m≠[]:=λz=>U (EM.mp (mS.trans (by unfold W1;rw[z];rfl)));have W:Q0 A B u.length L (J+1) m =(E4 (O1 A B u.length L m) u.length).findSome? λj=>Q0 A B u.length L J (m ||| 2^j):=by
    conv=>lhs;unfold Q0
    rw[AJ Z,AJ dne]
   refine V0 (λz=>absurd z (by rw[N];exact λy=>by cases y)) λ_=>hN3 _ _ (B9 λN4 hN4=>?_);obtain⟨dx,a,b,d,kb,e1,_⟩:=M2.ex;refine A6 rfl ⟨x,dx,A6 rfl ⟨e1,rfl,A6 rfl (A6 rfl (A6 rfl ⟨x,c,l,u,A,B,L,m,R,rfl,M2,el,U,aS,T2,λH3 k3 M3 T3 S3=>?_⟩))⟩⟩;have hb:=p9 (A:=A) (B:=B) (n:=u.length) (L:=L) (m:=m) (ads:=R.map λt=>t.2.2.2) (λz=>U (EM.mp z));rw[AB]at hb;have M:=AC hb;generalize hbi:W0 A B u.length L m (R.map λt=>t.2.2.2)=bi at hb M⊢;generalize hti:R[bi]=t at M;have ead:O1 A B u.length L m=t.2.2.2:=by
    unfold O1;rw[<-mS,hbi,AY,AH,M];rfl
   have ev:(R.map λt=>V.ref t.1).getD bi .non = .ref t.1:=by rw[AY,AH,M];rfl
   rw[ev];refine⟨t.1,_,C0 rfl rfl ⟨JJ.of (S3 t (AI M)).1,rfl,?_⟩⟩;refine⟨x,c,u,A,B,L,t.2.2.2,rfl,M3,λD H4 hD k4 M4 X=>?_⟩;have T4:=o0 T3 M3 k4;have k04:Sm [c,T.aa] H H4:=(k02.trans k3).trans (up k4);have nDc:=O7 M4 X;have nDp:=Bx T4 X λ_ y=>by cases y
   rw[ead]at W;refine⟨D,rfl,⟨_,IS.of X⟩,X0 (D:={ nx:=N4,rt:=Q }) (MY (IS.of X)) (λi σ G=>(∃v3 v4,σ = [some (.ref x),some (.int (m:Int)),some (.ref l),v3,v4])/\Sm [c,T.aa] H4 G/\IP T.ab G x c u A B L/\M5 G T.aa C1/\∀j∈(E4 t.2.2.2 u.length).take i,Q0 A B u.length L J (m ||| 2^j)=none) ⟨⟨_,_,rfl⟩,Sm.refl _ _,M4,T4,λj O=>absurd O CD⟩ (λi σ G _ h o e=>by rw[X]at e;cases e;exact h.2.1 _ _ X (by simp[nDc,nDp])) ?_ ?_⟩
   .rintro i σ G y hy ⟨⟨v3,v4,rfl⟩,kG,MG,TG,nG⟩ D1 hD1 hrt;rw[AH]at hy;obtain⟨j,O,rfl⟩:=AQ.mp hy;obtain⟨hjn,hjb⟩:=JO.mp (AI O);have hjm:=(o8 (L:=L) hM.net dne (by rw[ead];exact hjb)).2;refine zAv λN5 hN5=>?_;refine A6 rfl (A6 rfl (A6 rfl (C0 rfl rfl ?_)));dsimp only;rw[QZ];refine⟨x,c,u,A,B,L,m ||| 2^j,rfl,MG,lo.or hjn,TG,by rw[Gb hjm,AL hjn];lia,λG1 k1' M1' T1'=>?_⟩;refine hN5 _ _ ?_;cases ho:Q0 A B u.length L J (m ||| 2^j)with
    | some r =>
     refine A6 rfl ⟨rfl,_,rfl,V0 (λ_=>A6 rfl ?_) λz=>absurd (by simp[TV]) z⟩;have:=q G1 (k04.trans (kG.trans k1')) M1' T1';rw[W,zAe (f:=λj=>Q0 A B u.length L J (m ||| 2^j)) O nG ho]at this;rw[hrt];exact this
    | none =>
     refine A6 rfl ⟨rfl,_,rfl,V0 (λz=>absurd z (by simp[TV])) λ_=>hD1 _ _ ⟨⟨_,_,rfl⟩,kG.trans k1',M1',T1',λj' hj'=>?_⟩⟩;rw[IW O]at hj';rcases AO.mp hj' with z | z
     .exact nG j' z
     .rw[AD.mp z];exact ho
   .rintro σ G ⟨_,kG,MG,TG,nG⟩;rw[AB,BQ]at nG;have:=q G (k04.trans kG) MG TG;rw[W,DG.mpr nG]at this;exact hN4 _ _ this
theorem V4(T:Tx K mg)(a:base.BuiltinsAt mg T.aa):∀k,IU P w K mg base JE (8+k) T.an.f T.an.fd ["marks", "held"] (Ax T.ab T.aa k)
 | 0=>Aa (n:=7) T a (by decide) (S:=λ_ _ _ _=>False) ⟨λ_ _ _ _ h=>h.elim,λ_ _ _ _ _ _ _ _ _ _ _ _ _ h=>h.elim⟩ λb e=>by lia
 | k+1=>Aa (n:=8+k) T a (by lia) (V4 T a k) λb e=>by cases e;rfl
end
def Ws(l:A1 Nat):((l.map λk=>((2^k:Nat):Int)).sum) =(((l.map λk=>2^k).sum:Nat):Int):=by
 induction l with
 | nil=>rfl
 | cons k l a=>rw[BK,HH,BK,HH,a];lia
def P2{ns:A1 Str}{y:Str}(h:y∈ns):ns[ns.idxOf y]?=some y:=by
 have l:=HJ.mpr h;rw[AC l,List.getElem_idxOf l]
section
variable{P:A7}{w:F8}{K:PySem.W.Frag}{mg:Str->A5 A2}{base:IM}
theorem Bj:IL ["self", "some"] ["self", "some"] (B7 MU):=KU
def On(K:PySem.W.Frag)(C:A3):Sp:=λf H Q _=>∃(x c a:A3) (d:A1 Str) (A B:A1 Nat) (L:Nat) (b:A1 Str),f = [.ref x,.ref a]/\IP C H x c d A B L/\RP K H a (b.map V.str)/\(∀y∈b,y∈d)/\b.Nodup/\b.length<=100/\∀(m:Nat) e,F1 H e->OC d.length m->(∀(j:Nat) y,d[j]?=some y->(m.testBit j=true↔y∈b))->Q (.int (m:Int)) e
theorem Bm(T:Tx K mg):IU P w K mg base JE 1 T.aE.f T.aE.fd ["self", "some"] (On K T.ab):=by
 refine T.aE.F.o1 Bj λcdv A U s H vs Q E hr h=>?_
 .obtain⟨x,c,a,v,A,B,L,C,rfl,t,ha,sub,nd,W,q⟩:=h;have hu:=V6 hr;refine⟨_,(B5 (C3 (E1 (Lr K) T.bl Jf (A8 (X3 (N':=["name", "self"]) (cap:=[none,some 0]) (cl:=[("self",_)]) (P8 ⟨⟨rfl,rfl,rfl,rfl⟩,trivial⟩ ⟨rfl,trivial⟩) rfl (piS K (pv 1)) (λ_ _ _ _=>by exact⟨(MN 0),J8,(K3 hu (PD K (pv 1)) (pv 0) (λ_ _=>rfl))⟩)) B1)))),?_⟩;obtain⟨dx,a',b,d,kb,e1,e2,e3,e4,e5,e6,n1,n2⟩:=t.ex;have I:∀{J:It} (X:St->Hp->Prop),LQ J (C.map V.str) a H->∀D,H D=none->(∀σ' G (m:Nat) (i:A1 Int),F1 H G->G D=some (.lst (i.map V.int))->i.sum =(m:Int)->OC v.length m->(∀(j:Nat) y,v[j]?=some y->(m.testBit j=true↔y∈C))->X σ' G) ->
    Fi (Y6 0) Cj (Ib D (Uo (zEt K (Pe 1) ("bit_of":Str)) (Pe 0))) J [none,some (.ref x)] (IK H D (.lst [])) X:=by
   intro J X Y D l hQ;refine Er (r:=V.str) (λy=>O4 (2^v.idxOf y)) Y (λ_=>true) (Nat.le_trans W (by decide)) l (λy g G u M t=>t G λb o e=>e) (λy g G u M t=>?_) λσ' G u O=>?_
   .have rb:Rd G b (.dK kb):=e3.imp (u _ _) λ⟨o,e⟩=>⟨o,u _ _ e⟩;exact A6 rfl ⟨x,T.ab,dx,_,A6 rfl ⟨u _ _ e1,T.ad,T.a7,rfl,A6 rfl ⟨b,_,rfl,.inl ⟨kb,.inr y,rb,rfl,(e4 _ y (P2 (sub y g))).symm⟩,t⟩⟩⟩
   rw[F_.mpr λ_ _=>rfl]at O;have O:G D=some (.lst (((C.map λy=>v.idxOf y).map λk=>((2^k:Nat):Int)).map V.int)):=by rw[O,BL,BL];rfl
   have Z:(C.map λy=>v.idxOf y).Nodup:=by
    refine CS.mpr (nd.imp_of_mem fun{y z} g R n e=>n ?_);have h1:=P2 (sub y g);rw[e,P2 (sub z R)]at h1;exact(BH h1).symm
   have hb:=Cl Z;refine hQ σ' G _ _ u O (Ws _) (λj S=>?_) λj y S=>?_
   .obtain⟨y,g,e⟩:=AX.mp ((hb j).mp S);rw[<-e];exact HJ.mpr (sub y g)
   .rw[hb,AX];constructor
    .rintro⟨z,R,e⟩;have:=P2 (sub z R);rw[e,S]at this;rw[BH this];exact R
    .intro g;exact⟨y,g,(List.getElem?_inj (HJ.mpr (sub y g)) t.nd).mp ((P2 (sub y g)).trans S.symm)⟩
  have N:∀{J:It},LQ J (C.map V.str) a H->∀D,H D=none->Fi (Y6 0) Cj (Ib D (Uo (zEt K (Pe 1) ("bit_of":Str)) (Pe 0))) J [none,some (.ref x)] (IK H D (.lst [])) λ_ G=>∃(p:A3) (i:A1 Int),[V.ref D] = [.ref p]/\IS K G p (i.map V.int)/\Q (.int i.sum) G:=λY D l=>I _ Y D l λσ' G m i s e es lo b=>⟨D,i,rfl,IS.of e,by rw[es];exact q m G s lo b⟩;exact A6 rfl ⟨a,rfl,ha.elim (λh=>.inl ⟨⟨_,h⟩,λD l=>N (MY h) D l⟩) λh=>.inr ⟨⟨_,h⟩,λD l=>N (asT h) D l⟩⟩
theorem Dz:IL ["marks", "sets", "held"] ["marks", "sets", "held"] (B7 NU):=KU
def By(C:A3):Sp:=λd H Q _=>∃(x c a:A3) (e:A1 Str) (A B:A1 Nat) (L m:Nat),d = [.ref x,.ref a,.int (m:Int)]/\IP C H x c e A B L/\H a=some (.lst [])/\∀l b,H l=none->F1 H b->b l=some (.lst [])->Q (.ref l) b
theorem Fv(T:Tx K mg):IU P w K mg base JE 1 T.aI.f T.aI.fd ["marks", "sets", "held"] (By T.ab):=by
 refine T.aI.F.o1 Dz λk A b s H p Q E l h=>?_
 .obtain⟨x,c,a,r,A,B,L,m,rfl,t,j,q⟩:=h;have u:=V6 l;refine⟨_,(B5 (C3 (X3 (N':=["at", "some", "marks", "held"]) (cap:=[none,none,some 0,some 2]) (cl:=[("marks",_),("held",_)]) (P8 ⟨⟨rfl,rfl,rfl,rfl⟩,⟨⟨rfl,rfl,rfl,rfl⟩,trivial⟩⟩ ⟨rfl,⟨rfl,trivial⟩⟩) rfl (TY K T.aP (A8 (pv 1) B1)) (λ_ _ _ _=>by exact⟨(QT K (n:=2) (C5 (MN 0) (C5 (MN 1) P9))),(U8 (D6 i8 (C8 R0 (pv 3) (pv 1)) (pv 3) (E9 _))),(E3 (A8 (E3 (A8 U5 (A8 (pv 0) B1))) (A8 (C8 Xp (PD K (pv 2)) (pv 1)) B1)))⟩)))),?_⟩;refine A6 rfl ⟨a,[],rfl,IS.of j,λD d=>?_⟩;have o:(IK H D (.lst [])) a=some (.lst []):=F1.new d _ _ j;refine j4 (n:=0) (λi σ G=>G=IK H D (.lst [])) rfl (λi σ G g _=>absurd g (FS _)) (λσ G e=>?_) (λi σ G y v N g _ _ _=>absurd g (FS _)) λσ G e=>?_
  .subst e;exact⟨[],IS.of o,rfl⟩
  .subst e;exact q D _ d (F1.new d) A9
theorem t6:IL ["marks", "sets", "held"] ["marks", "sets", "held"] (B7 LL):=KU
def Dr(C:A3):Sp:=λf H Q _=>∃(x c a:A3) (b:A1 Str) (A B:A1 Nat) (L m:Nat),f = [.ref x,.ref a,.int (m:Int)]/\IP C H x c b A B L/\H a=some (.lst [])/\(∀j,m.testBit j=true->j<b.length) /\
 ∀l (e:A1 SB) d,H l=none->Sm [c] H d->IP C d x c b A B L->d l=some (.lst (e.map λt=>V.ref t.1))->(∀t∈e,KO d t)->(e.map λt=>t.2.2) =(E5 A B b.length m).map (Gx b A B m)->Q (.ref l) d
theorem S9(T:Tx K mg):IU P w K mg base JE 5 T.al.f T.al.fd ["marks", "sets", "held"] (Dr T.ab):=by
 have b:IU P w K mg base JE 4 T.aI.f T.aI.fd ["marks", "sets", "held"] (By T.ab):=(Fv T).mono (by decide);refine T.al.F.o1 t6 λM A i s H vs Q E k h=>?_
 .obtain⟨x,c,a,n,A,B,L,m,rfl,r,G,N,q⟩:=h;have hu:=V6 k;refine⟨_,(B5 (C3 (C8 Qo (C9 T.aD (l0 T) (Rm k) (A8 (pv 0) (A8 (pv 2) B1))) (C9 T.aI b (Rm k) (A8 (pv 0) (A8 (pv 1) (A8 (pv 2) B1))))))),?_⟩;refine A6 rfl (A6 rfl ⟨x,c,n,A,B,L,m,rfl,r,N,λl e H1 hl u v O R I=>?_⟩);have z:=NK u G (O7 r G);refine A6 rfl (A6 rfl (A6 rfl ⟨x,c,a,n,A,B,L,m,rfl,v,z,λS U W d X=>?_⟩));have Y:e.length<=100:=by
   have J:=congrArg List.length (Ch I);unfold W1 E5 at J;rw[AB,AB]at J;have Z:=BM (λj=>@decide (n6 A m j/\¬n6 B m j) (Classical.propDecidable _)) (List.range n.length);rw[BZ]at Z;have:=r.len;lia
  refine⟨l,S,_,_,rfl,rfl,d _ _ O,X,by rw[AB,sizeLine_eq];show e.length+0<=_;lia,λp g=>?_⟩;rw[BU];have C:=F1.new (o:=.lst (e.map λt=>V.ref t.1)) g;have k3:Sm [c] H (IK U p (.lst (e.map λt=>V.ref t.1))):=u.trans (d.trans C).sm;have M3:=v.same (d.trans C);exact q p e _ ((u.trans (d.sm (D:=[c]))).none (λy=>by rw[AD.mp y]at g;exact y6 (v.same d) g) g) k3 M3 A9 (λt ht=>(R t ht).same (d.trans C)) I
end
def zHy{n:Nat}{a:A1 Nat}(b:a.Nodup)(h:∀m∈a,OC n m):a.length<=2^n:=by
 classical
 have c:a.Perm ((List.range (2^n)).filter λm=>decide (m∈a)):=(GZ b (CV.nodup HB)).mpr λm=>by
  rw[BC,CB,BN];exact⟨λz=>⟨(h m z).lt,z⟩,(·.2)⟩
 rw[c.length_eq];exact Nat.le_trans (BM _ _) (by rw[BZ];exact Nat.le_refl _)
structure Kn(kvs:A1 (JC×V))(n:Nat)(b:Nat->Prop)(W:Nat->A3->Prop):Prop where
 ks:∃ms:A1 Nat,(kvs.map λq=>q.1)=ms.map (λk:Nat=>(.inl (k:Int):JC))/\ms.Nodup/\∀k∈ms,OC n k
 vs:∀(k:Nat) v,U2 kvs (.inl (k:Int))=some v->(v = .non/\b k)\/∃r,v = .ref r/\W k r
def Kn.imp{a:A1 (JC×V)}{n:Nat}{b:Nat->Prop}{W c:Nat->A3->Prop}(h:Kn a n b W)(k:∀j r,W j r->c j r):Kn a n b c:=⟨h.ks,λj v e=>(h.vs j v e).imp id λ⟨r,e,w⟩=>⟨r,e,k _ _ w⟩⟩
def Kn.len{a:A1 (JC×V)}{n:Nat}{b:Nat->Prop}{W:Nat->A3->Prop}(h:Kn a n b W):a.length<=2^n:=by
 obtain⟨d,e,c,lo⟩:=h.ks;have:=congrArg List.length e;rw[AB,AB]at this;rw[this];exact zHy c lo
def Kn.put{d:A1 (JC×V)}{n k:Nat}{b g:Nat->Prop}{W:Nat->A3->Prop}{v:V}(h:Kn d n b W)(lo:OC n k)(w:(v = .non/\g k)\/∃r,v = .ref r/\W k r)(p:∀j,j≠k->b j->g j):Kn (Av d (.inl (k:Int)) v) n g W:=by
 refine⟨?_,λj u f=>?_⟩
 .obtain⟨i,e,m,o⟩:=h.ks;unfold Av;by_cases a:(d.any λs=>decide (s.1 =(.inl (k:Int):JC)))=true
  .rw[AL a];refine⟨i,?_,m,o⟩;rw[BL,<-e];refine HE λq _=>?_;show(if q.1 =(.inl (k:Int):JC)then(q.1,v)else q).1=q.1;split<;>rfl
  .rw[AJ a];refine⟨i ++ [k],by rw[AN,e,AN];rfl,DK.mpr ⟨m,GA _ _,λx t y A z=>a ?_⟩,λj f=>?_⟩
   .rw[AD.mp A]at z;subst z;have:(.inl (x:Int):JC)∈d.map λq=>q.1:=e▸AX.mpr ⟨x,t,rfl⟩;obtain⟨q,B,C⟩:=AX.mp this;exact List.any_eq_true.mpr ⟨q,B,BB C⟩
   .rcases AO.mp f with z | z
    .exact o j z
    .rw[AD.mp z];exact lo
 .rw[Aw]at f;by_cases c:(.inl (j:Int):JC) = .inl (k:Int)
  .rw[AL c]at f;cases f;have:j=k:=by
    have:=Sum.inl.inj c;lia
   rw[this];exact w
  .rw[AJ c]at f;exact(h.vs j u f).imp (λ⟨z,l⟩=>⟨z,p j (λz=>c (by rw[z])) l⟩) id
def Oz{C:A3}{H H':Hp}{x c:A3}{ns:A1 Str}{A B:A1 Nat}{L:Nat}(h:IP C H x c ns A B L)(k:∀b o,H b=some o->b≠c->(∀u,o≠ .tbl u)->H' b=some o)(r:Rd H' c (.dK (bK A ns.length))):IP C H' x c ns A B L:=by
 obtain⟨⟨m,a,b,d,n,f,g,p,q,j,s,l,i⟩,t,v,w,D⟩:=h;have E:x≠c:=λz=>by
  rw[z]at f;rcases j with e | ⟨o,e⟩<;>rw[f]at e<;>cases e
 have F:a≠c:=λz=>by
  rw[z]at g;rcases j with e | ⟨o,e⟩<;>rw[g]at e<;>cases e
 exact⟨⟨m,a,b,d,n,k _ _ f E (λ_ y=>by cases y),k _ _ g F (λ_ y=>by cases y),p.imp (λe=>k _ _ e i (λ_ y=>by cases y)) (λ⟨o,e⟩=>⟨o,k _ _ e i (λ_ y=>by cases y)⟩),q,r,k _ _ s l (λ_ y=>by cases y),l,i⟩,t,v,w,D⟩
def Ek{C:A3}{H:Hp}{x c:A3}{ns:A1 Str}{A B:A1 Nat}{L:Nat}(h:IP C H x c ns A B L):Rd H c (.dK (bK A ns.length)):=by
 obtain⟨⟨f,a,b,d,g,i,j,k,l,e,_⟩,_⟩:=h;exact e
def Ml{C:A3}{H G:Hp}{x c d p:A3}{ns:A1 Str}{A B:A1 Nat}{L:Nat}{ls:A1 (Pos×Str)}(h:IP C (Sw.er H d) x c ns A B L)(i:M5 H p ls)(k:Sm [c,p,d] H G)(r:Rd G c (.dK (bK A ns.length))):IP C (Sw.er G d) x c ns A B L:=by
 have a:d≠c:=λz=>y6 h (by unfold Sw.er;rw[AL z.symm]);refine Oz h (λb o e j l=>?_) (by unfold Rd;rw[Ob a.symm];exact r);have f:b≠d:=λz=>by subst z;unfold Sw.er at e;rw[AL rfl]at e;cases e
 rw[Ob f];have g:=Bt H d b o e;refine k b o g λz=>?_;rcases AK.mp z with z | z
 .exact j z
 rcases AK.mp z with z | z
 .exact Bx i g l z
 .exact f (AD.mp z)
def Mv{G a:Hp}{c p d:A3}{M:A1 (JC×V)}{ls:A1 (Pos×Str)}{f:A1 (JC×V)}(r:Rd G c (.dK M))(t:M5 G p ls)(e:G d=some (.dK f))(k:Sm [c,p,d] G a)(b:A3)(xs:A1 V)(h:G b=some (.tup xs)):a b=some (.tup xs):=k _ _ h λz=>by
 rcases AK.mp z with z | z
 .rw[z]at h;rcases r with e | ⟨o,e⟩<;>rw[h]at e<;>cases e
 rcases AK.mp z with z | z
 .exact Bx t h (λ_ y=>by cases y) z
 .rw[AD.mp z,e]at h;cases h
def V9(ns:A1 Str)(A B:A1 Nat)(L:Nat)(H:Hp)(m:Nat)(r:A3):Prop:=JM ns A B L H (Fg ns.length m) m r
def Nl(n m:Nat):∃f,Fg n m=f+1:=⟨n-(E4 m n).length,by have:=P5 m n;unfold Fg;lia⟩
section
variable{P:A7}{w:F8}{K:PySem.W.Frag}{mg:Str->A5 A2}{base:IM}
theorem LY:IL ["marks", "splits_at", "sets", "held", "known", "head", "added", "trees"] ["marks", "splits_at", "sets", "held", "known"] (B7 PK):=KU
def Fb(C i f:A3)(k:Nat):Sp:=λn H Q _=>∃(x c a d:A3) (b:A1 Str) (A B:A1 Nat) (L m:Nat) (h:A1 (JC×V)) (l:Nat->Prop),n = [.ref x,.ref f,.ref a,.int (m:Int),.ref d]/\IP C (Sw.er H d) x c b A B L/\OC b.length m/\b.length<=12/\M5 H i C1/\H a=some (.lst [])/\H d=some (.dK h)/\(∀j,l j->j<m)/\Kn h b.length l (V9 b A B L H)/\b.length<k +(E4 m b.length).length/\Q0 A B b.length L k m=none /\
 ∀(r:A3) (e:A1 (JC×V)) g,Sm [c,i,d] H g->Rd g c (.dK (bK A b.length))->M5 g i C1->g d=some (.dK e)->Kn e b.length l (V9 b A B L g)->V9 b A B L g m r->Q (.ref r) g
set_option maxHeartbeats 4000000 in
theorem Mh(T:Tx K mg)(hB:base.BuiltinsAt mg T.aa){n k:Nat}{f:A3}{fd:JA}{S:Sp}(h1:7<=n)(U:IU P w K mg base JE n f fd ["marks", "sets", "held"] (Dr T.ab))(J:PySem.W.keepIn K (.ref f)=true)(M:Binds K fd ["marks", "sets", "held"] [])
  (G_tree_at:IU P w K mg base JE n T.aA.f T.aA.fd ["marks", "splits_at", "sets", "held", "known"] S) (hS:∀k',k=k'+1->S=Fb T.ab T.aa f k') :
  IU P w K mg base JE (n+1) T.aA.f T.aA.fd ["marks", "splits_at", "sets", "held", "known"] (Fb T.ab T.aa f k):=by
 have Y:IU P w K mg base JE n T.aB.f T.aB.fd ["marks", "held"] (Fl T.ab):=(Bf T).mono (by lia);have O:IU P w K mg base JE n T.au.f T.au.fd ["marks", "held", "splits"] (Ku T.ab T.aa):=(q9 T hB).mono h1;have C:IU P w K mg base JE n T.ac.f T.ac.fd ["self", "some"] (u9 T.ab):=(E6 T).mono (by lia);refine T.aA.F.o1 LY λcdv A outer s H vs Q E hr h=>?_
 .obtain⟨x,c,a,d,g,A,B,L,m,kvs,bp,rfl,hR,lo,l12,hT,ha,hd,hbp,hK,hk,hs,q⟩:=h;have hu:=V6 hr;refine⟨_,(B4 (M9 (zCt (Sv hu (pv 3) (pv 4))) (B5 (Rr hu (pv 4) (pv 3) (C9 T.aB Y (hr.mono (Nat.le_refl _)) (A8 (pv 0) (A8 (pv 3) B1))) rfl)) D4)
   (B4 (M9 (D6 Xg (K3 hu (pv 4) (pv 3) (λ_ _=>rfl)) d6 (E9 _)) (B4 (Ac (C9 T.au O (hr.mono (Nat.le_refl _)) (A8 (pv 0) (A8 (pv 3) (A8 (Vq (i:=1) U (hr.mono (Nat.le_refl _)) J M J9 (A8 (pv 0) (A8 (pv 2) (A8 (pv 3) B1)))) B1)))) (QT K (n:=2) (C5 (C7 (i:=5) LY.nd rfl (.inl rfl)) (C5 (C7 (i:=6) LY.nd rfl (.inl rfl)) P9))))
   (B4 (j0 (i:=7) (N':=["bit", "marks", "splits_at", "sets", "known", "held"]) (cap:=[none,some 0,some 1,some 2,some 4,some 3]) (cl:=[("splits_at",_),("sets",_),("marks",_),("known",_),("held",_)]) LY.nd rfl (.inl rfl) (P8 ⟨⟨rfl,rfl,rfl,rfl⟩,⟨⟨rfl,rfl,rfl,rfl⟩,⟨⟨rfl,rfl,rfl,rfl⟩,⟨⟨rfl,rfl,rfl,rfl⟩,⟨⟨rfl,rfl,rfl,rfl⟩,trivial⟩⟩⟩⟩⟩ ⟨rfl,⟨rfl,⟨rfl,⟨rfl,⟨rfl,trivial⟩⟩⟩⟩⟩) rfl (MZ K (D8 (pv 0) T.ad T.ac.m C (hr.mono (Nat.le_refl _)) T.ac.b .nil J9 (A8 (pv 6) B1))) (λ_ _ _ _=>by exact⟨(MN 0),J8,(C9 T.aA G_tree_at (hr.mono (Nat.le_refl _)) (@A8 _ _ _ _ _ (pv 1) (@A8 _ _ _ _ _ (pv 2) (@A8 _ _ _ _ _ (pv 3) (@A8 _ _ _ _ _ (C8 Ar (pv 5) (pv 0)) (@A8 _ _ _ _ _ (pv 4) B1 (by rfl)) (by rfl)) (by rfl)) (by rfl)) (by rfl)))⟩))
   (B5 (Rr hu (pv 4) (pv 3) (C8 (Yn K) (pv 5) (E3 (A8 (Hq (Wo K) T.aN S8 (A8 (pv 7) B1)) B1))) rfl)))) D4)
   (B5 (C3 (K3 hu (pv 4) (pv 3) (λ_ _=>rfl)))))),?_⟩
  obtain⟨k',rfl⟩:∃k',k=k'+1:=⟨k-1,by have:=P5 m g.length;lia⟩;have eS:=hS k' rfl;subst eS;have p12:2^g.length<=2^12:=Nat.pow_le_pow_right (by decide) l12;have hM:=hR.same (Bt H d);have ndc:d≠c:=λz=>y6 hR (by unfold Sw.er;rw[AL z.symm]);have up:∀{G X:Hp},Sm [c] G X->Sm [c,T.aa,d] G X:=λk b o e n=>k b o e λz=>n (by rw[AD.mp z];exact .head _);have upd_:∀{G:Hp} {o:HO},Sm [c,T.aa,d] G (IK G d o):=fun{G o} b u e n=>by
   rw[B6 λz=>n (by rw[z];exact .tail _ (.tail _ (.head _)))];exact e
  have tabU:∀{G:Hp} {o:HO} {R:A1 (JC×V)},G d=some (.dK R)->M5 G T.aa C1->M5 (IK G d o) T.aa C1:=fun{G o R} e h=>by
   obtain⟨ps,e1,t,h2⟩:=h;exact⟨ps,(B6 (S7 e1 e (by intro y;cases y))).trans e1,t,λl hl=>(h2 l hl).imp id λ⟨cc,e,hc⟩=>⟨cc,e,(B6 (S7 hc (by assumption) (by intro y;cases y))).trans hc⟩⟩
  have rdU:∀{G:Hp} {o:HO},Rd G c (.dK (bK A g.length))->Rd (IK G d o) c (.dK (bK A g.length)):=fun{G o} r=>by unfold Rd;rw[B6 ndc.symm];exact r
  refine B9 λN1 hN1=>?_;have key:∀(G:Hp) (R:A1 (JC×V)) (v:V),Sm [c,T.aa,d] H G->Rd G c (.dK (bK A g.length))->M5 G T.aa C1->G d=some (.dK R)->Kn R g.length (λj=>bp j\/j=m) (V9 g A B L G)->U2 R (.inl (m:Int))=some v->((v = .non/\¬Q6 B m)\/∃r,v = .ref r/\V9 g A B L G m r)->N1 [some (.ref x),some (.ref f),some (.ref a),some (.int (m:Int)),some (.ref d),none,none,none] G:=by
   intro G R v kG rG TG ed KG ev hv;refine hN1 _ _ (B9 λN2 hN2=>?_);have get:∀{G:Hp} {R:A1 (JC×V)} {v:V},G d=some (.dK R)->U2 R (.inl (m:Int))=some v->MM G d (.int (m:Int)) (some v):=fun{G R v} e h=>.inl ⟨R,.inl (m:Int),.inl e,rfl,h.symm⟩;have fin:∀(G:Hp) (R:A1 (JC×V)) (r:A3) (v5 v6 v7:A5 V),Sm [c,T.aa,d] H G->Rd G c (.dK (bK A g.length))->M5 G T.aa C1->G d=some (.dK R)->Kn R g.length bp (V9 g A B L G)->U2 R (.inl (m:Int))=some (.ref r)->V9 g A B L G m r->N2 [some (.ref x),some (.ref f),some (.ref a),some (.int (m:Int)),some (.ref d),v5,v6,v7] G:=λG R r v5 v6 v7 kG rG TG ed KG ev tr=>hN2 _ _ (A6 rfl (A6 rfl ⟨d,_,rfl,get ed ev,q r R G kG rG TG ed KG tr⟩));refine A6 rfl (A6 rfl ⟨d,v,rfl,get ed ev,?_⟩);rcases hv with⟨rfl,nc⟩ | ⟨r,rfl,tr⟩;rotate_left
   .refine⟨rfl,_,rfl,V0 (λz=>absurd z (by simp)) λ_=>fin G R r _ _ _ kG rG TG ed ⟨KG.ks,λj u hj=>?_⟩ ev tr⟩;rcases KG.vs j u hj with⟨e,l | rfl⟩ | h
    .exact .inl ⟨e,l⟩
    .rw[ev,e]at hj;cases hj
    .exact .inr h
   refine⟨rfl,_,rfl,V0 (λ_=>?_) λz=>absurd (by simp) z⟩;have MeG:=Ml hR hT kG rG;have MG:=MeG.same (Bt G d);have ne3:∀{b:A3} {I:A1 V},H b=some (.lst I)->b∉[c,T.aa,d]:=fun{b I} e z=>by
    rcases AK.mp z with z | z
    .exact O7 hM e z
    rcases AK.mp z with z | z
    .exact Bx hT e (λ_ y=>by cases y) z
    .rw[AD.mp z,hd]at e;cases e
   have haG:=kG _ _ ha (ne3 ha);have dne:E5 A B g.length m≠[]:=λz=>by
    unfold Q0 at hs;rw[AJ nc,AL z]at hs;cases hs
   have kids:∀j∈E4 (O1 A B g.length L m) g.length,Q0 A B g.length L k' (m ||| 2^j)=none:=by
    unfold Q0 at hs;rw[AJ nc,AJ dne]at hs;exact DG.mp hs
   refine B9 λN3 hN3=>?_;refine A6 rfl (A6 rfl ⟨rfl,A6 rfl (A6 rfl (A6 rfl ⟨x,c,a,g,A,B,L,m,rfl,MG,haG,lo,λl ts H2 hl k2 M2 el aS mS=>?_⟩))⟩);have T2:=o0 TG MG k2;have hne:ts≠[]:=λz=>dne (EM.mp (show(E5 A B g.length m).map _ = []from mS.symm.trans (by rw[z];rfl)));have mT:=Ch mS;refine⟨x,c,l,g,A,B,L,m,ts,rfl,M2,el,hne,aS,T2,λH3 k3 M3 T3 S3=>?_⟩;have hb:=p9 (A:=A) (B:=B) (n:=g.length) (L:=L) (m:=m) (ads:=ts.map λt=>t.2.2.2) (λz=>hne (EM.mp z));rw[AB]at hb;have hb2:=AC hb;generalize hbi:W0 A B g.length L m (ts.map λt=>t.2.2.2)=bi at hb hb2⊢;generalize hti:ts[bi]=t at hb2;have ej:t.2.2=Gx g A B m (QU g A B L m):=by
    have h1:=congrArg (λl=>l[bi]?) mS;rw[AH,hb2,AH,HL]at h1;obtain⟨j,hj,ej⟩:=AQ.mp h1.symm;unfold QU;rw[<-mT,hbi,AY,hj];exact ej.symm
   have ead:O1 A B g.length L m=t.2.2.2:=by rw[(Ta dne).2,ej];rfl
   have ek:E4 t.2.2.2 g.length=Z9 g A B L m:=by rw[ej];rfl
   have ev2:(ts.map λt=>V.ref t.1).getD bi .non = .ref t.1:=by rw[AY,AH,hb2];rfl
   rw[ev2];obtain⟨et,eh,lh⟩:=S3 t (AI hb2);refine⟨t.1,_,rfl,JJ.of et,rfl,_,_,rfl,_,_,rfl,rfl,?_⟩;rw[ead]at kids;refine hN3 _ _ (B9 λN4 hN4=>?_);obtain⟨dx,a',b,d',kb,e1,_⟩:=M3.ex;refine A6 rfl ⟨x,dx,A6 rfl ⟨e1,rfl,A6 rfl ⟨x,c,g,A,B,L,t.2.2.2,rfl,M3,λD H4 hD k4 M4 eD=>?_⟩⟩⟩;have T4:=o0 T3 M3 k4;have up2:∀{G X:Hp},Sm [c,T.aa] G X->Sm [c,T.aa,d] G X:=λk b o e n=>k b o e λz=>n (by
    rcases AK.mp z with z | z
    .rw[z];exact .head _
    .rw[AD.mp z];exact .tail _ (.head _))
   have kG4:Sm [c,T.aa,d] G H4:=((up k2).trans (up2 k3)).trans (up k4);have ed4:H4 d=some (.dK R):=by
    have nd2:d∉[c]:=λz=>ndc (AD.mp z);have ndp:d≠T.aa:=Bx TG ed λ_ y=>by cases y
    exact k4 _ _ (k3 _ _ (k2 _ _ ed nd2) (by simp[ndc,ndp])) nd2
   have rd4:=Ek M4;have nDc:=O7 M4 eD;have nDp:=Bx T4 eD λ_ y=>by cases y
   have nDd:D≠d:=S7 eD ed4 (by intro y;cases y);have eh4:=NK k4 eh (Y3 M3 eh);have nhc:=Y3 M4 eh4;have nhp:=Bx T4 eh4 λ_ y=>by cases y
   have nhd:t.2.1≠d:=S7 eh4 ed4 (by intro y;cases y);refine⟨D,rfl,⟨_,IS.of eD⟩,λZ hZ=>?_⟩;have nZc:c≠Z:=λz=>by
    rcases rd4 with e | ⟨o,e⟩<;>rw[z,hZ]at e<;>cases e
   have nZd:d≠Z:=B3 ed4 hZ;have kH4:Sm [c,T.aa,d] H H4:=kG.trans kG4;have sZ:=F1.new (o:=.lst []) hZ;have lb:(E4 t.2.2.2 g.length).length<=12:=Nat.le_trans (P5 ..) l12;refine S5 (MY (IS.of eD)) (λi σ X=>(∃v0,σ = [v0,some (.ref x),some (.ref f),some (.ref a),some (.ref d),some (.int (m:Int))])/\Sm [c,T.aa,d] H4 X/\Rd X c (.dK (bK A g.length))/\M5 X T.aa C1/\(∃rs:A1 A3,rs.length=i/\X Z=some (.lst (rs.map V.ref))/\∀(i' j:Nat) r,(E4 t.2.2.2 g.length)[i']?=some j->rs[i']?=some r->V9 g A B L X (m ||| 2^j) r)/\∃kv',X d=some (.dK kv')/\Kn kv' g.length (λj=>bp j\/j=m) (V9 g A B L X)) ⟨⟨_,rfl⟩,sZ.sm,rd4.imp (sZ _ _) (λ⟨o,e⟩=>⟨o,sZ _ _ e⟩),o0 T4 M4 (sZ.sm (D:=[c])),⟨[],rfl,A9,λi' j r _ h=>by cases h⟩,R,sZ _ _ ed4,KG.imp λj r h=>JM.keep (λb I e=>sZ _ _ (Mv rG TG ed kG4 b I e)) h⟩ (λi σ X _ h o e=>by rw[eD]at e;cases e;exact h.2.1 _ _ eD (by simp[nDc,nDp,nDd])) ?_ ?_
   .rintro i σ X y N hx ⟨⟨v0,rfl⟩,kG',rG',TG',⟨rs,lrs,eZ,tZ⟩,kv',ed',K'⟩ hN;have li:=(AE.mp hx).1;rw[AB]at li;rw[AH]at hx;obtain⟨j,hj,rfl⟩:=AQ.mp hx;have mj:=AI hj;obtain⟨hjn,hjb⟩:=JO.mp mj;have hjm:=(o8 (L:=L) hM.net dne (by rw[ead];exact hjb)).2;have gt:m<m ||| 2^j:=GI Nat.left_le_or λz=>hjm (by
     have:=(X1 m j j).mpr (.inr rfl);rw[<-z]at this;exact this)
    refine o9 ?_;refine A6 rfl (A6 rfl (A6 rfl (A6 rfl (A6 rfl (C0 rfl rfl ?_)))));dsimp only;rw[QZ];have kHG':=kH4.trans kG';refine A6 rfl ⟨x,c,a,d,g,A,B,L,m ||| 2^j,kv',_,rfl,Ml hR hT kHG' rG',lo.or hjn,l12,TG',kHG' _ _ ha (ne3 ha),ed',λi hi=>?_,K',by rw[Gb hjm,AL hjn];lia,kids j mj,λr kv2 G2 k2' r2 T2' ed2 K2 tr2=>?_⟩
    .rcases hi with h | rfl
     .exact Nat.lt_trans (hbp i h) gt
     .exact gt
    have nZ3:Z∉[c,T.aa,d]:=λz=>by
     rcases AK.mp z with z | z
     .exact nZc z.symm
     rcases AK.mp z with z | z
     .obtain⟨ps,e,_⟩:=T4;rw[<-z,hZ]at e;cases e
     .exact nZd (AD.mp z).symm
    have eZ2:=k2' _ _ eZ nZ3;have kZ:∀b I,G2 b=some (.tup I)->(L2.IK G2 Z (.lst (rs.map V.ref ++ [V.ref r]))) b=some (.tup I):=λb I e=>(B6 (S7 e eZ2 (by intro y;cases y))).trans e;refine⟨_,eZ2,by rw[AB,sizeLine_eq];lia,hN _ _ ⟨⟨_,rfl⟩,λb o e n=>?_,?_,?_,⟨rs ++ [r],by rw[AW,lrs];rfl,by rw[A9,AN];rfl,λi' j' r' h1 h2=>?_⟩,kv2,by rw[B6 nZd];exact ed2,K2.imp λj r h=>JM.keep kZ h⟩⟩
    .rw[B6 (B3 e hZ)];exact(kG'.trans k2') b o e n
    .unfold Rd;rw[B6 nZc];exact r2
    .obtain⟨ps,e1,tr,h2⟩:=T2';exact⟨ps,(B6 (S7 e1 eZ2 (by intro y;cases y))).trans e1,tr,λl hl=>(h2 l hl).imp id λ⟨cc,e,hc⟩=>⟨cc,e,(B6 (S7 hc eZ2 (by intro y;cases y))).trans hc⟩⟩
    .rcases Nat.lt_or_ge i' rs.length with c1 | c1
     .rw[EA c1]at h2;exact JM.keep (λb I e=>kZ b I (Mv rG' TG' ed' k2' b I e)) (tZ i' j' r' h1 h2)
     .rw[DW c1]at h2;have e0:i' - rs.length=0:=by
       have:=(AE.mp h2).1;simp at this;lia
      rw[e0]at h2;cases h2;have ei:i'=i:=by lia
      rw[ei,hj]at h1;cases h1;exact JM.keep kZ tr2
   .rintro σ X ⟨_,kG',rG',TG',⟨rs,lrs,eZ,tZ⟩,kv',ed',K'⟩;rw[AB]at lrs;refine hN4 _ _ ?_;have eh5:=kG' _ _ eh4 (by simp[nhc,nhp,nhd]);refine A6 rfl (A6 rfl ⟨Z,_,rfl,.inl ⟨IS.of eZ,λl2 hl2=>?_⟩⟩);refine⟨by show 1<=sizeLine;decide,λp hp=>?_⟩;have u1:=F1.new (o:=.tup (rs.map V.ref)) hl2;have u2:=F1.new (o:=.tup [.ref l2]) hp;have s12:=u1.trans u2;have eh6:=s12 _ _ eh5;have el2:=u2 _ _ (show(IK X l2 (.tup (rs.map V.ref))) l2=some (.tup (rs.map V.ref))from A9);have last:∀(G2:Hp) (r:A3),F1 (IK (IK X l2 (.tup (rs.map V.ref))) p (.tup [.ref l2])) G2->G2 r=some (.tup (t.2.2.1.map V.str ++ [.ref l2]))->∃H5,zEp G2 d (.int (m:Int)) (.ref r) H5/\∀v5 v6 v7,N2 [some (.ref x),some (.ref f),some (.ref a),some (.int (m:Int)),some (.ref d),v5,v6,v7] H5:=λG2 r sG2 er=>by
     have sG:=s12.trans sG2;have ed2:=sG _ _ ed';have kd:∀{o:HO} b I,G2 b=some (.tup I)->(L2.IK G2 d o) b=some (.tup I):=fun{o} b I e=>(B6 (S7 e ed2 (by intro y;cases y))).trans e;have trm:∀{o:HO},V9 g A B L (L2.IK G2 d o) m r:=fun{o}=>by
      obtain⟨f,ef⟩:=Nl g.length m;unfold V9;rw[ef];refine .inr ⟨nc,dne,l2,rs,kd _ _ (by rw[er,ej];rfl),kd _ _ (sG2 _ _ el2),by rw[lrs,ek],λi j r' h1 h2=>?_⟩;have hf:=Wa (L:=L) hM.net lo dne (AI h1);have h3:=tZ i j r' (by rw[ek];exact h1) h2;unfold V9 at h3;rw[show Fg g.length (m ||| 2^j)=f by lia]at h3;exact h3.keep λb I e=>kd b I (sG _ _ e)
     refine⟨_,.inl ⟨kv',.inl (m:Int),ed2,rfl,by have:=K'.len;rw[sizeLine_eq];lia,rfl⟩,λv5 v6 v7=>?_⟩;refine fin _ _ r v5 v6 v7 ((kH4.trans kG').trans (sG.sm.trans upd_)) (rdU (rG'.imp (sG _ _) λ⟨o,e⟩=>⟨o,sG _ _ e⟩)) (tabU ed2 ?_) A9 ((K'.imp λj r h=>JM.keep (λb I e=>kd b I (sG _ _ e)) h).put lo (.inr ⟨r,rfl,trm⟩) λj nj hj=>hj.resolve_right nj) (by rw[Aw,AL rfl]) trm;obtain⟨ps,e1,tr,h2⟩:=TG';exact⟨ps,sG _ _ e1,tr,λl hl=>(h2 l hl).imp id λ⟨cc,e,hc⟩=>⟨cc,e,sG _ _ hc⟩⟩
    refine⟨t.2.1,p,_,_,rfl,rfl,JJ.of eh6,JJ.of A9,List.cons_ne_nil _ _,by rw[AB,sizeLine_eq];show t.2.2.1.length+1<=_;lia,λz=>absurd z (by rw[ej];exact List.cons_ne_nil _ _),λ_ z hz=>?_⟩
    .obtain⟨H5,hp5,hn⟩:=last _ z (F1.new hz) A9;exact A6 rfl (A6 rfl ⟨d,H5,rfl,hp5,hn _ _ _⟩)
  have kn1:Kn kvs g.length (λj=>bp j\/j=m) (V9 g A B L H):=⟨hK.ks,λj u hj=>(hK.vs j u hj).imp (λh=>⟨h.1,.inl h.2⟩) id⟩;refine A6 rfl (A6 rfl ⟨d,_,rfl,.inl ⟨kvs,.inl (m:Int),.inl hd,rfl,rfl⟩,?_⟩);refine⟨_,rfl,V0 (λz=>?_) λz=>?_⟩
  .have putd:∀(H1:Hp) (v:V),Sm [c] H H1->IP T.ab H1 x c g A B L->((v = .non/\¬Q6 B m)\/∃r,v = .ref r/\V9 g A B L H1 m r)->∃H5,zEp H1 d (.int (m:Int)) v H5/\N1 [some (.ref x),some (.ref f),some (.ref a),some (.int (m:Int)),some (.ref d),none,none,none] H5:=λH1 v k1 M1 hv=>by
    have ed1:=NK k1 hd ndc;have kd:∀{o:HO} b I,H1 b=some (.tup I)->(L2.IK H1 d o) b=some (.tup I):=fun{o} b I e=>(B6 (S7 e ed1 (by intro y;cases y))).trans e;have hv2:∀{o:HO},(v = .non/\¬Q6 B m)\/∃r,v = .ref r/\V9 g A B L (L2.IK H1 d o) m r:=fun{o}=>hv.imp id λ⟨r,e,h⟩=>⟨r,e,JM.keep kd h⟩;refine⟨_,.inl ⟨kvs,.inl (m:Int),ed1,rfl,by have:=hK.len;rw[sizeLine_eq];lia,rfl⟩,?_⟩;exact key _ _ v ((up k1).trans upd_) (rdU (Ek M1)) (tabU ed1 (o0 hT hM k1)) A9 ((kn1.imp λj r h=>JM.keep (λb I e=>kd b I (NK k1 e (Y3 hM e))) h).put lo (hv2.imp (λh=>⟨h.1,.inr rfl⟩) id) λj _ h=>h) (by rw[Aw,AL rfl]) hv2
   refine A6 rfl (A6 rfl ⟨x,c,g,A,B,L,m,rfl,hM,lo,λH1 k1 M1=>⟨λnc=>?_,λa' cl _ et=>?_⟩⟩)
   .obtain⟨H5,hp,hn⟩:=putd H1 .non k1 M1 (.inl ⟨rfl,λ⟨j,h1,h2⟩=>nc j h1 h2⟩);exact A6 rfl (A6 rfl ⟨d,H5,rfl,hp,hn⟩)
   .obtain⟨H5,hp,hn⟩:=putd H1 (.ref a') k1 M1 (.inr ⟨a',rfl,by obtain⟨f,ef⟩:=Nl g.length m;unfold V9;rw[ef];exact .inl ⟨cl,et⟩⟩);exact A6 rfl (A6 rfl ⟨d,H5,rfl,hp,hn⟩)
  .cases hv:U2 kvs (.inl (m:Int))with
   | none =>
    rw[hv]at z;exact absurd rfl z
   | some v =>
    refine key H kvs v (Sm.refl _ _) (Ek hM) hT hd kn1 hv ?_;rcases hK.vs m v hv with⟨_,l⟩ | h
    .exact absurd (hbp m l) (CU _)
    .exact .inr h
theorem Dn(T:Tx K mg)(a:base.BuiltinsAt mg T.aa):∀k,IU P w K mg base JE (8+k) T.aA.f T.aA.fd ["marks", "splits_at", "sets", "held", "known"] (Fb T.ab T.aa T.al.f k)
 | 0=>Mh (n:=7) T a (by decide) ((S9 T).mono (by decide)) T.al.F.kp T.al.b (S:=λ_ _ _ _=>False) ⟨λ_ _ _ _ h=>h.elim,λ_ _ _ _ _ _ _ _ _ _ _ _ _ h=>h.elim⟩ λc e=>by lia
 | k+1=>Mh (n:=8+k) T a (by lia) ((S9 T).mono (by lia)) T.al.F.kp T.al.b (Dn T a k) λc e=>by cases e;rfl
end
def MB.one{ns:A1 Str}{ks:A1 (Str×Str)}{A a:A1 Nat}(h:MB ns ks A)(h':MB ns ks a)(i:Nat):A.getD i 0=a.getD i 0:=BS λj=>CC.mpr ((h.bit i j).trans (h'.bit i j).symm)
section
variable{A A' B B':A1 Nat}{n L L':Nat}
theorem i5(h:∀i,A.getD i 0=A'.getD i 0):n6 A=n6 A':=funext λm=>funext λj=>by unfold n6;simp only[h]
theorem Y5(a:∀i,A.getD i 0=A'.getD i 0)(b:∀i,B.getD i 0=B'.getD i 0):E5 A B=E5 A' B':=funext λn=>funext λm=>by unfold E5;rw[i5 a,i5 b]
theorem Tm(a:∀i,A.getD i 0=A'.getD i 0)(b:∀i,B.getD i 0=B'.getD i 0):W1 A B=W1 A' B':=funext λn=>funext λm=>by unfold W1;rw[Y5 a b];exact HE λj _=>a j
theorem Mj(a:∀i,A.getD i 0=A'.getD i 0)(b:∀i,B.getD i 0=B'.getD i 0):Jm A B=Jm A' B':=funext λn=>funext λl=>funext λm=>funext λad=>by unfold Jm Hh;rw[i5 a,i5 b]
theorem Sb(a:∀i,A.getD i 0=A'.getD i 0)(b:∀i,B.getD i 0=B'.getD i 0):O1 A B=O1 A' B':=funext λn=>funext λl=>funext λm=>by unfold O1 W0;rw[Tm a b,Mj a b]
theorem Gp(b:∀i,A.getD i 0=A'.getD i 0)(a:∀i,B.getD i 0=B'.getD i 0):∀k,Q0 A B n L k=Q0 A' B' n L k
 | 0=>rfl
 | k+1=>funext λm=>by
  unfold Q0;rw[Gp b a k,Sb b a,Y5 b a,show Q6 B=Q6 B' from funext λm=>by unfold Q6;rw[i5 a]]
theorem Pr(a:∀i,B.getD i 0=B'.getD i 0):Q6 B=Q6 B':=funext λm=>by unfold Q6;rw[i5 a]
end
section
variable{ns:A1 Str}{A A' B B':A1 Nat}{L m:Nat}
theorem Us(a:∀i,B.getD i 0=B'.getD i 0):S_ ns B m=S_ ns B' m:=by unfold S_;rw[i5 a]
theorem Zq(a:∀i,A.getD i 0=A'.getD i 0)(b:∀i,B.getD i 0=B'.getD i 0):QU ns A B L m=QU ns A' B' L m:=by unfold QU W0;rw[Y5 a b,Tm a b,Mj a b]
theorem Mg{H:Hp}(b:∀i,A.getD i 0=A'.getD i 0)(a:∀i,B.getD i 0=B'.getD i 0):∀k,JM ns A B L H k=JM ns A' B' L H k
 | 0=>rfl
 | k+1=>funext λm=>funext λr=>by
  unfold JM Z9 UA T_ anA;rw[Mg b a k,Pr a,Us a,Y5 b a,Zq b a];simp only[b,a]
end
section
variable{P:A7}{w:F8}{K:PySem.W.Frag}{mg:Str->A5 A2}{base:IM}
theorem JX:IL ["web", "some", "marks", "held", "found"] ["web", "some"] (B7 MD):=KU
def Ph(K:PySem.W.Frag)(h d:A3):Sp:=λi H Q _=>∃(g a:A3) (b:A1 Str) (f:A1 JV) (e:A1 Str) (A B:A1 Nat) (L m:Nat),i = [.ref g,.ref a]/\KD h H g b f/\b.length<=12/\RP K H a (e.map V.str)/\(∀y∈e,y∈b)/\e.Nodup/\e.length<=100/\M5 H d C1 /\
 MB b ((f.map λq=>q.2).map λk=>(k.2,k.1)) A/\MB b (f.map λq=>q.2) B/\(∀j,L.testBit j=true↔(A.getD j 0).testBit j=true)/\OC b.length m/\(∀(j:Nat) y,b[j]?=some y->(m.testBit j=true↔y∈e)) /\
  (∀r,Q0 A B b.length L 13 m=some r->∀t l c,Sm [d] H c->M5 c d C1->H t=none->H l=none->c t=some (.tup [.str "told",.ref l])->c l=some (.lst ((LH b r).map V.str))->Q (.ref t) c) /\
  (Q0 A B b.length L 13 m=none->∀t l c,Sm [d] H c->M5 c d C1->H t=none->c t=some (.tup [.str "none",.ref l])->V9 b A B L c m l->Q (.ref t) c)
set_option maxHeartbeats 4000000 in
theorem Am(T:Tx K mg)(hB:base.BuiltinsAt mg T.aa):IU P w K mg base JE 22 T.ay.f T.ay.fd ["web", "some"] (Ph K T.ag T.aa):=by
 have g:IU P w K mg base JE 21 T.an.f T.an.fd ["marks", "held"] (Ax T.ab T.aa 13):=V4 T hB 13;have q:IU P w K mg base JE 21 T.aA.f T.aA.fd ["marks", "splits_at", "sets", "held", "known"] (Fb T.ab T.aa T.al.f 13):=Dn T hB 13;refine T.ay.F.o1 JX λcdv A Z s H vs Q E M h=>?_
 .obtain⟨wb,a,D,qs,ss,A0,B0,L0,m0,rfl,hW,l12,ha,sub,nd,len,hT,mA0,mB0,hL0,lo0,hm0,q1,q2⟩:=h;refine⟨_,(B4 (C6 (i:=2) JX.nd rfl (.inl rfl) (Ps T.bI (Ej T) (Rm M) rfl T.bH T.bt .nil J9 (A8 (pv 0) B1)))
   (B4 (C6 (i:=3) JX.nd rfl (.inl rfl) (D8 (pv 2) T.ad T.aE.m (Bm T) (Rm M) T.aE.b .nil J9 (A8 (pv 1) B1)))
   (B4 (C6 (i:=4) JX.nd rfl (.inl rfl) (C9 T.an g (Rm M) (A8 (pv 2) (A8 (pv 3) B1))))
   (B4 (M9 (D6 Fu (pv 4) d6 (E9 _)) (B5 (C3 (E3 (A8 U5 (A8 (D8 (pv 2) T.ad T.ar.m (T9 T) (Rm M) T.ar.b .nil J9 (A8 (pv 4) B1)) B1))))) D4)
   (B5 (C3 (E3 (A8 U5 (A8 (C9 T.aA q (Rm M) (@A8 _ _ _ _ _ (pv 2) (@A8 _ _ _ _ _ (zEv T.al.m) (@A8 _ _ _ _ _ (Q5 B1) (@A8 _ _ _ _ _ (pv 3) (@A8 _ _ _ _ _ Uy B1 (by rfl)) (by rfl)) (by rfl)) (by rfl)) (by rfl))) B1))))))))),?_⟩
  have p:∀{G G':Hp},F1 G G'->M5 G T.aa C1->M5 G' T.aa C1:=fun{G G'} k ⟨ps,e,t,h⟩=>⟨ps,k _ _ e,t,λl hl=>(h l hl).imp id λ⟨c,e,hc⟩=>⟨c,e,k _ _ hc⟩⟩;refine B9 λN1 hN1=>?_;refine A6 rfl ?_;intro x dx nx ndx nex;have s0:F1 H (IK (IK H dx (.own x)) x (.ins T.ab dx [])):=λb o e=>by
   rw[B6 (B3 e nx),B6 (B3 e ndx)];exact e
  refine⟨x,dx,wb,D,qs,rfl,A9,hW.same s0,λc A B L H1 hc k1 V mA mB=>⟨rfl,?_⟩⟩;have s1:F1 H H1:=λb o e=>k1 b o (s0 b o e) (by simpa using B3 e nx);have N:H c=none:=s0.free hc;refine hN1 _ _ (B9 λN2 hN2=>?_);obtain⟨dx1,a1,b1,d1,kb1,e1,_⟩:=V.ex;refine A6 rfl ⟨x,dx1,A6 rfl ⟨e1,rfl,A6 rfl ⟨x,c,a,D,A,B,L,ss,rfl,V,(s1.at a).seq ha,sub,nd,len,λm H2 s2 lo hm=>?_⟩⟩⟩;have M2:=V.same s2;have T2:=p (s1.trans s2) hT;refine hN2 _ _ (B9 λN3 hN3=>?_);refine A6 rfl (A6 rfl ⟨x,c,D,A,B,L,m,rfl,M2,lo,T2,by lia,λH3 k3 M3 W=>?_⟩);have eA:∀i,A0.getD i 0=A.getD i 0:=λi=>mA0.one mA i;have eB:∀i,B0.getD i 0=B.getD i 0:=λi=>mB0.one mB i;have eL:L=L0:=(BS λj=>CC.mpr ((hL0 j).trans (by rw[eA j];exact(V.loops j).symm)):L0=L).symm;have em:m=m0:=Eq.symm <| BS λj=>by
   by_cases X:j<D.length
   .exact CC.mpr ((hm0 j _ (AC X)).trans (hm j _ (AC X)).symm)
   .rw[DB.mpr λz=>X (lo0 j z),DB.mpr λz=>X (lo j z)]
  subst eL em;rw[Gp eA eB]at q1 q2;have C:Sm [T.aa] H H3:=λb o e n=>k3 b o (s2 _ _ (s1 _ _ e)) λz=>by
   rcases AK.mp z with z | z
   .rw[z,N]at e;cases e
   .exact n z
  have u:∀{G:Hp} {z:A3},Sm [T.aa] H G->M5 G T.aa C1->G z=none->H z=none:=fun{G z} k t O=>k.none (λy=>by
   obtain⟨ps,e,_⟩:=t;rw[AD.mp y,e]at O;cases O) O
  refine hN3 _ _ (B9 λN4 hN4=>?_);cases ho:Q0 A B D.length L 13 m with
  | some r =>
   refine A6 rfl ⟨rfl,_,rfl,V0 (λ_=>?_) λz=>absurd (by simp[TV]) z⟩;obtain⟨dx3,a3,b3,d3,kb3,e3,_⟩:=M3.ex;refine A6 rfl ⟨x,dx3,A6 rfl ⟨e3,rfl,A6 rfl ⟨x,c,D,A,B,L,r,rfl,M3,λl H4 hl s4 el=>?_⟩⟩⟩;refine⟨by show 2<=sizeLine;decide,λt R=>?_⟩;have I:=F1.new (o:=.tup [.str "told",.ref l]) R;have s5:=s4.trans I;have T4:=p s4 W;exact q1 r ho t l _ (C.trans s5.sm) (p I T4) (u (C.trans s4.sm) T4 R) (u C W hl) A9 (I _ _ el)
  | none =>
   refine A6 rfl ⟨rfl,_,rfl,V0 (λz=>absurd z (by simp[TV])) λ_=>hN4 _ _ ?_⟩;refine A6 rfl ⟨CL _,λz O=>A6 rfl λd Y=>?_⟩;have J:=F1.new (o:=.lst []) O;have ez:(IK H3 z (.lst [])) z=some (.lst []):=A9;generalize IK H3 z (.lst [])=H4 at J ez Y⊢;have ud:=F1.new (o:=.dK []) Y;have M4:=M3.same J;have Me:IP T.ab (Sw.er (IK H4 d (.dK [])) d) x c D A B L:=by
    rw[Rw];exact M4.same λb o e=>by rw[Ob (B3 e Y)];exact e
   have T5:=p (J.trans ud) W;refine⟨x,c,z,d,D,A,B,L,m,[],λ_=>False,rfl,Me,lo,l12,T5,ud _ _ ez,A9,λ_ h=>h.elim,⟨⟨[],rfl,GF,λk h=>absurd h CD⟩,λk v h=>by cases h⟩,by lia,ho,λr kvs' H6 k6 r6 T6 ed6 K6 S=>?_⟩;refine⟨by show 2<=sizeLine;decide,λt R=>?_⟩;have I:=F1.new (o:=.tup [.str "none",.ref r]) R;have hdH:H d=none:=u (C.trans J.sm) (p J W) Y;have U:Sm [T.aa] H H6:=λb o e n=>k6 b o (ud _ _ (J _ _ (C b o e n))) λz=>by
    rcases AK.mp z with z | z
    .rw[z,N]at e;cases e
    rcases AK.mp z with z | z
    .exact n (by rw[z];exact .head _)
    .rw[AD.mp z,hdH]at e;cases e
   refine q2 ho t r _ (U.trans I.sm) (p I T6) (u U T6 R) A9 ?_;unfold V9 at S⊢;rw[Mg eA eB];exact S.keep λb xs e=>I _ _ e
end
def Qx:Sp:=λ_ _ _ _=>False
def Wq{K:PySem.W.Frag}{x:Str}{H:Hp}{Q:VK}(o:PySem.PyData.strOk x=true)(q:Q (.bl true) H):zGm K (.str x) (.str x) H Q:=by
 have e:Rp K H (.str x) (.str x):=by simp only[Rp]
 have p:Pl (.str x):=⟨by rw[PyData.canLay0];exact o,by rw[PyData.depth];decide⟩;exact⟨_,_,e,e,p,p,by rw[PySem.SeqAt.eqv_refl _ p.1];exact q⟩
def tyB(b:Bool):A2:=.type (bif b then "list" else "tuple")
def Zr{K:PySem.W.Frag}:∀b,PySem.W.kitOne K (tyB b) (.type "list")=some b
 | true=>rfl
 | false=>rfl
def zBy{K:PySem.W.Frag}:∀b,PySem.W.kitOne K (tyB b) (.type "tuple")=some !b
 | true=>rfl
 | false=>rfl
def zEi{K:PySem.W.Frag}:∀b,PySem.W.kitAny K (tyB b) (["list", "tuple"].map Value.type)=some true
 | true=>rfl
 | false=>rfl
def zCa(b:Bool):(!decide (V.bl b=V.bl b))=false:=congrArg _ (BB rfl)
def LT(b:Bool)(xs:A1 V):HO:=bif b then .lst xs else .tup xs
def Jj{K:PySem.W.Frag}{H:Hp}{l:A3}{xs:A1 V}:∀{b:Bool},H l=some (LT b xs)->MV K H (.ref l) (tyB b)
 | true,h=>.lst h
 | false,h=>.tup h
def zAd{H:Hp}{l:A3}{xs:A1 V}:∀{b:Bool},H l=some (LT b xs)->H l=some (.lst xs)\/H l=some (.tup xs)
 | true,h=>.inl h
 | false,h=>.inr h
def sqB(K:PySem.W.Frag)(b:Bool):Hp->A3->A1 V->Prop:=bif b then IS K else JJ K
def Nq{K:PySem.W.Frag}{H:Hp}{l:A3}{xs:A1 V}:∀{b:Bool},H l=some (LT b xs)->sqB K b H l xs
 | true,h=>IS.of h
 | false,h=>JJ.of h
def Qu{K:PySem.W.Frag}{H:Hp}{l:A3}{xs:A1 V}{b:Bool}(h:H l=some (LT b xs)):RP K H l xs:=(zAd h).imp IS.of JJ.of
def zCb{K:PySem.W.Frag}{H:Hp}{l m:A3}{xs c:A1 V}{R:It->Hp->Prop}:∀{b:Bool},H l=some (LT b xs)->H m=some (LT b c)->R (TB (sqB K b) l m) H->zGt K R l m xs c H
 | true,h,a,q=>.inl ⟨IS.of h,IS.of a,q⟩
 | false,h,a,q=>.inr ⟨JJ.of h,JJ.of a,q⟩
section
variable{P:A7}{w:F8}{K:PySem.W.Frag}{mg:Str->A5 A2}{base:IM}
theorem Kp:IL ["_law_found", "_law_due"] ["_law_found", "_law_due"] (B7 OW):=KU
theorem Ze{f:A3}{a:JA}{b:A1 Str}:IU P w K mg base JE 0 f a b Qx:=⟨λ_ _ _ _ h=>h.elim,λ_ _ _ _ _ _ _ _ _ _ _ _ _ h=>h.elim⟩
def Rv(S:Sp):Sp:=λg H Q _=>(∃a:Str,g = [.str a,.str a]/\PySem.PyData.strOk a=true/\∀c,F1 H c->Q (.bl true) c) \/
 ∃(l m:A3) (b:Bool) (e f:A1 V),g = [.ref l,.ref m]/\H l=some (LT b e)/\H m=some (LT b f)/\e.length=f.length/\e.length<=1000 /\
  (∀(i:Nat) (x y:V) (c:Hp) (h:VK) (E:XK),e[i]?=some x->f[i]?=some y->F1 H c->(∀d,F1 c d->h (.bl true) d)->S [x,y] c h E)/\∀c,F1 H c->Q (.bl true) c
theorem Gr(T:Tx K mg){n:Nat}{S:Sp}(c:IU P w K mg base JE n T.ao.f T.ao.fd ["_law_found", "_law_due"] S):IU P w K mg base JE (n+1) T.ao.f T.ao.fd ["_law_found", "_law_due"] (Rv S):=by
 refine T.ao.F.ok Kp (λZ H Q E h=>?_) (λcdv A C s H Z Q E z h=>?_)
 .rcases h with⟨a,rfl,_⟩ | ⟨l,m,b,v,O,rfl,_⟩
  .rfl
  .rfl
 .refine⟨_,(B4 (M9 (O3 (E1 (Mb K) T.ae C2 (A8 (pv 1) (A8 (E3 (A8 (S6 T.az Q4) (A8 (S6 T.aN S8) B1))) B1)))) (B4 (M9 (PW.pt (t9 (D6 Of (E1 (M6 K) T.ae C2 (A8 (pv 0) (A8 (S6 T.az Q4) B1))) (E1 (M6 K) T.ae C2 (A8 (pv 1) (A8 (S6 T.az Q4) B1))) (E9 _)) (Z8 (D6 Of (E1 (M6 K) T.ae C2 (A8 (pv 0) (A8 (S6 T.aN S8) B1))) (E1 (M6 K) T.ae C2 (A8 (pv 1) (A8 (S6 T.aN S8) B1))) (E9 _))))) (B5 (C3 Gf)) D4)
   (B5 (C3 (Ak (Q9 i8 (E1 (Q7 K) T.aw Q1 (A8 (pv 0) B1)) (E1 (Q7 K) T.aw Q1 (A8 (pv 1) B1)) (E9 _)) (Cb (E1 (Tk K) T.bu Qh (A8 (X3 (N':=["_law_one", "_law_other"]) (cap:=[none,none]) (cl:=[]) (P8 trivial trivial) rfl (zHr K T.bL (A8 (pv 0) (A8 (pv 1) B1))) (λ_ _ _ _=>by exact⟨(QT K (n:=2) (C5 (MN 0) (C5 (MN 1) P9))),J8,(C9 T.ao c (z.mono (Nat.le_refl _)) (A8 (pv 0) (A8 (pv 1) B1)))⟩)) B1))))))) D4)
   (B4 (M9 (PW.pt (t9 (D6 Xg (pv 1) d6 (E9 _)) (Z8 (O3 (E1 (M6 K) T.ae C2 (A8 (pv 1) (A8 (S6 T.bo Mc) B1))))))) (B5 (C3 (Ak (Q9 (zAl K z.units) (pv 0) (pv 1) (E9 _)) (Cb (Q9 i8 (E1 (M6 K) T.ae C2 (A8 (pv 0) (A8 (S6 T.bo Mc) B1))) (E1 (M6 K) T.ae C2 (A8 (pv 1) (A8 (S6 T.bo Mc) B1))) (E9 _)))))) D4)
   (B4 (M9 (O3 (E1 (M6 K) T.ae C2 (A8 (pv 1) (A8 (S6 T.bp Kz) B1)))) (B5 (C3 (Ak (E1 (M6 K) T.ae C2 (A8 (pv 0) (A8 (S6 T.bp Kz) B1))) (Cb (Q9 (zAl K z.units) (pv 0) (pv 1) (E9 _)))))) D4)
   (B5 (C3 (Ak (E1 (M6 K) T.ae C2 (A8 (pv 0) (A8 (S6 T.bE Xh) B1))) (Ak (zDc (E1 (M6 K) T.ae C2 (A8 (pv 0) (A8 (S6 T.bp Kz) B1)))) (Cb (Q9 (zAl K z.units) (pv 0) (pv 1) (E9 _)))))))))),?_⟩
  rcases h with⟨b,rfl,ob,q⟩ | ⟨l,m,b,v,O,rfl,hl,hm,B,len,hS,q⟩
  .refine A6 rfl ⟨by show 2<=sizeLine;decide,λt G=>?_⟩;have j:=F1.new (o:=.tup [.ty "list",.ty "tuple"]) G;refine⟨.str b,t,["list", "tuple"],_,false,rfl,A9,.str b,.inl ⟨b,rfl⟩,rfl,?_⟩;generalize IK H t (.tup [.ty "list",.ty "tuple"])=R at j⊢;refine A6 rfl (Z0 ?_);refine A6 rfl ⟨rfl,A6 rfl (Z0 ?_)⟩;refine A6 rfl ⟨.str b, "str",_,true,rfl,.str b,rfl,A6 rfl (Ul ?_)⟩;refine A6 rfl (A6 rfl (Wq ob ⟨_,rfl,Ul ?_⟩));refine A6 rfl ⟨.str b, "str",_,true,rfl,.str b,rfl,A6 rfl ⟨.str b, "str",_,true,rfl,.str b,rfl,?_⟩⟩;exact⟨rfl,q _ j⟩
  .refine A6 rfl ⟨by show 2<=sizeLine;decide,λt G=>?_⟩;have j:=F1.new (o:=.tup [.ty "list",.ty "tuple"]) G;have p:=j _ _ hl;have g:=j _ _ hm;refine⟨.ref m,t,["list", "tuple"],_,true,rfl,A9,Jj g,.inr ⟨m,_,rfl,zAd g⟩,zEi b,?_⟩;generalize IK H t (.tup [.ty "list",.ty "tuple"])=R at j p g⊢;refine A6 rfl (Ul ?_);refine A6 rfl ⟨.ref l, "list",_,b,rfl,Jj p,Zr b,A6 rfl ⟨.ref m, "list",_,b,rfl,Jj g,Zr b,rfl,?_⟩⟩;refine⟨false,congrArg V.bl (zCa b),Z0 ?_⟩;refine A6 rfl ⟨.ref l, "tuple",_,_,rfl,Jj p,zBy b,A6 rfl ⟨.ref m, "tuple",_,_,rfl,Jj g,zBy b,rfl,?_⟩⟩;refine⟨false,congrArg V.bl (zCa !b),Z0 ?_⟩;refine A6 rfl (C0 (a:=l) rfl (Qu p) (A6 rfl (C0 (a:=m) rfl (Qu g) ⟨rfl,A6 rfl ?_⟩)));refine V0 (λ_=>?_) (λh=>absurd (BB (congrArg (λk:Nat=>V.int k) B)) h);refine A6 rfl (A6 rfl ⟨l,m,v,O,?_⟩);refine⟨rfl,zCb p g λD U=>?_⟩;refine j4 (n:=v.length) (λi σ r=>(∃W X,σ = [W,X])/\F1 R r/\r D=some (.lst ((List.replicate i true).map V.bl))) ⟨⟨_,_,rfl⟩,F1.new U,A9⟩ ?_ ?_ ?_ ?_
   .rintro i σ r I ⟨_,d,_⟩;exact⟨_,_,_,_,Nq (d _ _ p),Nq (d _ _ g),Nat.le_of_eq B,AC I,AC (B▸I)⟩
   .rintro σ r ⟨_,d,_⟩;exact⟨_,_,Nq (d _ _ p),Nq (d _ _ g),Nat.le_of_eq B,rfl⟩
   .rintro i σ r x H3 N I ⟨⟨W,X,rfl⟩,d,J⟩ ⟨u,x,y,rfl,hu,rfl,L,hy⟩ hN;have M:=F1.new (o:=.tup [x,y]) hu;refine⟨u,A6 rfl ⟨JJ.of A9,rfl,_,A6 rfl (C0 rfl rfl ?_)⟩⟩;refine A6 rfl (A6 rfl (hS i x y _ _ _ (L _ (Nq (d _ _ p))) (hy _ (Nq (d _ _ g))) ((j.trans d).trans M) λH4 Y=>?_));refine⟨_,Y _ _ (M _ _ J),by rw[AB,GR,sizeLine_eq];lia,hN _ _ ⟨⟨_,_,rfl⟩,((d.trans M).trans Y).upd U,?_⟩⟩;rw[A9,List.replicate_succ',AN];rfl
   .rintro σ r ⟨_,d,J⟩;have e:(List.replicate v.length true).all id=true:=EH.mpr λx L=>(List.mem_replicate.mp L).2;have q':Q (.bl ((List.replicate v.length true).all id)) r:=e.symm▸q _ (j.trans d);exact⟨D,_,rfl,IS.of J,q'⟩
end
def RK(b:Bool)(ds:A1 PyData):PyData:=bif b then .list ds else .tuple ds
def ad(b:Bool)(l:A3):A1 A3:=bif b then [l]else []
def Ow(H:Hp):Nat->PyData->V->A1 A3->Prop
 | 0,_,_,_=>False
 | n+1,d,v,L=>(∃s:Str,d = .str s/\v = .str s/\PySem.PyData.strOk s=true/\L = []) \/
  ∃(b:Bool) (l:A3) (a:A1 V) (c:A1 PyData) (e:A1 (A1 A3)),d=RK b c/\v = .ref l/\H l=some (LT b a)/\a.length=c.length/\a.length=e.length/\a.length<=200/\L=ad b l++e.flatten /\
   ∀(i:Nat) f x M,c[i]?=some f->a[i]?=some x->e[i]?=some M->Ow H n f x M
def Ow.keep{H H':Hp}{X:A1 A3}(k:∀a o,H a=some o->a∉X->H' a=some o)(c:∀x∈X,∀xs,H x≠some (.tup xs)):∀{n:Nat} {d:PyData} {v:V} {L:A1 A3},(∀l∈L,l∉X)->Ow H n d v L->Ow H' n d v L
 | 0,_,_,_,_,h=>h.elim
 | _+1,_,_,_,_,.inl h=>.inl h
 | n+1,_,_,_,e,.inr ⟨b,l,xs,j,m,p,q,f,r,s,t,u,h⟩=>by
  subst u;refine .inr ⟨b,l,xs,j,m,p,q,k _ _ f ?_,r,s,t,rfl,λi w x M A B g=>(h i w x M A B g).keep k c λy C=>e y (BG _ (CG.mpr ⟨M,AI g,C⟩))⟩;cases b with
  | true=>exact e l (.head _)
  | false=>exact λz=>c l z xs f
def Ow.same{H H':Hp}(s:F1 H H'){n:Nat}{d:PyData}{v:V}{L:A1 A3}(h:Ow H n d v L):Ow H' n d v L:=h.keep (X:=[]) (λa o e _=>s a o e) (λx z=>by cases z) λl _ z=>by cases z
def Ow.keepT{H H':Hp}(k:∀a xs,H a=some (.tup xs)->H' a=some (.tup xs)):∀{n:Nat} {d:PyData} {v:V},Ow H n d v []->Ow H' n d v []
 | 0,_,_,h=>h.elim
 | _+1,_,_,.inl h=>.inl h
 | n+1,_,_,.inr ⟨true,l,xs,c,f,g,j,m,o,p,q,b,h⟩=>by cases b
 | n+1,_,_,.inr ⟨false,l,xs,c,f,g,j,m,o,p,q,b,h⟩=>.inr ⟨false,l,xs,c,f,g,j,k _ _ m,o,p,q,b,λi s x M t u r=>by
  have e:M = []:=List.eq_nil_iff_forall_not_mem.mpr λy w=>by
   have:y∈([]:A1 A3):=b▸CG.mpr ⟨M,AI r,w⟩;cases this
  subst e;exact(h i s x [] t u r).keepT k⟩
def Ow.here{H:Hp}:∀{n:Nat} {d:PyData} {v:V} {L:A1 A3},Ow H n d v L->∀l∈L,∃xs,H l=some (.lst xs)
 | 0,_,_,_,h,_,_=>h.elim
 | _+1,_,_,_,.inl ⟨s,_,_,_,e⟩,l,c=>by rw[e]at c;cases c
 | n+1,_,_,_,.inr ⟨b,l,xs,f,g,o,p,j,r,t,u,k,h⟩,y,a=>by
  rw[k]at a;rcases AO.mp a with z | z
  .cases b with
   | true=>rw[AD.mp z];exact⟨xs,j⟩
   | false=>cases z
  .obtain⟨M,m,a⟩:=CG.mp z;obtain⟨i,w,rfl⟩:=FZ m;have q:i<xs.length:=by lia
   exact(h i f[i] xs[i] g[i] (AC _) (AC _) (AC _)).here y a
def Ow.up{H:Hp}:∀{n m:Nat} {d:PyData} {v:V} {L:A1 A3},n<=m->Ow H n d v L->Ow H m d v L
 | 0,_,_,_,_,_,h=>h.elim
 | n+1,0,_,_,_,c,_=>absurd c (Nat.not_succ_le_zero _)
 | _+1,_+1,_,_,_,_,.inl h=>.inl h
 | n+1,m+1,_,_,_,c,.inr ⟨b,l,a,e,f,g,j,k,o,p,q,r,h⟩=>.inr ⟨b,l,a,e,f,g,j,k,o,p,q,r,λi s x M t u w=>(h i s x M t u w).up (Nat.le_of_succ_le_succ c)⟩
def Ow.str{H:Hp}{n:Nat}{s:Str}(h:PySem.PyData.strOk s=true):Ow H (n+1) (.str s) (.str s) []:=.inl ⟨s,rfl,rfl,h,rfl⟩
def Ow.LT{H:Hp}{n:Nat}{b:Bool}{l:A3}{xs:A1 V}{ds:A1 PyData}{Ls:A1 (A1 A3)}(e:H l=some (Sw.LT b xs))(a:xs.length=ds.length)(l2:xs.length=Ls.length)(c:xs.length<=200)(h:∀(i:Nat) d' x M,ds[i]?=some d'->xs[i]?=some x->Ls[i]?=some M->Ow H n d' x M):Ow H (n+1) (RK b ds) (.ref l) (ad b l++Ls.flatten):=.inr ⟨b,l,xs,ds,Ls,rfl,rfl,e,a,l2,c,rfl,h⟩
def Ff{α:Type}:∀n:Nat,(List.replicate n ([]:A1 α)).flatten = []
 | 0=>rfl
 | n+1=>by rw[EB,ED,Ff n];rfl
def Ow.flat{H:Hp}{n:Nat}{b:Bool}{l:A3}{xs:A1 V}{ds:A1 PyData}(e:H l=some (Sw.LT b xs))(a:xs.length=ds.length)(c:xs.length<=200)(h:∀(i:Nat) d' x,ds[i]?=some d'->xs[i]?=some x->Ow H n d' x []):Ow H (n+1) (RK b ds) (.ref l) (ad b l):=by
 have:=Ow.LT (n:=n) (Ls:=List.replicate xs.length []) e a (by rw[GR]) c λi d' x M d f g=>by
  rw[(List.mem_replicate.mp (AI g)).2];exact h i d' x d f
 rwa [Ff,BU]at this
def Ow.rows{H:Hp}{n:Nat}{b:Bool}{l:A3}{xs:A1 (V×PyData×A1 A3)}(e:H l=some (Sw.LT b (xs.map λx=>x.1)))(c:xs.length<=200)(h:∀x∈xs,Ow H n x.2.1 x.1 x.2.2):Ow H (n+1) (RK b (xs.map λx=>x.2.1)) (.ref l) (ad b l ++(xs.map λx=>x.2.2).flatten) :=
 Ow.LT e (by rw[AB,AB]) (by rw[AB,AB]) (by rw[AB];exact c) λi k x M g d f=>by
  rw[AH]at g d f;obtain⟨a,j,rfl⟩:=AQ.mp g;rw[j]at d f;cases d;cases f;exact h a (AI j)
def Ow.strs{H:Hp}{n:Nat}{b:Bool}{l:A3}{ss:A1 Str}(e:H l=some (Sw.LT b (ss.map V.str)))(f:∀s∈ss,PySem.PyData.strOk s=true)(g:ss.length<=200):Ow H (n+2) (RK b (ss.map PyData.str)) (.ref l) (ad b l) :=
 Ow.flat e (by rw[AB,AB]) (by rw[AB];exact g) λi h x c a=>by
  rw[AH]at c a;obtain⟨s,d,rfl⟩:=AQ.mp c;rw[d]at a;cases a;exact .str (f s (AI d))
def Ow.two{H:Hp}{n:Nat}{l:A3}{x y:V}{d e:PyData}{L M:A1 A3}(h:H l=some (.tup [x,y]))(a:Ow H n d x L)(b:Ow H n e y M):Ow H (n+1) (.tuple [d,e]) (.ref l) (L++M):=by
 have:=Ow.LT (n:=n) (b:=false) (xs:=[x,y]) (ds:=[d,e]) (Ls:=[L,M]) h rfl rfl (by show 2<=200;decide) λi j k m c f g=>by
  match i,c,f,g with
  | 0,c,f,g=>cases c;cases f;cases g;exact a
  | 1,c,f,g=>cases c;cases f;cases g;exact b
 rwa [show ad false l ++ [L,M].flatten=L++M by show [] ++(L ++(M ++ []))=_;rw[BU];rfl]at this
def Ay:Nat->Sp
 | 0=>Qx
 | n+1=>Rv (Ay n)
def Zh{ds a:A1 PyData}:∀{b c:Bool},RK b ds=RK c a->b=c/\ds=a
 | true,true,h=>⟨rfl,PyData.list.inj h⟩
 | false,false,h=>⟨rfl,PyData.tuple.inj h⟩
 | true,false,h=>by cases h
 | false,true,h=>by cases h
def Rq{ds:A1 PyData}{s:Str}:∀{b:Bool},PyData.str s≠RK b ds
 | true,h=>by cases h
 | false,h=>by cases h
def Ow.alike{H:Hp}:∀{n:Nat} {d:PyData} {x y:V} {L M:A1 A3} {Q:VK} {E:XK},Ow H n d x L->Ow H n d y M->(∀H',F1 H H'->Q (.bl true) H')->Ay n [x,y] H Q E
 | 0,_,_,_,_,_,_,_,h,_,_=>h.elim
 | n+1,d,x,y,_,_,Q,E,.inl ⟨s,f,j,o,_⟩,g,q=>by
  subst f j;rcases g with⟨v,a,c,_⟩ | ⟨b,l,r,k,m,a,_⟩
  .cases a;subst c;exact .inl ⟨s,rfl,o,q⟩
  .exact absurd a Rq
 | n+1,d,x,y,_,_,Q,E,.inr ⟨b,l,r,k,m,f,j,a,w,N,O,_,h⟩,g,q=>by
  subst f j;rcases g with⟨v,c,_⟩ | ⟨P,z,p,A,e,c,B,C,D,R,S,_,F⟩
  .exact absurd c.symm Rq
  .obtain⟨rfl,rfl⟩:=Zh c;subst B;refine .inr ⟨l,z,b,r,p,rfl,a,C,w.trans D.symm,by lia,λi x y H' T E t G s I=>?_,q⟩;have U:=(AE.mp t).1;have u:k[i]?=some (k[i]'(by lia)):=AC _;have J:m[i]?=some (m[i]'(by lia)):=AC _;have K:e[i]?=some (e[i]'(by lia)):=AC _;exact((h i _ x _ u t J).same s).alike ((F i _ y _ u G K).same s) I
section
variable{P:A7}{w:F8}{K:PySem.W.Frag}{mg:Str->A5 A2}{base:IM}
theorem Ai(T:Tx K mg):∀n,IU P w K mg base JE n T.ao.f T.ao.fd ["_law_found", "_law_due"] (Ay n)
 | 0=>Ze
 | n+1=>Gr T (Ai T n)
end
def Wm{l:A1 Str}{k y:Str}:y∈Ur l k↔y∈l\/y=k:=by
 unfold Ur;by_cases h:k∈l
 .rw[AL h];exact⟨.inl,λz=>z.elim id λe=>e▸h⟩
 .rw[AJ h,AO,AD]
def Zm{l:A1 Str}{k:Str}(a:l.Nodup):(Ur l k).Nodup:=by
 unfold Ur;by_cases h:k∈l
 .rw[AL h];exact a
 .rw[AJ h];exact Qs a h
def Vd(l:A1 Str)(k:Str):(Ur l k).length<=l.length+1:=by
 unfold Ur;split
 .lia
 .rw[AW];simp
def Zc{w:F8}{J:It}{a D:A3}{d:A1 Str}{H0 H:Hp}{n:Nat}{σ:St}{Q:St->Hp->Prop}{Sg:St->Prop}{f:Nat}(as:LQ J (d.map V.str) a H)(hσ:Sg σ)(B:∀σ v,Sg σ->Sg (σ.set f (some v))/\(σ.set f (some v))[f]?=some (some v)){l:A1 Str}(E:H D=some (Ie w D l))(p:a≠D)(F:l.Nodup)(K:l.length+d.length<=4000)
  (G:F1 H0 H) (r:H0 D=none) (q:∀σ b H',Sg σ->F1 H0 H'->H' D=some (Ie w D b)->b.Nodup->b.length<=l.length+d.length->(∀y,y∈b↔y∈l\/y∈d)->Q σ H') :
  Fi (Y6 f) Cj (Gd w D (Pe f)) J σ H Q:=by
 refine S5 as (λi σ c=>Sg σ/\F1 H0 c/\(∀o,H a=some o->c a=some o)/\∃b,c D=some (Ie w D b)/\b.Nodup/\b.length<=l.length+i/\∀y,y∈b↔y∈l\/y∈d.take i)
  ⟨hσ,G,λ_ e=>e,l,E,F,Nat.le_refl _,λy=>by simp⟩ (λi σ c _ ⟨_,_,k,_⟩=>k) ?_ ?_
 .rintro i σ c x N g ⟨hσ1,s,C,b,t,u,A,j⟩ I;rw[AH]at g;cases m:d[i]? with
  | none=>rw[m]at g;cases g
  | some y =>
   rw[m]at g;cases g;have L:=(AE.mp m).1;refine o9 ?_;refine⟨_,(B σ _ hσ1).2,b,y,rfl,t,by lia,I _ _ ⟨(B σ _ hσ1).1,s.upd r,λo e=>?_,Ur b y,A9,Zm u,?_,λz=>?_⟩⟩
   .rw[B6 p];exact C o e
   .have:=Vd b y;lia
   .rw[Wm,j,IW m,AO,AD,or_assoc]
 .rintro σ c ⟨hσ1,s,C,b,t,u,A,j⟩;rw[AB]at A j;rw[BQ]at j;exact q σ b c hσ1 s t u A j
def JD{c:A1 JV}{n y:Str}:y∈B2 c n↔∃q∈c,q.2.2=n/\q.2.1=y:=by
 unfold B2;rw[AX];constructor
 .rintro⟨q,d,e⟩;obtain⟨a,b⟩:=BC.mp d;exact⟨q,a,BV b,e⟩
 .rintro⟨q,a,b,f⟩;exact⟨q,BC.mpr ⟨a,BB b⟩,f⟩
def T7(a:A1 JV)(n:Str):(B2 a n).length<=a.length:=by
 unfold B2;rw[AB];exact BM ..
section
variable{w:F8}{mg:Str->A5 A2}
def zCv(K:PySem.W.Frag)(C:A3)(f:A1 JV->Str->A1 Str):Sp:=λh H Q _=>∃(x a:A3) (c e:A1 Str) (g:A1 JV),h = [.ref x,.ref a]/\KD C H x e g/\RP K H a (c.map V.str)/\(∀n∈c,n∈e) /\
 ∀l (b:A1 Str) d,H l=none->F1 H d->d l=some (.lst (b.map V.str))->(∀y,y∈b↔∃n∈c,y∈f g n)->b.Pairwise QP->b.Nodup->b.length<=100->Q (.ref l) d
end
section
variable{P:A7}{w:F8}{K:PySem.W.Frag}{mg:Str->A5 A2}{base:IM}
theorem l9:IL ["web", "some"] ["web", "some"] (B7 LK):=KU
theorem j9(T:Tx K mg):IU P w K mg base JE 3 T.aH.f T.aH.fd ["web", "some"] (zCv K T.ag B2):=by
 refine T.aH.F.o1 l9 λcdv A S s H vs Q E hr h=>?_
 .obtain⟨x,a,U,ns,O,rfl,hW,hS,hM,k⟩:=h;have hu:=V6 hr;obtain⟨W,dx,a1,b,c,d,kc,kd,e1,_⟩:=id hW;have j:∀l:A1 Str,l.Nodup->(∀y∈l,∃n∈U,y∈B2 O n)->l.length<=100:=λl nd h=>by
   refine Nat.le_trans (nd.length_le_of_subset λy g=>?_) W.len;obtain⟨n,_,X⟩:=h y g;obtain⟨q,hq,_,e⟩:=JD.mp X;rw[<-e];exact(W.mem q hq).1
  refine⟨_,(B5 (C3 (E1 (Uz w) T.a6 X2 (A8 (zGd w (N':=["name", "striker", "web"]) (cap:=[none,none,some 0]) (cl:=[("web",_)]) (P8 ⟨⟨rfl,rfl,rfl,rfl⟩,trivial⟩ ⟨rfl,trivial⟩) (piS K (pv 1)) (λ_ _ _ _=>by exact⟨(MN 0),J8,(MZ K (D8 (pv 2) T.am T.ak.m (M8 T) (Rm hr) T.ak.b .nil J9 (A8 (pv 0) B1))),(MN 1),J8,(pv 1)⟩)) B1)))),?_⟩;dsimp only[TD,TM,Y6,zGi,SN,Wd,Yw];refine Wn (by rfl) hS ?_;intro J as D hD;refine S5 as (λi σ r=>(∃u B,σ = [u,B,some (.ref x)])/\F1 H r/\∃l,r D=some (Ie w D l)/\l.Nodup/\∀y,y∈l↔∃n∈U.take i,y∈B2 O n)
   ⟨⟨_,_,rfl⟩,F1.new hD,[],A9,GF,λy=>by simp⟩ (λi σ r _ ⟨_,o,_⟩=>o.at a) ?_ ?_
  .rintro i σ r v N C ⟨⟨u,B,rfl⟩,o,l,R,G,t⟩ hN;rw[AH]at C;cases g:U[i]? with
   | none=>rw[g]at C;cases C
   | some n =>
    rw[g]at C;cases C;have hn:n∈ns:=hM n (AI g);have Y:l.length<=100:=j l G λy g=>by
     obtain⟨m,I,h⟩:=(t y).mp g;exact⟨m,CH I,h⟩
    refine o9 ?_;refine A6 rfl ⟨x,dx,A6 rfl ⟨o _ _ e1,rfl,A6 rfl ⟨x,n,ns,O,rfl,hW.same o,hn,λp L=>?_⟩⟩⟩;have M:D≠p:=B3 R L;refine⟨p,rfl,⟨_,IS.of A9⟩,Zc (H0:=H) (n:=0) (MY (IS.of A9)) (Sg:=λσ=>∃u B,σ = [u,B,some (.ref x)]) ⟨_,_,rfl⟩ (λσ v ⟨u,B,e⟩=>by rw[e];exact⟨⟨_,_,rfl⟩,rfl⟩) (by rw[B6 M];exact R) M.symm G ?_ (o.trans (F1.new L)) hD ?_⟩
    .have:=T7 O n;have:=W.lenq;lia
    .rintro σ l' H2 hσ Z e3 n3 _ m3;refine hN _ _ ⟨hσ,Z,l',e3,n3,λy=>?_⟩;rw[m3,t,IW g];constructor
     .rintro(⟨m,I,h⟩ | h)
      .exact⟨m,CP _ I,h⟩
      .exact⟨n,BG _ (AD.mpr rfl),h⟩
     .rintro⟨m,I,h⟩;rcases AO.mp I with z | z
      .exact .inl ⟨m,z,h⟩
      .rw[AD.mp z]at h;exact .inr h
  .rintro σ r ⟨_,o,l,R,G,t⟩;rw[AB,BQ]at t;refine⟨D,l,rfl,R,λp hs L pm srt=>?_⟩;have Z:F1 H (IK r p (.lst (hs.map V.str))):=o.trans (F1.new L);exact k p hs _ (o.free L) Z A9 (λy=>by rw[pm.mem_iff];exact t y) srt (pm.nodup_iff.mpr G) (by rw[pm.length_eq];exact j l G λy g=>(t y).mp g)
end
def JM.up{ns:A1 Str}{A B:A1 Nat}{L:Nat}{H:Hp}:∀{k a m:Nat} {r:A3},k<=a->JM ns A B L H k m r->JM ns A B L H a m r
 | 0,_,_,_,_,h=>h.elim
 | k+1,0,_,_,c,_=>absurd c (Nat.not_succ_le_zero _)
 | k+1,a+1,m,r,c,h=>h.imp id λ⟨x,d,l,b,e,f,g,h⟩=>⟨x,d,l,b,e,f,g,λi j n o p=>(h i j n o p).up (Nat.le_of_succ_le_succ c)⟩
def TX(ns:A1 Str)(A B:A1 Nat)(L:Nat):Nat->Nat->PyData
 | 0,_=>.none
 | k+1,m=>if pB (Q6 B m)=true then .tuple [.str "clash",.str (UA ns A B m),.str (T_ ns B m)]else .tuple [.str "answer",.str (anA ns B m (QU ns A B L m)),.str (anB ns (QU ns A B L m)),.tuple ((Z9 ns A B L m).map λj=>TX ns A B L k (m ||| 2^j))]
def At{ns:A1 Str}(h:∀y∈ns,U7 y=true)(m:Nat):PySem.PyData.strOk (T8 ns m)=true:=by
 unfold T8;cases e:LH ns m with
 | nil=>decide +kernel
 | cons x r=>exact Y4 (h x ((X7 ns m).subset (by rw[e];exact .head _)))
def Ow.three{H:Hp}{n:Nat}{l:A3}{xs:A1 V}{ds:A1 PyData}(h:H l=some (.tup xs))(e:xs.length=ds.length)(c:xs.length<=200)(a:∀(i:Nat) d' x,ds[i]?=some d'->xs[i]?=some x->Ow H n d' x []):Ow H (n+1) (.tuple ds) (.ref l) []:=Ow.flat (b:=false) h e c a
def Sk{ns:A1 Str}{A B:A1 Nat}{L:Nat}{H:Hp}(d:∀y∈ns,U7 y=true)(f:ns.length<=100):∀{k m:Nat} {r:A3},JM ns A B L H k m r->Ow H (2*k+1) (TX ns A B L k m) (.ref r) []
 | 0,_,_,h=>h.elim
 | k+1,m,r,.inl ⟨c,e⟩=>by
  unfold TX;rw[AL (NM.mpr c)];refine Ow.three e rfl (by show 3<=200;decide) λi q x a b=>?_
  match i,a,b with
  | 0,a,b=>cases a;cases b;exact Ow.str (n:=2*k+1) (by decide +kernel)
  | 1,a,b=>cases a;cases b;exact Ow.str (n:=2*k+1) (At d _)
  | 2,a,b=>cases a;cases b;exact Ow.str (n:=2*k+1) (At d _)
 | k+1,m,r,.inr ⟨c,_,l,D,s,t,g,h⟩=>by
  unfold TX;rw[AJ λz=>c (NM.mp z)];refine Ow.three s rfl (by show 4<=200;decide) λi q x a b=>?_
  match i,a,b with
  | 0,a,b=>cases a;cases b;exact Ow.str (n:=2*k+1) (by decide +kernel)
  | 1,a,b=>cases a;cases b;exact Ow.str (n:=2*k+1) (At d _)
  | 2,a,b=>cases a;cases b;exact Ow.str (n:=2*k+1) (At d _)
  | 3,a,b =>
   cases a;cases b;have lk:(Z9 ns A B L m).length<=200:=by
    unfold Z9;exact Nat.le_trans (BM _ _) (by rw[BZ];lia)
   refine Ow.three (n:=2*k+1) t (by rw[AB,AB,g]) (by rw[AB,g];exact lk) λj E F o p=>?_;rw[AH]at o p;obtain⟨u,v,rfl⟩:=AQ.mp o;obtain⟨w,C,rfl⟩:=AQ.mp p;exact Sk d f (h j u w v C)
section
variable{P:A7}{w:F8}{K:PySem.W.Frag}{mg:Str->A5 A2}{base:IM}
theorem MP:IL ["_law_thing", "_law_part"] ["_law_thing"] (B7 NH):=KU
def Lm(n:Nat):Sp:=λc H Q _=>∃(d:PyData) (v:V) (L:A1 A3),c = [v]/\Ow H n d v L/\L.Nodup/\∀b,(∀a o,H a=some o->a∉L->b a=some o)->Q .non b
theorem l8{α:Type}{Ls:A1 (A1 α)}{i:Nat}{y:α}(h:y∈(Ls.take i).flatten):∃(j:Nat) (M:A1 α),j<i/\Ls[j]?=some M/\y∈M:=by
 obtain⟨M,a,b⟩:=CG.mp h;obtain⟨j,c,rfl⟩:=FZ a;rw[AZ]at c;refine⟨j,_,by lia,?_,b⟩;rw[GV];exact AC _
theorem Po{α:Type}:∀{Ls:A1 (A1 α)} {i:Nat} {M:A1 α},Ls.flatten.Nodup->Ls[i]?=some M->M.Nodup/\∀y∈M,y∉(Ls.take i).flatten
 | [],_,_,_,h=>by cases h
 | N::Ls,0,M,f,h=>by
  cases h;rw[ED]at f;exact⟨(DK.mp f).1,λy _ z=>by cases z⟩
 | N::Ls,i+1,M,f,h=>by
  rw[ED]at f;obtain⟨a,b,c⟩:=DK.mp f;rw[DV]at h;obtain⟨d,e⟩:=Po b h;refine⟨d,λy g z=>?_⟩;rw[List.take_succ_cons,ED]at z;rcases AO.mp z with z | z
  .exact c y z y (CG.mpr ⟨M,AI h,g⟩) rfl
  .exact e y g z
theorem Bn(T:Tx K mg){n:Nat}(c:IU P w K mg base JE n T.ap.f T.ap.fd ["_law_thing"] (Lm n)):IU P w K mg base JE (n+1) T.ap.f T.ap.fd ["_law_thing"] (Lm (n+1)):=by
 refine T.ap.F.o1 MP λcdv A N s H vs Q E hr h=>?_
 .obtain⟨d,v,L,rfl,hO,nd,q⟩:=h;refine⟨_,(B4 (M9 (O3 (E1 (Mb K) T.ae C2 (A8 (pv 0) (A8 (E3 (A8 (S6 T.az Q4) (A8 (S6 T.aN S8) B1))) B1)))) (B5 (O6 PassesOwn.never rfl (piS K (pv 0)) (C7 (i:=1) MP.nd rfl (.inl rfl))
   (B5 (J7 (C9 T.ap c (hr.mono (Nat.le_refl _)) (A8 (pv 1) B1)))))) D4)
   (B5 (M9 (O3 (E1 (M6 K) T.ae C2 (A8 (pv 0) (A8 (S6 T.az Q4) B1)))) (B5 (J7 (Jb K PySem.F.plainAttrs_list PySem.F.slot_list_append PySem.F.type_list_append K4 (pv 0) (A8 U5 B1)))) D4))),?_⟩
  refine B9 λN1 B=>?_;refine A6 rfl ⟨by show 2<=sizeLine;decide,λt ht=>?_⟩;have u:=F1.new (o:=.tup [.ty "list",.ty "tuple"]) ht;have O:(IK H t (.tup [.ty "list",.ty "tuple"])) t=some (.tup [.ty "list",.ty "tuple"]):=A9;generalize IK H t (.tup [.ty "list",.ty "tuple"])=H1 at u O⊢;rcases hO with⟨s,rfl,rfl,_,rfl⟩ | ⟨b,l,R,D,g,rfl,rfl,e3,l1,l2,l3,rfl,h0⟩
  .refine⟨.str s,t,["list", "tuple"],_,false,rfl,O,.str s,.inl ⟨s,rfl⟩,rfl,_,rfl,Z0 ?_⟩;refine B _ _ ?_;refine A6 rfl ⟨.str s, "list",_,false,rfl,.str s,rfl,_,rfl,Z0 ?_⟩;exact q _ λa o e _=>u _ _ e
  have m:=u _ _ e3;refine⟨.ref l,t,["list", "tuple"],_,true,rfl,O,Jj m,.inr ⟨l,_,rfl,zAd m⟩,zEi b,_,rfl,Ul ?_⟩;have hX:∀x∈g.flatten,∃S,H x=some (.lst S):=λx I=>by
   obtain⟨M,r,p⟩:=CG.mp I;obtain⟨i,hi,rfl⟩:=FZ r;have q:i<R.length:=by lia
   exact(h0 i D[i] R[i] g[i] (AC _) (AC _) (AC _)).here x p
  have C:l∉g.flatten:=by
   cases b with
   | true=>exact λz=>(DK.mp nd).2.2 l (.head _) l z rfl
   | false =>
    intro z;obtain⟨S,e⟩:=hX l z;rw[e3]at e;cases e
  have U:g.flatten.Nodup:=(DK.mp nd).2.1;refine Xb (i:=0) rfl (Qu m) λJ as=>?_;refine Bs as (λi σ G=>(∃V,σ = [some (.ref l),V])/\∀a o,H1 a=some o->a∉(g.take i).flatten->G a=some o) ⟨⟨_,rfl⟩,λa o e _=>e⟩ (λi σ G hi h o e=>h.2 _ _ e λz=>C ?_) (λi σ G x I h=>?_) λσ G h=>B _ _ ?_
  .obtain⟨M,r,p⟩:=CG.mp z;exact CG.mpr ⟨M,CH r,p⟩
  .obtain⟨⟨V,rfl⟩,k⟩:=h;have ix:=(AE.mp I).1;have a1:D[i]?=some (D[i]'(by lia)):=AC _;have W:g[i]?=some (g[i]'(by lia)):=AC _;obtain⟨X,Y⟩:=Po U W;refine A6 rfl ⟨D[i]'(by lia),x,g[i]'(by lia),rfl,(((h0 i _ x _ a1 I W).same u).keep k (λy p S e=>?_) Y),X,λG2 k2=>?_⟩
   .obtain⟨j,M,_,Z,hm⟩:=l8 p;obtain⟨zs,e'⟩:=hX y (CG.mpr ⟨M,AI Z,hm⟩);rw[u _ _ e']at e;cases e
   .refine⟨⟨_,rfl⟩,λa o e n=>k2 _ _ (k _ _ e λz=>n ?_) λz=>n ?_⟩
    .obtain⟨j,M,lj,Z,hm⟩:=l8 z;exact CG.mpr ⟨M,AI (i:=j) (by rw[List.getElem?_take,AL (by lia)];exact Z),hm⟩
    .exact CG.mpr ⟨_,AI (i:=i) (by rw[List.getElem?_take,AL (by lia)];exact W),z⟩
  .obtain⟨⟨V,rfl⟩,k⟩:=h;have el:G l=some (LT b R):=k _ _ m λz=>by
    obtain⟨M,r,p⟩:=CG.mp z;exact C (CG.mpr ⟨M,CH r,p⟩)
   have k':∀a o,H a=some o->a∉ad b l++g.flatten->G a=some o:=λa o e n=>k _ _ (u _ _ e) λz=>n (BG _ (by
    obtain⟨M,r,p⟩:=CG.mp z;exact CG.mpr ⟨M,CH r,p⟩))
   refine A6 rfl ⟨.ref l, "list",_,b,rfl,Jj el,Zr b,_,rfl,?_⟩;cases b with
   | true =>
    refine Ul ?_;refine A6 rfl ⟨.inl ⟨rfl,_,IS.of el⟩,l,_,_,rfl,rfl,el,by rw[sizeLine_eq];lia,?_⟩;exact q _ λa o e n=>by rw[B6 λz=>n (by rw[z];exact .head _)];exact k' a o e n
   | false=>exact Z0 (q _ k')
theorem b9(T:Tx K mg):∀n,IU P w K mg base JE n T.ap.f T.ap.fd ["_law_thing"] (Lm n)
 | 0=>⟨λ_ _ _ _ ⟨_,_,_,_,h,_⟩=>h.elim,λ_ _ _ _ _ _ _ _ _ _ _ _ _ ⟨_,_,_,_,h,_⟩=>h.elim⟩
 | n+1=>Bn T (b9 T n)
theorem Ec:IL ["_law_found"] ["_law_found"] (B7 NT):=KU
def Tu:Sp:=λd H Q _=>∃(f r a b c:A3) (e g h:A1 V),d = [.ref f]/\H f=some (.tup [.ref a,.ref r])/\H r=some (.tup [.ref b,.ref c])/\H a=some (.lst e)/\H b=some (.lst g)/\H c=some (.lst h)/\Q (.bl true) H
theorem Em(T:Tx K mg):IU P w K mg base JE 1 T.a5.f T.a5.fd ["_law_found"] Tu:=by
 refine T.a5.F.o1 Ec λk A g s H n Q E o h=>?_
 .obtain⟨f,r,a,b,c,p,t,u,rfl,d,e,v,l,m,q⟩:=h;refine⟨_,(B4 (M9 (PW.pt (t9 (R1 (O3 (E1 (M6 K) T.ae C2 (A8 (pv 0) (A8 (S6 T.aN S8) B1))))) (t9 (D6 Of (E1 (Q7 K) T.aw Q1 (A8 (pv 0) B1)) B8 (E9 _)) (t9 (R1 (O3 (E1 (M6 K) T.ae C2 (A8 (E7 (P_ K) (pv 0) B8 (λ_ _=>rfl)) (A8 (S6 T.aN S8) B1))))) (Z8 (D6 Of (E1 (Q7 K) T.aw Q1 (A8 (E7 (P_ K) (pv 0) B8 (λ_ _=>rfl)) B1)) B8 (E9 _))))))) (B5 (C3 Gf)) D4)
   (B5 (C3 (Ak (E1 (M6 K) T.ae C2 (A8 (E7 (P_ K) (E7 (P_ K) (pv 0) B8 (λ_ _=>rfl)) B8 (λ_ _=>rfl)) (A8 (S6 T.az Q4) B1))) (Cb (E1 (M6 K) T.ae C2 (A8 (E7 (P_ K) (E7 (P_ K) (pv 0) B8 (λ_ _=>rfl)) B8 (λ_ _=>rfl)) (A8 (S6 T.az Q4) B1)))))))),?_⟩
  refine B9 λx i=>?_;refine A6 rfl ⟨.ref f, "tuple",_,true,rfl,.tup d,rfl,_,rfl,Z0 ?_⟩;refine A6 rfl ⟨f,_,rfl,.inr (JJ.of d),rfl,_,rfl,Z0 ?_⟩;refine A6 rfl ⟨f,_,C0 rfl rfl ⟨JJ.of d,D0 (j:=1) rfl,.ref r, "tuple",_,true,rfl,.tup e,rfl,_,rfl,Z0 ?_⟩⟩;refine A6 rfl ⟨f,_,C0 rfl rfl ⟨JJ.of d,D0 (j:=1) rfl,r,_,rfl,.inr (JJ.of e),rfl,_,rfl,Z0 (i _ _ ?_)⟩⟩;refine A6 rfl ⟨f,_,C0 rfl rfl ⟨JJ.of d,D0 (j:=1) rfl,r,_,C0 rfl rfl ⟨JJ.of e,D0 (j:=0) rfl,.ref b, "list",_,true,rfl,.lst l,rfl,_,rfl,Ul ?_⟩⟩⟩;refine A6 rfl ⟨f,_,C0 rfl rfl ⟨JJ.of d,D0 (j:=1) rfl,r,_,C0 rfl rfl ⟨JJ.of e,D0 (j:=1) rfl,.ref c, "list",_,true,rfl,.lst m,rfl,?_⟩⟩⟩;exact q
end
section
variable(st:Str->A1 Str)(ns:A1 Str)
def Ld(dr:A1 Str)(y:Str):A5 Str:=(st y).find? λs=>(st s).all λo=>decide (o∈dr)
def S0(dr:A1 Str):A5 (Str×Str):=(ns.filter λy=>!decide (y∈dr)).findSome? λy=>(Ld st dr y).map λs=>(y,s)
end
section
variable{P:A7}{w:F8}{K:PySem.W.Frag}{mg:Str->A5 A2}{base:IM}
theorem LZ:IL ["web", "dropped", "name", "striker"] ["web", "dropped"] (B7 OI):=KU
def Vp(C:A3):Sp:=λf H Q _=>∃(x a:A3) (d:A1 Str) (e:A1 JV) (c:A1 Str),f = [.ref x,.ref a]/\KD C H x d e/\H a=some (.lst (c.map V.str))/\c.length<=200 /\
 (S0 (B2 e) d c=none->∀b,F1 H b->Q .non b) /\
 ∀y s,S0 (B2 e) d c=some (y,s)->∀t v b,F1 H b->H t=none->b t=some (.tup [.str y,.ref v])->b v=some (.tup [.str "bare",.str s])->Q (.ref t) b
theorem Af(T:Tx K mg):IU P w K mg base JE 3 T.aS.f T.aS.fd ["web", "dropped"] (Vp T.ag):=by
 refine T.aS.F.o1 LZ λcdv A outer s H vs Q E hr h=>?_
 .obtain⟨x,a,B,g,n,rfl,hW,ea,len,q1,q2⟩:=h;refine⟨_,(B4 (O6 PassesOwn.never rfl (MZ K (X3 (N':=["one", "dropped"]) (cap:=[none,some 1]) (cl:=[("dropped",_)]) (P8 ⟨⟨rfl,rfl,rfl,rfl⟩,trivial⟩ ⟨rfl,trivial⟩) rfl (MZ K (U9 (pv 0) T.am T.af.m (I9 T) (Rm hr) T.af.b .nil J9)) (λ_ _ _ _=>by exact⟨(MN 0),(U8 (D6 (Ex K) (pv 0) (pv 1) rfl)),(pv 0)⟩))) (C7 (i:=2) LZ.nd rfl (.inl rfl))
   (B5 (O6 PassesOwn.never rfl (MZ K (D8 (pv 0) T.am T.ak.m (M8 T) (Rm hr) T.ak.b .nil J9 (A8 (pv 2) B1))) (C7 (i:=3) LZ.nd rfl (.inl rfl))
   (B5 (M9 (O3 (E1 (Tk K) T.bu Qh (A8 (X3 (N':=["one", "dropped"]) (cap:=[none,some 1]) (cl:=[("dropped",_)]) (P8 ⟨⟨rfl,rfl,rfl,rfl⟩,trivial⟩ ⟨rfl,trivial⟩) rfl (MZ K (D8 (pv 0) T.am T.ak.m (M8 T) (Rm hr) T.ak.b .nil J9 (A8 (pv 3) B1))) (λ_ _ _ _=>by exact⟨(MN 0),J8,(Q9 (Yt K) (pv 0) (pv 1) rfl)⟩)) B1))) (B5 (C3 (E3 (A8 (pv 2) (A8 (E3 (A8 U5 (A8 (pv 3) B1))) B1))))) D4)))))
   (B5 (C3 d6))),?_⟩
  obtain⟨ok,dx,a1,b,c,d,kc,kd,e1,_⟩:=id hW;refine B9 λN1 hN1=>?_;refine A6 rfl ⟨x,dx,A6 rfl ⟨e1,rfl,x,B,g,rfl,hW,λl hl=>?_⟩⟩;have s1:=F1.new (o:=.lst (B.map V.str)) hl;have el:(IK H l (.lst (B.map V.str))) l=some (.lst (B.map V.str)):=A9;generalize IK H l (.lst (B.map V.str))=H1 at s1 el⊢;refine⟨l,rfl,⟨_,IS.of el⟩,λD hD=>Er (r:=V.str) V.str (MY (K:=K) (IS.of el)) (λy=>!decide (y∈n)) (Nat.le_trans ok.len (by decide)) hD (λy u G I M L=>?_) (λy u G I M L=>A6 rfl L) λσ' G1 s2 e2=>?_⟩
  .exact A6 rfl (A6 rfl (w5 (.inl (IS.of (I _ _ (s1 _ _ ea)))) ⟨_,rfl,L G λb o e=>e⟩))
  have X:=s1.trans s2;refine⟨D,rfl,⟨_,IS.of e2⟩,?_⟩;have sub:∀{i:Nat} {y:Str},(B.filter λy=>!decide (y∈n))[i]?=some y->y∈B:=λh=>(BC.mp (AI h)).1;unfold S0 at q1 q2;generalize (B.filter λy=>!decide (y∈n))=zs at e2 sub q1 q2;refine Bs (MY (IS.of e2)) (λi σ G=>(∃v2 W,σ = [some (.ref x),some (.ref a),v2,W])/\F1 G1 G/\∀y∈zs.take i,Ld (B2 g) n y=none) ⟨⟨_,_,rfl⟩,λb o e=>e,λy h=>by cases h⟩ (λi σ G hi h=>h.2.1.at D) (λi σ G z Y h=>?_) λσ G h=>hN1 _ _ ?_
  .obtain⟨⟨v2,W,rfl⟩,I,Z⟩:=h;rw[AH]at Y;obtain⟨y,u,rfl⟩:=AQ.mp Y;have N:=X.trans I;have hyn:=sub u;refine A6 rfl ⟨x,dx,A6 rfl ⟨N _ _ e1,rfl,A6 rfl ⟨x,y,B,g,rfl,hW.same N,hyn,λp hp=>?_⟩⟩⟩;have sp:=F1.new (o:=.lst ((B2 g y).map V.str)) hp;have ep:(IK G p (.lst ((B2 g y).map V.str))) p=some (.lst ((B2 g y).map V.str)):=A9;generalize IK G p (.lst ((B2 g y).map V.str))=G2 at sp ep⊢;have s14:=N.trans sp;refine⟨p,rfl,⟨_,IS.of ep⟩,?_⟩;refine Bs (MY (IS.of ep)) (λj σ G=>(∃W,σ = [some (.ref x),some (.ref a),some (.str y),W])/\F1 G2 G/\∀s∈(B2 g y).take j,¬((B2 g s).all λo=>decide (o∈n))=true) ⟨⟨_,rfl⟩,λb o e=>e,λy h=>by cases h⟩ (λj σ G hj h=>h.2.1.at p) (λj σ G z Y h=>?_) λσ G h=>?_
   .obtain⟨⟨W,rfl⟩,J,C⟩:=h;rw[AH]at Y;obtain⟨s,O,rfl⟩:=AQ.mp Y;have R:=s14.trans J;have hsn:s∈B:=by
     obtain⟨q,hq,_,e⟩:=JD.mp (AI O);rw[<-e];exact(ok.mem q hq).1
    refine A6 rfl ⟨x,dx,A6 rfl ⟨R _ _ e1,rfl,A6 rfl ⟨x,s,B,g,rfl,hW.same R,hsn,λp2 hp2=>?_⟩⟩⟩;have S:=F1.new (o:=.lst ((B2 g s).map V.str)) hp2;have U:(IK G p2 (.lst ((B2 g s).map V.str))) p2=some (.lst ((B2 g s).map V.str)):=A9;generalize IK G p2 (.lst ((B2 g s).map V.str))=G3 at S U⊢;have s16:=R.trans S;have ls:(B2 g s).length<=5000:=by
     have:=T7 g s;have:=ok.lenq;lia
    refine⟨p2,rfl,⟨_,IS.of U⟩,λD2 hD2=>Er (r:=V.str) (λo=>V.bl (decide (o∈n))) (MY (K:=K) (IS.of U)) (λ_=>true) ls hD2 (λy u G I M L=>L G λb o e=>e) (λy u G I M L=>?_) λσ' G4 s7 e7=>?_⟩
    .exact A6 rfl (A6 rfl (Jl (.inl (IS.of (I _ _ (s16 _ _ ea)))) L))
    have s17:=s16.trans s7;refine⟨D2,(B2 g s).map λo=>decide (o∈n),rfl,IS.of (by rw[e7,F_.mpr λ_ _=>rfl,BL];rfl),?_⟩;have ea2:((B2 g s).map λo=>decide (o∈n)).all id =(B2 g s).all λo=>decide (o∈n):=by rw[List.all_map];rfl
    rw[ea2];refine⟨_,rfl,V0 (λc=>?_) λc=>?_⟩
    .have hb:Ld (B2 g) n y=some s:=by
      unfold Ld;exact List.find?_eq_some_iff_getElem.mpr ⟨c,j,(AE.mp O).1,(AE.mp O).2,λk hk=>by
       have:=C _ (FU.mpr ⟨k,by rw[AZ];have:=(AE.mp O).1;lia,rfl⟩);rw[GV]at this;simpa using this⟩
     have hf:zs.findSome? (λy=>(Ld (B2 g) n y).map λs=>(y,s))=some (y,s):=by
      have e:=BT i zs;rw[<-e,List.findSome?_append];have n0:(zs.take i).findSome? (λy=>(Ld (B2 g) n y).map λs=>(y,s))=none:=DG.mpr λy u=>by rw[Z y u];rfl
      rw[n0,ER (AE.mp u).1,(AE.mp u).2,List.findSome?_cons,hb];rfl
     refine A6 rfl (A6 rfl ⟨by show 2<=sizeLine;decide,λv hv=>⟨by show 2<=sizeLine;decide,λt ht=>?_⟩⟩);have uv:=F1.new (o:=.tup [.str "bare",.str s]) hv;have ut:=F1.new (o:=.tup [.str y,.ref v]) ht;exact q2 y s hf t v _ (s17.trans (uv.trans ut)) (s17.free (uv.free ht)) A9 (ut _ _ A9)
    .refine⟨⟨_,rfl⟩,J.trans (S.trans s7),λs' hs'=>?_⟩;rw[IW O]at hs';rcases AO.mp hs' with z | z
     .exact C s' z
     .rw[AD.mp z];exact c
   .obtain⟨⟨W,rfl⟩,J,C⟩:=h;rw[AB,BQ]at C;refine⟨⟨_,_,rfl⟩,I.trans (sp.trans J),λy' hy'=>?_⟩;rw[IW u]at hy';rcases AO.mp hy' with z | z
    .exact Z y' z
    .rw[AD.mp z];exact FN.mpr λs O=>C s O
  .obtain⟨_,I,Z⟩:=h;rw[AB,BQ]at Z;exact q1 (DG.mpr λy u=>by rw[Z y u];rfl) _ (X.trans I)
end
section
variable(st:Str->A1 Str)(ns:A1 Str)
def U0:Nat->A1 Str->A1 (Str×Str)
 | 0,_=>[]
 | k+1,a=>match S0 st ns a with
  | none=>[]
  | some q=>q::U0 k (a ++ [q.1])
def JK(dr:A1 Str):Nat:=(ns.filter λy=>!decide (y∈dr)).length
variable{st ns}
theorem O9{dr:A1 Str}{q:Str×Str}(h:S0 st ns dr=some q):q.1∈ns/\q.1∉dr/\q.2∈st q.1/\∀o∈st q.2,o∈dr:=by
 unfold S0 at h;obtain⟨y,b,e⟩:=List.exists_of_findSome?_eq_some h;obtain⟨s,a,rfl⟩:=AQ.mp e;obtain⟨m,n⟩:=BC.mp b;unfold Ld at a;refine⟨m,by simpa using n,HC a,λo c=>?_⟩;have:=List.find?_some a;exact BV (EH.mp this o c)
theorem Jw{dr:A1 Str}{y:Str}(h:y∈ns)(n:y∉dr):JK ns (dr ++ [y])<JK ns dr:=by
 unfold JK
 induction ns with
 | nil=>cases h
 | cons z c g =>
  have le:(c.filter λd=>!decide (d∈dr ++ [y])).length<=(c.filter λy=>!decide (y∈dr)).length:=by
   rw[show(c.filter λd=>!decide (d∈dr ++ [y])) =(c.filter λy=>!decide (y∈dr)).filter λd=>!decide (d∈dr ++ [y]) by
    rw[List.filter_filter];refine List.filter_congr λa _=>?_;by_cases b:a∈dr
    .simp[b]
    .simp[b]]
   exact BM _ _
  rw[DQ,DQ];by_cases f:z=y
  .subst f;rw[AJ (by simp),AL (by simpa using n),AR];lia
  .have i:y∈c:=(AK.mp h).resolve_left λe=>f e.symm;have:=g i;by_cases b:z∈dr
   .rw[AJ (by simp[b]),AJ (by simp[b])];exact this
   .rw[AL (by simp[b,f]),AL (by simp[b]),AR,AR];lia
theorem Na{dr:A1 Str}{y:Str}(h:y∈ns)(n:y∉dr):0<JK ns dr:=Nat.lt_of_le_of_lt (CL _) (Jw h n)
theorem Hf:∀{k:Nat} {dr:A1 Str},JK ns dr<=k->S0 st ns (dr ++(U0 st ns k dr).map λq=>q.1)=none
 | 0,dr,h=>by
  rw[U0,EK,BU];cases e:S0 st ns dr with
  | none=>rfl
  | some q=>have:=Na (O9 e).1 (O9 e).2.1;lia
 | k+1,dr,h=>by
  rw[U0];cases e:S0 st ns dr with
  | none=>simpa using e
  | some q =>
   have l:=Jw (O9 e).1 (O9 e).2.1;have:=Hf (k:=k) (dr:=dr ++ [q.1]) (by lia)
   rwa [BE]at this
theorem Hs:∀{k:Nat} {dr:A1 Str} {q:Str×Str},q∈U0 st ns k dr->q.1∈ns/\q.2∈st q.1
 | 0,_,_,h=>by cases h
 | k+1,dr,q,h=>by
  rw[U0]at h;cases e:S0 st ns dr with
  | none=>rw[e]at h;cases h
  | some a =>
   rw[e]at h;rcases AK.mp h with z | z
   .rw[z];exact⟨(O9 e).1,(O9 e).2.2.1⟩
   .exact Hs z
end
section
variable{P:A7}{w:F8}{K:PySem.W.Frag}{mg:Str->A5 A2}{base:IM}
def Fr(st:Str->A1 Str)(ns dr:A1 Str)(a:V)(G:Hp):Prop:=(S0 st ns dr=none/\a = .non)\/∃y s t v,S0 st ns dr=some (y,s)/\a = .ref t/\G t=some (.tup [.str y,.ref v])/\G v=some (.tup [.str "bare",.str s])
abbrev SZ:=A3×A3×Str×Str
def BIn(G:Hp)(r:SZ):Prop:=G r.1=some (.tup [.str r.2.2.1,.ref r.2.1])/\G r.2.1=some (.tup [.str "bare",.str r.2.2.2])
def RV(D:A3)(_:St)(G:Hp):Nat:=match G D with
 | some (.lst a)=>300-a.length
 | _=>0
def zGr(st:Str->A1 Str)(ns d:A1 Str)(x a D b:A3)(H:Hp)(σ:St)(G:Hp):Prop:=∃(c:A1 SZ) (k:Nat) (e:V),σ = [some (.ref x),some (.ref a),some (.ref D),some (.ref b),some e]/\F1 H G/\G D=some (.lst ((d++c.map λr=>r.2.2.1).map V.str))/\G b=some (.lst (c.map λr=>V.ref r.1))/\(∀r∈c,BIn G r) /\
 JK ns (d++c.map λr=>r.2.2.1)<=k/\c.length+k<=ns.length/\c.map (λr=>r.2.2)++U0 st ns k (d++c.map λr=>r.2.2.1)=U0 st ns ns.length d/\Fr st ns (d++c.map λr=>r.2.2.1) e G
theorem KC:IL ["web", "drops", "dropped", "bare", "fresh"] ["web", "drops"] (B7 NV):=KU
def Uh(K:PySem.W.Frag)(C:A3):Sp:=λg H Q _=>∃(x a:A3) (e:A1 Str) (f:A1 JV) (c:A1 (A3×Str×V)),g = [.ref x,.ref a]/\KD C H x e f/\H a=some (.lst (c.map λt=>V.ref t.1))/\(∀t∈c,H t.1=some (.tup [.str t.2.1,t.2.2]))/\c.length<=100 /\
 ∀l d (b:A1 SZ),F1 H d->H l=none->d l=some (.lst (b.map λr=>V.ref r.1))->(∀r∈b,BIn d r) ->
  b.map (λr=>r.2.2)=U0 (B2 f) e e.length (c.map λt=>t.2.1)->Q (.ref l) d
theorem Fs(T:Tx K mg):IU P w K mg base JE 4 T.a2.f T.a2.fd ["web", "drops"] (Uh K T.ag):=by
 refine T.a2.F.o1 KC λcdv A outer s H vs Q E hr h=>?_
 .obtain⟨x,a,C,L,g,rfl,hW,M,et,len,q⟩:=h;refine⟨_,(B4 (j0 (i:=2) (N':=["name", "why"]) (cap:=[none,none]) (cl:=[]) KC.nd rfl (.inl rfl) (P8 trivial trivial) rfl (MZ K (pv 1)) (λ_ _ _ _=>by exact⟨(QT K (n:=2) (C5 (MN 0) (C5 (MN 1) P9))),J8,(pv 0)⟩))
   (B4 (C6 (i:=3) KC.nd rfl (.inl rfl) (Q5 B1))
   (B4 (C6 (i:=4) KC.nd rfl (.inl rfl) (C9 T.aS (Af T) (Rm hr) (A8 (pv 0) (A8 (pv 2) B1))))
   (B4 (Wj PassesOwn.never (D6 Fu (pv 4) d6 (E9 _)) (B4 (J7 (Jb K PySem.F.plainAttrs_list PySem.F.slot_list_append PySem.F.type_list_append K4 (pv 3) (A8 (pv 4) B1)))
   (B4 (J7 (Jb K PySem.F.plainAttrs_list PySem.F.slot_list_append PySem.F.type_list_append K4 (pv 2) (A8 (E7 (P_ K) (pv 4) B8 (λ_ _=>rfl)) B1)))
   (B5 (C6 (i:=4) KC.nd rfl (.inl rfl) (C9 T.aS (Af T) (Rm hr) (A8 (pv 0) (A8 (pv 2) B1))))))))
   (B5 (C3 (pv 3))))))),?_⟩
  refine B9 λN1 hN1=>?_;refine A6 rfl ⟨a,rfl,⟨_,IS.of M⟩,λD hD=>?_⟩;refine S5 (MY (IS.of M)) (λi σ G=>(∃v0 v1,σ = [v0,v1])/\F1 H G/\G D=some (.lst (((g.take i).map λt=>t.2.1).map V.str))) ⟨⟨_,_,rfl⟩,F1.new hD,A9⟩ (λi σ G _ h=>h.2.1.at a) ?_ ?_
  .rintro i σ G v N hx ⟨⟨v0,v1,rfl⟩,I,eG⟩ hN;rw[AH]at hx;obtain⟨t,ht,rfl⟩:=AQ.mp hx;refine⟨t.1,_,rfl,JJ.of (I _ _ (et t (AI ht))),rfl,_,_,rfl,_,_,rfl,rfl,?_⟩;dsimp only[Cj];rw[AL rfl];refine A6 rfl ⟨_,eG,by rw[AB,AB,AZ,sizeLine_eq];lia,hN _ _ ⟨⟨_,_,rfl⟩,I.upd hD,?_⟩⟩;rw[A9,IW ht,AN,AN];rfl
  rintro σ G ⟨_,I,eG⟩;rw[AB,BQ]at eG;refine hN1 _ _ (B9 λN2 hN2=>?_);refine⟨CL _,λb hb=>hN2 _ _ (B9 λN3 hN3=>?_)⟩;have sb:=F1.new (o:=.lst []) hb;have eb:(IK G b (.lst [])) b=some (.lst []):=A9;have eD:=sb _ _ eG;have hbH:H b=none:=I.free hb;generalize IK G b (.lst [])=G1 at sb eb eD⊢;have nbD:b≠D:=(B3 eG hb).symm;have s1:=I.trans sb;obtain⟨ok,_⟩:=id hW;have key:∀(u:V) (Y:Hp),F1 G1 Y->Fr (B2 L) C (g.map λt=>t.2.1) u Y->N3 [some (.ref x),some (.ref a),some (.ref D),some (.ref b),some u] Y:=λu Y O hf=>hN3 _ _ (B9 λN4 hN4=>by
   refine Vb (zGr (B2 L) C (g.map λt=>t.2.1) x a D b H) (RV D) ?_ ?_ ?_
   .exact⟨[],C.length,u,rfl,s1.trans O,by rw[EK,BU];exact O _ _ eD,O _ _ eb,λr h=>(by cases h),BM _ _,by rw[EO];lia,by rw[EK,EK,BU];rfl,by rw[EK,BU];exact hf⟩
   .rintro σ G ⟨d,k,u,rfl,I,fD,fb,R,lk,lr,er,hf⟩;rcases hf with⟨hn,rfl⟩ | ⟨y,s,t,v,hs,rfl,S,U⟩
    .refine A6 rfl ⟨rfl,_,rfl,V0 (λz=>absurd z (by simp)) λ_=>hN4 _ _ ?_⟩;have be:U0 (B2 L) C k ((g.map λt=>t.2.1)++d.map λr=>r.2.2.1) = []:=by
      cases k with
      | zero=>rfl
      | succ k=>rw[U0,hn]
     rw[be,BU]at er;exact A6 rfl (q b G d I hbH fb R er)
    .obtain⟨m1,m2,_⟩:=O9 hs;have lp:=Na m1 m2;have ll:=Jw m1 m2;obtain⟨k,rfl⟩:∃k',k=k'+1:=⟨k-1,by lia⟩;have okl:=ok.len;refine A6 rfl ⟨rfl,_,rfl,V0 (λ_=>?_) λz=>absurd (by simp) z⟩;refine B9 λN5 hN5=>?_;refine A6 rfl ⟨.inl ⟨rfl,_,IS.of fb⟩,A6 rfl ⟨b,_,_,rfl,rfl,fb,by rw[AB,sizeLine_eq];lia,hN5 _ _ (B9 λN6 hN6=>?_)⟩⟩;have ub:∀c o,G c=some o->c≠b->(IK G b (.lst ((d.map λr=>V.ref r.1) ++ [.ref t]))) c=some o:=λc o e n=>(B6 n).trans e;have fb1:(IK G b (.lst ((d.map λr=>V.ref r.1) ++ [.ref t]))) b=some (.lst ((d ++ [(t,v,y,s)]).map λr=>V.ref r.1)):=by rw[A9,AN];rfl
     have nb:∀{c Z},G c=some (.tup Z)->c≠b:=λe z=>by rw[z,fb]at e;cases e
     have nD:∀{c Z},G c=some (.tup Z)->c≠D:=λe z=>by rw[z,fD]at e;cases e
     have sG1:=I.upd hbH (o:=.lst ((d.map λr=>V.ref r.1) ++ [.ref t]));generalize IK G b (.lst ((d.map λr=>V.ref r.1) ++ [.ref t]))=G3 at ub fb1 sG1⊢;have fD1:=ub _ _ fD nbD.symm;have e1':=ub _ _ S (nb S);refine A6 rfl ⟨.inl ⟨rfl,_,IS.of fD1⟩,A6 rfl ⟨t,_,C0 rfl rfl ⟨JJ.of e1',D0 (j:=0) rfl,D,_,_,rfl,rfl,fD1,?_,hN6 _ _ ?_⟩⟩⟩
     .rw[AB,AW,AB,AB,sizeLine_eq];lia
     have uD:∀c o,G3 c=some o->c≠D->(IK G3 D (.lst ((((g.map λt=>t.2.1)++d.map λr=>r.2.2.1).map V.str) ++ [.str y]))) c=some o:=λc o e n=>(B6 n).trans e;have M:((g.map λt=>t.2.1)++d.map λr=>r.2.2.1) ++ [y] =(g.map λt=>t.2.1) ++(d ++ [(t,v,y,s)]).map λr=>r.2.2.1:=by rw[AN,BE];rfl
     have B:(IK G3 D (.lst ((((g.map λt=>t.2.1)++d.map λr=>r.2.2.1).map V.str) ++ [.str y]))) D=some (.lst (((g.map λt=>t.2.1) ++(d ++ [(t,v,y,s)]).map λr=>r.2.2.1).map V.str)):=by rw[A9,<-M,AN (l₂:=[y])];rfl
     have W:=sG1.upd hD (o:=.lst ((((g.map λt=>t.2.1)++d.map λr=>r.2.2.1).map V.str) ++ [.str y]));generalize IK G3 D (.lst ((((g.map λt=>t.2.1)++d.map λr=>r.2.2.1).map V.str) ++ [.str y]))=G4 at uD B W⊢;have fb2:=uD _ _ fb1 nbD;have tp:∀{c Z},G c=some (.tup Z)->G4 c=some (.tup Z):=λe=>uD _ _ (ub _ _ e (nb e)) (nD e);have lr2:((g.map λt=>t.2.1) ++(d ++ [(t,v,y,s)]).map λr=>r.2.2.1).length<=200:=by
      rw[AW,AB,AB,AW,GS];lia
     have J:∀(u:V) (X:Hp),F1 G4 X->Fr (B2 L) C ((g.map λt=>t.2.1) ++(d ++ [(t,v,y,s)]).map λr=>r.2.2.1) u X->zGr (B2 L) C (g.map λt=>t.2.1) x a D b H [some (.ref x),some (.ref a),some (.ref D),some (.ref b),some u] X/\RV D [some (.ref x),some (.ref a),some (.ref D),some (.ref b),some u] X<RV D [some (.ref x),some (.ref a),some (.ref D),some (.ref b),some (.ref t)] G:=λu X p hf5=>⟨⟨d ++ [(t,v,y,s)],k,u,rfl,W.trans p,p _ _ B,p _ _ fb2,λr hr5=>(by
       rcases AO.mp hr5 with z | z
       .exact⟨p _ _ (tp (R r z).1),p _ _ (tp (R r z).2)⟩
       .rw[AD.mp z];exact⟨p _ _ (tp S),p _ _ (tp U)⟩),by rw[<-M];exact Nat.le_of_lt_succ (BJ ll lk),by rw[AW,GS];lia,by
        rw[<-er,AN,BE,U0,hs,<-M];rfl,hf5⟩,by
       unfold RV;rw[p _ _ B,fD];dsimp only;rw[<-M,AB,AW,AB,GS,AW,AB,AB];lia⟩
     refine A6 rfl (A6 rfl ⟨x,D,C,L,_,rfl,hW.same W,B,lr2,λhn X p=>J _ _ p (.inl ⟨hn,rfl⟩),λy' s' hs' t' v' X p ht' S U=>J _ _ p (.inr ⟨y',s',t',v',hs',rfl,S,U⟩)⟩)
   .rintro σ G Q Q' m ⟨v,e,U,k,e3,h⟩;exact⟨v,e,U,k,e3,m _ _ h⟩)
  refine A6 rfl (A6 rfl ⟨x,D,C,L,g.map λt=>t.2.1,rfl,hW.same s1,eD,by rw[AB];lia,λhn Y O=>key _ _ O (.inl ⟨hn,rfl⟩),λy s hs t v Y O ht S U=>key _ _ O (.inr ⟨y,s,t,v,hs,rfl,S,U⟩)⟩)
end
section
variable(st:Str->A1 Str)(tf:Str->A5 (A1 Str))(td:Str->PyData)
def oD(y:Str):A5 PyData:=match(st y).find? λs=>(tf s).isSome with
 | some s=>some (.tuple [.str "struck",.list (((tf s).getD []).map PyData.str)])
 | none=>if(tf y).isNone then some (.tuple [.str "never",td y])else none
def Wp(ns:A1 Str):A1 (Str×PyData):=ns.filterMap λy=>(oD st tf td y).map λd=>(y,d)
def PX(H:Hp)(y:Str)(t l:A3):Prop:=(∃a,tf y=some a/\H t=some (.tup [.str "told",.ref l])/\H l=some (.lst (a.map V.str)))\/(tf y=none/\H t=some (.tup [.str "none",.ref l])/\Ow H 27 (td y) (.ref l) [])
end
def PX.same{d:Str->A5 (A1 Str)}{td:Str->PyData}{H H':Hp}{y:Str}{t l:A3}(s:F1 H H')(h:PX d td H y t l):PX d td H' y t l:=h.imp (λ⟨e,a,b,c⟩=>⟨e,a,s _ _ b,s _ _ c⟩) λ⟨a,b,c⟩=>⟨a,s _ _ b,c.same s⟩
abbrev SD:=A3×Str×V×PyData×A1 A3
def UF(G:Hp)(r:SD):Prop:=G r.1=some (.tup [.str r.2.1,r.2.2.1])/\Ow G 30 r.2.2.2.1 r.2.2.1 r.2.2.2.2
def UF.same{G a:Hp}{r:SD}(s:F1 G a)(h:UF G r):UF a r:=⟨s _ _ h.1,h.2.same s⟩
section
variable{st:Str->A1 Str}{tf:Str->A5 (A1 Str)}{td:Str->PyData}{H:Hp}{D l:A3}{ns pre:A1 Str}{G:Hp}
def PY(st:Str->A1 Str)(tf:Str->A5 (A1 Str))(td:Str->PyData)(H:Hp)(D l:A3)(ns pre:A1 Str)(G:Hp):Prop:=∃a:A1 SD,F1 H G/\G l=some (.lst (ns.map V.str))/\G D=some (.lst (a.map λr=>V.ref r.1))/\(∀r∈a,UF G r)/\a.map (λr=>(r.2.1,r.2.2.2.1))=Wp st tf td pre/\(∀r∈a,∀m∈r.2.2.2.2,H m=none/\m≠D/\m≠l)/\(a.map λr=>r.2.2.2.2).flatten.Nodup
theorem Je(y:Str):Wp st tf td (pre ++ [y])=Wp st tf td pre ++((oD st tf td y).map λd=>(y,d)).toList:=by
 unfold Wp;rw[List.filterMap_append,DR];cases oD st tf td y<;>rfl
theorem PY.at_(h:PY st tf td H D l ns pre G):∃xs,G D=some (.lst xs):=let⟨_,_,_,e,_⟩:=h;⟨_,e⟩
theorem PY.skip{e:Hp}{y:Str}(h:PY st tf td H D l ns pre G)(f:oD st tf td y=none)(s:F1 G e):PY st tf td H D l ns (pre ++ [y]) e:=by
 obtain⟨a,g,i,j,b,er,c,d⟩:=h;exact⟨a,g.trans s,s _ _ i,s _ _ j,λr k=>(b r k).same s,by rw[er,Je,f];simp,c,d⟩
theorem PY.add{f:Hp}{y:Str}{u:PyData}{t:A3}{v:V}{M:A1 A3}(h:PY st tf td H D l ns pre G)(P:H D=none)(w:l≠D)(Q:oD st tf td y=some u)(s:F1 G f)(K:f t=some (.tup [.str y,v]))(hw:Ow f 30 u v M)(R:M.Nodup)(A:∀m∈M,G m=none)(U:pre.length<=200) :
  ∃xs,f D=some (.lst xs)/\xs.length<sizeLine/\PY st tf td H D l ns (pre ++ [y]) (IK f D (.lst (xs ++ [.ref t]))):=by
 obtain⟨d,L,N,B,i,er,j,C⟩:=h;have W:d.length<=pre.length:=by
  have e:=congrArg List.length er;rw[AB]at e;rw[e];exact List.length_filterMap_le _ _
 have p:=s _ _ B;have E:∀{c xs},f c=some (.tup xs)->c≠D:=λe z=>by rw[z,p]at e;cases e
 have k:∀a o,f a=some o->a∉[D]->(IK f D (.lst ((d.map λr=>V.ref r.1) ++ [.ref t]))) a=some o:=λa o e n=>(B6 λz=>n (by rw[z];exact .head _)).trans e;have O:∀x∈[D],∀xs,f x≠some (.tup xs):=λx S xs e=>E e (AD.mp S);refine⟨_,p,by rw[AB,sizeLine_eq];lia,d ++ [(t,y,v,u,M)],(L.trans s).upd P,(B6 w).trans (s _ _ N),by rw[A9,AN];rfl,λr q=>?_,by rw[AN,er,Je,Q];rfl,λr q m g=>?_,?_⟩
 .rcases AO.mp q with z | z
  .obtain⟨a,b⟩:=(i r z).same s;exact⟨(B6 (E a)).trans a,b.keep k O λm g h=>(j r z m g).2.1 (AD.mp h)⟩
  .rw[AD.mp z];exact⟨(B6 (E K)).trans K,hw.keep k O λm g h=>by
    have:=A m g;rw[AD.mp h,B]at this;cases this⟩
 .rcases AO.mp q with z | z
  .exact j r z m g
  .rw[AD.mp z]at g;have:=A m g;exact⟨L.free this,(λz=>by rw[z,B]at this;cases this),(λz=>by rw[z,N]at this;cases this)⟩
 .rw[AN,List.flatten_append];refine DK.mpr ⟨C,by simpa using R,λa F b I e=>?_⟩;have I:b∈M:=by simpa using I
  obtain⟨X,J,F⟩:=CG.mp F;obtain⟨r,q,rfl⟩:=AX.mp J;obtain⟨xs,T⟩:=(i r q).2.here a F;have:=A b I;rw[<-e,T]at this;cases this
end
section
variable{P:A7}{w:F8}{K:PySem.W.Frag}{mg:Str->A5 A2}{base:IM}
theorem KI:IL ["web", "told", "drops", "name", "against"] ["web", "told"] (B7 ND):=KU
def Sx(C:A3):Sp:=λi H Q _=>∃(x d:A3) (c:A1 Str) (g:A1 JV) (b:A1 (JC×V)) (e:Str->A5 (A1 Str)) (h:Str->PyData),i = [.ref x,.ref d]/\KD C H x c g/\H d=some (.dK b)/\(∀y∈c,∃t l,U2 b (.inr y)=some (.ref t)/\PX e h H y t l)/\(∀y∈c,PySem.PyData.strOk y=true)/\(∀y f,e y=some f->f.length<=100/\∀z∈f,PySem.PyData.strOk z=true) /\
 ∀l G (a:A1 SD),F1 H G->H l=none->G l=some (.lst (a.map λr=>V.ref r.1))->(∀r∈a,UF G r)->a.map (λr=>(r.2.1,r.2.2.2.1))=Wp (B2 g) e h c->(∀r∈a,∀m∈r.2.2.2.2,H m=none/\m≠l)->(a.map λr=>r.2.2.2.2).flatten.Nodup->Q (.ref l) G
theorem Cq(T:Tx K mg):IU P w K mg base JE 3 T.aU.f T.aU.fd ["web", "told"] (Sx T.ag):=by
 refine T.aU.F.o1 KI λcdv A outer s H vs Q E W h=>?_
 .obtain⟨x,d,C,u,kvs,J,td,rfl,hW,ed,I,oks,okt,q⟩:=h;have hu:=V6 W;refine⟨_,(B4 (C6 (i:=2) KI.nd rfl (.inl rfl) (Q5 B1))
   (B4 (O6 PassesOwn.never rfl (MZ K (U9 (pv 0) T.am T.af.m (I9 T) (Rm W) T.af.b .nil J9)) (C7 (i:=3) KI.nd rfl (.inl rfl))
   (B4 (j0 (i:=4) (N':=["striker", "told"]) (cap:=[none,some 1]) (cl:=[("told",_)]) KI.nd rfl (.inl rfl) (P8 ⟨⟨rfl,rfl,rfl,rfl⟩,trivial⟩ ⟨rfl,trivial⟩) rfl (MZ K (D8 (pv 0) T.am T.ak.m (M8 T) (Rm W) T.ak.b .nil J9 (A8 (pv 3) B1))) (λ_ _ _ _=>by exact⟨(MN 0),(U8 (D6 i8 (E7 (P_ K) (K3 hu (pv 1) (pv 0) (λ_ _=>rfl)) B8 (λ_ _=>rfl)) U5 (E9 _))),(pv 0)⟩))
   (B5 (M9 (TJ K (pv 4)) (B5 (J7 (Jb K PySem.F.plainAttrs_list PySem.F.slot_list_append PySem.F.type_list_append K4 (pv 2) (A8 (E3 (A8 (pv 3) (A8 (E3 (A8 U5 (A8 (Hq (w8 K) T.az Q4 (A8 (E7 (P_ K) (K3 hu (pv 1) (E7 (M_ K) (pv 4) B8 (λ_ _=>rfl)) (λ_ _=>rfl)) B8 (λ_ _=>rfl)) B1)) B1))) B1))) B1)))) (B5 (M9 (D6 i8 (E7 (P_ K) (K3 hu (pv 1) (pv 3) (λ_ _=>rfl)) B8 (λ_ _=>rfl)) U5 (E9 _)) (B5 (J7 (Jb K PySem.F.plainAttrs_list PySem.F.slot_list_append PySem.F.type_list_append K4 (pv 2) (A8 (E3 (A8 (pv 3) (A8 (E3 (A8 U5 (A8 (E7 (P_ K) (K3 hu (pv 1) (pv 3) (λ_ _=>rfl)) B8 (λ_ _=>rfl)) B1))) B1))) B1)))) D4))))))
   (B5 (C3 (pv 2))))),?_⟩
  obtain⟨ok,dx,a1,b,c,d',kc,kd,e1,_⟩:=id hW;refine B9 λN1 hN1=>?_;refine⟨CL _,λD hD=>hN1 _ _ (B9 λN2 hN2=>?_)⟩;have s0:=F1.new (o:=.lst []) hD;have X:(IK H D (.lst [])) D=some (.lst []):=A9;generalize IK H D (.lst [])=H0 at s0 X⊢;refine A6 rfl ⟨x,dx,A6 rfl ⟨s0 _ _ e1,rfl,x,C,u,rfl,hW.same s0,λl hl=>?_⟩⟩;have nlD:l≠D:=(B3 X hl).symm;have s1:=s0.trans (F1.new (o:=.lst (C.map V.str)) hl);have el:(IK H0 l (.lst (C.map V.str))) l=some (.lst (C.map V.str)):=A9;have X:=F1.new (o:=.lst (C.map V.str)) hl _ _ X;generalize IK H0 l (.lst (C.map V.str))=H1 at s1 el X⊢;refine⟨l,rfl,⟨_,IS.of el⟩,?_⟩;refine Bs (MY (IS.of el)) (λi σ G=>(∃v3 v4,σ = [some (.ref x),some (.ref d),some (.ref D),v3,v4])/\PY (B2 u) J td H D l C (C.take i) G)
   ⟨⟨_,_,rfl⟩,[],s1,el,X,λr h=>(by cases h),rfl,λr h=>(by cases h),GF⟩ ?_ (λi σ G z hz h=>?_) λσ G h=>hN2 _ _ ?_
  .rintro i σ G hi ⟨_,_,_,e,_⟩ o e';rw[el]at e';cases e';exact e
  .obtain⟨⟨v3,v4,rfl⟩,hI⟩:=h;obtain⟨_,Y,_⟩:=id hI;obtain⟨gx,gD⟩:=hI.at_;rw[AH]at hz;obtain⟨y,hy,rfl⟩:=AQ.mp hz;have hyn:=AI hy;have lti:(C.take i).length<=200:=by
    have:=ok.len;rw[AZ];lia
   refine B9 λN3 hN3=>?_;refine A6 rfl ⟨x,dx,A6 rfl ⟨Y _ _ e1,rfl,A6 rfl ⟨x,y,C,u,rfl,hW.same Y,hyn,λp hp=>?_⟩⟩⟩;have sp:=F1.new (o:=.lst ((B2 u y).map V.str)) hp;have ep:(IK G p (.lst ((B2 u y).map V.str))) p=some (.lst ((B2 u y).map V.str)):=A9;generalize IK G p (.lst ((B2 u y).map V.str))=G2 at sp ep⊢;have ls:(B2 u y).length<=5000:=by
    have:=T7 u y;have:=ok.lenq;lia
   have sub:∀s∈B2 u y,s∈C:=λs hs=>by
    obtain⟨q,hq,_,e⟩:=JD.mp hs;rw[<-e];exact(ok.mem q hq).1
   refine⟨p,rfl,⟨_,IS.of ep⟩,λD2 hD2=>Er (r:=V.str) V.str (MY (K:=K) (IS.of ep)) (λs=>(J s).isSome) ls hD2 (λs hs G' sG' M Z=>?_) (λs hs G' sG' M Z=>A6 rfl Z) λσ' G3 s3 N=>?_⟩
   .have sA:=(Y.trans sp).trans sG';obtain⟨t,lt,hv,hT⟩:=I s (sub s hs);refine A6 rfl (A6 rfl ⟨d,.ref t,rfl,by rw[<-hv];exact MM.k (k:=Sum.inr s) (sA _ _ ed),?_⟩);rcases hT.same sA with⟨ss,a,b,c⟩ | ⟨a,b,c⟩
    .refine⟨t,_,C0 rfl rfl ⟨JJ.of b,D0 (j:=0) rfl,rfl,_,rfl,?_⟩⟩;rw[a]at Z;exact Z G' λb o e=>e
    .refine⟨t,_,C0 rfl rfl ⟨JJ.of b,D0 (j:=0) rfl,rfl,_,rfl,?_⟩⟩;rw[a]at Z;exact Z G' λb o e=>e
   have L:=(Y.trans sp).trans s3;have B:=sp.trans s3;refine hN3 _ _ ?_;rw[IW hy];have N:G3 D2=some (.lst (((B2 u y).filter λs=>(J s).isSome).map V.str)):=N;cases hf:(B2 u y).filter λs=>(J s).isSome with
   | cons s rest =>
    rw[hf]at N;have g:(B2 u y).find? (λs=>(J s).isSome)=some s:=by rw[<-List.head?_filter,hf];rfl
    have hsm:s∈B2 u y:=HC g;obtain⟨t,lt,hv,hT⟩:=I s (sub s hsm);rcases hT.same L with⟨ss,a,b,c⟩ | ⟨a,b,c⟩
    .obtain⟨l1,o1⟩:=okt _ _ a;have ho:oD (B2 u) J td y=some (.tuple [.str "struck",.list (ss.map PyData.str)]):=by unfold oD;rw[g];dsimp only;rw[a];rfl
     refine A6 rfl ⟨_,.inl ⟨_,IS.of N,rfl⟩,Ul ?_⟩;refine A6 rfl ⟨.inl ⟨rfl,_,IS.of (B _ _ gD)⟩,?_⟩;refine A6 rfl (A6 rfl (A6 rfl ⟨D2,_,C0 rfl rfl ⟨IS.of N,D0 (j:=0) rfl,d,.ref t,rfl,by rw[<-hv];exact MM.k (k:=Sum.inr s) (L _ _ ed),t,_,C0 rfl rfl ⟨JJ.of b,D0 (j:=1) rfl,lt,_,rfl,.inl (IS.of c),λk hk=>?_⟩⟩⟩));refine⟨by show 2<=sizeLine;decide,λv O=>⟨by show 2<=sizeLine;decide,λt' R=>?_⟩⟩;have u1:=F1.new (o:=.lst (ss.map V.str)) hk;have u2:=F1.new (o:=.tup [.str "struck",.ref k]) O;have S:=F1.new (o:=.tup [.str y,.ref v]) R;have o2:=(Ow.strs (n:=27) (b:=true) (S _ _ (u2 _ _ (A9 (H:=G3) (a:=k) (o:=.lst (ss.map V.str))))) o1 (by lia));have o3:=Ow.two (n:=29) (S _ _ (A9 (a:=v) (o:=.tup [.str "struck",.ref k]))) (Ow.str (s := "struck") (by decide +kernel)) o2;obtain⟨xs,f,lx,U⟩:=hI.add hD nlD ho (B.trans (u1.trans (u2.trans S))) A9 o3 (by simp[ad]) (λm hm=>by
      have e:m=k:=by simpa [ad] using hm
      rw[e];exact B.free hk) lti
     exact⟨D,xs,_,rfl,rfl,f,lx,⟨_,_,rfl⟩,U⟩
    .have:=List.find?_some g;rw[a]at this;cases this
   | nil =>
    rw[hf]at N;have g:(B2 u y).find? (λs=>(J s).isSome)=none:=by rw[<-List.head?_filter,hf];rfl
    refine A6 rfl ⟨_,.inl ⟨_,IS.of N,rfl⟩,Z0 ?_⟩;obtain⟨t,lt,hv,hT⟩:=I y hyn;have gd:MM G3 d (.str y) (some (.ref t)):=by rw[<-hv];exact MM.k (k:=Sum.inr y) (L _ _ ed)
    rcases hT.same L with⟨ss,a,b,c⟩ | ⟨a,b,c⟩
    .have ho:oD (B2 u) J td y=none:=by unfold oD;rw[g];dsimp only;rw[a];rfl
     refine A6 rfl (A6 rfl ⟨d,.ref t,rfl,gd,t,_,C0 rfl rfl ⟨JJ.of b,D0 (j:=0) rfl,rfl,_,rfl,V0 (λz=>absurd z (by decide)) λ_=>?_⟩⟩);exact⟨⟨_,_,rfl⟩,hI.skip ho B⟩
    .have ho:oD (B2 u) J td y=some (.tuple [.str "never",td y]):=by unfold oD;rw[g];dsimp only;rw[a];rfl
     refine A6 rfl (A6 rfl ⟨d,.ref t,rfl,gd,t,_,C0 rfl rfl ⟨JJ.of b,D0 (j:=0) rfl,rfl,_,rfl,V0 (λ_=>?_) λz=>absurd (by decide) z⟩⟩);refine A6 rfl ⟨.inl ⟨rfl,_,IS.of (B _ _ gD)⟩,?_⟩;refine A6 rfl (A6 rfl (A6 rfl ⟨d,.ref t,rfl,gd,t,_,C0 rfl rfl ⟨JJ.of b,D0 (j:=1) rfl,?_⟩⟩));refine⟨by show 2<=sizeLine;decide,λv O=>⟨by show 2<=sizeLine;decide,λt' R=>?_⟩⟩;have u2:=F1.new (o:=.tup [.str "never",.ref lt]) O;have S:=F1.new (o:=.tup [.str y,.ref v]) R;have o3:=Ow.two (n:=29) (S _ _ (A9 (a:=v) (o:=.tup [.str "never",.ref lt]))) (Ow.str (s := "never") (by decide +kernel)) ((c.same (u2.trans S)).up (by lia));obtain⟨xs,f,lx,U⟩:=hI.add hD nlD ho (B.trans (u2.trans S)) A9 o3 GF (λm hm=>by cases hm) lti;exact⟨D,xs,_,rfl,rfl,f,lx,⟨_,_,rfl⟩,U⟩
  .obtain⟨⟨v3,v4,rfl⟩,rows,Y,eG,fD,rin,er,new,ndM⟩:=h;rw[AB,BQ]at er;exact A6 rfl (q D G rows Y hD fD rin er (λr W m hm=>⟨(new r W m hm).1,(new r W m hm).2.1⟩) ndM)
end
def KP(H H':Hp):Prop:=∀b o,H b=some o->(∀a,o≠ .tbl a)->H' b=some o
def KP.of{H H':Hp}{a:A3}{ls:A1 (Pos×Str)}(t:M5 H a ls)(k:Sm [a] H H'):KP H H':=λb o e n=>k b o e λz=>by
 obtain⟨c,d,_⟩:=t;rw[AD.mp z,d]at e;cases e;exact n c rfl
def KP.trans{H H' c:Hp}(a:KP H H')(b:KP H' c):KP H c:=λx o e n=>b x o (a x o e n) n
def KP.same{H H':Hp}(a:F1 H H'):KP H H':=λx o e _=>a x o e
def KP.web{C:A3}{H H':Hp}{x:A3}{ns:A1 Str}{g:A1 JV}(k:KP H H')(h:KD C H x ns g):KD C H' x ns g:=by
 obtain⟨i,j,a,b,c,d,m,o,p,r,s,t,u,w,y,A⟩:=h;exact⟨i,j,a,b,c,d,m,o,k _ _ p (λ_ z=>by cases z),k _ _ r (λ_ z=>by cases z),k _ _ s (λ_ z=>by cases z),λq B=>k _ _ (t q B) (λ_ z=>by cases z),k _ _ u (λ_ z=>by cases z),k _ _ w (λ_ z=>by cases z),λn f=>let⟨l,v,e⟩:=y n f;⟨l,v,k _ _ e (λ_ z=>by cases z)⟩,λn f=>let⟨l,v,e⟩:=A n f;⟨l,v,k _ _ e (λ_ z=>by cases z)⟩⟩
def KP.view{H H':Hp}{p v:A3}{ns:A1 Str}{ks:A1 (Str×Str)}{A B:A1 Nat}(k:KP H H')(h:KA H p v ns ks A B):KA H' p v ns ks A B:=by
 obtain⟨⟨a,b,c,d,e,f,g,i,j,l,m⟩,n,o⟩:=h;exact⟨⟨a,b,c,k _ _ d (λ_ z=>by cases z),k _ _ e (λ_ z=>by cases z),k _ _ f (λ_ z=>by cases z),k _ _ g (λ_ z=>by cases z),i,j,l,m⟩,n,o⟩
def Bp{H H':Hp}{a:A3}{ls:A1 (Pos×Str)}(k:F1 H H')(t:M5 H a ls):M5 H' a ls:=by
 obtain⟨b,e,t,h⟩:=t;exact⟨b,k _ _ e,t,λl d=>(h l d).imp id λ⟨c,e,f⟩=>⟨c,e,k _ _ f⟩⟩
def PX.kp{d:Str->A5 (A1 Str)}{td:Str->PyData}{H H':Hp}{y:Str}{t l D:A3}(k:∀a o,H a=some o->(∃xs,o = .tup xs\/o = .lst xs)->a≠D->H' a=some o)(f:t≠D)(g:l≠D)(i:∀xs,H D≠some (.tup xs))(h:PX d td H y t l):PX d td H' y t l:=by
 rcases h with⟨j,a,b,c⟩ | ⟨a,b,c⟩
 .exact .inl ⟨j,a,k _ _ b ⟨_,.inl rfl⟩ f,k _ _ c ⟨_,.inr rfl⟩ g⟩
 .exact .inr ⟨a,k _ _ b ⟨_,.inl rfl⟩ f,c.keepT λa xs e=>k _ _ e ⟨_,.inl rfl⟩ λz=>i xs (by rw[<-z];exact e)⟩
def Iw{st:Str->A1 Str}{ns:A1 Str}:∀{k:Nat} {dr:A1 Str},(U0 st ns k dr).length<=k
 | 0,_=>Nat.le_refl _
 | k+1,dr=>by
  rw[U0];cases S0 st ns dr with
  | none=>exact CL _
  | some q=>exact G_ Iw
def zDp{H:Hp}{f D:A3}{ls:A1 (Pos×Str)}{a:A1 (JC×V)}{o:HO}(e:H D=some (.dK a))(t:M5 H f ls):M5 (IK H D o) f ls:=by
 obtain⟨g,b,t,h⟩:=t;exact⟨g,(B6 (λz=>by rw[z,e]at b;cases b)).trans b,t,λx i=>(h x i).imp id λ⟨c,j,d⟩=>⟨c,j,(B6 (λz=>by rw[z,e]at d;cases d)).trans d⟩⟩
section
variable(st:Str->A1 Str)(tf:Str->A5 (A1 Str))(td:Str->PyData)(ns:A1 Str)
def RO:A1 Str:=(Wp st tf td ns).map λq=>q.1
def R6:A1 Str:=RO st tf td ns ++(U0 st ns ns.length (RO st tf td ns)).map λq=>q.1
def QC:A1 Str:=ns.filter λy=>!decide (y∈R6 st tf td ns)
def grH:A1 Str:=ns.filter λs=>(QC st tf td ns).any λy=>decide (s∈st y)
def GD:PyData:=.tuple [.list ((QC st tf td ns).map PyData.str),.tuple [.list ((grH st tf td ns).map λy=>.tuple [.str y,td y]),.list (((Wp st tf td ns).map λq=>.tuple [.str q.1,q.2]) ++(U0 st ns ns.length (RO st tf td ns)).map λq=>.tuple [.str q.1,.tuple [.str "bare",.str q.2]])]]
end
section
variable{P:A7}{w:F8}{K:PySem.W.Frag}{mg:Str->A5 A2}{base:IM}
theorem KE:IL ["web", "told", "drops", "dropped", "some", "trees"] ["web"] (B7 PO):=KU
def Pd(A B:A1 Nat)(L:Nat)(ns:A1 Str)(y:Str):A5 (A1 Str):=(Q0 A B ns.length L 13 (2^ns.idxOf y)).map (LH ns)
def S1(A B:A1 Nat)(L:Nat)(ns:A1 Str)(y:Str):PyData:=TX ns A B L 13 (2^ns.idxOf y)
def Dg(K:PySem.W.Frag)(e c:A3):Sp:=λg H Q _=>∃(x:A3) (a:A1 Str) (b:A1 JV) (A B:A1 Nat) (L:Nat),g = [.ref x]/\KD e H x a b/\a.length<=12/\(∀y∈a,U7 y=true)/\M5 H c C1 /\
 MB a ((b.map λq=>q.2).map λk=>(k.2,k.1)) A/\MB a (b.map λq=>q.2) B/\(∀j,L.testBit j=true↔(A.getD j 0).testBit j=true) /\
 ∀f G d,Sm [c] H G->M5 G c C1->Ow G 40 (GD (B2 b) (Pd A B L a) (S1 A B L a) a) (.ref f) d->d.Nodup->(∀m∈d,H m=none)->Q (.ref f) G
set_option maxHeartbeats 4000000 in
theorem Op(T:Tx K mg)(hB:base.BuiltinsAt mg T.aa):IU P w K mg base JE 23 T.aM.f T.aM.fd ["web"] (Dg K T.ag T.aa):=by
 have J:IU P w K mg base JE 22 T.ay.f T.ay.fd ["web", "some"] (Ph K T.ag T.aa):=Am T hB;refine T.aM.F.o1 KE λcdv A outer s H vs Q E C h=>?_
 .obtain⟨x,g,W,A,B,L,rfl,hW,l12,nm,hT,mA,mB,hL,q⟩:=h;have hu:=V6 C;refine⟨_,(B4 (C6 (i:=1) KE.nd rfl (.inr rfl) (Nt (N':=["name", "web"]) (cap:=[none,some 0]) (cl:=[("web",_)]) (P8 ⟨⟨rfl,rfl,rfl,rfl⟩,trivial⟩ ⟨rfl,trivial⟩) rfl (MZ K (U9 (pv 0) T.am T.af.m (I9 T) (Rm C) T.af.b .nil J9)) (λ_ _ _ _=>by exact⟨(MN 0),J8,(pv 0),(C9 T.ay J (Rm C) (A8 (pv 1) (A8 (Q5 (A8 (pv 0) B1)) B1)))⟩)))
   (B4 (C6 (i:=2) KE.nd rfl (.inl rfl) (C9 T.aU (Cq T) (Rm C) (A8 (pv 0) (A8 (pv 1) B1))))
   (B4 (C6 (i:=2) KE.nd rfl (.inl rfl) (C8 Qo (pv 2) (C9 T.a2 (Fs T) (Rm C) (A8 (pv 0) (A8 (pv 2) B1)))))
   (B4 (C6 (i:=3) KE.nd rfl (.inr rfl) (X3 (N':=["name", "why"]) (cap:=[none,none]) (cl:=[]) (P8 trivial trivial) rfl (MZ K (pv 2)) (λ_ _ _ _=>by exact⟨(QT K (n:=2) (C5 (MN 0) (C5 (MN 1) P9))),J8,(pv 0)⟩)))
   (B4 (j0 (i:=4) (N':=["name", "dropped"]) (cap:=[none,some 3]) (cl:=[("dropped",_)]) KE.nd rfl (.inl rfl) (P8 ⟨⟨rfl,rfl,rfl,rfl⟩,trivial⟩ ⟨rfl,trivial⟩) rfl (MZ K (U9 (pv 0) T.am T.af.m (I9 T) (Rm C) T.af.b .nil J9)) (λ_ _ _ _=>by exact⟨(MN 0),(U8 (D6 (Ex K) (pv 0) (pv 1) rfl)),(pv 0)⟩))
   (B4 (j0 (i:=5) (N':=["name", "told"]) (cap:=[none,some 1]) (cl:=[("told",_)]) KE.nd rfl (.inl rfl) (P8 ⟨⟨rfl,rfl,rfl,rfl⟩,trivial⟩ ⟨rfl,trivial⟩) rfl (MZ K (C9 T.aH (j9 T) (Rm C) (A8 (pv 0) (A8 (pv 4) B1)))) (λ_ _ _ _=>by exact⟨(MN 0),J8,(E3 (A8 (pv 0) (A8 (E7 (P_ K) (K3 hu (pv 1) (pv 0) (λ_ _=>rfl)) B8 (λ_ _=>rfl)) B1)))⟩))
   (B5 (C3 (E3 (A8 (pv 4) (A8 (E3 (A8 (pv 5) (A8 (pv 2) B1))) B1))))))))))),?_⟩
  obtain⟨ok,dx,a1,b,c,d',kc,kd,e1,_⟩:=id hW;refine B9 λN1 hN1=>?_;refine A6 rfl ⟨x,dx,A6 rfl ⟨e1,rfl,x,g,W,rfl,hW,λl hl=>?_⟩⟩;have s1:=F1.new (o:=.lst (g.map V.str)) hl;have el:(IK H l (.lst (g.map V.str))) l=some (.lst (g.map V.str)):=A9;generalize IK H l (.lst (g.map V.str))=H1 at s1 el⊢;have T1:=Bp s1 hT;have nd:=ok.nd;refine⟨l,rfl,⟨_,IS.of el⟩,λD hD=>?_⟩;have hDH:H D=none:=s1.free hD;refine S5 (MY (IS.of el)) (λi σ G=>(∃v,σ = [v,some (.ref x)])/\Sm [T.aa] H G/\M5 G T.aa C1/\G l=some (.lst (g.map V.str))/\∃O,G D=some (.dK O)/\O.length<=i/\∀y∈g.take i,∃t Y,U2 O (.inr y)=some (.ref t)/\PX (Pd A B L g) (S1 A B L g) G y t Y/\t≠D/\Y≠D)
   ⟨⟨_,rfl⟩,(s1.trans (F1.new hD)).sm,Bp (F1.new hD) T1,F1.new hD _ _ el,[],A9,CL _,λy h=>by cases h⟩ (λi σ G hi h o e=>by rw[el]at e;cases e;exact h.2.2.2.1) (λi σ G z N hz h hN=>?_) λσ G h=>?_
  .obtain⟨⟨v,rfl⟩,kG,TG,eG,O,fD,lk,hv⟩:=h;rw[AH]at hz;obtain⟨y,I,rfl⟩:=AQ.mp hz;have hyn:=AI I;have hi:=(AE.mp I).1;refine o9 (A6 rfl (A6 rfl (A6 rfl ⟨by show 1<=sizeLine;decide,λc hc=>?_⟩)));have uc:=F1.new (o:=.lst [.str y]) hc;have ec:(IK G c (.lst [.str y])) c=some (.lst [.str y]):=A9;generalize IK G c (.lst [.str y])=G2 at uc ec⊢;have T2:=Bp uc TG;have W2:=(KP.of hT kG).web hW |>.same uc;have fD2:=uc _ _ fD;have bit:∀j z,g[j]?=some z->((2^g.idxOf y).testBit j=true↔z∈[y]):=λj z hz'=>by
    rw[CF,AD,BN];have hk:=P2 hyn;refine⟨λe=>?_,λe=>?_⟩
    .rw[e,hz']at hk;exact BH hk
    .rw[e]at hz';exact(List.getElem?_inj (AE.mp hk).1 nd).mp (hk.trans hz'.symm)
   have low:OC g.length (2^g.idxOf y):=λj hj=>by
    rw[CF,BN]at hj;rw[<-hj];exact(AE.mp (P2 hyn)).1
   have fin:∀t Y G3,Sm [T.aa] G2 G3->M5 G3 T.aa C1->PX (Pd A B L g) (S1 A B L g) G3 y t Y->t≠D->Y≠D->∃O k,G3 D=some (.dK O)/\V.str y=kV k/\O.length<sizeLine/\N [some (.str y),some (.ref x)] (IK G3 D (.dK (Av O k (.ref t)))):=λt Y G3 k3 T3 hT3 ntD nlD=>by
    have kp3:=KP.of T2 k3;have X:=kp3 _ _ fD2 (λ_ z=>by cases z);refine⟨O,.inr y,X,rfl,by rw[sizeLine_eq];lia,hN _ _ ?_⟩;have k:∀{G':Hp},(∀a o,G' a=some o->(∃xs,o = .tup xs\/o = .lst xs)->G3 a=some o)->∀a o,G' a=some o->(∃xs,o = .tup xs\/o = .lst xs)->a≠D->(IK G3 D (.dK (Av O (.inr y) (.ref t)))) a=some o:=λh a o e c n=>(B6 n).trans (h a o e c);have kG3:∀a o,G a=some o->(∃xs,o = .tup xs\/o = .lst xs)->G3 a=some o:=λa o e ⟨xs,c⟩=>kp3 _ _ (uc _ _ e) λps z=>by rcases c with c | c<;>rw[c]at z<;>cases z
    refine⟨⟨_,rfl⟩,((kG.trans uc.sm).trans k3).updN hDH,zDp X T3,(B6 (λz=>by rw[z,fD]at eG;cases eG)).trans (kG3 _ _ eG ⟨_,.inr rfl⟩),_,A9,?_,λy' hy'=>?_⟩
    .have:=R9 O (Sum.inr y:JC) (.ref t);lia
    .rw[Ke];by_cases e:y'=y
     .subst e;exact⟨t,Y,AL rfl,hT3.kp (k λa o e _=>e) ntD nlD (λxs z=>by rw[X]at z;cases z),ntD,nlD⟩
     .rw[IW I]at hy';rcases AO.mp hy' with z | z
      .obtain⟨t',l2,a,b,n1,n2⟩:=hv y' z;exact⟨t',l2,(AJ e).trans a,b.kp (k kG3) n1 n2 (λxs z=>by rw[fD]at z;cases z),n1,n2⟩
      .exact absurd (AD.mp z) e
   refine⟨x,c,g,W,[y],A,B,L,2^g.idxOf y,rfl,W2,l12,.inl (IS.of ec),(λz hz=>by rw[AD.mp hz];exact hyn),GA _ _,by show 1<=100;decide,T2,mA,mB,hL,low,bit,λr C t Y G3 k3 T3 ht hl' et elt=>?_,λhn t Y G3 k3 T3 ht et tr=>?_⟩
   .exact fin t Y G3 k3 T3 (.inl ⟨_,by unfold Pd;rw[C];rfl,et,elt⟩) (B3 fD2 ht).symm (B3 fD2 hl').symm
   .have kp3:=KP.of T2 k3;have fl:Fg g.length (2^g.idxOf y)<=13:=by unfold Fg;lia
    have tr13:=JM.up fl tr;refine fin t Y G3 k3 T3 (.inr ⟨by unfold Pd;rw[hn];rfl,et,Sk nm (by lia) tr13⟩) (B3 fD2 ht).symm λz=>?_;have X:=kp3 _ _ fD2 (λ_ z=>by cases z);rw[<-z]at X;rcases tr13 with⟨_,e⟩ | ⟨_,_,_,_,e,_⟩
    .rw[e]at X;cases X
    .rw[e]at X;cases X
  obtain⟨_,kG,TG,eG,O,fD,lk,hv⟩:=h;rw[AB,BQ]at hv;clear eG lk;have KG:=KP.of hT kG;have WG:=KG.web hW;have nmo:∀y∈g,PySem.PyData.strOk y=true:=λy I=>Y4 (nm y I);have okt:∀y ss,Pd A B L g y=some ss->ss.length<=100/\∀z∈ss,PySem.PyData.strOk z=true:=λy ss I=>by
   obtain⟨r,_,rfl⟩:=AQ.mp I;have:=(X7 g r).length_le;exact⟨by lia,λz hz=>nmo z ((X7 g r).subset hz)⟩
  generalize Pd A B L g=Z at hv q okt;generalize S1 A B L g=td at hv q;refine hN1 _ _ (B9 λN2 hN2=>?_);refine A6 rfl (A6 rfl ⟨x,D,g,W,O,Z,td,rfl,WG,fD,λy I=>(let⟨t,Y,a,b,_⟩:=hv y I;⟨t,Y,a,b⟩),nmo,okt,λdl G2 u s2 ndl edl rin er new ndM=>?_⟩);have lr:u.length<=12:=by
   have e:=congrArg List.length er;rw[AB]at e;rw[e];exact Nat.le_trans (List.length_filterMap_le _ _) l12
  refine hN2 _ _ (B9 λN3 hN3=>?_);refine A6 rfl ?_;refine A6 rfl (A6 rfl ⟨x,dl,g,W,u.map λr=>(r.1,r.2.1,r.2.2.1),rfl,WG.same s2,by rw[BL];exact edl,λt ht=>(by
   obtain⟨r,C,rfl⟩:=AX.mp ht;exact(rin r C).1),by rw[AB];lia,λbl G3 R s3 nbl ebl bin eb=>?_⟩)
  have lb:R.length<=g.length:=by
   have e:=congrArg List.length eb;rw[AB]at e;rw[e];exact Iw
  refine⟨dl,bl,_,_,rfl,rfl,s3 _ _ edl,ebl,by rw[AB,AB,sizeLine_eq];lia,λD2 hD2=>?_⟩;have e0:u.map (λr=>r.2.1)=RO (B2 W) Z td g:=by
   unfold RO;rw[<-er,BL];rfl
  have eb0:R.map (λr=>r.2.2)=U0 (B2 W) g g.length (RO (B2 W) Z td g):=by
   rw[eb,BL,<-e0];rfl
  have al:∃al:A1 (A3×Str×V),al=u.map (λr=>(r.1,r.2.1,r.2.2.1))++R.map λr=>(r.1,r.2.2.1,V.ref r.2.1):=⟨_,rfl⟩;obtain⟨al,eal⟩:=al;have eD2:(IK G3 D2 (.lst ((u.map λr=>V.ref r.1)++R.map λr=>V.ref r.1))) D2=some (.lst (al.map λt=>V.ref t.1)):=by rw[A9,eal,AN,BL,BL];rfl
  have u4:=F1.new (o:=.lst ((u.map λr=>V.ref r.1)++R.map λr=>V.ref r.1)) hD2;generalize IK G3 D2 (.lst ((u.map λr=>V.ref r.1)++R.map λr=>V.ref r.1))=G4 at eD2 u4⊢;have s24:=s3.trans u4;have ain:∀t∈al,G4 t.1=some (.tup [.str t.2.1,t.2.2]):=λt ht=>by
   rw[eal]at ht;rcases AO.mp ht with z | z
   .obtain⟨r,C,rfl⟩:=AX.mp z;exact s24 _ _ (rin r C).1
   .obtain⟨r,C,rfl⟩:=AX.mp z;exact u4 _ _ (bin r C).1
  have ean:al.map (λt=>t.2.1)=R6 (B2 W) Z td g:=by
   unfold R6;rw[eal,AN,BL,BL,<-eb0,BL,<-e0];rfl
  have lal:al.length<=24:=by rw[eal,AW,AB,AB];lia
  refine hN3 _ _ (B9 λN4 hN4=>?_);refine A6 rfl ⟨D2,rfl,⟨_,IS.of eD2⟩,λD3 hD3=>?_⟩;refine S5 (MY (IS.of eD2)) (λi σ G=>(∃v0 v1,σ = [v0,v1])/\F1 G4 G/\G D3=some (.lst (((al.take i).map λt=>t.2.1).map V.str))) ⟨⟨_,_,rfl⟩,F1.new hD3,A9⟩ (λi σ G _ h=>h.2.1.at D2) ?_ ?_
  .rintro i σ G v N hx ⟨⟨v0,v1,rfl⟩,sG,eG⟩ hN;rw[AH]at hx;obtain⟨t,ht,rfl⟩:=AQ.mp hx;refine⟨t.1,_,rfl,JJ.of (sG _ _ (ain t (AI ht))),rfl,_,_,rfl,_,_,rfl,rfl,?_⟩;dsimp only[Cj];rw[AL rfl];refine A6 rfl ⟨_,eG,by rw[AB,AB,AZ,sizeLine_eq];lia,hN _ _ ⟨⟨_,_,rfl⟩,sG.upd hD3,?_⟩⟩;rw[A9,IW ht,AN,AN];rfl
  rintro σ G5 ⟨_,s5,e5⟩;rw[AB,BQ,ean]at e5;have s25:=s24.trans s5;refine hN4 _ _ (B9 λN5 hN5=>?_);have W5:=(WG.same s2).same s25;obtain⟨_,dx5,_,_,_,_,_,_,ex5,_⟩:=id W5;refine A6 rfl ⟨x,dx5,A6 rfl ⟨ex5,rfl,x,g,W,rfl,W5,λl6 hl6=>?_⟩⟩;have u6:=F1.new (o:=.lst (g.map V.str)) hl6;have e6:(IK G5 l6 (.lst (g.map V.str))) l6=some (.lst (g.map V.str)):=A9;generalize IK G5 l6 (.lst (g.map V.str))=G6 at u6 e6⊢;refine⟨l6,rfl,⟨_,IS.of e6⟩,λsm hsm=>Er (r:=V.str) V.str (MY (K:=K) (IS.of e6)) (λy=>!decide (y∈R6 (B2 W) Z td g)) (by lia) hsm (λy I G sG M hM=>?_) (λy I G sG M hM=>A6 rfl hM) λσ' G7 s7 e7=>?_⟩
  .exact A6 rfl (A6 rfl (w5 (.inl (IS.of (sG _ _ (u6 _ _ e5)))) ⟨_,rfl,hM G λb o e=>e⟩))
  have e7:G7 sm=some (.lst ((QC (B2 W) Z td g).map V.str)):=e7;have s57:=u6.trans s7;have s27:=s25.trans s57;refine hN5 _ _ (B9 λN6 hN6=>?_);have W7:=W5.same s57;refine A6 rfl (A6 rfl ⟨x,sm,_,g,W,rfl,W7,.inl (IS.of e7),λy I=>(BC.mp I).1,λp hs G8 hp s8 e8 hm srt nds l100=>?_⟩);have ehs:hs=grH (B2 W) Z td g:=by
   refine t8 srt (ok.srt.sublist CV) ((GZ nds (nd.sublist CV)).mpr λy=>?_);refine(hm y).trans (Iff.trans ?_ BC.symm);constructor
   .rintro⟨n,hn,I⟩;obtain⟨k,hk,_,e⟩:=JD.mp I;exact⟨by rw[<-e];exact(ok.mem k hk).1,List.any_eq_true.mpr ⟨n,hn,BB I⟩⟩
   .rintro⟨_,h⟩;obtain⟨n,hn,I⟩:=List.any_eq_true.mp h;exact⟨n,hn,BV I⟩
  have hnone:∀s∈hs,s∈g/\Z s=none:=λs hs'=>by
   obtain⟨n,hn,I⟩:=(hm s).mp hs';obtain⟨k,hk,_,e⟩:=JD.mp I;refine⟨by rw[<-e];exact(ok.mem k hk).1,?_⟩;obtain⟨hn1,hn2⟩:=BC.mp hn;cases h:Z s with
   | none=>rfl
   | some ss =>
    refine absurd hn2 ?_;have hf:∃s',(B2 W n).find? (λs=>(Z s).isSome)=some s':=by
     cases hq:(B2 W n).find? (λs=>(Z s).isSome)with
     | some s'=>exact⟨s',rfl⟩
     | none=>exact absurd (by rw[h];rfl) (FN.mp hq s I)
    obtain⟨s',hf⟩:=hf;have:n∈R6 (B2 W) Z td g:=CP _ (AX.mpr ⟨(n,_),EV.mpr ⟨n,hn1,by unfold oD;rw[hf];rfl⟩,rfl⟩);simp[this]
  have s28:=s27.trans s8;have s48:=(s5.trans s57).trans s8;refine⟨p,rfl,⟨_,IS.of e8⟩,λtl htl=>?_⟩;refine S5 (MY (IS.of e8)) (λi σ G=>(∃v0,σ = [v0,some (.ref D)])/\F1 G8 G/\∃S:A1 (A3×A3×Str),G tl=some (.lst (S.map λt=>V.ref t.1))/\S.map (λt=>t.2.2)=hs.take i/\∀t∈S,G t.1=some (.tup [.str t.2.2,.ref t.2.1])/\Ow G 27 (td t.2.2) (.ref t.2.1) []) ⟨⟨_,rfl⟩,F1.new htl,[],A9,rfl,λt h=>by cases h⟩ (λi σ G _ h=>h.2.1.at p) ?_ ?_
  .rintro i σ G v N hx ⟨⟨v0,rfl⟩,sG,S,eG,et,tin⟩ hN;rw[AH]at hx;obtain⟨y,I,rfl⟩:=AQ.mp hx;obtain⟨hyn,hyt⟩:=hnone y (AI I);obtain⟨t,Y,hvy,hT',ntD,nlD⟩:=hv y hyn;have s2G:=s28.trans sG;rcases(hT'.same s2).same s2G with⟨ss,a,_⟩ | ⟨_,b,c⟩
   .rw[hyt]at a;cases a
   have gd:MM G D (.str y) (some (.ref t)):=by rw[<-hvy];exact MM.k (k:=Sum.inr y) (s2G _ _ (s2 _ _ fD))
   refine o9 (A6 rfl (A6 rfl (A6 rfl ⟨D,.ref t,rfl,gd,t,_,C0 rfl rfl ⟨JJ.of b,D0 (j:=1) rfl,by show 2<=sizeLine;decide,λt' ht'=>?_⟩⟩)));have lt:S.length<=100:=by
    have e:=congrArg List.length et;rw[AB,AZ]at e;lia
   have ut:=F1.new (o:=.tup [.str y,.ref Y]) ht';refine⟨_,ut _ _ eG,by rw[AB,sizeLine_eq];lia,hN _ _ ⟨⟨_,rfl⟩,(sG.trans ut).upd htl,S ++ [(t',Y,y)],by rw[A9,AN];rfl,by rw[AN,et,IW I];rfl,λt hts=>?_⟩⟩;have k:∀{c xs},(IK G t' (.tup [.str y,.ref Y])) c=some (.tup xs)->(IK (IK G t' (.tup [.str y,.ref Y])) tl (.lst ((S.map λt=>V.ref t.1) ++ [.ref t']))) c=some (.tup xs):=λe=>(B6 λz=>by rw[z,ut _ _ eG]at e;cases e).trans e;rcases AO.mp hts with z | z
   .exact⟨k (ut _ _ (tin t z).1),(tin t z).2.keepT λa xs e=>k (ut _ _ e)⟩
   .rw[AD.mp z];exact⟨k A9,c.keepT λa xs e=>k (ut _ _ e)⟩
  rintro σ G9 ⟨_,s9,S,e9,et,tin⟩;rw[AB,BQ]at et;refine hN6 _ _ ?_;refine A6 rfl (A6 rfl (A6 rfl ⟨by show 2<=sizeLine;decide,λr0 hr0=>⟨by show 2<=sizeLine;decide,λf hf=>?_⟩⟩));have u10:=(F1.new (o:=.tup [.ref tl,.ref D2]) hr0).trans (F1.new (o:=.tup [.ref sm,.ref r0]) hf);have er0:=F1.new (o:=.tup [.ref sm,.ref r0]) hf _ _ (A9 (H:=G9) (a:=r0) (o:=.tup [.ref tl,.ref D2]));have ef:(IK (IK G9 r0 (.tup [.ref tl,.ref D2])) f (.tup [.ref sm,.ref r0])) f=some (.tup [.ref sm,.ref r0]):=A9;generalize IK (IK G9 r0 (.tup [.ref tl,.ref D2])) f (.tup [.ref sm,.ref r0])=GX at u10 er0 ef⊢;have x9:=s9.trans u10;have x4:=s48.trans x9;have x2:=s28.trans x9;have esm:=x9 _ _ (s8 _ _ e7);have etl:=u10 _ _ e9;have ox:=x4 _ _ eD2;have nameok:∀r∈u,PySem.PyData.strOk r.2.1=true:=λr C=>by
   have:(r.2.1,r.2.2.2.1)∈Wp (B2 W) Z td g:=by rw[<-er];exact AX.mpr ⟨r,C,rfl⟩
   obtain⟨y,I,e⟩:=EV.mp this;obtain⟨d,_,e⟩:=AQ.mp e;rw[<-congrArg Prod.fst e];exact nmo y I
  have bareok:∀r∈R,PySem.PyData.strOk r.2.2.1=true/\PySem.PyData.strOk r.2.2.2=true:=λr C=>by
   have:r.2.2∈U0 (B2 W) g g.length (RO (B2 W) Z td g):=by rw[<-eb0];exact AX.mpr ⟨r,C,rfl⟩
   obtain⟨a,b⟩:=Hs this;obtain⟨k,hk,_,e⟩:=JD.mp b;exact⟨nmo _ a,nmo _ (by rw[<-e];exact(ok.mem k hk).1)⟩
  have oD2:=Ow.rows (H:=GX) (n:=31) (b:=true) (l:=D2) (xs:=u.map (λr=>(V.ref r.1,PyData.tuple [.str r.2.1,r.2.2.2.1],r.2.2.2.2))++R.map λr=>(V.ref r.1,PyData.tuple [.str r.2.2.1,.tuple [.str "bare",.str r.2.2.2]],[]))
   (by rw[AN,BL,BL,ox,eal,AN,BL,BL];rfl) (by rw[AW,AB,AB];lia) (λz hz=>by
    rcases AO.mp hz with z' | z'
    .obtain⟨r,C,rfl⟩:=AX.mp z';obtain⟨a,b⟩:=(rin r C).same x2;exact Ow.two (n:=30) a (Ow.str (nameok r C)) b
    .obtain⟨r,C,rfl⟩:=AX.mp z';obtain⟨a,b⟩:=bareok r C;exact Ow.two (n:=30) (x4 _ _ (u4 _ _ (bin r C).1)) (Ow.str a) (Ow.two (n:=29) (x4 _ _ (u4 _ _ (bin r C).2)) (Ow.str (by decide +kernel)) (Ow.str b)))
  have otl:=Ow.flat (H:=GX) (n:=31) (b:=true) (l:=tl) (xs:=S.map λt=>V.ref t.1) (ds:=S.map λt=>.tuple [.str t.2.2,td t.2.2]) (show GX tl=some (LT true (S.map λt=>V.ref t.1))from etl) (by rw[AB,AB]) (by
    have e:=congrArg List.length et;rw[AB]at e;rw[AB];lia) λi d' x' h1 h2=>by
   rw[AH]at h1 h2;obtain⟨t,ht,rfl⟩:=AQ.mp h1;rw[ht]at h2;cases h2;obtain⟨a,b⟩:=tin t (AI ht);have hmem:t.2.2∈hs:=by rw[<-et];exact AX.mpr ⟨t,AI ht,rfl⟩
   exact Ow.two (n:=30) (u10 _ _ a) (Ow.str (nmo _ (hnone _ hmem).1)) ((b.same u10).up (by lia))
  have osm:=Ow.strs (H:=GX) (n:=31) (b:=true) (l:=sm) (ss:=QC (B2 W) Z td g) esm (λy I=>nmo y (BC.mp I).1) (by
    have:=BM (λy=>!decide (y∈R6 (B2 W) Z td g)) g;unfold QC;lia)
  have oall:=Ow.two (n:=33) ef osm (Ow.two (n:=32) er0 otl oD2);have U:∀{m},G m=none->H m=none:=λh=>kG.none (λy=>by
   obtain⟨pp,e,_⟩:=TG;rw[AD.mp y,e]at h;cases h) h
  have edata:PyData.tuple [RK true ((QC (B2 W) Z td g).map PyData.str),.tuple [RK true (S.map λt=>.tuple [.str t.2.2,td t.2.2]),RK true ((u.map (λr=>(V.ref r.1,PyData.tuple [.str r.2.1,r.2.2.2.1],r.2.2.2.2))++R.map λr=>(V.ref r.1,PyData.tuple [.str r.2.2.1,.tuple [.str "bare",.str r.2.2.2]],([]:A1 A3))).map λx=>x.2.1)]]=GD (B2 W) Z td g:=by
   unfold GD;rw[<-er,<-eb0,<-ehs,<-et,AN,BL,BL,BL,BL,BL];rfl
  rw[edata]at oall;have eM:((u.map (λr=>(V.ref r.1,PyData.tuple [.str r.2.1,r.2.2.2.1],r.2.2.2.2))++R.map λr=>(V.ref r.1,PyData.tuple [.str r.2.2.1,.tuple [.str "bare",.str r.2.2.2]],([]:A1 A3))).map λx=>x.2.2).flatten =(u.map λr=>r.2.2.2.2).flatten:=by
   rw[AN,BL,BL,List.flatten_append,show(R.map ((λx:V×PyData×A1 A3=>x.2.2)∘λr=>(V.ref r.1,PyData.tuple [.str r.2.2.1,.tuple [.str "bare",.str r.2.2.2]],([]:A1 A3)))).flatten = [] by rw[show R.map ((λx:V×PyData×A1 A3=>x.2.2)∘λr=>(V.ref r.1,PyData.tuple [.str r.2.2.1,.tuple [.str "bare",.str r.2.2.2]],([]:A1 A3)))=List.replicate R.length []from List.map_const' .. ,Ff],BU];rfl
  rw[eM]at oall;have atM:∀m∈(u.map λr=>r.2.2.2.2).flatten,G m=none/\∃xs,G2 m=some (.lst xs):=λm hm=>by
   obtain⟨M,hM,hm⟩:=CG.mp hm;obtain⟨r,C,rfl⟩:=AX.mp hM;exact⟨(new r C m hm).1,(rin r C).2.here m hm⟩
  have nM:∀{l:A3} {G':Hp},F1 G2 G'->G' l=none->l∉(u.map λr=>r.2.2.2.2).flatten:=λs h z=>by
   obtain⟨xs,e⟩:=(atM _ z).2;rw[s _ _ e]at h;cases h
  refine q f GX _ (kG.trans (s2.trans x2).sm) (Bp (s2.trans x2) TG) (oall.up (by lia)) ?_ λm hm=>?_
  .have d2:=nM s3 hD2;have dt:=nM s28 htl;have ds:=nM (s25.trans u6) hsm;have n1:sm≠tl:=B3 (s8 _ _ e7) htl;have n2:sm≠D2:=(B3 ((s5.trans u6) _ _ eD2) hsm).symm;have n3:tl≠D2:=(B3 (s48 _ _ eD2) htl).symm;refine BX.mpr ⟨λz=>?_,BX.mpr ⟨λz=>?_,BX.mpr ⟨d2,ndM⟩⟩⟩
   .rcases AK.mp z with z | z
    .exact n1 z
    rcases AK.mp z with z | z
    .exact n2 z
    .exact ds z
   .rcases AK.mp z with z | z
    .exact n3 z
    .exact dt z
  .rcases AK.mp hm with z | hm
   .rw[z];exact U (s2.free ((s25.trans u6).free hsm))
   rcases AK.mp hm with z | hm
   .rw[z];exact U (s2.free (s28.free htl))
   rcases AK.mp hm with z | hm
   .rw[z];exact U (s2.free (s3.free hD2))
   .exact U (atM m hm).1
end
section
variable{st:Str->A1 Str}{tf:Str->A5 (A1 Str)}{td:Str->PyData}{ns:A1 Str}
def SV(st:Str->A1 Str)(S:Str->Prop):Prop:=(∀a b,S a->S b->a∉st b)/\∀b,S b->∀s∈st b,∃c,S c/\c∈st s
theorem Hw{y s:Str}(a:s∈st y)(h:tf s≠none):oD st tf td y≠none:=by
 unfold oD;cases b:(st y).find? λs=>(tf s).isSome with
 | some c=>intro z;cases z
 | none=>exact absurd (Option.isSome_iff_ne_none.mpr h) (FN.mp b s a)
theorem Vr{y:Str}(h:tf y=none):oD st tf td y≠none:=by
 unfold oD;cases a:(st y).find? λs=>(tf s).isSome with
 | some b=>intro z;cases z
 | none=>dsimp only;rw[h];intro z;cases z
theorem zEj{y:Str}(h:oD st tf td y≠none):(∃s∈st y,tf s≠none)\/tf y=none:=by
 unfold oD at h;cases a:(st y).find? λs=>(tf s).isSome with
 | some b=>exact .inl ⟨b,HC a,Option.isSome_iff_ne_none.mp (List.find?_some (p:=λs=>(tf s).isSome) a)⟩
 | none =>
  rw[a]at h;dsimp only at h;cases c:tf y with
  | none=>exact .inr rfl
  | some d=>rw[c]at h;exact absurd rfl h
theorem PV{y:Str}:y∈RO st tf td ns↔y∈ns/\oD st tf td y≠none:=by
 unfold RO Wp;rw[AX];constructor
 .rintro⟨q,c,rfl⟩;obtain⟨y,a,e⟩:=EV.mp c;obtain⟨d,b,rfl⟩:=AQ.mp e;exact⟨a,by rw[b];intro z;cases z⟩
 .rintro⟨a,h⟩;obtain⟨d,b⟩:=Option.ne_none_iff_exists'.mp h;exact⟨(y,d),EV.mpr ⟨y,a,by rw[b];rfl⟩,rfl⟩
theorem Ge{S:Str->Prop}(h:SV st S):∀{k:Nat} {dr:A1 Str},(∀z∈dr,¬S z)->∀q∈U0 st ns k dr,¬S q.1
 | 0,_,_,_,a=>by cases a
 | k+1,dr,b,q,a=>by
  rw[U0]at a;cases e:S0 st ns dr with
  | none=>rw[e]at a;cases a
  | some d =>
   rw[e]at a;obtain⟨_,_,f,g⟩:=O9 e;have n:¬S d.1:=λz=>by
    obtain⟨c,i,j⟩:=h.2 _ z _ f;exact b c (g c j) i
   rcases AK.mp a with z | z
   .rw[z];exact n
   .refine Ge h (λy l=>?_) q z;rcases AO.mp l with z | z
    .exact b y z
    .rw[AD.mp z];exact n
theorem zEm(g:∀y∈ns,∀s∈st y,s∈ns)(A:∀y∈ns,tf y≠none->∃S,SV st S/\(∀z,S z->z∈ns)/\S y)(v:∀S,SV st S->(∀z,S z->z∈ns)->∀y,S y->tf y≠none)(y:Str) :
  y∈QC st tf td ns↔∃S,SV st S/\(∀z,S z->z∈ns)/\S y/\∀z,S z->∀i,SV st i->(∀z,i z->z∈ns)->∀s,i s->s∉st z:=by
 have d:∀z,z∈QC st tf td ns↔z∈ns/\z∉R6 st tf td ns:=λz=>by unfold QC;rw[BC];simp
 constructor
 .intro l;have j:∀z,z∈QC st tf td ns->z∈ns/\oD st tf td z=none:=λz f=>by
   obtain⟨a,b⟩:=(d z).mp f;refine⟨a,FP λc=>b (CP _ (PV.mpr ⟨a,c⟩))⟩
  refine⟨λz=>z∈QC st tf td ns,⟨λa b B t h=>?_,λb t s k=>?_⟩,λz f=>((d z).mp f).1,l,λz f i C sub s k h=>?_⟩
  .exact Hw (td:=td) h (λe=>Vr (st:=st) (td:=td) e (j a B).2) (j b t).2
  .obtain⟨m,u⟩:=(d b).mp t;have e:S0 st ns (R6 st tf td ns)=none:=Hf (BM _ _);have e:=DG.mp e b (BC.mpr ⟨m,by simpa using u⟩);have e:=Option.map_eq_none_iff.mp e;have e:=FN.mp e s k;have:∃c∈st s,c∉R6 st tf td ns:=FP λn=>e (EH.mpr λc r=>BB (FP λz=>n ⟨c,r,z⟩));obtain⟨c,r,n⟩:=this;exact⟨c,(d c).mpr ⟨g s (g b m s k) c r,n⟩,r⟩
  .exact Hw (td:=td) h (v i C sub s k) (j z f).2
 .rintro⟨S,w,sub,l,o⟩;have p:∀z∈RO st tf td ns,¬S z:=λz f k=>by
   rcases zEj (PV.mp f).2 with⟨s,x,D⟩ | h
   .obtain⟨i,a,b,c⟩:=A s (g z (PV.mp f).1 s x) D;exact o z k i a b s c x
   .exact v S w sub z k h
  refine(d y).mpr ⟨sub y l,λz=>?_⟩;rcases AO.mp z with z | z
  .exact p y z l
  .obtain⟨q,E,rfl⟩:=AX.mp z;exact Ge w p q E l
end
def Pm(ns:A1 Str)(m:Nat)(y:Str):Prop:=∃j:Nat,ns[j]?=some y/\m.testBit j=true
section
variable{ns:A1 Str}{qs:A1 JV}{A B:A1 Nat}
theorem X6{i j:Nat}{x y:Str}(f:MB ns ((qs.map λq=>q.2).map λk=>(k.2,k.1)) A)(d:MB ns (qs.map λq=>q.2) B)(hi:ns[i]?=some x)(e:ns[j]?=some y):(A.getD j 0).testBit i=true↔x∈B2 qs y:=by
 rw[(f.net d).tr,d.bit,JD];constructor
 .rintro⟨k,g,a,b⟩;obtain⟨q,c,rfl⟩:=AX.mp g;rw[hi]at a;rw[e]at b;exact⟨q,c,(BH b).symm,(BH a).symm⟩
 .rintro⟨q,c,a,b⟩;exact⟨q.2,AX.mpr ⟨q,c,rfl⟩,by rw[b];exact hi,by rw[a];exact e⟩
theorem Yu(d:MB ns ((qs.map λq=>q.2).map λk=>(k.2,k.1)) A)(f:MB ns (qs.map λq=>q.2) B)(n:∀y∈ns,∀s∈B2 qs y,s∈ns){m:Nat}(h:Ce ns.length A B m):SV (B2 qs) (Pm ns m):=by
 have c:=d.net f;refine⟨λa b ⟨i,g,u⟩ ⟨j,l,o⟩ z=>?_,λb ⟨j,l,o⟩ s p=>?_⟩
 .exact h.2.1 i j u o ((c.tr j i).mp ((X6 d f g l).mpr z))
 .have g:=P2 (n b (AI l) s p);obtain⟨k,r,e⟩:=(h.2.2 j o).2 _ ((X6 d f g l).mpr p);have t:ns[k]?=some (ns[k]'(h.1 k r)):=AC _;exact⟨_,⟨k,t,r⟩,(X6 d f t g).mp ((c.tr _ k).mpr e)⟩
theorem zAs(n:MB ns ((qs.map λq=>q.2).map λk=>(k.2,k.1)) A)(o:MB ns (qs.map λq=>q.2) B){S:Str->Prop}(h:SV (B2 qs) S)(sub:∀z,S z->z∈ns):∃m,Ce ns.length A B m/\∀(j:Nat) y,ns[j]?=some y->(m.testBit j=true↔S y):=by
 have e:=n.net o;have d:∀j,(Hl ns.length λj=>∃z,ns[j]?=some z/\S z).testBit j=true↔∃z,ns[j]?=some z/\S z:=λj=>by
  rw[Cd];exact⟨(·.2),λ⟨z,l,f⟩=>⟨(AE.mp l).1,z,l,f⟩⟩
 refine⟨Hl ns.length λj=>∃z,ns[j]?=some z/\S z,⟨λj g=>?_,λi j p g z=>?_,λj g=>?_⟩,λj y g=>?_⟩
 .obtain⟨z,l,_⟩:=(d j).mp g;exact(AE.mp l).1
 .obtain⟨a,v,w⟩:=(d i).mp p;obtain⟨b,r,s⟩:=(d j).mp g;exact h.1 a b w s ((X6 n o v r).mp ((e.tr j i).mpr z))
 .obtain⟨b,r,s⟩:=(d j).mp g;refine⟨(AE.mp r).1,λi p=>?_⟩;have f:ns[i]?=some (ns[i]'(e.lt i j ((e.tr j i).mp p)).1):=AC _;obtain⟨c,t,x⟩:=h.2 b s _ ((X6 n o f r).mp p);have u:=P2 (sub c t);exact⟨_,(d _).mpr ⟨c,u,t⟩,(e.tr _ _).mp ((X6 n o u f).mpr x)⟩
 .rw[d];exact⟨λ⟨z,l,f⟩=>by rw[g]at l;cases l;exact f,λf=>⟨y,g,f⟩⟩
theorem Yo{L:Nat}(H:ns.Nodup)(I:ns.length<=12)(f:MB ns ((qs.map λq=>q.2).map λk=>(k.2,k.1)) A)(l:MB ns (qs.map λq=>q.2) B)(m:∀y∈ns,∀s∈B2 qs y,s∈ns){td:Str->PyData}{g:Nat}
  (J:∀j,g.testBit j=true↔∃M,Ce ns.length A B M/\M.testBit j=true/\∀i,M.testBit i=true->∀u,Ce ns.length A B u->¬n6 B u i) {j:Nat} {y:Str} (p:ns[j]?=some y):g.testBit j=true↔y∈QC (B2 qs) (Pd A B L ns) td ns:=by
 have n:=f.net l;have K:∀{i j:Nat} {y:Str},ns[i]?=some y->ns[j]?=some y->i=j:=λh N=>(List.getElem?_inj (AE.mp h).1 H).mp (h.trans N.symm);rw[zEm m (λy O h=>?_) (λS C sub y w=>?_)]
 .rw[J];constructor
  .rintro⟨M,v,P,a⟩;refine⟨Pm ns M,Yu f l m v,λz ⟨i,c,_⟩=>AI c,⟨j,p,P⟩,λz ⟨i,c,x⟩ U D t s E h=>?_⟩;obtain⟨u,o,Q⟩:=zAs f l D t;have d:=P2 (t s E);exact a i x u o ⟨_,(Q _ _ d).mpr E,(n.tr _ _).mp ((X6 f l d c).mpr h)⟩
  .rintro⟨S,C,sub,w,a⟩;obtain⟨M,v,b⟩:=zAs f l C sub;refine⟨M,v,(b j y p).mpr w,λi x u o ⟨k,F,e⟩=>?_⟩;have c:ns[i]?=some (ns[i]'(v.1 i x)):=AC _;have d:ns[k]?=some (ns[k]'(o.1 k F)):=AC _;exact a _ ((b i _ c).mp x) (Pm ns u) (Yu f l m o) (λz ⟨i,c,_⟩=>AI c) _ ⟨k,d,F⟩ ((X6 f l d c).mp ((n.tr _ _).mpr e))
 .unfold Pd at h;cases G:Q0 A B ns.length L 13 (2^ns.idxOf y)with
  | none=>rw[G]at h;exact absurd rfl h
  | some r =>
   have d:=P2 O;obtain⟨R,T⟩:=Dv n 13 _ r (λj p=>by
    rw[CF,BN]at p;rw[<-p];exact(AE.mp d).1) G
   exact⟨Pm ns r,Yu f l m R,λz ⟨i,c,_⟩=>AI c,_,d,T _ (by rw[CF,BN])⟩
 .obtain⟨M,v,b⟩:=zAs f l C sub;have d:=P2 (sub y w);unfold Pd;intro z;refine Dh (L:=L) n v 13 (2^ns.idxOf y) (λj p=>?_) (by lia) (Option.map_eq_none_iff.mp z);rw[CF,BN]at p;rw[<-p];exact(b _ _ d).mpr w
end
section
variable{P:A7}{w:F8}{K:PySem.W.Frag}{mg:Str->A5 A2}{base:IM}
theorem JF:IL ["_law_view", "_law_masks_here", "_law_hit_here", "_law_found", "_law_mask"] ["_law_view", "_law_masks_here"] (B7 NG):=KU
def Js:Sp:=λd H Q _=>∃(p v l:A3) (b:A1 Str) (e:A1 (Str×Str)) (A B a:A1 Nat),d = [.ref v,.ref l]/\KA H p v b e A B/\b.length<=100/\H l=some (.lst (a.map O4)) /\
 ∀g:Nat,(∀j,g.testBit j=true↔∃M∈a,M.testBit j=true/\∀i,M.testBit i=true->∀f∈a,¬n6 B f i)->∀c,F1 H c->Q (.int (g:Int)) c
theorem Cr(T:Tx K mg):IU P w K mg base JE 2 T.aY.f T.aY.fd ["_law_view", "_law_masks_here"] Js:=by
 refine T.aY.F.o1 JF λY A J s H vs Q E Z h=>?_
 .obtain⟨p,v,l,ns,ks,A,B,W,rfl,hV,ln,el,q⟩:=h;refine⟨_,(B4 (Ac (E3 (A8 B8 (A8 B8 B1))) (QT K (n:=2) (C5 (C7 (i:=2) JF.nd rfl (.inl rfl)) (C5 (C7 (i:=3) JF.nd rfl (.inl rfl)) P9))))
   (B4 (O6 PassesOwn.never rfl (MZ K (pv 1)) (C7 (i:=4) JF.nd rfl (.inl rfl))
   (B5 (C6 (i:=2) JF.nd rfl (.inl rfl) (C8 Ar (pv 2) (C9 T.aZ (y8 T) (Rm Z) (A8 (pv 0) (A8 (pv 4) B1)))))))
   (B4 (O6 PassesOwn.never rfl (MZ K (pv 1)) (C7 (i:=4) JF.nd rfl (.inl rfl))
   (B5 (M9 (D6 i8 (C8 R0 (pv 4) (pv 2)) B8 (E9 _)) (B5 (C6 (i:=3) JF.nd rfl (.inl rfl) (C8 Ar (pv 3) (pv 4)))) D4)))
   (B5 (C3 (pv 3)))))),?_⟩
  refine B9 λN1 L=>?_;refine⟨by show 2<=sizeLine;decide,λt ht=>?_⟩;have D:=F1.new (o:=.tup [.int 0,.int 0]) ht;have X:(IK H t (.tup [.int 0,.int 0])) t=some (.tup [.int 0,.int 0]):=A9;generalize IK H t (.tup [.int 0,.int 0])=H1 at D X⊢;refine⟨t,_,rfl,JJ.of X,rfl,_,_,rfl,_,_,rfl,rfl,L _ _ (B9 λN2 N=>?_)⟩;have m:=D _ _ el;have V1:=hV.same D;refine A6 rfl ⟨l,rfl,⟨_,IS.of m⟩,?_⟩;refine Bs (MY (K:=K) (IS.of m)) (λi σ G=>G=H1/\∃(h:Nat) (r:A5 V),σ = [some (.ref v),some (.ref l),some (.int (h:Int)),some (.int ((0:Nat):Int)),r]/\∀j,h.testBit j=true↔∃M∈W.take i,n6 B M j) ⟨rfl,0,_,rfl,λj=>by rw[CZ];simp⟩ (λi σ G _ h o e=>by rw[h.1];exact e) (λi σ G z x h=>?_) λσ G h=>N _ _ ?_
  .obtain⟨rfl,h,r,rfl,y⟩:=h;rw[AH]at x;obtain⟨M,I,rfl⟩:=AQ.mp x;refine A6 rfl (A6 rfl (A6 rfl ⟨p,v,M,ns,ks,A,B,rfl,V1,ln,λh2 O=>?_⟩));refine C0 rfl rfl ?_;dsimp only;rw[QZ];refine⟨rfl,_,_,rfl,λj=>?_⟩;rw[DX,DY,y,O,IW I];constructor
   .rintro(⟨d,k,h2⟩ | h2)
    .exact⟨d,CP _ k,h2⟩
    .exact⟨M,BG _ (AD.mpr rfl),h2⟩
   .rintro⟨d,k,h2⟩;rcases AO.mp k with z | z
    .exact .inl ⟨d,z,h2⟩
    .rw[AD.mp z]at h2;exact .inr h2
  .obtain⟨rfl,h,r,rfl,y⟩:=h;rw[AB,BQ]at y;refine B9 λN3 R=>?_;refine A6 rfl ⟨l,rfl,⟨_,IS.of m⟩,?_⟩;refine Bs (MY (K:=K) (IS.of m)) (λi σ G'=>G'=G/\∃(g:Nat) (r:A5 V),σ = [some (.ref v),some (.ref l),some (.int (h:Int)),some (.int (g:Int)),r]/\∀j,g.testBit j=true↔∃M∈W.take i,M.testBit j=true/\∀i,M.testBit i=true->¬h.testBit i=true) ⟨rfl,0,_,rfl,λj=>by rw[CZ];simp⟩ (λi σ G _ h o e=>by rw[h.1];exact e) (λi σ G z x S=>?_) λσ G S=>R _ _ ?_
   .obtain⟨rfl,g,r,rfl,C⟩:=S;rw[AH]at x;obtain⟨M,I,rfl⟩:=AQ.mp x;refine A6 rfl (A6 rfl (C0 rfl rfl ⟨rfl,_,rfl,?_⟩));refine V0 (λc=>?_) λc=>?_
    .have c:=(Fx M h).mp c;refine A6 rfl (A6 rfl (C0 rfl rfl ?_));dsimp only;rw[QZ];refine⟨rfl,_,_,rfl,λj=>?_⟩;rw[DX,DY,C,IW I];constructor
     .rintro(⟨d,k,h2⟩ | h2)
      .exact⟨d,CP _ k,h2⟩
      .exact⟨M,BG _ (AD.mpr rfl),h2,c⟩
     .rintro⟨d,k,h2⟩;rcases AO.mp k with z | z
      .exact .inl ⟨d,z,h2⟩
      .rw[AD.mp z]at h2;exact .inr h2.1
    .refine⟨rfl,g,_,rfl,λj=>?_⟩;rw[C,IW I];constructor
     .rintro⟨d,k,h2⟩;exact⟨d,CP _ k,h2⟩
     .rintro⟨d,k,h2⟩;rcases AO.mp k with z | z
      .exact⟨d,z,h2⟩
      .rw[AD.mp z]at h2;exact absurd ((Fx M h).mpr h2.2) c
   .obtain⟨rfl,g,r,rfl,C⟩:=S;rw[AB,BQ]at C;refine A6 rfl (q g (λj=>?_) _ D);rw[C];exact⟨λ⟨M,a,b,c⟩=>⟨M,a,b,λi U d u z=>c i U ((y i).mpr ⟨d,u,z⟩)⟩,λ⟨M,a,b,c⟩=>⟨M,a,b,λi U z=>(let⟨d,u,z'⟩:=(y i).mp z;c i U d u z')⟩⟩
def Th(f:A1 Str->A1 Nat->A1 Nat->Nat->Prop):Sp:=λc H Q _=>∃(p v:A3) (m:Nat) (a:A1 Str) (d:A1 (Str×Str)) (A B:A1 Nat),c = [.ref v,.int (m:Int)]/\KA H p v a d A B/\a.length<=100 /\
 ∀b:Bool,(b=true↔f a A B m)->Q (.bl b) H
theorem j7:IL ["_law_view", "_law_mask"] ["_law_view", "_law_mask"] (B7 NR):=⟨rfl,rfl,rfl,by decide +kernel,rfl,by decide +kernel,by decide +kernel⟩
theorem Ea(T:Tx K mg):IU P w K mg base JE 3 T.a4.f T.a4.fd ["_law_view", "_law_mask"] (Th λns A B m=>JP B m/\∀j,m.testBit j=true->So ns.length A B m j):=by
 have i:=W3 (P:=P) (w:=w) (base:=base) T;have k:=Jh (P:=P) (w:=w) (base:=base) T;have I:=j7;refine T.a4.F.ok j7 (λD H Q E h=>?_) (λG A l s H D Q E r h=>?_)
 .obtain⟨p,n,a,J,L,A,B,rfl,_⟩:=h;rfl
 .obtain⟨p,v,m,ns,t,A,B,rfl,u,x,q⟩:=h;refine⟨_,(B5 (C3 (Ak (C9 T.aJ i (r.mono (by decide)) (A8 (pv 0) (A8 (pv 1) B1))) (Cb (Q9 i8 (C8 R0 (pv 1) (Zk Xw (C9 T.bg k (r.mono (by decide)) (A8 (pv 0) (A8 (pv 1) B1))))) B8 (E9 _)))))),?_⟩;refine A6 rfl (A6 rfl ⟨p,v,m,ns,t,A,B,rfl,u,x,λb y=>⟨b,rfl,?_⟩⟩);refine V0 (λc=>?_) (λc=>?_)
  .refine A6 rfl (A6 rfl (A6 rfl (Yi (a:=p) (b:=v) (c:=m) (d:=ns) (e:=t) (f:=A) (g:=B) rfl u x λM C=>?_)));refine A6 rfl (C0 rfl rfl ⟨rfl,?_⟩);refine q _ ?_;dsimp only;rw[Ad];exact⟨λh=>⟨y.mp c,λj o=>(C j).mp (h j o)⟩,λh j o=>(C j).mpr (h.2 j o)⟩
  .exact q false ⟨λz=>(by cases z),λh=>absurd (y.mpr h.1) c⟩
end
def JP.sub{B:A1 Nat}{m a:Nat}(h:JP B m)(s:Sub a m):JP B a:=λi j b c=>h i j (s i b) (s j c)
def zCd{i m a:Nat}(h:OC i m)(h':OC i a)(e:m ||| 2^i=a ||| 2^i):m=a:=BS λj=>by
 by_cases c:j=i
 .subst c;rw[DB.mpr λz=>CU _ (h j z),DB.mpr λz=>CU _ (h' j z)]
 .have:=congrArg (λz=>z.testBit j) e;rw[DX,DX,CF,BF λz=>c z.symm,Bool.or_false,Bool.or_false]at this;exact this
def Nn{B f:A1 Nat}{i:Nat}(p:f.Nodup)(g:∀m,m∈f↔OC i m/\JP B m):(f ++(f.filter λm=>pB (JP B (m ||| 2^i))).map λm=>m ||| 2^i).Nodup/\∀m,m∈(f ++(f.filter λm=>pB (JP B (m ||| 2^i))).map λm=>m ||| 2^i)↔OC (i+1) m/\JP B m:=by
 have r:∀m,(m ||| 2^i).testBit i=true:=λm=>by rw[DX,HI,Bool.or_true]
 constructor
 .refine DK.mpr ⟨p,CS.mpr (FY (fun{a b} l n s e=>s (zCd ((g a).mp (BC.mp l).1).1 ((g b).mp (BC.mp n).1).1 e)) (p.sublist CV)),λa l b n e=>?_⟩;obtain⟨c,_,rfl⟩:=AX.mp n;have:=((g a).mp l).1 i (by rw[e];exact r c);lia
 .intro m;rw[AO,g,AX];constructor
  .rintro(⟨k,d⟩ | ⟨q,h,rfl⟩)
   .exact⟨λj o=>EC (k j o),d⟩
   .obtain⟨k,d⟩:=BC.mp h;refine⟨λj o=>?_,NM.mp d⟩;rcases(X1 q i j).mp o with z | z
    .exact EC (((g q).mp k).1 j z)
    .lia
  .rintro⟨k,d⟩;by_cases c:m.testBit i=true
   .have e:m % 2^i ||| 2^i=m:=BS λj=>by
     rw[DX,HR,CF,CC,DY,BW,BN,BN];constructor
     .rintro(⟨_,z⟩ | rfl)
      .exact z
      .exact c
     .intro z;by_cases t:j<i
      .exact .inl ⟨t,z⟩
      .have:=k j z;exact .inr (by lia)
    have u:Sub (m % 2^i) m:=λj z=>by
     rw[HR,BW]at z;exact z.2
    refine .inr ⟨m % 2^i,BC.mpr ⟨(g _).mpr ⟨λj z=>?_,d.sub u⟩,NM.mpr (by rw[e];exact d)⟩,e⟩;rw[HR,BW,BN]at z;exact z.1
   .refine .inl ⟨λj z=>?_,d⟩;have:=k j z;rcases Nat.lt_or_ge j i with y | y
    .exact y
    .exact absurd (show m.testBit i=true by rw[show i=j by lia];exact z) c
section
variable{P:A7}{w:F8}{K:PySem.W.Frag}{mg:Str->A5 A2}{base:IM}
theorem JL:IL ["_law_view", "_law_found", "_law_k", "_law_mask"] ["_law_view"] (B7 LC):=KU
def Cf:Sp:=λd H Q _=>∃(p v:A3) (b:A1 Str) (e:A1 (Str×Str)) (A B:A1 Nat),d = [.ref v]/\KA H p v b e A B/\b.length<=12 /\
 ∀l (a:A1 Nat) c,H l=none->F1 H c->c l=some (.lst (a.map O4))->a.Nodup->(∀m,m∈a↔Ce b.length A B m)->a.length<=4096->Q (.ref l) c
set_option maxHeartbeats 2000000 in
theorem i9(T:Tx K mg):IU P w K mg base JE 4 T.aF.f T.aF.fd ["_law_view"] Cf:=by
 refine T.aF.F.o1 JL λcdv A U s H vs Q E hr h=>?_
 .obtain⟨p,v,N,ks,A,B,rfl,W,ln,q⟩:=h;obtain⟨⟨a,s,u,X,e2,e3,e4,_⟩,mA,mB⟩:=id W;refine⟨_,(B4 (C6 (i:=1) JL.nd rfl (.inl rfl) (Q5 (A8 B8 B1)))
   (B4 (O6 PassesOwn.never rfl (TR T.a0 (A8 (E1 (Q7 K) T.aw Q1 (A8 (E7 (M_ K) (pv 0) B8 (λ_ _=>rfl)) B1)) B1)) (C7 (i:=2) JL.nd rfl (.inl rfl))
   (B5 (O6 PassesOwn.never rfl (MZ K (Hq (w8 K) T.az Q4 (A8 (pv 1) B1))) (C7 (i:=3) JL.nd rfl (.inl rfl))
   (B5 (M9 (O3 (C9 T.aJ (W3 T) (Rm hr) (A8 (pv 0) (A8 (C8 Ar (pv 3) (C8 Du B8 (pv 2))) B1)))) (B5 (J7 (Jb K PySem.F.plainAttrs_list PySem.F.slot_list_append PySem.F.type_list_append K4 (pv 1) (A8 (C8 Ar (pv 3) (C8 Du B8 (pv 2))) B1)))) D4)))))
   (B5 (C3 (X3 (N':=["_law_mask", "_law_view"]) (cap:=[none,some 0]) (cl:=[("_law_view",_)]) (P8 ⟨⟨rfl,rfl,rfl,rfl⟩,trivial⟩ ⟨rfl,trivial⟩) rfl (MZ K (pv 1)) (λ_ _ _ _=>by exact⟨(MN 0),(U8 (O3 (C9 T.a4 (Ea T) (Rm hr) (A8 (pv 1) (A8 (pv 0) B1))))),(pv 0)⟩)))))),?_⟩
  refine B9 λN1 Y=>?_;refine⟨by show 1<=sizeLine;decide,λl O=>?_⟩;have Z:=O;have R:=F1.new (o:=.lst [.int 0]) O;have fl:(IK H l (.lst [.int 0])) l=some (.lst ([0].map O4)):=A9;generalize IK H l (.lst [.int 0])=H1 at R fl⊢;refine Y _ _ (B9 λN2 hN2=>?_);refine A6 rfl ⟨v,_,C0 rfl rfl ⟨IS.of (R _ _ X),rfl,C0 (a:=a) rfl (.inl (IS.of (R _ _ e2))) (A6 rfl ⟨?_,?_,?_⟩)⟩⟩
  .lia
  .rw[AB];lia
  rw[AB,CK];have lz:∀m,m∈[0]↔OC 0 m/\JP B m:=λm=>by
   rw[AD];constructor
   .rintro rfl;exact⟨OC.zero _,λi j h=>by rw[CZ]at h;cases h⟩
   .rintro⟨h,_⟩;exact BS λj=>by rw[CZ];exact DB.mpr λz=>absurd (h j z) (FS _)
  refine U3 (λi σ G=>(∃v2 g,σ = [some (.ref v),some (.ref l),v2,g])/\F1 H G/\∃d:A1 Nat,G l=some (.lst (d.map O4))/\d.Nodup/\(∀m,m∈d↔OC i m/\JP B m)/\d.length<=2^i) ⟨⟨_,_,rfl⟩,R,[0],fl,GA _ _,lz,by decide⟩ ?_ ?_
  .rintro i σ G hi ⟨⟨v2,g,rfl⟩,k,d,n,nG,mG,lG⟩ D1 hD1 _;rw[Int.zero_add];have p2:2^i<=2^11:=Nat.pow_le_pow_right (by decide) (by lia);refine A6 rfl ⟨l,_,rfl,.inl (IS.of n),λc hc=>?_⟩;have uc:=F1.new (o:=.lst (d.map O4)) hc;have C:(IK G c (.lst (d.map O4))) c=some (.lst (d.map O4)):=A9;have ncl:c≠l:=(B3 n hc).symm;generalize IK G c (.lst (d.map O4))=I at uc C⊢;have r:=k.trans uc;have hc0:H c=none:=k.free hc;refine⟨c,rfl,⟨_,IS.of C⟩,X0 (MY (IS.of C)) (λj σ t=>(∃g,σ = [some (.ref v),some (.ref l),some (.int (i:Int)),g])/\F1 H t/\t c=some (.lst (d.map O4))/\t l=some (.lst ((d ++((d.take j).filter λm=>pB (JP B (m ||| 2^i))).map λm=>m ||| 2^i).map O4))) ⟨⟨_,rfl⟩,r,C,by rw[List.take_zero,HQ,EK,BU];exact uc _ _ n⟩ (λj σ t _ h o e=>by rw[C]at e;cases e;exact h.2.2.1) ?_ ?_⟩
   .rintro j σ t y hy ⟨⟨g,rfl⟩,J,c2,x⟩ D2 L _;rw[AH]at hy;obtain⟨m,S,rfl⟩:=AQ.mp hy;have lj:=(AE.mp S).1;refine A6 rfl (A6 rfl (A6 rfl (C0 rfl rfl ⟨⟨by lia,by lia,by decide⟩,C0 rfl rfl ?_⟩)));dsimp only;rw[TC,show O4 m=V.int (m:Int)from rfl];refine⟨p,v,m ||| 2^i,N,ks,A,B,by rw[QZ];rfl,W.same J,by lia,λb hb=>⟨_,rfl,?_⟩⟩;have eb:=zDm hb;have hs:(d.take (j+1)).filter (λm=>pB (JP B (m ||| 2^i))) =(d.take j).filter (λm=>pB (JP B (m ||| 2^i)))++if pB (JP B (m ||| 2^i))=true then [m]else []:=by
     rw[IW S,EY,DQ,HQ]
    have O:=BM (λm=>pB (JP B (m ||| 2^i))) (d.take j);rw[AZ]at O;refine V0 (λz=>?_) (λz=>L _ _ ⟨⟨_,rfl⟩,J,c2,?_⟩)
    .refine A6 rfl ⟨.inl ⟨rfl,_,IS.of x⟩,A6 rfl (A6 rfl (C0 rfl rfl ⟨⟨by lia,by lia,by decide⟩,C0 rfl rfl ?_⟩))⟩;dsimp only;rw[TC];refine⟨l,_,_,rfl,by rw[QZ],x,by rw[AB,AW,AB,sizeLine_eq];lia,L _ _ ⟨⟨_,rfl⟩,J.upd Z,(B6 ncl).trans c2,?_⟩⟩;rw[A9,hs,AL (by rw[<-eb];exact z)];simp only[AN,BK,EK,BE];rfl
    .rw[hs,AJ (by rw[<-eb];exact z),BU];exact x
   .rintro σ t ⟨⟨g,rfl⟩,J,c2,x⟩;rw[AB,BQ]at x;obtain⟨n2,m2⟩:=Nn nG mG;refine hD1 _ _ ⟨⟨_,_,rfl⟩,J,_,x,n2,m2,?_⟩;have:=BM (λm=>pB (JP B (m ||| 2^i))) d;rw[AW,AB,Nat.pow_succ];lia
  .rintro σ G ⟨⟨v2,g,rfl⟩,k,d,n,nG,mG,lG⟩;have p2:2^N.length<=2^12:=Nat.pow_le_pow_right (by decide) ln;refine hN2 _ _ ?_;refine A6 rfl ⟨l,rfl,⟨_,IS.of n⟩,λD hD=>?_⟩;refine Er O4 (MY (IS.of n)) (λm=>pB (JP B m/\∀j,m.testBit j=true->So N.length A B m j)) (by lia) hD (λm S I r M hM=>?_) (λm S I r M hM=>A6 rfl hM) λσ' I r X=>?_
   .exact A6 rfl (A6 rfl ⟨p,v,m,N,ks,A,B,rfl,(W.same k).same r,by lia,λb hb=>⟨_,rfl,by rw[zDm hb];exact hM I λb o e=>e⟩⟩)
   .refine q D _ I (k.free hD) (k.trans r) X (nG.sublist CV) (λm=>?_) (Nat.le_trans (BM ..) (by lia));rw[BC,mG,NM];exact⟨λh=>⟨h.1.1,h.2⟩,λh=>⟨⟨h.1,h.2.1⟩,h.2⟩⟩
end
def zCx{as:A1 Str}:as.Nodup->∀bs:A1 Str,(as.zip bs).Nodup/\∀z∈as.zip bs,z.1∈as/\z.2∈bs:=λc bs=>by
 refine⟨?_,λz d=>FR d⟩
 induction as generalizing bs with
 | nil=>rw[List.zip_nil_left];exact GF
 | cons a as e =>
  cases bs with
  | nil=>rw[List.zip_nil_right];exact GF
  | cons b bs =>
   rw[GM];exact BX.mpr ⟨λh=>(BX.mp c).1 (FR h).1,e (BX.mp c).2 bs⟩
section
variable{P:A7}{w:F8}{K:PySem.W.Frag}{mg:Str->A5 A2}{base:IM}
theorem LB:IL ["_law_left_here", "_law_names_here", "_law_strikes_here"] ["_law_left_here"] (B7 NF):=KU
def zAw:Sp:=λg H Q _=>∃(p:A3) (c:Int),g = [.ref p]/\I_ H p c/\c<=700000 /\
 ∀t n a (d:A1 Str) (e:A1 JV) f b,Sm [p] H b->b t=some (.tup [.ref n,.ref a])->b n=some (.lst (d.map V.str))->W9 d->d.length<=12->b a=some (.lst (O5 e))->(∀q∈e,K9 b q)->OB d e->f<=c+1100->I_ b p f->Q (.ref t) b
theorem Cw(T:Tx K mg):IU P w K mg base JE 4 T.aX.f T.aX.fd ["_law_left_here"] zAw:=by
 refine T.aX.F.o1 LB λcdv A outer s H vs Q E hr h=>?_
 .obtain⟨p,c,rfl,L1,c1,q⟩:=h;refine⟨_,(B4 (C6 (i:=1) LB.nd rfl (.inr rfl) (C9 T.aT (Ag T) (Rm hr) (A8 (pv 0) (A8 (C8 Z7 B8 (C9 T.aq (I0 T) (Rm hr) (A8 (pv 0) (A8 B8 B1)))) B1))))
   (B4 (C6 (i:=2) LB.nd rfl (.inl rfl) (Q5 (A8 (E3 (A8 (E7 (M_ K) (pv 1) B8 (λ_ _=>rfl)) (A8 (E7 (M_ K) (pv 1) B8 (λ_ _=>rfl)) B1))) (A8 (E3 (A8 (E7 (M_ K) (pv 1) B8 (λ_ _=>rfl)) (A8 (E7 (M_ K) (pv 1) B8 (λ_ _=>rfl)) B1))) (A8 (E3 (A8 (E7 (M_ K) (pv 1) B8 (λ_ _=>rfl)) (A8 (E7 (M_ K) (pv 1) B8 (λ_ _=>rfl)) B1))) (A8 (E3 (A8 (E7 (M_ K) (pv 1) B8 (λ_ _=>rfl)) (A8 (E7 (M_ K) (pv 1) B8 (λ_ _=>rfl)) B1))) B1))))))
   (B5 (C3 (E3 (A8 (pv 1) (A8 (C8 Qo (pv 2) (X3 (N':=["_law_k", "_law_names_here"]) (cap:=[none,some 1]) (cl:=[("_law_names_here",_)]) (P8 ⟨⟨rfl,rfl,rfl,rfl⟩,trivial⟩ ⟨rfl,trivial⟩) rfl (Ri (by rfl) T.a0 (A8 B8 (A8 (C8 Xd (E1 (Q7 K) T.aw Q1 (A8 (pv 1) B1)) B8) B1))) (λ_ _ _ _=>by exact⟨(MN 0),J8,(E3 (A8 (E7 (M_ K) (pv 1) (pv 0) (λ_ _=>rfl)) (A8 (E7 (M_ K) (pv 1) (C8 Z7 (pv 0) B8) (λ_ _=>rfl)) B1)))⟩))) B1))))))),?_⟩
  refine B9 λN1 hN1=>?_;refine A6 rfl (A6 rfl (Bd (a:=p) rfl L1 (by lia) (by decide) (by decide) λd H2 hd k2 L2=>?_));refine C0 rfl rfl ⟨p,_,6+d,by simp,L2,by lia,by lia,λn ss H3 hn k3 J L NO L3=>?_⟩;refine hN1 _ _ (B9 λN2 hN2=>?_);obtain⟨a,b,g,r,rfl⟩:∃a b g r,ss=a::b::g::r:=by
   match ss,L with
   | a::b::g::r,_=>exact⟨a,b,g,r,rfl⟩
   | [],L=>exact absurd L (by simp only[EO];lia)
   | [_],L=>exact absurd L (by simp only[AR,EO];lia)
   | [_,_],L=>exact absurd L (by simp only[AR,EO];lia)
  refine A6 rfl ⟨n,_,C0 rfl rfl ⟨IS.of J,D0 (j:=0) rfl,A6 rfl ⟨n,_,C0 rfl rfl ⟨IS.of J,D0 (j:=1) rfl,by show 2<=sizeLine;decide,λu ht1=>?_⟩⟩⟩⟩;have u1:=F1.new (o:=.tup [.str a,.str b]) ht1;refine A6 rfl ⟨n,_,C0 rfl rfl ⟨IS.of (u1 _ _ J),D0 (j:=1) rfl,A6 rfl ⟨n,_,C0 rfl rfl ⟨IS.of (u1 _ _ J),D0 (j:=0) rfl,by show 2<=sizeLine;decide,λB W=>?_⟩⟩⟩⟩;have u2:=u1.trans (F1.new (o:=.tup [.str b,.str a]) W);refine A6 rfl ⟨n,_,C0 rfl rfl ⟨IS.of (u2 _ _ J),D0 (j:=0) rfl,A6 rfl ⟨n,_,C0 rfl rfl ⟨IS.of (u2 _ _ J),D0 (j:=2) rfl,by show 2<=sizeLine;decide,λC X=>?_⟩⟩⟩⟩;have u3:=u2.trans (F1.new (o:=.tup [.str a,.str g]) X);refine A6 rfl ⟨n,_,C0 rfl rfl ⟨IS.of (u3 _ _ J),D0 (j:=1) rfl,A6 rfl ⟨n,_,C0 rfl rfl ⟨IS.of (u3 _ _ J),D0 (j:=2) rfl,by show 2<=sizeLine;decide,λI Y=>?_⟩⟩⟩⟩;have u4:=u3.trans (F1.new (o:=.tup [.str b,.str g]) Y);refine⟨by show 4<=sizeLine;decide,λz hz=>?_⟩;have u5:=u4.trans (F1.new (o:=.lst [.ref u,.ref B,.ref C,.ref I]) hz);refine hN2 _ _ ?_;have x1:(IK (IK (IK (IK (IK H3 u (.tup [.str a,.str b])) B (.tup [.str b,.str a])) C (.tup [.str a,.str g])) I (.tup [.str b,.str g])) z (.lst [.ref u,.ref B,.ref C,.ref I])) z=some (.lst [.ref u,.ref B,.ref C,.ref I]):=A9;have uz:=F1.new (o:=.lst [.ref u,.ref B,.ref C,.ref I]) hz;have v4:=(F1.new (o:=.tup [.str b,.str g]) Y).trans uz;have v3:=(F1.new (o:=.tup [.str a,.str g]) X).trans v4;have v2:=(F1.new (o:=.tup [.str b,.str a]) W).trans v3;have y1:=v2 _ _ (A9 (H:=H3) (a:=u) (o:=.tup [.str a,.str b]));have y2:=v3 _ _ (A9 (a:=B) (o:=.tup [.str b,.str a]));have y3:=v4 _ _ (A9 (a:=C) (o:=.tup [.str a,.str g]));have y4:=uz _ _ (A9 (a:=I) (o:=.tup [.str b,.str g]));clear uz v2 v3 v4 u1 u2 u3 u4;generalize (IK (IK (IK (IK (IK H3 u (.tup [.str a,.str b])) B (.tup [.str b,.str a])) C (.tup [.str a,.str g])) I (.tup [.str b,.str g])) z (.lst [.ref u,.ref B,.ref C,.ref I]))=H5 at x1 y1 y2 y3 y4 u5⊢;have e5:=u5 _ _ J;have lr:r.length+3=6+d:=by simpa using L
  refine A6 rfl (A6 rfl (A6 rfl ⟨n,_,rfl,.inl (IS.of e5),C0 rfl rfl ⟨_,_,rfl,?_,λD hD=>?_⟩⟩))
  .rw[AB,AR,AR,AR];lia
  have en:((((a::b::g::r).map V.str).length:Int)-1-2).toNat=r.length:=by
   rw[AB,AR,AR,AR];lia
  rw[en];refine j4 (n:=r.length) (λi σ G=>(∃v,σ = [v,some (.ref n)])/\F1 H5 G/\∃l:A1 JV,G D=some (.lst (O5 l))/\(∀z∈l,z.1≠D/\K9 G z)/\(l.map λz=>z.2) =((g::r).zip r).take i) ⟨⟨_,rfl⟩,F1.new hD,[],A9,λz h=>absurd h CD,rfl⟩ (λi σ G hi _=>hi) (λσ G _=>Nat.le_refl _) ?_ ?_
  .rintro i σ G y G' N hi ⟨⟨v,rfl⟩,U,l,eG,Z,O⟩ ⟨rfl,rfl⟩ hN;have ei:(2:Int) +(i:Int) =((2+i:Nat):Int):=by lia
   rw[ei];have k1:((a::b::g::r).map V.str)[2+i]?=some (.str ((g::r)[i]'(by rw[AR];lia))):=by
    rw[AH,show 2+i=i+1+1 by lia,DV,DV,AC (by rw[AR];lia)];rfl
   have k2:((a::b::g::r).map V.str)[2+i+1]?=some (.str (r[i]'hi)):=by
    rw[AH,show 2+i+1=i+1+1+1 by lia,DV,DV,DV,AC hi];rfl
   refine o9 (A6 rfl (A6 rfl ⟨n,_,C0 rfl rfl ⟨IS.of (U _ _ e5),D0 k1,A6 rfl (A6 rfl (C0 rfl rfl ⟨n,_,C0 rfl rfl ⟨IS.of (U _ _ e5),D0 (j:=2+i+1) k2,by show 2<=sizeLine;decide,λt ht=>?_⟩⟩))⟩⟩));have R:=F1.new (o:=.tup [.str ((g::r)[i]'(by rw[AR];lia)),.str (r[i]'hi)]) ht;have lq:l.length<=12:=by
    have e:=congrArg List.length O;rw[AB,AZ,List.length_zip,AR]at e;lia
   have ht':=R _ _ eG;refine⟨_,ht',by unfold O5;rw[AB,sizeLine_eq];lia,hN _ _ ⟨⟨_,rfl⟩,(U.trans R).upd hD,l ++ [(t,(g::r)[i]'(by rw[AR];lia),r[i]'hi)],by rw[A9];unfold O5;rw[AN];rfl,λz hz=>?_,?_⟩⟩
   .have tD:t≠D:=(B3 eG ht).symm;rcases AO.mp hz with h | h
    .exact⟨(Z z h).1,(B6 (Z z h).1).trans (R _ _ (Z z h).2)⟩
    .rw[AD.mp h];exact⟨tD,(B6 tD).trans A9⟩
   .have ez:((g::r).zip r)[i]?=some ((g::r)[i]'(by rw[AR];lia),r[i]'hi):=by
     rw[AC (by rw[List.length_zip,AR];lia),List.getElem_zip]
    rw[AN,O,IW ez];rfl
  rintro σ G ⟨_,U,l,eG,Z,O⟩;have lz:((g::r).zip r).length=r.length:=by rw[List.length_zip,AR];lia
  rw[<-lz,BQ]at O;have lq:l.length<=12:=by
   have e:=congrArg List.length O;rw[AB,lz]at e;lia
  have lrf:(O5 l).length=l.length:=AB ..;refine⟨z,D,_,_,rfl,rfl,U _ _ x1,eG,by rw[lrf,sizeLine_eq];show 4+l.length<=_;lia,λx hx=>?_⟩;have sx:=F1.new (o:=.lst ([.ref u,.ref B,.ref C,.ref I]++O5 l)) hx;have ex:(IK G x (.lst ([.ref u,.ref B,.ref C,.ref I]++O5 l))) x=some (.lst (O5 ([(u,a,b),(B,b,a),(C,a,g),(I,b,g)]++l))):=by rw[A9];rfl
  generalize IK G x (.lst ([.ref u,.ref B,.ref C,.ref I]++O5 l))=G6 at sx ex⊢;refine⟨by show 2<=sizeLine;decide,λt ht=>?_⟩;have R:=F1.new (o:=.tup [.ref n,.ref x]) ht;have m:=(U.trans sx).trans R;obtain⟨zn,zm⟩:=zCx (BX.mp (BX.mp NO.2.1).2).2 r;have hnd:=NO.2.1;rw[BX,BX]at hnd;obtain⟨na,nb,_⟩:=hnd;have nab:a≠b:=λe=>na (by rw[e];exact .head _);have nac:a≠g:=λe=>na (by rw[e];exact .tail _ (.head _));have nbc:b≠g:=λe=>nb (by rw[e];exact .head _);have qm:∀k∈l,k.2.1∈g::r/\k.2.2∈r:=λk M=>zm k.2 (by rw[<-O];exact AX.mpr ⟨k,M,rfl⟩);refine q t n x (a::b::g::r) ([(u,a,b),(B,b,a),(C,a,g),(I,b,g)]++l) _ _ (k2.trans (k3.trans (u5.trans m).sm)) A9 (m _ _ e5) NO (by rw[L];lia) (R _ _ ex) (λk M=>?_) ⟨λk M=>?_,?_,?_⟩ ?_ (L3.same (u5.trans m))
  .rcases AO.mp M with h | h
   .simp only[AK,CD,or_false]at h;rcases h with rfl | rfl | rfl | rfl
    .exact m _ _ y1
    .exact m _ _ y2
    .exact m _ _ y3
    .exact m _ _ y4
   .exact R _ _ (sx _ _ (Z k h).2)
  .rcases AO.mp M with h | h
   .simp only[AK,CD,or_false]at h;rcases h with rfl | rfl | rfl | rfl<;>simp
   .obtain⟨S,h2⟩:=qm k h;exact⟨.tail _ (.tail _ S),.tail _ (.tail _ (.tail _ h2))⟩
  .rw[AN,O];refine DK.mpr ⟨by simp[nab,nac,nbc,nab.symm,nac.symm,nbc.symm],zn,λk M y hy e=>?_⟩;obtain⟨S,h2⟩:=zm y hy;simp only[BK,EK,AK,CD,or_false]at M;rw[<-e]at S;rcases M with rfl | rfl | rfl | rfl
   .exact na (.tail _ S)
   .exact nb S
   .exact na (.tail _ S)
   .exact nb S
  .rw[AW];show 4+l.length<=200;lia
  .lia
theorem KJ:IL ["_law_script", "_law_k", "_law_left_here", "_law_names_here", "_law_strikes_here"] ["_law_script", "_law_k"] (B7 OL):=KU
def Nw(K:PySem.W.Frag):Sp:=λf H Q _=>∃(u:A3) (g:A1 Int) (k:Nat),f = [.ref u,.int (k:Int)]/\IS K H u (g.map V.int)/\k<=1000 /\
 ∀t p n a (d:A1 Str) (e:A1 JV) (c:Int) b,F1 H b->b t=some (.tup [.ref p,.ref n,.ref a])->b n=some (.lst (d.map V.str))->W9 d->d.length<=12->b a=some (.lst (O5 e))->(∀q∈e,K9 b q)->OB d e->c<=2000->I_ b p c->Q (.ref t) b
theorem Hy(T:Tx K mg):IU P w K mg base JE 5 T.bb.f T.bb.fd ["_law_script", "_law_k"] (Nw K):=by
 refine T.bb.F.o1 KJ λW A y s H vs Q E r h=>?_
 .obtain⟨u,X,k,rfl,Y,hk,q⟩:=h;refine⟨_,(B4 (C6 (i:=2) KJ.nd rfl (.inl rfl) (C9 T.be (Ky T) (Rm r) (A8 (pv 0) (A8 (pv 1) B1))))
   (B4 (M9 (D6 i8 (C9 T.aq (I0 T) (Rm r) (A8 (pv 2) (A8 B8 B1))) B8 (E9 _)) (B4 (Ac (C9 T.aX (Cw T) (Rm r) (A8 (pv 2) B1)) (QT K (n:=2) (C5 (C7 (i:=3) KJ.nd rfl (.inl rfl)) (C5 (C7 (i:=4) KJ.nd rfl (.inl rfl)) P9))))
   (B5 (C3 (E3 (A8 (pv 2) (A8 (pv 3) (A8 (pv 4) B1))))))) D4)
   (B4 (C6 (i:=3) KJ.nd rfl (.inl rfl) (C9 T.aT (Ag T) (Rm r) (A8 (pv 2) (A8 (C9 T.bf (Kw T) (Rm r) (A8 (pv 2) B1)) B1))))
   (B5 (C3 (E3 (A8 (pv 2) (A8 (pv 3) (A8 (C9 T.aW (Co T) (Rm r) (A8 (pv 2) (A8 (pv 3) B1))) B1))))))))),?_⟩
  refine B9 λN1 z=>?_;refine A6 rfl (A6 rfl ⟨u,X,k,rfl,Y,by lia,λp Z hp s1 L1=>?_⟩);refine z _ _ (B9 λN2 B=>?_);have g:∀{G:Hp},Sm [p] Z G->F1 H G:=λk b o e=>k b o (s1 b o e) (by simpa using B3 e hp);refine A6 rfl (Bd (a:=p) rfl L1 (by decide) (by decide) (by decide) λd H2 hd S L2=>?_);refine⟨rfl,_,rfl,V0 (λ_=>?_) λ_=>B _ _ ?_⟩
  .refine B9 λN3 j=>?_;refine A6 rfl ⟨p,_,rfl,L2,by lia,λt n a v C D H3 I et en x J L l O hc M=>?_⟩;refine⟨t,_,rfl,JJ.of et,rfl,_,_,rfl,_,_,rfl,rfl,j _ _ ?_⟩;refine A6 rfl (A6 rfl (A6 rfl ⟨by show 3<=sizeLine;decide,λN m=>?_⟩));have c:=F1.new (o:=.tup [.ref p,.ref n,.ref a]) m;exact q N p n a v C D _ (g ((S.trans I).trans c.sm)) A9 (c _ _ en) x J (c _ _ L) (Q3 c l) O (by lia) (M.same c)
  .refine B9 λN3 j=>?_;refine A6 rfl (A6 rfl ⟨p,_,rfl,L2,by lia,λsz H3 hsz I M=>?_⟩);refine⟨p,_,sz,rfl,M,by lia,by lia,λn v H4 hn k4 R l4 x U=>?_⟩;refine j _ _ ?_;refine A6 rfl (A6 rfl (A6 rfl (A6 rfl ⟨p,n,_,v,rfl,U,by lia,R,x,by lia,λa C D H5 ha V L l O hc L5=>?_⟩)));refine⟨by show 3<=sizeLine;decide,λN m=>?_⟩;have c:=F1.new (o:=.tup [.ref p,.ref n,.ref a]) m;exact q N p n a v C D _ (g ((S.trans (I.trans (k4.trans V))).trans c.sm)) A9 (c _ _ (NK V R (U.ne R))) x (by lia) (c _ _ L) (Q3 c l) O (by lia) (L5.same c)
end
def Ow.kp{H H':Hp}(k:KP H H'):∀{n:Nat} {d:PyData} {v:V} {L:A1 A3},Ow H n d v L->Ow H' n d v L
 | 0,_,_,_,h=>h.elim
 | _+1,_,_,_,.inl h=>.inl h
 | n+1,_,_,_,.inr ⟨b,l,a,c,e,f,g,j,m,o,p,q,h⟩=>.inr ⟨b,l,a,c,e,f,g,k _ _ j (λw z=>by cases b<;>cases z),m,o,p,q,λi r x M s t u=>(h i r x M s t u).kp k⟩
def Ow.tup2{H:Hp}{n:Nat}{d e:PyData}{v:V}{L:A1 A3}(h:Ow H (n+1) (.tuple [d,e]) v L):∃(l:A3) (x y:V) (a L2:A1 A3),v = .ref l/\H l=some (.tup [x,y])/\Ow H n d x a/\Ow H n e y L2:=by
 rcases h with⟨s,c,_⟩ | ⟨b,l,g,o,i,c,j,f,k,m,p,q,h⟩
 .cases c
 .cases b with
  | true=>cases c
  | false =>
   cases c
   match g,i,k,m,h,f with
   | [x,y],[a,L2],_,_,h,f=>exact⟨l,x,y,a,L2,j,f,h 0 d x a rfl rfl rfl,h 1 e y L2 rfl rfl rfl⟩
def Ow.lst{H:Hp}{n:Nat}{ds:A1 PyData}{v:V}{L:A1 A3}(h:Ow H (n+1) (.list ds) v L):∃(l:A3) (xs:A1 V),v = .ref l/\H l=some (.lst xs):=by
 rcases h with⟨s,a,_⟩ | ⟨b,l,xs,ds,e,a,c,d,f,g,i,j,h⟩
 .cases a
 .cases b with
  | true=>exact⟨l,xs,c,d⟩
  | false=>cases a
def Ow.gd{H:Hp}{n:Nat}{st:Str->A1 Str}{i:Str->A5 (A1 Str)}{td:Str->PyData}{ns:A1 Str}{f:A3}{L:A1 A3}(h:Ow H (n+3) (GD st i td ns) (.ref f) L):∃(r a b c:A3) (xs d g:A1 V) (M:A1 A3),H f=some (.tup [.ref a,.ref r])/\H r=some (.tup [.ref b,.ref c])/\H a=some (.lst xs)/\H b=some (.lst d)/\H c=some (.lst g)/\Ow H (n+2) (.list ((QC st i td ns).map PyData.str)) (.ref a) M:=by
 obtain⟨u,x,y,k,L2,e,l,j,m⟩:=Ow.tup2 h;cases e;obtain⟨r,b,c,v,w,rfl,er,o,p⟩:=Ow.tup2 m;obtain⟨a,xs,rfl,q⟩:=Ow.lst j;obtain⟨b,d,rfl,s⟩:=Ow.lst o;obtain⟨c,g,rfl,t⟩:=Ow.lst p;exact⟨r,a,b,c,xs,d,g,k,l,er,q,s,t,j⟩
def Ow.pairs{H:Hp}{n:Nat}{l:A3}{a:A1 JV}(e:H l=some (.lst (O5 a)))(c:∀q∈a,K9 H q)(j:∀q∈a,PySem.PyData.strOk q.2.1=true/\PySem.PyData.strOk q.2.2=true)(f:a.length<=200):Ow H (n+3) (.list ((a.map λq=>q.2).map λk=>.tuple [.str k.1,.str k.2])) (.ref l) [l]:=by
 refine Ow.flat (n:=n+2) (b:=true) (xs:=O5 a) (ds:=(a.map λq=>q.2).map λk=>.tuple [.str k.1,.str k.2]) e (by unfold O5;rw[AB,AB,AB]) (by unfold O5;rw[AB];exact f) λi d x g h=>?_;unfold O5 at h;rw[AH]at h;rw[AH,AH]at g;obtain⟨q,o,rfl⟩:=AQ.mp h;rw[o]at g;cases g;have m:=AI o;exact Ow.two (n:=n+1) (c q m) (Ow.str (j q m).1) (Ow.str (j q m).2)
def Vm{G H':Hp}{f:A3}{ls:A1 (Pos×Str)}{L:A1 A3}(k:∀a o,G a=some o->a∉L->H' a=some o)(g:∀l∈L,∃xs,G l=some (.lst xs))(t:M5 G f ls):M5 H' f ls:=by
 obtain⟨i,b,t,h⟩:=t;exact⟨i,k _ _ b (λz=>by obtain⟨xs,e⟩:=g _ z;rw[e]at b;cases b),t,λx j=>(h x j).imp id λ⟨c,m,d⟩=>⟨c,m,k _ _ d (λz=>by obtain⟨xs,e⟩:=g _ z;rw[e]at d;cases d)⟩⟩
def Mm{H G H':Hp}{L:A1 A3}(b:∀m∈L,H m=none)(k:∀a o,G a=some o->a∉L->H' a=some o){a:A3}{o:HO}(e:H a=some o)(c:G a=some o):H' a=some o:=k _ _ c λz=>by rw[b a z]at e;cases e
def zDg{ns:A1 Str}{g:Nat}{st:Str->A1 Str}{b:Str->A5 (A1 Str)}{td:Str->PyData}(c:ns.Nodup)(a:ns.Pairwise QP)(h:∀(j:Nat) y,ns[j]?=some y->(g.testBit j=true↔y∈QC st b td ns)):LH ns g=QC st b td ns:=by
 refine t8 (a.sublist (X7 ns g)) (a.sublist CV) ((GZ (c.sublist (X7 ns g)) (c.sublist CV)).mpr λy=>?_);rw[PP];constructor
 .rintro⟨j,f,i⟩;exact(h j y i).mp f
 .intro d;have e:y∈ns:=(BC.mp d).1;exact⟨_,(h _ y (P2 e)).mpr d,P2 e⟩
section
variable{P:A7}{w:F8}{K:PySem.W.Frag}{mg:Str->A5 A2}{base:IM}
theorem LS:IL ["_law_script", "_law_k", "_law_left_here", "_law_names_here", "_law_strikes_here", "_law_web", "_law_view", "_law_due", "_law_found", "_law_again"] ["_law_script"] (B7 OM):=KU
def Nj(K:PySem.W.Frag)(b:A3):Sp:=λc H Q _=>∃(u:A3) (a:A1 Int),c = [.ref u]/\IS K H u (a.map V.int)/\a.length<=63/\M5 H b C1/\∀d,Q (.bl true) d
set_option maxHeartbeats 8000000 in
theorem zEo(T:Tx K mg)(hB:base.BuiltinsAt mg T.aa){f:A3}{fd:JA}(F:QA K "law" "law" OM f fd):IU P w K mg base JE 41 f fd ["_law_script"] (Nj K T.aa):=by
 have D:IU P w K mg base JE 23 T.aM.f T.aM.fd ["web"] (Dg K T.ag T.aa):=Op T hB;have r:IU P w K mg base JE 40 T.ao.f T.ao.fd ["_law_found", "_law_due"] (Ay 40):=Ai T 40;have I:IU P w K mg base JE 40 T.ap.f T.ap.fd ["_law_thing"] (Lm 40):=b9 T 40;refine F.o1 LS λcdv A outer s H vs Q E J h=>?_
 .obtain⟨u,xs,rfl,hS,hlen,hT,q⟩:=h;have hu:=V6 J;refine⟨_,(B4 (O6 PassesOwn.never rfl (TR T.a0 (A8 (C8 Z7 B8 (E1 (Qz rfl) T.bC Xr (A8 B8 (A8 (E1 (Q7 K) T.aw Q1 (A8 (pv 0) B1)) B1)))) B1)) (C7 (i:=1) LS.nd rfl (.inl rfl))
   (B4 (Ac (C9 T.bb (Hy T) (Rm J) (A8 (pv 0) (A8 (pv 1) B1))) (QT K (n:=3) (C5 (C7 (i:=2) LS.nd rfl (.inl rfl)) (C5 (C7 (i:=3) LS.nd rfl (.inl rfl)) (C5 (C7 (i:=4) LS.nd rfl (.inl rfl)) P9)))))
   (B4 (C6 (i:=5) LS.nd rfl (.inl rfl) (Ps T.bK (Ji T) (Rm J) rfl T.bJ T.bz .nil J9 (A8 (pv 3) (A8 (pv 4) B1))))
   (B4 (C6 (i:=6) LS.nd rfl (.inl rfl) (C9 T.ba (He T) (Rm J) (A8 (pv 3) (A8 (pv 4) B1))))
   (B4 (C6 (i:=7) LS.nd rfl (.inl rfl) (C9 T.a3 (Fa T) (Rm J) (A8 (pv 6) (A8 (C9 T.aY (Cr T) (Rm J) (A8 (pv 6) (A8 (C9 T.aF (i9 T) (Rm J) (A8 (pv 6) B1)) B1))) B1))))
   (B4 (C6 (i:=8) LS.nd rfl (.inl rfl) (C9 T.aM D (Rm J) (A8 (pv 5) B1)))
   (B4 (C6 (i:=9) LS.nd rfl (.inl rfl) (C9 T.aM D (Rm J) (A8 (pv 5) B1)))
   (B4 (M9 (PW.pt (t9 (R1 (O3 (C9 T.a5 (Em T) (Rm J) (A8 (pv 8) B1)))) (t9 (R1 (O3 (C9 T.ao r (Rm J) (A8 (E7 (P_ K) (pv 8) B8 (λ_ _=>rfl)) (A8 (pv 7) B1))))) (Z8 (R1 (O3 (C9 T.ao r (Rm J) (A8 (pv 8) (A8 (pv 9) B1))))))))) (B5 (C3 Gf)) D4)
   (B4 (J7 (C9 T.ap I (Rm J) (A8 (pv 8) B1)))
   (B4 (M9 (PW.pt (t9 (R1 (O3 (C9 T.ao r (Rm J) (A8 (C9 T.aM D (Rm J) (A8 (pv 5) B1)) (A8 (pv 9) B1))))) (Z8 (R1 (O3 (C9 T.ao r (Rm J) (A8 (E7 (P_ K) (pv 9) B8 (λ_ _=>rfl)) (A8 (pv 7) B1)))))))) (B5 (C3 Gf)) D4)
   (B5 (M9 (PW.pt (t9 (R1 (O3 (C9 T.ao r (Rm J) (A8 (U9 (pv 5) T.am T.af.m (I9 T) (Rm J) T.af.b .nil J9) (A8 (E7 (M_ K) (pv 6) B8 (λ_ _=>rfl)) B1))))) (Z8 (R1 (O3 (C9 T.ao r (Rm J) (A8 (U9 (pv 5) T.am T.ax.m (n8 T) (Rm J) T.ax.b .nil J9) (A8 (E1 (Nd K) T.a6 X2 (A8 (pv 4) B1)) B1)))))))) (B5 (C3 Gf)) D4))))))))))))
   (B5 (C3 Gf))),?_⟩
  refine B9 λN0 hN0=>?_;refine⟨_,rfl,u,_,rfl,.inl hS,_,_,rfl,_,_,rfl,rfl,?_⟩;obtain⟨z,ez,hz⟩:∃z:Nat,(1:Int) +(if((xs.map V.int).length:Int)<3 then((xs.map V.int).length:Int)else 3) =(z:Int)/\z<=4:=by
   by_cases h:((xs.map V.int).length:Int)<3
   .rw[AL h];exact⟨1 +(xs.map V.int).length,by lia,by lia⟩
   .rw[AJ h];exact⟨4,rfl,Nat.le_refl _⟩
  refine A6 (a:=(z:Int)) (congrArg (λt=>[V.int t]) ez) ⟨by lia,by lia,?_⟩;rw[CK];refine U3 (λi σ G=>(∃v1 v2 v3 v4 v5 v6 v7 v8 v9,σ = [some (.ref u),v1,v2,v3,v4,v5,v6,v7,v8,v9])/\Sm [T.aa] H G/\M5 G T.aa C1) ⟨⟨_,_,_,_,_,_,_,_,_,rfl⟩,(λb o e _=>e),hT⟩ ?_ λσ G _=>hN0 _ _ (q G);rintro i σ F0 hi ⟨⟨v1,v2,v3,v4,v5,v6,v7,v8,v9,rfl⟩,kF,TF⟩ D1 hD1 _;rw[Int.zero_add];have kpF:=KP.of hT kF;have hSF:IS K F0 u (xs.map V.int):=by
   rcases hS with(h | ⟨o,h⟩) | h
   .exact .inl (.inl (kpF _ _ h (λ_ z=>by cases z)))
   .exact .inl (.inr ⟨o,kpF _ _ h (λ_ z=>by cases z)⟩)
   .exact .inr h
  refine zAv λN1 hN1=>?_;refine A6 rfl (A6 rfl ⟨u,xs,i,rfl,hSF,by lia,λt p n a ss ps c H2 s2 et e2 NO l12 a2 S O2 hc L2=>?_⟩);refine⟨t,_,rfl,JJ.of et,rfl,_,_,rfl,_,_,rfl,_,_,rfl,rfl,?_⟩;refine hN1 _ _ (B9 λN2 hN2=>?_);refine A6 rfl (A6 rfl ?_);intro x dx nx ndx nex;have sx:F1 H2 (IK (IK H2 dx (.own x)) x (.ins T.ag dx [])):=λb o e=>by
   rw[B6 (B3 e nx),B6 (B3 e ndx)];exact e
  refine zFx (a:=x) (b:=dx) (c:=n) (d:=ss) (e:=a) (f:=ps) rfl A9 (sx _ _ e2) NO (sx _ _ a2) (Q3 sx S) O2 λns N H6 pn srn pq srq k6 W6=>⟨rfl,?_⟩;have s6:F1 H2 H6:=λb o e=>k6 b o (sx b o e) (by simpa using B3 e nx);refine hN2 _ _ (B9 λN3 hN3=>?_);refine A6 rfl (A6 rfl (zFj (a:=n) (b:=a) (c:=ss) (d:=ps) rfl (s6 _ _ e2) NO (s6 _ _ a2) (Q3 s6 S) O2 λv C A B H7 hv s7 pm srt V7=>?_));have L6:=L2.same s6;have V7:=V7 p _ L6.get;have en:C=ns:=t8 srt srn (pm.trans pn.symm);subst en;have ln:C.length<=12:=by rw[pm.length_eq];exact l12
  have nmn:∀y∈C,U7 y=true:=λy hy=>NO.1 y (pm.mem_iff.mp hy);have nmo:∀y∈C,PySem.PyData.strOk y=true:=λy hy=>Y4 (nmn y hy);have nd:C.Nodup:=pm.nodup_iff.mpr NO.2.1;have kp:∀k,k∈ps.map (λq=>q.2)↔k∈N.map λq=>q.2:=λk=>(pq.map _).mem_iff.symm;have U:=V7.mA.mono (ks':=(N.map λq=>q.2).map λk=>(k.2,k.1)) λk=>by rw[AX,AX];exact⟨λ⟨j,h,e⟩=>⟨j,(kp j).mp h,e⟩,λ⟨j,h,e⟩=>⟨j,(kp j).mpr h,e⟩⟩
  have W:=V7.mB.mono kp;have net:=U.net W;have hLM:∀j,(Hl C.length λj=>(A.getD j 0).testBit j=true).testBit j=true↔(A.getD j 0).testBit j=true:=λj=>by
   rw[Cd];exact⟨(·.2),λh=>⟨(net.lt j j ((net.tr j j).mp h)).1,h⟩⟩
  generalize (Hl C.length λj=>(A.getD j 0).testBit j=true)=LM at hLM;have hst:∀y∈C,∀s∈B2 N y,s∈C:=λy _ s hs=>by
   obtain⟨q,O,_,e⟩:=JD.mp hs;rw[<-e];exact(W6.ok.mem q O).1
  refine hN3 _ _ (B9 λN4 hN4=>?_);refine A6 rfl (A6 rfl (A6 rfl ⟨p,v,C,_,A,B,rfl,V7,ln,λm Ms H8 hm s8 em ndM mm lM=>?_⟩));refine⟨p,v,m,C,_,A,B,Ms,rfl,V7.same s8,by lia,em,λg hg H9 s9=>?_⟩;refine⟨p,v,g,C,_,A,B,rfl,(V7.same s8).same s9,by lia,λdu H10 hdu s10 edu=>?_⟩;have eg:LH C g=QC (B2 N) (Pd A B LM C) (S1 A B LM C) C:=zDg nd srn λj y hj=>Yo nd ln U W hst (λj=>(hg j).trans ⟨λ⟨M,a,b,c⟩=>⟨M,(mm M).mp a,b,λi hi M' hM'=>c i hi M' ((mm M').mpr hM')⟩,λ⟨M,a,b,c⟩=>⟨M,(mm M).mpr a,b,λi hi M' hM'=>c i hi M' ((mm M').mp hM')⟩⟩) hj;rw[eg]at edu;have L:=(s8.trans s9).trans s10;have W10:=W6.same (s7.trans L);have k10:Sm [T.aa] H H10:=kF.trans (((s2.trans s6).trans (s7.trans L)).sm);have T10:=Bp ((s2.trans s6).trans (s7.trans L)) TF;have odu:Ow H10 40 (.list ((QC (B2 N) (Pd A B LM C) (S1 A B LM C) C).map PyData.str)) (.ref du) [du]:=Ow.strs (n:=38) (b:=true) edu (λy hy=>nmo y (BC.mp hy).1) (Nat.le_trans (BM _ _) (by lia));refine hN4 _ _ (B9 λN5 hN5=>?_);refine A6 rfl ⟨x,C,N,A,B,LM,rfl,W10,ln,nmn,T10,U,W,hLM,λfo G1 Ls k1 T1 o1 nd1 nw1=>?_⟩;refine hN5 _ _ (B9 λN6 hN6=>?_);have K1:=KP.of T10 k1;have W11:=K1.web W10;refine A6 rfl ⟨x,C,N,A,B,LM,rfl,W11,ln,nmn,T1,U,W,hLM,λag G2 Ls2 k2 T2 o2 nd2 nw2=>?_⟩;have K2:=KP.of T1 k2;refine hN6 _ _ (B9 λN7 hN7=>?_);have o1':=o1.kp K2;have odu2:=(odu.kp K1).kp K2;obtain⟨r1,a1,b1,c1,xs1,ys1,zs1,M1,ef1,er1,ea1,eb1,ec1,osm1⟩:=Ow.gd (n:=37) o1';refine A6 rfl ⟨fo,r1,a1,b1,c1,xs1,ys1,zs1,rfl,ef1,er1,ea1,eb1,ec1,?_⟩;refine⟨_,rfl,Z0 ?_⟩;refine A6 rfl ⟨fo,_,C0 rfl rfl ⟨JJ.of ef1,D0 (j:=0) rfl,A6 rfl (Ow.alike (n:=40) (osm1.up (by lia)) odu2 λG3 s3'=>⟨_,rfl,Z0 ?_⟩)⟩⟩;refine A6 rfl (A6 rfl (Ow.alike (n:=40) (o1'.same s3') (o2.same s3') λG4 s4'=>⟨_,rfl,Z0 (hN7 _ _ (B9 λN8 hN8=>?_))⟩));have R:=s3'.trans s4';have o14:=o1'.same R;refine A6 rfl ⟨_,.ref fo,Ls,rfl,o14,nd1,λG5 k5=>hN8 _ _ (B9 λN9 hN9=>?_)⟩;have T5:=Vm k5 o14.here (Bp R T2);have K5:KP H10 G5:=λb o e n=>Mm nw1 k5 e (R _ _ (K2 _ _ (K1 _ _ e n) n));have o25:=(o2.same R).keep (X:=Ls) k5 (λy hy xs e=>by obtain⟨ys,e'⟩:=o14.here y hy;rw[e']at e;cases e) λl hl z=>by
   obtain⟨ys,e'⟩:=o1.here l z;rw[nw2 l hl]at e';cases e'
  have W5:=K5.web W10;have odu5:=odu.kp K5;have V5:=K5.view ((V7.same L));have ea5:=K5 _ _ (L _ _ (s7 _ _ (s6 _ _ a2))) (λ_ z=>by cases z);have pin5:∀q∈ps,K9 G5 q:=λq O=>K5 _ _ (L _ _ (s7 _ _ (s6 _ _ (S q O)))) (λ_ z=>by cases z);have k5H:Sm [T.aa] H G5:=λb o e n=>by
   refine Mm nw1 k5 (k10 b o e n) (R _ _ (k2 _ _ (k1 _ _ (k10 b o e n) n) n))
  clear K1 K2 k1 k2 T1 T2 nw1 nw2 nd1 nd2 k5 o14 o1' o1 o2 odu2 R s3' s4' W11 ef1 er1 ea1 eb1 ec1 osm1;refine A6 rfl ⟨x,C,N,A,B,LM,rfl,W5,ln,nmn,T5,U,W,hLM,λth G6 Ls3 k6 T6 o3 nd3 nw3=>?_⟩;have K6:=KP.of T5 k6;refine A6 rfl (Ow.alike (n:=40) o3 (o25.kp K6) λG7 s7'=>⟨_,rfl,Z0 ?_⟩);have K7:KP G5 G7:=K6.trans (KP.same s7');obtain⟨r2,aa,b2,c2,xs2,ys2,zs2,M2,ef2,er2,ea2,eb2,ec2,osm2⟩:=Ow.gd (n:=37) (o25.kp K7);refine A6 rfl ⟨ag,_,C0 rfl rfl ⟨JJ.of ef2,D0 (j:=0) rfl,A6 rfl (Ow.alike (n:=40) (osm2.up (by lia)) (odu5.kp K7) λG8 s8'=>⟨_,rfl,Z0 (hN9 _ _ ?_)⟩)⟩⟩;have K8:KP G5 G8:=K7.trans (KP.same s8');have W8:=K8.web W5;have V8:=K8.view V5;obtain⟨⟨va,vb,vc,ev,eva,_⟩,_,_⟩:=id V8;obtain⟨okw,dxw,_,_,_,_,_,_,exw,_⟩:=id W8;refine A6 rfl ⟨x,dxw,A6 rfl ⟨exw,rfl,x,C,N,rfl,W8,λl hl=>?_⟩⟩;have ul:=F1.new (o:=.lst (C.map V.str)) hl;have el:(IK G8 l (.lst (C.map V.str))) l=some (.lst (C.map V.str)):=A9;generalize IK G8 l (.lst (C.map V.str))=G9 at ul el⊢;have on:∀{G:Hp} {l:A3},G l=some (.lst (C.map V.str))->Ow G 40 (.list (C.map PyData.str)) (.ref l) [l]:=λe=>Ow.strs (n:=38) (b:=true) e nmo (by lia);refine A6 rfl ⟨v,_,C0 rfl rfl ⟨IS.of (ul _ _ ev),D0 (j:=0) rfl,Ow.alike (n:=40) (on el) (on (ul _ _ eva)) λG10 s10'=>⟨_,rfl,Z0 ?_⟩⟩⟩;have s8X:=ul.trans s10';have WX:=W8.same s8X;obtain⟨_,dxx,_,lq,_,_,_,_,exx,_,elq,pinq,_⟩:=id WX;refine A6 rfl ⟨x,dxx,A6 rfl ⟨exx,rfl,x,C,N,rfl,WX,λl2 hl2=>?_⟩⟩;have u2:=F1.new (o:=.lst (O5 N)) hl2;have el2:(IK G10 l2 (.lst (O5 N))) l2=some (.lst (O5 N)):=A9;generalize IK G10 l2 (.lst (O5 N))=G11 at u2 el2⊢;have Y:=s8X.trans u2;refine A6 rfl ⟨a,ps,rfl,IS.of (Y _ _ (K8 _ _ ea5 (λ_ z=>by cases z))),λq O=>Y _ _ (K8 _ _ (pin5 q O) (λ_ z=>by cases z)),λl3 Z hl3 pm3 w3=>?_⟩;have u3:=F1.new (o:=.lst (O5 Z)) hl3;have el3:(IK G11 l3 (.lst (O5 Z))) l3=some (.lst (O5 Z)):=A9;have eqk:(Z.map λq=>q.2)=N.map λq=>q.2:=Ks w3 srq (pm3.trans pq.symm);have okq:∀q∈N,PySem.PyData.strOk q.2.1=true/\PySem.PyData.strOk q.2.2=true:=λq O=>⟨nmo _ (okw.mem q O).1,nmo _ (okw.mem q O).2⟩;have okp:∀q∈Z,PySem.PyData.strOk q.2.1=true/\PySem.PyData.strOk q.2.2=true:=λq O=>by
   have:=O2.nm q (pm3.mem_iff.mp O);exact⟨Y4 (NO.1 _ this.1),Y4 (NO.1 _ this.2)⟩
  have oq:=Ow.pairs (n:=37) (u3 _ _ el2) (λq O=>u3 _ _ (u2 _ _ (pinq q O))) okq okw.lenq;have op:=Ow.pairs (n:=37) el3 (λq O=>u3 _ _ (Y _ _ (K8 _ _ (pin5 q (pm3.mem_iff.mp O)) (λ_ z=>by cases z)))) okp (by rw[pm3.length_eq];exact O2.len);rw[eqk]at op;refine Ow.alike (n:=40) oq op λG12 s12'=>⟨_,rfl,Z0 (hD1 _ _ ⟨⟨_,_,_,_,_,_,_,_,_,rfl⟩,?_,?_⟩)⟩
  .exact k5H.trans (k6.trans ((s7'.trans s8').trans (Y.trans (u3.trans s12'))).sm)
  .exact Bp ((s7'.trans s8').trans (Y.trans (u3.trans s12'))) T6
end
section
variable{K:PySem.W.Frag}{h:IM}{mg:Str->A5 A2}
theorem RF{us:A1 A2}(h:us.length=1):∃a,us = [a]:=List.length_eq_one_iff.mp h
theorem QX{us:A1 A2}(h:us.length=2):∃a b,us = [a,b]:=by
 cases us with
 | nil=>cases h
 | cons a r=>obtain⟨b,rfl⟩:=RF (Nat.succ.inj h);exact⟨a,b,rfl⟩
theorem RX{us:A1 A2}(h:us.length=3):∃a b c,us = [a,b,c]:=by
 cases us with
 | nil=>cases h
 | cons a r=>obtain⟨b,c,rfl⟩:=QX (Nat.succ.inj h);exact⟨a,b,c,rfl⟩
theorem SQ{us:A1 A2}(h:us.length=4):∃a b c d,us = [a,b,c,d]:=by
 cases us with
 | nil=>cases h
 | cons a r=>obtain⟨b,c,d,rfl⟩:=RX (Nat.succ.inj h);exact⟨a,b,c,d,rfl⟩
theorem TZ{us:A1 A2}(h:us.length=5):∃a b c d e,us = [a,b,c,d,e]:=by
 cases us with
 | nil=>cases h
 | cons a r=>obtain⟨b,c,d,e,rfl⟩:=SQ (Nat.succ.inj h);exact⟨a,b,c,d,e,rfl⟩
def JB{x:Str}{st:I7}{m:A1 Str}{f:A3}{q:A2}{r n:A5 A3}{o:CW (A5 A2)}{kV i p g ct:A2}(X:K.In h)(G:h.Ns mainGlobals mg)(a:PySem.W.nsIn K mainGlobals x=some (some (.ref f)))
  (l:K.lookup f=some ⟨q,r,.func (PySem.W.fnOf x x (T0 st) (P4 st) (B7 st) .none kV i p n g ct),o⟩) (c:PySem.W.codeIn K g x=true) (k:PySem.W.keepIn K (.ref f)=true)
  (s:∀(kV i p:A2) (n:A5 A3) (g ct:A2) (us:A1 A2),us.length=m.length->bindArgs (PySem.W.fnOf x x (T0 st) (P4 st) (B7 st) .none kV i p n g ct) ⟨us,[]⟩=pure (m.zip us):=by intro _ _ _ _ _ _ us j;first | (obtain rfl:=GE.mp j;rfl) | (obtain⟨a,rfl⟩:=Sw.RF j;rfl) | (obtain⟨a,b,rfl⟩:=Sw.QX j;rfl) | (obtain⟨a,b,c,rfl⟩:=Sw.RX j;rfl) | (obtain⟨a,b,c,d,rfl⟩:=Sw.SQ j;rfl) | (obtain⟨a,b,c,d,e,rfl⟩:=Sw.TZ j;rfl)):Fn K mg x st m :=
 ⟨f,_,MA l c k,(MA l c k).binds s,PySem.W.mg_of X G a⟩
def LX{C:A3}{x q:Str}{st:I7}{m:A1 Str}{f:A3}{r:A2}{s n:A5 A3}{o:CW (A5 A2)}{kV h p g ct:A2}(a:PySem.W.findIn K (.ref C) x=some (some (.ref f)))(i:PySem.W.isFn K (.ref f)=true)
  (l:K.lookup f=some ⟨r,s,.func (PySem.W.fnOf x q (T0 st) (P4 st) (B7 st) .none kV h p n g ct),o⟩) (c:PySem.W.codeIn K g q=true) (k:PySem.W.keepIn K (.ref f)=true)
  (t:∀(kV h p:A2) (n:A5 A3) (g ct:A2) (us:A1 A2),us.length=m.length->bindArgs (PySem.W.fnOf x q (T0 st) (P4 st) (B7 st) .none kV h p n g ct) ⟨us,[]⟩=pure (m.zip us):=by intro _ _ _ _ _ _ us j;first | (obtain rfl:=GE.mp j;rfl) | (obtain⟨a,rfl⟩:=Sw.RF j;rfl) | (obtain⟨a,b,rfl⟩:=Sw.QX j;rfl) | (obtain⟨a,b,c,rfl⟩:=Sw.RX j;rfl) | (obtain⟨a,b,c,d,rfl⟩:=Sw.SQ j;rfl) | (obtain⟨a,b,c,d,e,rfl⟩:=Sw.TZ j;rfl)):Mt K C x q st m :=
 ⟨f,_,MA l c k,(MA l c k).binds t,⟨a,i,k⟩⟩
theorem SO{x z:Str}{v:A2}(X:K.In h)(G:h.Ns mainGlobals mg)(a:PySem.W.nsIn K mainGlobals x=some (some v))(e:∃t,v = .str z t):∃t,mg x=some (.str z t):=by
 obtain⟨t,rfl⟩:=e;exact⟨t,PySem.W.mg_of X G a⟩
theorem SR{x:Str}{z:Int}{v:A2}(X:K.In h)(G:h.Ns mainGlobals mg)(a:PySem.W.nsIn K mainGlobals x=some (some v))(e:∃t,v = .int z t):∃t,mg x=some (.int z t):=by
 obtain⟨t,rfl⟩:=e;exact⟨t,PySem.W.mg_of X G a⟩
def zDe(vs:CW A2)(c p:A3):Bool:=decide (vs[11]?=some (.ref p)) &&(match vs.getD 18 .none with | .str _ _=>true | _=>false) &&(match vs.getD 7 .none with | .int _ _=>true | _=>false) &&(match vs.getD 9 .none with | .bool _=>true | _=>false) &&(match vs.getD 10 .none with | .int _ _=>true | _=>false)&&decide (c≠p)&&decide (mainGlobals≠p)
theorem SM{c p:A3}{y:A5 A3}{vs:CW A2}{z:CW (A5 A2)}(l:K.lookup c=some ⟨.type "code",y,.fields vs,z⟩)(A:vs.getD 11 .none = .ref p)(e:zDe vs c p=true):TabAt K mg c p:=by
 unfold zDe at e;simp only[BW,decide_eq_true_eq]at e;obtain⟨⟨⟨⟨⟨⟨i,f⟩,w⟩,x⟩,h⟩,j⟩,m⟩:=e;have b:∃a t,vs.getD 18 .none = .str a t:=by cases q:vs.getD 18 .none<;>rw[q]at f<;>first | exact⟨_,_,rfl⟩ | cases f
 have n:∃a t,vs.getD 7 .none = .int a t:=by cases q:vs.getD 7 .none<;>rw[q]at w<;>first | exact⟨_,_,rfl⟩ | cases w
 have o:∃a,vs.getD 9 .none = .bool a:=by cases q:vs.getD 9 .none<;>rw[q]at x<;>first | exact⟨_,rfl⟩ | cases x
 have d:∃a t,vs.getD 10 .none = .int a t:=by cases q:vs.getD 10 .none<;>rw[q]at h<;>first | exact⟨_,_,rfl⟩ | cases h
 obtain⟨r,s,b⟩:=b;obtain⟨B,C,n⟩:=n;obtain⟨D,o⟩:=o;obtain⟨u,v,d⟩:=d;exact⟨λg k=>⟨_,vs,r,s,B,C,D,u,v,k _ _ l,rfl,rfl,i,A,b,n,o,d,j⟩,m⟩
theorem JR{C:A3}{f:Str}(h:PySem.W.findIn K (.ref C) f=some none):JT K C f:=h
end
def SU{l:PySem.W.OpenLaw}{w:F8}{K:PySem.W.Frag}{h:IM}{mg:Str->A5 A2}{n f d:A3}{u:A2}{x q:A5 A3}{i:CW (A5 A2)}{kV g r b ct:A2}(X:K.In h)(G:h.Ns mainGlobals mg)(j:mg "law" = some (.ref n))
  (T:Tx K mg) (a:PySem.W.nsIn K mainGlobals "law" = some (some (.ref f))) (lk:K.lookup f=some ⟨u,x,.func (PySem.W.fnOf "law" "law" (T0 OM) (P4 OM) (B7 OM) .none kV g r q b ct),i⟩) (c:PySem.W.codeIn K b "law" = true) (k:PySem.W.keepIn K (.ref f)=true) (ep:T.aa=d) (y:K.lookup d=none) :
  (∀p∈[d],isCodeTable h p)/\(∀p∈[d],K.lookup p=none)/\∃t:JA,(∀(s:A4) (v:A2),BindsTo s t ⟨[v],[]⟩ [("_law_script",v)])/\∀base:IM,K.In base->base.Ns mainGlobals mg->(∀p∈[d],base.BuiltinsAt mg p)->IU l.prog w K mg base JE 41 n t ["_law_script"] (Nj K d):=by
 subst ep;have e:=j.symm.trans (PySem.W.mg_of X G a);cases e;refine⟨λp m=>?_,λp m=>by rw[AD.mp m];exact y,PySem.W.fnOf "law" "law" (T0 OM) (P4 OM) (B7 OM) .none kV g r q b ct,λs v=>.of_eq rfl,λbase _ _ z=>zEo T (z _ (AD.mpr rfl)) (MA lk c k)⟩;obtain⟨o,A,_,_,_,_,_,_,_,B,C,D,E,_⟩:=T.bk.hd h X;rw[AD.mp m];exact⟨_,o,A,B,C,D,E⟩
def walk{l:PySem.W.OpenLaw}{q:A7}{c:A1 Str}{o:(Str->A5 A2)->IM->Prop}{e:F8->IM->Prop}{d:DefRec}{K:Params->PySem.W.Frag}{b:A3}(r:l.most=some 63)(g:d.params.defaults = [])
  (t:∀(w:F8) (h:IM),e w h->(K w.params).In h) (i:∀(w:F8) (h:IM),e w h->∀p∈[b],h.get? p=some (PySem.W.tabObj #[]))
  (F:∀(w:F8) (mg:Str->A5 A2) (j:A3) (h:IM),(K w.params).In h->h.Ns mainGlobals mg->mg d.name=some (.ref j) ->
   (∀p∈[b],isCodeTable h p)/\(∀p∈[b],(K w.params).lookup p=none)/\∃m:JA,(∀(s:A4) (u:A2),BindsTo s m ⟨[u],[]⟩ [("_law_script",u)])/\∀base:IM,(K w.params).In base->base.Ns mainGlobals mg->(∀p∈[b],base.BuiltinsAt mg p)->IU l.prog w (K w.params) mg base JE 41 j m ["_law_script"] (Nj (K w.params) b)) :
  PySem.W.WalkO q c o e l.row.toRowW d [] (λf vs=>PySem.call f vs) :=
 L2.RD (n:=63) (k:=41) (x := "_law_script") (ts:=[b]) (sp:=λw=>Nj (K w.params) b) r (by decide) g ⟨rfl,by decide,by decide⟩ t i F (λ_ _ a v y z A=>⟨a,v,rfl,A,y,⟨#[],z b (AD.mpr rfl),trivial,λ_ _=>.inl rfl⟩,λ_=>rfl⟩)
end Sw
open PySem PySem.W PyProof.Rows
set_option maxRecDepth 100000 in
set_option maxHeartbeats 0 in
theorem PySem.Challenge.cw_strikeweave_k42_granted_holds : PySem.Challenge.rw_strikeweave_k42_granted.Holds := by
 w_on;o_law;k_head;(case hw=>w_witness2)
 k_fill
 refine Sw.walk (l:=PySem.Challenge.rw_strikeweave_k42_granted) rfl rfl (λw h Y=>PySem.W.km_in_of Y) (λw h Y=>PySem.W.km_tabs_of Y) ?F
 case F =>
  intro w mg fa h KX G hmg;refine' Sw.SU KX G hmg (Sw.Tx.mk (Sw.JB KX G ?a1 ?l2 ?c3 ?k4)
   (Sw.JB KX G ?a5 ?l6 ?c7 ?k8)
   (Sw.JB KX G ?a9 ?l10 ?c11 ?k12)
   (Sw.JB KX G ?a13 ?l14 ?c15 ?k16)
   (Sw.JB KX G ?a17 ?l18 ?c19 ?k20)
   (Sw.JB KX G ?a21 ?l22 ?c23 ?k24)
   (Sw.JB KX G ?a25 ?l26 ?c27 ?k28)
   (Sw.JB KX G ?a29 ?l30 ?c31 ?k32)
   (Sw.JB KX G ?a33 ?l34 ?c35 ?k36)
   _
   _
   (Sw.SM ?l38 ?r39 ?r40)
   ?r37
   (Sw.JB KX G ?a41 ?l42 ?c43 ?k44)
   (Sw.JB KX G ?a45 ?l46 ?c47 ?k48)
   (Sw.JB KX G ?a49 ?l50 ?c51 ?k52)
   (Sw.JB KX G ?a53 ?l54 ?c55 ?k56)
   (Sw.JB KX G ?a57 ?l58 ?c59 ?k60)
   (Sw.JB KX G ?a61 ?l62 ?c63 ?k64)
   (Sw.JB KX G ?a65 ?l66 ?c67 ?k68)
   (Sw.JB KX G ?a69 ?l70 ?c71 ?k72)
   (Sw.JB KX G ?a73 ?l74 ?c75 ?k76)
   (Sw.JB KX G ?a77 ?l78 ?c79 ?k80)
   (Sw.JB KX G ?a81 ?l82 ?c83 ?k84)
   (Sw.JB KX G ?a85 ?l86 ?c87 ?k88)
   (Sw.JB KX G ?a89 ?l90 ?c91 ?k92)
   (Sw.JB KX G ?a93 ?l94 ?c95 ?k96)
   (Sw.JB KX G ?a97 ?l98 ?c99 ?k100)
   (Sw.JB KX G ?a101 ?l102 ?c103 ?k104)
   (Sw.JB KX G ?a105 ?l106 ?c107 ?k108)
   (Sw.JB KX G ?a109 ?l110 ?c111 ?k112)
   (Sw.JB KX G ?a113 ?l114 ?c115 ?k116)
   (Sw.JB KX G ?a117 ?l118 ?c119 ?k120)
   (Sw.JB KX G ?a121 ?l122 ?c123 ?k124)
   (Sw.JB KX G ?a125 ?l126 ?c127 ?k128)
   (Sw.JB KX G ?a129 ?l130 ?c131 ?k132)
   (Sw.JB KX G ?a133 ?l134 ?c135 ?k136)
   (Sw.JB KX G ?a137 ?l138 ?c139 ?k140)
   (Sw.JB KX G ?a141 ?l142 ?c143 ?k144)
   (Sw.JB KX G ?a145 ?l146 ?c147 ?k148)
   (Sw.JB KX G ?a149 ?l150 ?c151 ?k152)
   (Sw.JB KX G ?a153 ?l154 ?c155 ?k156)
   (Sw.JB KX G ?a157 ?l158 ?c159 ?k160)
   _
   ⟨?g162,?g163,?g164,?g165⟩
   (PySem.W.mg_of KX G ?q161)
   (Sw.JR ?n166)
   (Sw.JR ?n167)
   (Sw.JR ?n168)
   (Sw.JR ?n169)
   (Sw.JR ?n170)
   (Sw.JR ?n171)
   _
   _
   (L2.MA ?l174 ?c175 ?k176)
   (L2.QA.binds (L2.MA ?l174 ?c175 ?k176) (λ_ _ _ _ _ _ us hl=>by obtain⟨a,b,rfl⟩:=Sw.QX hl;rfl))
   ⟨?g177,?a172,?i173,?k178⟩
   (Sw.LX ?a179 ?i180 ?l181 ?c182 ?k183)
   (Sw.LX ?a184 ?i185 ?l186 ?c187 ?k188)
   (Sw.LX ?a189 ?i190 ?l191 ?c192 ?k193)
   (Sw.LX ?a194 ?i195 ?l196 ?c197 ?k198)
   (Sw.LX ?a199 ?i200 ?l201 ?c202 ?k203)
   (Sw.LX ?a204 ?i205 ?l206 ?c207 ?k208)
   (Sw.LX ?a209 ?i210 ?l211 ?c212 ?k213)
   (Sw.LX ?a214 ?i215 ?l216 ?c217 ?k218)
   _
   ⟨?g220,?g221,?g222,?g223⟩
   (PySem.W.mg_of KX G ?q219)
   (Sw.JR ?n224)
   (Sw.JR ?n225)
   (Sw.JR ?n226)
   (Sw.JR ?n227)
   _
   _
   (L2.MA ?l230 ?c231 ?k232)
   (L2.QA.binds (L2.MA ?l230 ?c231 ?k232) (λ_ _ _ _ _ _ us hl=>by obtain⟨a,b,c,rfl⟩:=Sw.RX hl;rfl))
   ⟨?g233,?a228,?i229,?k234⟩
   (Sw.LX ?a235 ?i236 ?l237 ?c238 ?k239)
   (Sw.LX ?a240 ?i241 ?l242 ?c243 ?k244)
   (Sw.LX ?a245 ?i246 ?l247 ?c248 ?k249)
   (Sw.LX ?a250 ?i251 ?l252 ?c253 ?k254)
   (Sw.LX ?a255 ?i256 ?l257 ?c258 ?k259)
   (Sw.SO KX G ?v260 ?e261)
   (Sw.SR KX G ?v262 ?e263)
   (PySem.W.mg_none_of KX G ?z264)
   (PySem.W.mg_none_of KX G ?z265)
   (PySem.W.mg_none_of KX G ?z266)
   (PySem.W.mg_none_of KX G ?z267)
   (PySem.W.mg_none_of KX G ?z268)
   (PySem.W.mg_none_of KX G ?z269)
   (PySem.W.mg_none_of KX G ?z270)
   (PySem.W.mg_none_of KX G ?z271)
   (PySem.W.mg_none_of KX G ?z272)
   (PySem.W.mg_none_of KX G ?z273)
   (PySem.W.mg_none_of KX G ?z274)
   (PySem.W.mg_none_of KX G ?z275)
   (PySem.W.mg_none_of KX G ?z276)
   (PySem.W.mg_none_of KX G ?z277)
   (PySem.W.mg_none_of KX G ?z278)
   (PySem.W.mg_none_of KX G ?z279)
   (PySem.W.mg_none_of KX G ?z280)) ?aL ?lL ?cL ?kL ?rP ?tP
  case a1|l2|c3|k4|a5|l6|c7|k8|a9|l10|c11|k12|a13|l14|c15|k16|a17|l18|c19|k20|a21|l22|c23|k24|a25|l26|c27|k28|a29|l30|c31|k32|a33|l34|c35|k36=>k_is
  case r37=>rfl
  case l38=>k_is
  case r39=>rfl
  case r40=>rfl
  case a41|l42|c43|k44|a45|l46|c47|k48|a49|l50|c51|k52|a53|l54|c55|k56|a57|l58|c59|k60|a61|l62|c63|k64|a65|l66|c67|k68|a69|l70|c71|k72|a73|l74|c75|k76|a77|l78|c79|k80|a81|l82|c83|k84|a85|l86|c87|k88|a89|l90|c91|k92|a93|l94|c95|k96|a97|l98|c99|k100|a101|l102|c103|k104|a105|l106|c107|k108|a109|l110|c111|k112|a113|l114|c115|k116|a117|l118|c119|k120|a121|l122|c123|k124|a125|l126|c127|k128|a129|l130|c131|k132|a133|l134|c135|k136|a137|l138|c139|k140|a141|l142|c143|k144|a145|l146|c147|k148|a149|l150|c151|k152|a153|l154|c155|k156|a157|l158|c159|k160|q161|g162|g163|g164|g165|n166|n167|n168|n169|n170|n171|a172|i173|l174|c175|k176|g177|k178|a179|i180|l181|c182|k183|a184|i185|l186|c187|k188|a189|i190|l191|c192|k193|a194|i195|l196|c197|k198|a199|i200|l201|c202|k203|a204|i205|l206|c207|k208|a209|i210|l211|c212|k213|a214|i215|l216|c217|k218|q219|g220|g221|g222|g223|n224|n225|n226|n227|a228|i229|l230|c231|k232|g233|k234|a235|i236|l237|c238|k239|a240|i241|l242|c243|k244|a245|i246|l247|c248|k249|a250|i251|l252|c253|k254|a255|i256|l257|c258|k259|v260=>k_is
  case e261=>exact⟨_,rfl⟩
  case v262=>k_is
  case e263=>exact⟨_,rfl⟩
  case z264|z265|z266|z267|z268|z269|z270|z271|z272|z273|z274|z275|z276|z277|z278|z279|z280|aL|lL|cL|kL=>k_is
  case rP=>rfl
  case tP=>kernel_rfl
