import PyProof.Rows.All
import Wide.All
import OpenK.AllK
import Wide.FinOn
import PyProof.Rows.SortShellK
import KE.KSortTup
import Lean
import PyProof.EqAt
import PyProof.EqKinds
import PyProof.TupleCall
import PyProof.SetRoads
import PyProof.DictRoadsH
import PyProof.IsRules
import PyProof.CollectWalk
import PyProof.FactsAll.set
import PyProof.NeData
import PyProof.P3In
import PyProof.TupleOfSeq
import PyProof.ZipIter
import PyProof.Rows.ZipGen
import KE.KDictOf
import PyProof.AttrMissHeap
import PyProof.Rows.SumAny
import PyProof.DictIter
import PyProof.DictWalks
import PyProof.DictValues
import PyProof.ListRange
import PyProof.ListStr
import PyProof.DictTruth
import PySem.Challenge.RW_strikeweave_k51_some_ones_won
namespace PySem.W.Fast
def tw6666849791598918106:=0
def tw13256157176248332941:=0
def tw3318650227601503538:=0
def tw10008125853545955352:=0
def tw9280238987095131092:=0
def tw8920149560714577868:=0
def tw15715421968838350365:=0
def tw16304152920438017055:=0
def tw13985704684611788563:=0
def tw13119976402600533986:=0
def tw3403445214144636525:=0
def tw6384843278919264199:=0
def tw7305269986858018933:=0
def tw7815859041488657059:=0
def tw12028275477959070943:=0
def tw5232381849753567780:=0
def tw4551957924483790508:=0
def tw16769358293133135559:=0
def tw2724852201896443718:=0
def tw1921575622644008436:=0
def tw12176676481683163421:=0
def tw5544717931385560734:=0
def tw11045452558116129717:=0
def tw9212579539523818145:=0
def tw11818508473503295497:=0
def tw12901993784605641578:=0
def tw4958754229493790622:=0
def tw6292190980091288901:=0
def tw2310397170787016459:=0
def tw15718126774754310482:=0
def tw1425817690670044852:=0
def tw15015672895671786614:=0
def tw6763065945756321757:=0
def tw5314728880008665749:=0
def tw7271040288471649746:=0
def tw7252021397264496415:=0
def tw5136456572722591872:=0
def tw11194761611295033756:=0
def tw12464709803507672945:=0
def tw3963385561851791438:=0
def tw9109391794834154604:=0
def tw15617228655566239081:=0
def tw6490077917744161086:=0
def tw16721925182618543060:=0
def tw5694737651518726849:=0
def tw2551424827956875929:=0
def tw1134771908515956915:=0
def tw16749484436464395643:=0
def tw4512607135175125671:=0
def tw14191381620571507217:=0
def tw12150477446088105588:=0
def tw4118322620900679221:=0
def tw3814005224583982107:=0
def tw12735283043419316110:=0
def tw13652915839100311482:=0
def tw11961610673934339807:=0
def tw4649068193487415431:=0
def tw17645577469497809396:=0
def tw13044751883596568340:=0
def tw14626160427306939711:=0
def tw5515154606038660086:=0
def tw996944242128011131:=0
def tw5102244855739089418:=0
def tw625063680596328022:=0
def tw971135846328216272:=0
def tw8575775070276817245:=0
def tw5141304868054932107:=0
def tw5851123735504997393:=0
def tw9234110002412790307:=0
def tw16702047905760752832:=0
def tw1188973008163815998:=0
def tw10693499631651256666:=0
def tw17133012606257800378:=0
def tw4729843811560045131:=0
def tw17930266855769655692:=0
def tw15679657285139789508:=0
def tw8801760449110674059:=0
def tw4406375076923966844:=0
def tw17082778182053341803:=0
def tw14105208632723491654:=0
def tw14559004410304288689:=0
def tw10169699728537245244:=0
def tw7778606418024391547:=0
def tw12690630459319431539:=0
def tw3285410837028701254:=0
def tw5838423756750843100:=0
def tw5611256012058842870:=0
def tw10923815611543404476:=0
def tw9395617562515917500:=0
def tw7215807962920096751:=0
def tw17860247537344512714:=0
def tw8048857352269953528:=0
def tw8456302378920603188:=0
def tw17954699497005336672:=0
def tw9928815641976583077:=0
def tw16441014568138000878:=0
def tw6274562649321276433:=0
def tw7567541550515945090:=0
def tw14188146047417378454:=0
def tw16392664773692552644:=0
def tw17964789563442049181:=0
def tw9474880847649221764:=0
def tw12517196508587362051:=0
def tw1932620875069611140:=0
def tw9833698974665858923:=0
def tw6066839615713515653:=0
def tw1331614839445862640:=0
def tw5980371160432161271:=0
def tw6110920492609088802:=0
def tw13836342033384493581:=0
def tw3064199536380208297:=0
def tw16297145281307047873:=0
def tw6995414815364283826:=0
def tw16330589151535716406:=0
def tw9145477672779003437:=0
def tw5766777736865973198:=0
def tw1231041156302135602:=0
def tw13706589009758017858:=0
def tw4144759034944154504:=0
def tw15853220227854251178:=0
def tw12770672770738700673:=0
def tw17221201512950092471:=0
def tw12063079935777684991:=0
def tw1393087060675723565:=0
def tw12893117186173846677:=0
def tw5855389466775432938:=0
def tw10250633808947198469:=0
def tw656202485626639424:=0
def tw5441155843529705091:=0
def tw11429195998443831295:=0
def tw3827682921235428838:=0
def tw10330340060788806752:=0
def tw15495777151418610342:=0
def tw10404061887635536756:=0
def tw17379821278799346437:=0
def tw11215953114811701146:=0
def tw9975290886805398380:=0
def tw7268203227064677863:=0
def tw11657843634602068604:=0
def tw7117726700131755339:=0
def tw17434459888177402709:=0
def tw5473431352487946388:=0
def tw5878600631236864763:=0
def tw14082500544038242615:=0
def tw9931063108121675762:=0
def tw17953747286357641231:=0
def tw17659530905594168055:=0
def tw3170242003668930240:=0
def tw5158193100544055086:=0
def tw11574304523196748676:=0
def tw6373172455205109201:=0
def tw13459508739164721877:=0
def tw8084389023006873056:=0
def tw16236461391361286613:=0
def tw15441284231506552508:=0
def tw5590549491246820550:=0
def tw12921761983696455264:=0
def tw1887439726717045706:=0
def tw1588166356296887866:=0
def tw1498406697201326110:=0
def tw3511114822932674785:=0
def tw7157238959411438300:=0
def tw17872771603807943908:=0
def tw4190978719852927962:=0
def tw16853021154294090660:=0
def tw9499015510553778049:=0
def tw3578118667081426404:=0
def tw6117756111415970840:=0
def tw15380191231990879640:=0
def tw17071506165243437348:=0
def tw5743826991816492400:=0
def tw6949879594545431865:=0
def tw7266971482022216608:=0
def tw13376179557794950033:=0
def tw9402059264083953167:=0
def tw16297586372539074223:=0
def tw15332449135844847131:=0
def tw3243300257155619781:=0
def tw11217858505279158217:=0
def tw10419594489161242636:=0
def tw2881124704349107449:=0
def tw17322701474780560977:=0
def tw1047744530460335318:=0
def tw7133598390773177967:=0
def tw12902576713802568616:=0
def tw13847707827077799611:=0
def tw14805684855379727378:=0
def tw16076672852242727814:=0
def tw8650198132997376907:=0
def tw13711295881129636983:=0
def tw6358246117476040097:=0
def tw5631970519640678100:=0
def tw16687283541991560916:=0
def tw1813440036122531382:=0
def tw905895868779027270:=0
def tw690048640412768478:=0
def tw12628844887909089197:=0
def tw5812955674461257961:=0
def tw11548308765505400049:=0
def tw3400004148761768333:=0
def tw6346592417365637306:=0
def tw7437944970972837100:=0
def tw1176263478483175759:=0
def tw7260818342880069755:=0
def tw2947019621538117994:=0
def tw186947873414486582:=0
def tw8573317216704523387:=0
def tw3274448966055693341:=0
def tw5835254956801863792:=0
def tw11144970349499558764:=0
def tw1561035597616733270:=0
def tw1387365418433864107:=0
def tw16102289139174534273:=0
def tw14203745733062916053:=0
def tw17839759936560293532:=0
def tw9637107174218613351:=0
def tw2722888095294906173:=0
def tw139893448348926057:=0
def tw870575197068130646:=0
def tw5021674443957838464:=0
def tw18071607976018737365:=0
def tw7839662096367803121:=0
def tw10462601353121411209:=0
def tw13829926077661234459:=0
def tw13064176031745809461:=0
def tw12222671319693478219:=0
def tw11860661093525880617:=0
def tw6809541429263720575:=0
def tw9100570815064539568:=0
def tw18235499682059348807:=0
def tw5166954956175123866:=0
def tw12434123812788187623:=0
def tw3704692794393724504:=0
def tw17693854432462804541:=0
def tw279680962028759609:=0
def tw3972476146677596946:=0
def tw18242416932875336581:=0
def tw15032173879690015243:=0
def tw10048127790958517914:=0
def tw3814668652019734485:=0
def tw15028556456331153498:=0
def tw17364130275429286062:=0
def tw977024112874309378:=0
def tw6164175047807352259:=0
def tw17904706553851190346:=0
def tw11201920520084828290:=0
def tw1679324715547653983:=0
def tw15638659478320497858:=0
def tw6677157203407588898:=0
def tw17649407265565218408:=0
def tw596008252861350602:=0
def tw568578319224360252:=0
def tw12566682761141839584:=0
def tw4677524062873257211:=0
def tw451477325634356704:=0
def tw5212559512124156035:=0
def tw3227838248594648085:=0
def tw8579411345740876250:=0
def tw17689968424189657763:=0
def tw8940047397837428009:=0
def tw972870549550558078:=0
def tw6204691340069244561:=0
def tw13597301863982179562:=0
def tw12758672661668333433:=0
def tw2113897501252922713:=0
def tw35553338449358103:=0
def tw11389089150855376751:=0
def tw7423720912375236871:=0
def tw7584380307109278775:=0
def tw853562566770155464:=0
def tw5636184523314143251:=0
def tw2100168391533913376:=0
def tw12692162498858604972:=0
def tw10249267084361692927:=0
def tw10846088469944076347:=0
def tw8320596521591886840:=0
def tw9014935519031705034:=0
def tw13555278841290388105:=0
def tw930789319049762248:=0
def tw8070149351891261027:=0
def tw6417736705242681457:=0
def tw3104557543002516084:=0
def tw11760459656252466064:=0
def tw15715072693264094443:=0
def tw2300813472649302702:=0
def tw17699726470574495246:=0
def tw8975099139803061978:=0
def tw10168551424735299517:=0
def tw10944684898225521204:=0
def tw15565511917114588121:=0
def tw4797958247375901705:=0
def tw17248427312389981366:=0
def tw15177976832783568309:=0
def tw430385791509775749:=0
def tw3135724528326118104:=0
def tw18296741536185014292:=0
def tw1244122652471389024:=0
def tw4029511991491595603:=0
def tw18152684503783399843:=0
def tw15304568479152897791:=0
def tw4324738437766851645:=0
def tw12479963461762342029:=0
def tw13742319807493919780:=0
def tw6112541024943891397:=0
def tw12627729645987076193:=0
def tw14015207210544748617:=0
def tw5331781154059354909:=0
def tw7565400153854802573:=0
def tw17592937856656782605:=0
def tw16520250032873473378:=0
def tw12980448462971657331:=0
def tw2799370516756335629:=0
def tw11124371052736905018:=0
def tw3605675474764242553:=0
def tw13311377561006957210:=0
def tw2318173547349938493:=0
def tw12514162602218812226:=0
def tw9265068071327931365:=0
def tw17719904305162434503:=0
def tw4906784844925209458:=0
def tw7837185042786992183:=0
def tw11888707806320098985:=0
def tw13428985969622484607:=0
def tw13796038784836055741:=0
def tw10061782690585841881:=0
def tw5506690373609357594:=0
def tw16744279802969947969:=0
def tw11293883713577656859:=0
def tw8572705387433472278:=0
def tw8703953481849850841:=0
def tw14777556775981837660:=0
def tw8884517852564591383:=0
def tw4882881334843199512:=0
def tw18236404549749978005:=0
def tw10502628157528256090:=0
def tw11948836227081487660:=0
def tw12597218435575441389:=0
def tw17821579324577789258:=0
def tw482626147185679700:=0
def tw2765851052143780055:=0
def tw9703909037662902741:=0
def tw7238441256679522201:=0
def tw27851909261656281:=0
def tw17122137725060715725:=0
def tw3560341056588211060:=0
def tw4027874472839504707:=0
def tw15768112143346226296:=0
def tw10509131112750489066:=0
def tw9554216641381463428:=0
def tw1624703143213810591:=0
def tw14468228731683192291:=0
def tw12123278304686957556:=0
def tw13884537153905987766:=0
def tw17048996980895814170:=0
def tw6719101663937142516:=0
def tw14122704999254290775:=0
def tw8432379480798977312:=0
def tw7495892051866673461:=0
def tw13135193196151879531:=0
def tw6630974197872262512:=0
def tw7370738245249866068:=0
def tw11673399291751599085:=0
def tw4041272981016252617:=0
def tw10406196617886189761:=0
def tw5054369233708260943:=0
def tw18163922149395045448:=0
def tw17667981082527190651:=0
def tw2394121649798894921:=0
def tw10822209411189077407:=0
def tw7815199923840909453:=0
def tw130749775825216972:=0
def tw12554202475740345875:=0
def tw1247323580756887328:=0
def tw17942518604805142025:=0
def tw3659535879004014987:=0
def tw4229988476683642815:=0
def tw15609349345780223657:=0
def tw14231743186410802872:=0
def tw2082773697806436470:=0
def tw15650630962474095701:=0
def tw8509285013981817125:=0
def tw5062589651016636057:=0
def tw12297485619560314135:=0
def tw14246841394259816179:=0
def tw1766768134134013017:=0
def tw14756579599462243897:=0
def tw9379085485009095137:=0
def tw46610776961327732:=0
def tw4942104643230357480:=0
def tw3173270240953137188:=0
def tw15080958939572904331:=0
def tw2257089021759194818:=0
def tw9030409474127069218:=0
def tw2811682731688820585:=0
def tw1495985075784331692:=0
def tw18436849045500618336:=0
def tw17114533466164853854:=0
def tw3662909105734947709:=0
def tw11029373123343196885:=0
def tw4511127133946671553:=0
def tw62558055885545971:=0
def tw3341733434196697993:=0
def tw6552928030176212376:=0
def tw3440130492432178844:=0
def tw10632925754854564568:=0
def tw12177931810441571592:=0
def tw11903485382630964444:=0
def tw13882102165339576201:=0
def tw3553664810170759773:=0
def tw4841150429761899855:=0
def tw14102363093452691052:=0
def tw1511795850815789036:=0
def tw4624557983825607533:=0
def tw10316276222006543461:=0
def tw8049192336471938978:=0
def tw10171201624459880943:=0
def tw11269776312376347551:=0
def tw15953156504370059154:=0
def tw5227581168583249290:=0
def tw10905460881259627303:=0
def tw1047513600355832289:=0
def tw12920245854388163148:=0
def tw12154498446458029774:=0
def tw9236123478846693940:=0
def tw15474487736377079844:=0
def tw599137372007738204:=0
def tw16900248478472916848:=0
def tw7068982566040567769:=0
def tw9074539078173449725:=0
def tw15529020316137303126:=0
def tw13928782115918324570:=0
def tw5507187678811537878:=0
def tw6862958606038935822:=0
def tw15916700561078159433:=0
def tw17911609971900430265:=0
def tw726719947205616159:=0
def tw5651701043430556698:=0
def tw8736903897539361412:=0
def tw6215963417098267007:=0
def tw18406492811906222797:=0
def tw17766589647395069246:=0
def tw3940309365435456643:=0
def tw13656576341461884810:=0
def tw16885288694039953450:=0
def tw10923295352431181052:=0
end PySem.W.Fast
set_option autoImplicit false
set_option genSizeOf false
set_option genSizeOfSpec false
set_option bootstrap.genMatcherCode false
set_option compiler.extract_closed false
set_option linter.all false
set_option maxRecDepth 100000
section
open PySem PySem.Spec PyProof.Rows
abbrev A1:=@List
abbrev A2:=Value
abbrev A3:=Addr
abbrev A4:=Shared
abbrev A5:=@Option
abbrev A7:=Keyed
abbrev CM:=Program
abbrev F1:=@Array
abbrev F8:=World
abbrev HX:=SortSt
abbrev IA:=Heap
abbrev IC:=Around
abbrev IE:=Expr
abbrev IK:=SetTable
abbrev IL:=Stmt
abbrev IS:=FuncData
abbrev JB:=Scope
abbrev JQ:=SortKind
abbrev JT:=NameKind
abbrev P_:=Env
end
section
open PySem PySem.Spec PyProof.Rows
def AA:=@wpAny_bind
def AB:=@List.length_map
def AC:=@List.getElem?_eq_getElem
def AD:=@Heap.get?_push_of_some
def AE:=@List.mem_singleton
def AF:=@List.getElem?_eq_some_iff
def AG:=@wpAny_pure
def AH:=@List.getElem?_map
def AI:=@if_neg
def AJ:=@Heap.lt_size
def AK:=@if_pos
def AL:=@List.mem_of_getElem?
def AM:=@List.getD_eq_getElem?_getD
def AN:=@Heap.get?_push_size
def AO:=@List.size_toArray
def AQ:=@List.mem_cons
def AR:=@Array.length_toList
def AS:=@decide_eq_true
def AU:=@List.mem_cons_of_mem
def AV:=@Bool.false_eq_true
def AW:=@Bool.false_ne_true
def AX:=@List.length_take
def AY:=@List.map_append
def AZ:=@List.length_append
def A_:=@Nat.ne_of_lt
def BA:=@decide_eq_false
def BB:=@List.mem_map
def BC:=@List.map_cons
def BD:=@List.mem_append
def BE:=@Option.some.inj
def BF:=@decide_eq_true_iff
def BG:=@List.append_assoc
def BH:=@List.mem_cons_self
def BI:=@Bool.and_eq_true
def BJ:=@Nat.lt_of_lt_of_le
def BK:=@Option.map_eq_some_iff
def BL:=@Nat.eq_of_testBit_eq
def BM:=@List.length_cons
def BN:=@Array.getElem?_toList
def BO:=@Array.toList_append
def BP:=@List.mem_append_right
def BQ:=@List.mem_filter
def BR:=@Bool.eq_iff_iff
def BS:=@Nat.testBit_and
def BT:=@List.take_append_drop
def BU:=@List.mem_range
def BV:=@List.length_range
def BW:=@Nat.testBit_two_pow
def BX:=@wpAny_holding
def BZ:=@List.length_filter_le
def B_:=@Bool.eq_false_iff
def CA:=@of_decide_eq_true
def CB:=@Nat.zero_testBit
def CC:=@Int.toNat_natCast
def CD:=@wpAny_setState_of
def CF:=@wpAny_mono
def CG:=@Heap.get?_update_other
def CH:=@List.not_mem_nil
def CI:=@List.map_map
def CJ:=@List.take_length
def CK:=@List.take_of_length_le
def CL:=@Array.getD_eq_getD_getElem?
def CN:=@if_false
def CO:=@List.pairwise_append
def CP:=@Nat.zero_le
def CQ:=@Nat.lt_irrefl
def CS:=@Nat.testBit_zero
def CT:=@List.append_nil
def CU:=@Heap.size_push
def CV:=@List.perm_append_comm
def CY:=@List.length_drop
def CZ:=@Heap.get?_update_self
def C_:=@List.filter_sublist
def DA:=@Array.getElem?_eq_some_iff
def DB:=@Nat.testBit_succ
def DC:=@Array.toList_push
def DD:=@List.pairwise_map
def DE:=@Nat.lt_succ_of_lt
def DF:=@wpAny_truthy_bool
def DG:=@List.mem_of_mem_take
def DH:=@Nat.le_of_lt
def DI:=@List.getElem?_take_of_lt
def DJ:=@List.Perm.append_left
def DK:=@List.mem_iff_getElem?
def DL:=@wpAny_newObj_type
def DM:=@List.getElem?_append_right
def DN:=@wpAny_seqItems
def DP:=@List.Perm.append_right
def DQ:=@wpAny_call_entry
def DR:=@List.all_eq_true
def DT:=@List.filter_cons
def DU:=@List.getElem?_append_left
def DV:=@List.filterMap_cons
def DW:=@Heap.SameBut.update
def DX:=@Nat.le_succ
def DY:=@Option.isSome_iff_exists
def DZ:=@Nat.testBit_two_pow_self
def D_:=@List.nodup_cons
def EA:=@List.filter_append
def EB:=@Nat.lt_succ_self
def EC:=@wpAny_rule
def ED:=@Bool.false_and
def EE:=@Nat.testBit_or
def EF:=@Nat.add_le_add_left
def EG:=@List.replicate_succ
def EH:=@List.filter_eq_self
def EI:=@List.map_eq_nil_iff
def EJ:=@List.range_succ
def EK:=@codeAny_builtin
def EL:=@wpAny_ite_false
def EM:=@Bool.or_eq_true
def EN:=@List.drop_eq_getElem_cons
def EO:=@List.extract_eq_take_drop
def EQ:=@List.getElem?_eq_none
def ER:=@Nat.le_add_right
def ES:=@wpAny_Call_Name_kw
def ET:=@List.getElem_mem
def EU:=@Bool.not_true
def EV:=@List.filterMap_cons_some
def EW:=@List.mem_of_mem_drop
def EX:=@Array.toList_extract
def EY:=@List.take_sublist
def EZ:=@wpAny_pyIter_list
def E_:=@wpAny_callSpecial?_slot
def FA:=@Nat.min_eq_left
def FB:=@List.find?_cons
def FC:=@Nat.not_lt_zero
def FD:=@if_true
def FE:=@List.drop_eq_nil_of_le
def FF:=@Nat.zero_add
def FG:=@Array.getElem?_eq_none
def FH:=@List.drop_drop
def FI:=@List.drop_zero
def FJ:=@Int.emod_lt_of_pos
def FK:=@List.findSome?_eq_none_iff
def FM:=@List.getElem?_toArray
def FN:=@List.drop_sublist
def FO:=@List.mem_iff_getElem
def FP:=@Array.toList_reverse
def FQ:=@List.ext_getElem?
def FR:=@List.mem_append_left
def FS:=@wpAny_of_eq
def FT:=@List.nodup_append
def FU:=@wpAny_field
def FV:=@List.any_cons
def FW:=@List.Pairwise.imp_of_mem
def FX:=@List.pairwise_singleton
def FY:=@wpAny_tryCatch
def FZ:=@List.length_eq_zero_iff
def F_:=@wpAny_setField
def GA:=@Nat.lt_of_le_of_ne
def GB:=@Nat.eq_zero_of_not_pos
def GC:=@List.getElem?_drop
def GD:=@Array.size_extract
def GE:=@wpAny_setField_rec
def GF:=@Int.emod_nonneg
def GG:=@List.filter_nil
def GH:=@wpAny_standAt
def GI:=@List.length_replicate
def GJ:=@Nat.lt_of_succ_lt
def GK:=@List.flatten_cons
def GL:=@List.drop_take
def GM:=@codeAny_mono
def GN:=@List.map_nil
def GO:=@wpAny_askSetting
def GP:=@List.nodup_range
def GQ:=@Nat.zero_lt_succ
def GR:=@List.getElem?_eq_none_iff
def GS:=@List.reverse_append
def GT:=@List.map_congr_left
def GU:=@Array.size_setIfInBounds
def GV:=@List.filterMap_cons_none
def GW:=@List.sum_cons
def GX:=@List.idxOf_lt_length_iff
def GY:=@Nat.zero_lt_one
def GZ:=@List.length_nil
def G_:=@wpAny_passesOwn
def HA:=@List.of_mem_zip
def HB:=@Option.map_some
def HC:=@List.forIn_cons
def HD:=@wpAny_updateSeq
def HE:=@List.zip_cons_cons
def HF:=@Nat.testBit_mod_two_pow
def HG:=@Array.size_map
def HH:=@List.getElem?_set_self
def HI:=@Bool.and_false
def HJ:=@Bool.not_false
def HK:=@wpAny_storeSet_of
def HL:=@Nat.succ_le_succ
def HM:=@Heap.size_update
def HN:=@List.lookup_cons
def HP:=@wpAny_isInstance
def HQ:=@Heap.ExtBut.push
def HR:=@List.any_eq_true
def HS:=@wpAny_pyIter_zip
def HU:=@wpAny_attempt
def HV:=@wpAny_newList
def HW:=@wpAny_letGo
end
noncomputable section
namespace TS
def Zl{k x l r:Nat}(h:l<r)(a:r-l<=k-x):(l+r) / 2-l<=k-(x+1) :=
 Nat.le_trans (Nat.le_pred_of_lt (Nat.sub_lt_sub_right ((Nat.le_div_iff_mul_le (by decide)).mpr (by rw[Nat.mul_two];exact EF (DH h) l)) ((Nat.div_lt_iff_lt_mul (by decide)).mpr (by rw[Nat.mul_two];exact Nat.add_lt_add_right h r)))) (Nat.pred_le_pred a)
def Vz{n x l r m:Nat}(h:l<=m)(a:r-l<=n-x):r-(m+1)<=n-(x+1):=Nat.le_trans (Nat.sub_le_sub_left (HL h) r) (Nat.pred_le_pred a)
def Xg{k x l r:Nat}(h:l<r)(a:r-l<=k-x):r-((l+r) / 2+1)<=k-(x+1) :=
 Vz ((Nat.le_div_iff_mul_le (by decide)).mpr (by rw[Nat.mul_two];exact EF (DH h) l)) a
def zAc{n x l r:Nat}(h:l<r)(a:r-l<=n-x):l +(r-l) / 2-l<=n-(x+1):=by
 rw[Nat.add_sub_cancel_left];exact Nat.le_trans (Nat.le_pred_of_lt (Nat.div_lt_self (Nat.sub_pos_of_lt h) (by decide))) (Nat.pred_le_pred a)
def zGp{lo x q k:Nat}(h:q+1<=x)(a:lo+x-(q+1)<=k):x-(q+1)<=k-lo:=Nat.le_sub_of_add_le' (by rw[Nat.add_sub_assoc h]at a;exact a)
open PySem PyProof.Rows
def kk(κ:KeyKind)(p:A7):κ.α:=(κ.keyOf p.1).getD κ.dflt
def Q_(κ:KeyKind)(p:A7):Prop:=∃a,κ.keyOf p.1=some a
def le(κ:KeyKind)(p q:A7):Prop:=κ.kle (kk κ p) (kk κ q)
def KR(κ:KeyKind)(l:A1 A7):Prop:=l.Pairwise (le κ)
structure QQ(prog:CM)(w:F8)(A:IC)(s:A4)(κ:KeyKind)(kd:JQ):Prop where
 lt:∀(x y:A2) (a b:κ.α) (Q:Bool->A4->Prop) (E:A2->A4->Prop),κ.keyOf x=some a->κ.keyOf y=some b->Q (κ.blt a b) s->wpAny (model prog w) A (keyLt' kd x y) Q E s
section
variable{prog:CM}{w:F8}{A:IC}{E:A2->A4->Prop}{s:A4}{κ:KeyKind}{kd:JQ}
theorem Hy(C:QQ prog w A s κ kd){st:HX}{x y:A7}{Q:A5 Bool->HX->Prop}(e:kindOf st=kd)(f:Q_ κ x)(g:Q_ κ y)
  (h:Q (some (κ.blt (kk κ x) (kk κ y))) st):wpS (model prog w) A E s (lt' x y) Q st:=by
 obtain⟨a,c⟩:=f;obtain⟨b,d⟩:=g;have i:kk κ x=a:=by unfold kk;rw[c];rfl
 have j:kk κ y=b:=by unfold kk;rw[d];rfl
 rw[i,j]at h;rw[lt'_eq];refine wpS_bind (wpS_get ?_);rw[e];refine wpS_bind (wpS_lift (HU (C.lt x.1 y.1 a b _ _ c d ⟨rfl,?_⟩)));exact wpS_pure h
theorem C9{st:HX}{a:F1 A7}{i:Nat}{p:A7}{Q:A7->HX->Prop}(hi:a[i]?=some p)(h:Q p st):wpS (model prog w) A E s (elem' a i) Q st:=by
 rw[elem'_eq,hi];exact wpS_pure h
def U1:Bool->A7->F1 A7->Nat->Nat->Nat->StateT HX Sem (A5 Nat):=sortPriv% PySem.Builtin.gallop
def SB(left:Bool)(a:A7)(b:F1 A7)(bs:Nat)(i:Nat):StateT HX Sem (A5 Bool):=do
 let x <-elem' b (bs+i)
 if left then lt' x a else return(<-lt' a x).map (!·)
theorem Nn(left:Bool)(c:A7)(d:F1 A7)(bs n b:Nat):U1 left c d bs n b =(do
  let mut la:=0
  let mut a:=1
  let mut lo:=0
  let mut hi:=0
  let some g <-SB left c d bs b | return none
  if g then
   let e:=n-b
   for _ in [0:n] do
    if a ≥ e then break
    let some f <-SB left c d bs (b+a) | return none
    if !f then break
    la:=a
    a:=2*a+1
   lo:=b+la+1
   hi:=b+min a e
  else
   let e:=b+1
   for _ in [0:n] do
    if a ≥ e then break
    let some h <-SB left c d bs (b-a) | return none
    if h then break
    la:=a
    a:=2*a+1
   lo:=b+1-min a e
   hi:=b-la
  for _ in [0:n] do
   if lo ≥ hi then break
   let m:=lo +(hi-lo) / 2
   let some f <-SB left c d bs m | return none
   if f then lo:=m+1 else hi:=m
  return some hi):=rfl
def PB(κ:KeyKind)(left:Bool)(a:A7)(p:A7):Bool:=if left then κ.blt (kk κ p) (kk κ a)else !κ.blt (kk κ a) (kk κ p)
theorem Zr(C:QQ prog w A s κ kd){st:HX}{left:Bool}{b p:A7}{c:F1 A7}{bs i:Nat}{Q:A5 Bool->HX->Prop}(d:kindOf st=kd)(a:Q_ κ b)(e:Q_ κ p)(hi:c[bs+i]?=some p)
  (h:Q (some (PB κ left b p)) st):wpS (model prog w) A E s (SB left b c bs i) Q st:=by
 unfold SB;refine wpS_bind (C9 hi ?_);cases left with
 | true=>exact Hy C d e a h
 | false =>
  simp only[AV,CN];refine wpS_bind (Hy C d a e ?_);exact wpS_pure h
theorem Mz(C:QQ prog w A s κ kd){st:HX}{left:Bool}{L:A7}{O:F1 A7}{bs n g:Nat}{Q:A5 Nat->HX->Prop}(hk:kindOf st=kd)(R:Q_ κ L)
  (P:Nat->Bool) (hP:∀i,i<n->∃p,O[bs+i]?=some p/\Q_ κ p/\PB κ left L p=P i) (o:∀i j,i<=j->j<n->P j=true->P i=true) (T:g<n)
  (h:∀k,k<=n->(∀i,i<k->P i=true)->(∀i,k<=i->i<n->P i=false)->Q (some k) st):wpS (model prog w) A E s (U1 left L O bs n g) Q st:=by
 have B:∀{a:HX} {i:Nat} {Q:A5 Bool->HX->Prop},a=st->i<n->Q (some (P i)) a->wpS (model prog w) A E s (SB left L O bs i) Q a:=by
  intro a i Q e hi q;subst e;obtain⟨p,U,V,W⟩:=hP i hi;exact Zr C hk R V U (by rw[W];exact q)
 have m:∀i j,i<=j->j<n->P i=false->P j=false:=by
  intro i j X hj hi;cases e:P j with
  | false=>rfl
  | true=>rw[o i j X hj e]at hi;cases hi
 rw[Nn];dsimp only;refine wpS_bind (B rfl T ?_);dsimp only;have S:∀{lo hi:Nat} {f:Nat->(A5 (A5 Nat)×Nat×Nat)->StateT HX Sem (ForInStep (A5 (A5 Nat)×Nat×Nat))},
   (∀x l h,wpS (model prog w) A E s (f x (none,l,h)) (λr a=>a=st/\(if h<=l then r = .done (none,l,h)else if P (l +(h-l) / 2)=true then r = .yield (none,l +(h-l) / 2+1,h)else r = .yield (none,l,l +(h-l) / 2))) st\/¬(h<=l\/l +(h-l) / 2<n)) ->
   lo<=hi->hi<=n->(∀i,i<lo->P i=true)->(∀i,hi<=i->i<n->P i=false) ->
   wpS (model prog w) A E s (forIn [0:n] (none,lo,hi) f) (λc a=>a=st/\∃k,c =(none,k,k)/\k<=n/\(∀i,i<k->P i=true)/\(∀i,k<=i->i<n->P i=false)) st:=by
  intro lo hi f hf U V W h4;refine wpS_forRange (I:=λx c a=>a=st/\∃l r,c =(none,l,r)/\l<=r/\r<=n/\r-l<=n-x/\(∀i,i<l->P i=true)/\(∀i,r<=i->i<n->P i=false)) ?_ ?_ ⟨rfl,lo,hi,rfl,U,V,by omega,W,h4⟩
  .rintro x c a _ hx ⟨rfl,l,r,rfl,hl,K,Y,M,N⟩;have Z:r<=l\/l +(r-l) / 2<n:=by omega
   rcases hf x l r with q | q
   .refine wpS_mono q λz st2 ⟨e,F⟩=>?_;subst e;by_cases b:r<=l
    .rw[AK b]at F;subst F;have:l=r:=by omega
     subst this;exact⟨rfl,l,rfl,K,M,N⟩
    .rw[AI b]at F;cases u:P (l +(r-l) / 2)with
     | true =>
      rw[AK u]at F;subst F;exact⟨rfl,_,_,rfl,by omega,by omega,Vz (ER ..) Y,λi hi=>o i (l +(r-l) / 2) (by omega) (by omega) u,N⟩
     | false =>
      rw[AI (by rw[u];exact AW)]at F;subst F;exact⟨rfl,_,_,rfl,by omega,by omega,zAc (Nat.lt_of_not_le b) Y,M,λi G y=>m (l +(r-l) / 2) i G y u⟩
   .exact absurd Z q
  .rintro c a ⟨rfl,l,r,rfl,hl,K,Y,M,N⟩;have:l=r:=by omega
   subst this;exact⟨rfl,l,rfl,K,M,N⟩
 cases K:P g with
 | true =>
  rw[AK rfl];refine wpS_bind (wpS_mono (wpS_forRange (I:=λx c a=>a=st/\∃la d,c =(none,la,d)/\la<d/\x+1<=d/\g+la<n/\P (g+la)=true)
   (Q:=λc a=>a=st/\∃la d,c =(none,la,d)/\la<d/\g+la<n/\P (g+la)=true/\(n-g<=d\/(g+d<n/\P (g+d)=false))) ?st ?en ⟨rfl,0,1,rfl,by omega,by omega,by omega,K⟩) ?po)
  case en =>
   rintro c a ⟨rfl,la,d,rfl,D,a2,v,t⟩;exact⟨rfl,la,d,rfl,D,v,t,.inl (by omega)⟩
  case st =>
   rintro x c a _ hx ⟨rfl,la,d,rfl,D,a2,v,t⟩;dsimp only;by_cases b:d ≥ n-g
   .rw[AK b];exact wpS_pure ⟨rfl,la,d,rfl,D,v,t,.inl b⟩
   .rw[AI b];refine wpS_bind (B rfl (show g+d<n by omega) ?_);cases u:P (g+d)with
    | true=>exact wpS_pure ⟨rfl,d,2*d+1,rfl,by omega,by omega,by omega,u⟩
    | false=>exact wpS_pure ⟨rfl,la,d,rfl,D,v,t,.inr ⟨by omega,u⟩⟩
  case po =>
   rintro c a ⟨rfl,la,d,rfl,D,v,t,H⟩;dsimp only;refine wpS_bind (wpS_mono (S (lo:=g+la+1) (hi:=g+min d (n-g)) (λx l J=>by
    dsimp only;by_cases b:J<=l
    .refine .inl ?_;rw[AK b];exact wpS_pure ⟨rfl,by rw[AK b]⟩
    .by_cases hn:l +(J - l) / 2<n
     .refine .inl ?_;rw[AI b];refine wpS_bind (B rfl hn ?_);dsimp only;cases u:P (l +(J - l) / 2)with
      | true =>
       simp only[FD];exact wpS_pure ⟨rfl,by rw[AI b]⟩
      | false =>
       simp only[AV,CN];exact wpS_pure ⟨rfl,by rw[AI b]⟩
     .exact .inr (by omega)) (by omega) (by omega) (λi hi=>o i (g+la) (by omega) v t) λi G y=>?_) λc a ⟨e,k,e2,b1,b2,b3⟩=>?_)
   .rcases H with H | ⟨H,a6⟩
    .omega
    .exact m (g+d) i (by omega) y a6
   .subst e e2;exact wpS_pure (h k b1 b2 b3)
 | false =>
  rw[AI AW];refine wpS_bind (wpS_mono (wpS_forRange (I:=λx c a=>a=st/\∃la d,c =(none,la,d)/\la<d/\x+1<=d/\la<=g/\P (g-la)=false)
   (Q:=λc a=>a=st/\∃la d,c =(none,la,d)/\la<d/\la<=g/\P (g-la)=false/\(g+1<=d\/(d<=g/\P (g-d)=true))) ?st ?en ⟨rfl,0,1,rfl,by omega,by omega,by omega,K⟩) ?po)
  case en =>
   rintro c a ⟨rfl,la,d,rfl,D,a2,v,t⟩;exact⟨rfl,la,d,rfl,D,v,t,.inl (by omega)⟩
  case st =>
   rintro x c a _ hx ⟨rfl,la,d,rfl,D,a2,v,t⟩;dsimp only;by_cases b:d ≥ g+1
   .rw[AK b];exact wpS_pure ⟨rfl,la,d,rfl,D,v,t,.inl b⟩
   .rw[AI b];refine wpS_bind (B rfl (show g-d<n by omega) ?_);cases u:P (g-d)with
    | false=>exact wpS_pure ⟨rfl,d,2*d+1,rfl,by omega,by omega,by omega,u⟩
    | true=>exact wpS_pure ⟨rfl,la,d,rfl,D,v,t,.inr ⟨by omega,u⟩⟩
  case po =>
   rintro c a ⟨rfl,la,d,rfl,D,v,t,H⟩;dsimp only;refine wpS_bind (wpS_mono (S (lo:=g+1-min d (g+1)) (hi:=g-la) (λx l J=>by
    dsimp only;by_cases b:J<=l
    .refine .inl ?_;rw[AK b];exact wpS_pure ⟨rfl,by rw[AK b]⟩
    .by_cases hn:l +(J - l) / 2<n
     .refine .inl ?_;rw[AI b];refine wpS_bind (B rfl hn ?_);dsimp only;cases u:P (l +(J - l) / 2)with
      | true =>
       simp only[FD];exact wpS_pure ⟨rfl,by rw[AI b]⟩
      | false =>
       simp only[AV,CN];exact wpS_pure ⟨rfl,by rw[AI b]⟩
     .exact .inr (by omega)) (by omega) (by omega) (λi hi=>?_) λi G y=>m (g-la) i (by omega) y t) λc a ⟨e,k,e2,b1,b2,b3⟩=>?_)
   .rcases H with H | ⟨H,a6⟩
    .omega
    .exact o i (g-d) (by omega) (by omega) a6
   .subst e e2;exact wpS_pure (h k b1 b2 b3)
end
end TS
namespace TS
open PySem PyProof.Rows
section
variable{κ:KeyKind}
theorem RJ(p:A7):le κ p p:=KeyOrd.kle_refl _
theorem IV{p q r:A7}(h1:le κ p q)(h2:le κ q r):le κ p r:=KeyOrd.kle_trans h1 h2
structure ML(κ:KeyKind)(a b:A1 A7)(o:A1 A7)(i j:Nat):Prop where
 perm:o.Perm (a.take i++b.take j)
 sor:KR κ o
 la:∀x∈o,∀y∈a.drop i,le κ x y
 lb:∀x∈o,∀y∈b.drop j,le κ x y
theorem ML.sym{a b o:A1 A7}{i j:Nat}(m:ML κ a b o i j):ML κ b a o j i:=⟨m.perm.trans CV,m.sor,m.lb,m.la⟩
theorem Gx{l:A1 A7}(k:Nat)(h:KR κ l):∀x∈l.take k,∀y∈l.drop k,le κ x y:=by
 have a:KR κ (l.take k++l.drop k):=by rw[BT];exact h
 exact(CO.mp a).2.2
theorem ML.addA{a b o:A1 A7}{i j:Nat}(m:ML κ a b o i j)(e:KR κ a)(k:Nat)(f:∀y∈(a.drop i).take k,∀z∈b.drop j,le κ y z):ML κ a b (o ++(a.drop i).take k) (i+k) j:=by
 have d:KR κ (a.drop i):=e.sublist (FN _ _);refine⟨?_,?_,λx hx y c=>?_,λx hx y c=>?_⟩
 .rw[List.take_add];refine(DP _ m.perm).trans ?_;rw[BG,BG];exact DJ _ CV
 .refine CO.mpr ⟨m.sor,d.sublist (EY _ _),λx hx y c=>m.la x hx y (DG c)⟩
 .rw[<-FH]at c;rcases BD.mp hx with hx | hx
  .exact m.la x hx y (EW c)
  .exact Gx k d x hx y c
 .rcases BD.mp hx with hx | hx
  .exact m.lb x hx y c
  .exact f x hx y c
theorem ML.addB{a b o:A1 A7}{i j:Nat}(m:ML κ a b o i j)(c:KR κ b)(k:Nat)(d:∀y∈(b.drop j).take k,∀z∈a.drop i,le κ y z):ML κ a b (o ++(b.drop j).take k) i (j+k) :=
 (m.sym.addA c k d).sym
theorem ML.endA{a b o:A1 A7}{i j:Nat}(m:ML κ a b o i j)(e:KR κ a)(f:KR κ b)(h:∀y∈a.drop i,∀z∈b.drop j,le κ y z):KR κ (o++a.drop i++b.drop j)/\(o++a.drop i++b.drop j).Perm (a++b):=by
 refine⟨?_,?_⟩
 .refine CO.mpr ⟨CO.mpr ⟨m.sor,e.sublist (FN _ _),m.la⟩,f.sublist (FN _ _),λx hx y c=>?_⟩;rcases BD.mp hx with hx | hx
  .exact m.lb x hx y c
  .exact h x hx y c
 .have g:(o++a.drop i++b.drop j).Perm ((a.take i++b.take j)++a.drop i++b.drop j):=DP _ (DP _ m.perm);refine g.trans ?_;have d:((a.take i++b.take j)++a.drop i++b.drop j).Perm ((a.take i++a.drop i) ++(b.take j++b.drop j)):=by
   rw[BG,BG,BG];refine DJ _ ?_;rw[<-BG,<-BG];exact DP _ CV
  rw[BT,BT]at d;exact d
theorem ML.endB{a b o:A1 A7}{i j:Nat}(m:ML κ a b o i j)(c:KR κ a)(d:KR κ b)(h:∀y∈b.drop j,∀z∈a.drop i,le κ y z):KR κ (o++b.drop j++a.drop i)/\(o++b.drop j++a.drop i).Perm (a++b) :=
 ⟨(m.sym.endA d c h).1,(m.sym.endA d c h).2.trans CV⟩
structure MH(κ:KeyKind)(a b:A1 A7)(o:A1 A7)(i j:Nat):Prop where
 perm:o.Perm (a.drop i++b.drop j)
 sor:KR κ o
 la:∀x∈o,∀y∈a.take i,le κ y x
 lb:∀x∈o,∀y∈b.take j,le κ y x
theorem MH.sym{a b o:A1 A7}{i j:Nat}(m:MH κ a b o i j):MH κ b a o j i:=⟨m.perm.trans CV,m.sor,m.lb,m.la⟩
theorem MH.addA{a b o:A1 A7}{i j:Nat}(m:MH κ a b o i j)(g:KR κ a)(k:Nat)(d:k<=i)(h:∀y∈(a.take i).drop k,∀z∈b.take j,le κ z y):MH κ a b ((a.take i).drop k++o) k j:=by
 have f:KR κ (a.take i):=g.sublist (EY _ _);have e:a.drop k =(a.take i).drop k++a.drop i:=by
  conv=>lhs;rw[<-BT i a]
  rw[List.drop_append];by_cases l:i<=a.length
  .rw[AX,FA l,Nat.sub_eq_zero_of_le d,FI]
  .have:a.drop i = []:=FE (by lia);rw[this,List.drop_nil]
 have n:(a.take i).take k=a.take k:=by rw[List.take_take,FA d]
 refine⟨?_,?_,λx hx y c=>?_,λx hx y c=>?_⟩
 .rw[e,BG];exact DJ _ m.perm
 .exact CO.mpr ⟨f.sublist (FN _ _),m.sor,λx hx y c=>m.la y c x (EW hx)⟩
 .rw[<-n]at c;rcases BD.mp hx with hx | hx
  .exact Gx k f y c x hx
  .exact m.la x hx y (DG c)
 .rcases BD.mp hx with hx | hx
  .exact h x hx y c
  .exact m.lb x hx y c
theorem MH.addB{a b o:A1 A7}{i j:Nat}(m:MH κ a b o i j)(d:KR κ b)(k:Nat)(c:k<=j)(e:∀y∈(b.take j).drop k,∀z∈a.take i,le κ z y):MH κ a b ((b.take j).drop k++o) i k :=
 (m.sym.addA d k c e).sym
theorem MH.endA{a b o:A1 A7}{i j:Nat}(m:MH κ a b o i j)(e:KR κ a)(f:KR κ b)(h:∀y∈a.take i,∀z∈b.take j,le κ y z):KR κ (a.take i++b.take j++o)/\(a.take i++b.take j++o).Perm (a++b):=by
 refine⟨?_,?_⟩
 .refine CO.mpr ⟨CO.mpr ⟨e.sublist (EY _ _),f.sublist (EY _ _),h⟩,m.sor,λx hx y c=>?_⟩;rcases BD.mp hx with hx | hx
  .exact m.la y c x hx
  .exact m.lb y c x hx
 .have g:(a.take i++b.take j++o).Perm (a.take i++b.take j ++(a.drop i++b.drop j)):=DJ _ m.perm;refine g.trans ?_;have d:(a.take i++b.take j ++(a.drop i++b.drop j)).Perm ((a.take i++a.drop i) ++(b.take j++b.drop j)):=by
   rw[BG,BG];refine DJ _ ?_;rw[<-BG,<-BG];exact DP _ CV
  rw[BT,BT]at d;exact d
theorem MH.endB{a b o:A1 A7}{i j:Nat}(m:MH κ a b o i j)(c:KR κ a)(d:KR κ b)(h:∀y∈b.take j,∀z∈a.take i,le κ y z):KR κ (b.take j++a.take i++o)/\(b.take j++a.take i++o).Perm (a++b) :=
 ⟨(m.sym.endA d c h).1,(m.sym.endA d c h).2.trans CV⟩
end
section
variable{prog:CM}{w:F8}{A:IC}{E:A2->A4->Prop}{s:A4}{κ:KeyKind}{kd:JQ}
def Aw(g:Nat):StateT HX Sem Unit:=modify λs=>SortSt.mk' (kindOf s) (arrOf s) (pendingOf s) g (failedOf s)
def Eg:F1 A7->F1 A7->StateT HX Sem (F1 A7):=sortPriv% PySem.Builtin.mergeLo
theorem Ix(a b:F1 A7):Eg a b =(do
  rule "list.sort.merge-lo"
  let d:=a.size+b.size
  let c (o:F1 A7) (i j:Nat):=o++a.extract i a.size++b.extract j b.size
  let g (o:F1 A7) (i j:Nat):=o++b.extract j b.size++a.extract i a.size
  let mut o:F1 A7:=#[<-elem' b 0]
  let mut i:=0
  let mut j:=1
  if j == b.size then return c o i j
  if i+1 == a.size then return g o i j
  let mut mg:=gallopOf (<-get)
  for _ in [0:d] do
   let mut e:=0
   let mut f:=0
   for _ in [0:d] do
    let some h <-lt' (<-elem' b j) (<-elem' a i) | return c o i j
    if h then
     o:=o.push (<-elem' b j);j:=j+1;f:=f+1;e:=0
     if j == b.size then return c o i j
     if f ≥ mg then break
    else
     o:=o.push (<-elem' a i);i:=i+1;e:=e+1;f:=0
     if i+1 == a.size then return g o i j
     if e ≥ mg then break
   rule "list.sort.gallop"
   mg:=mg+1
   for _ in [0:d] do
    if mg>1 then mg:=mg-1
    Aw mg
    let some k <-U1 false (<-elem' b j) a i (a.size-i) 0 | return c o i j
    e:=k
    if k>0 then
     o:=o++a.extract i (i+k);i:=i+k
     if i+1 == a.size then return g o i j
     if i == a.size then return c o i j
    o:=o.push (<-elem' b j);j:=j+1
    if j == b.size then return c o i j
    let some k <-U1 true (<-elem' a i) b j (b.size-j) 0 | return c o i j
    f:=k
    if k>0 then
     o:=o++b.extract j (j+k);j:=j+k
     if j == b.size then return c o i j
    o:=o.push (<-elem' a i);i:=i+1
    if i+1 == a.size then return g o i j
    if e<7&&f<7 then break
   mg:=mg+1
   Aw mg
  unsupported "internal:list.sort.merge-bound"):=rfl
def Sm(st a:HX):Prop:=kindOf a=kindOf st/\arrOf a=arrOf st/\pendingOf a=pendingOf st/\failedOf a=failedOf st
theorem Sm.refl(st:HX):Sm st st:=⟨rfl,rfl,rfl,rfl⟩
theorem V5{st st0:HX}{g:Nat}{Q:Unit->HX->Prop}(b:Sm st0 st)(h:∀a,Sm st0 a->Q () a):wpS (model prog w) A E s (Aw g) Q st :=
 wpS_modify (h _ ⟨b.1,b.2.1,b.2.2.1,b.2.2.2⟩)
theorem Ck{l:A1 A7}{i k:Nat}{y:A7}(h:y∈(l.drop i).take k):∃t,t<k/\l[i+t]?=some y:=by
 obtain⟨t,a,e⟩:=FO.mp h;rw[AX,CY]at a;refine⟨t,by lia,?_⟩;rw[List.getElem_take,List.getElem_drop]at e;rw[<-e];exact AC (by lia)
theorem Jl{l:A1 A7}{i:Nat}{y:A7}(h:y∈l.drop i):∃t,i+t<l.length/\l[i+t]?=some y:=by
 obtain⟨t,a,e⟩:=FO.mp h;rw[CY]at a;refine⟨t,by lia,?_⟩;rw[List.getElem_drop]at e;rw[<-e];exact AC (by lia)
theorem Nm{l:A1 A7}{i:Nat}{y:A7}(h:y∈l.take i):∃t,t<i/\t<l.length/\l[t]?=some y:=by
 obtain⟨t,a,e⟩:=FO.mp h;rw[AX]at a;refine⟨t,by lia,by lia,?_⟩;rw[List.getElem_take]at e;rw[<-e];exact AC (by lia)
theorem Wh{l:A1 A7}{i k:Nat}{y:A7}(h:y∈(l.take i).drop k):∃t,k<=t/\t<i/\l[t]?=some y:=by
 obtain⟨t,b,a⟩:=Jl h;rw[AX]at b;rw[DI (by lia)]at a;exact⟨k+t,by lia,by lia,a⟩
theorem r8{l:A1 A7}(h:KR κ l){i j:Nat}{p q:A7}(a:i<=j)(b:l[i]?=some p)(c:l[j]?=some q):le κ p q:=by
 obtain⟨d,rfl⟩:=AF.mp b;obtain⟨e,rfl⟩:=AF.mp c;rcases Nat.lt_or_eq_of_le a with z | z
 .exact List.pairwise_iff_getElem.mp h i j d e z
 .subst z;exact RJ _
theorem Dd{l:A1 A7}(h:KR κ l){i:Nat}{p:A7}(a:l[i]?=some p):∀z∈l.drop i,le κ p z:=λz b=>by
 obtain⟨t,_,e⟩:=Jl b;exact r8 h (ER _ _) a e
theorem IH{a:F1 A7}{i:Nat}{p:A7}:a[i]?=some p↔a.toList[i]?=some p:=by rw[BN]
theorem X5{a:F1 A7}{i:Nat}(h:i<a.size):∃p,a[i]?=some p:=⟨a[i],getElem?_pos a i h⟩
theorem Qn{l:A1 A7}{i:Nat}{p:A7}(h:l[i]?=some p):(l.drop i).take 1 = [p]:=by
 obtain⟨a,rfl⟩:=AF.mp h;rw[EN a];rfl
theorem Eb(a:F1 A7)(i k:Nat):(a.extract i (i+k)).toList =(a.toList.drop i).take k:=by
 rw[EX,EO,Nat.add_sub_cancel_left]
theorem j7(a:F1 A7)(i:Nat):(a.extract i a.size).toList=a.toList.drop i:=by
 rw[EX,EO,CK];rw[CY,AR];exact Nat.le_refl _
theorem l8(a:F1 A7)(i:Nat):(a.extract 0 i).toList=a.toList.take i:=by
 rw[EX,EO,FI,Nat.sub_zero]
def Rm(κ:KeyKind)(a b r:F1 A7):Prop:=KR κ r.toList/\r.toList.Perm (a.toList++b.toList)
structure MP(κ:KeyKind)(a b:F1 A7):Prop where
 sa:KR κ a.toList
 sb:KR κ b.toList
 ka:∀(i:Nat) p,a[i]?=some p->Q_ κ p
 kb:∀(i:Nat) p,b[i]?=some p->Q_ κ p
 na:1<=a.size
 nb:1<=b.size
 first:∀q,b[0]?=some q->∀z∈a.toList,le κ q z
 last:∀p,a[a.size-1]?=some p->∀z∈b.toList,le κ z p
section
variable{a b o:F1 A7}{i j k:Nat}{p q:A7}
theorem MP.pushB(P:MP κ a b)(m:ML κ a.toList b.toList o.toList i j)(c:b[j]?=some q)(h:∀z∈a.toList.drop i,le κ q z):ML κ a.toList b.toList (o.push q).toList i (j+1):=by
 have d:=m.addB P.sb 1 (by rw[Qn (IH.mp c)];intro y e;rw[AE.mp e];exact h);rw[Qn (IH.mp c)]at d;rw[DC];exact d
theorem MP.pushA(P:MP κ a b)(m:ML κ a.toList b.toList o.toList i j)(c:a[i]?=some p)(h:∀z∈b.toList.drop j,le κ p z):ML κ a.toList b.toList (o.push p).toList (i+1) j:=by
 have d:=m.addA P.sa 1 (by rw[Qn (IH.mp c)];intro y e;rw[AE.mp e];exact h);rw[Qn (IH.mp c)]at d;rw[DC];exact d
theorem MP.extA(P:MP κ a b)(m:ML κ a.toList b.toList o.toList i j)(h:∀y∈(a.toList.drop i).take k,∀z∈b.toList.drop j,le κ y z):ML κ a.toList b.toList (o++a.extract i (i+k)).toList (i+k) j:=by
 rw[BO,Eb];exact m.addA P.sa k h
theorem MP.extB(P:MP κ a b)(m:ML κ a.toList b.toList o.toList i j)(h:∀y∈(b.toList.drop j).take k,∀z∈a.toList.drop i,le κ y z):ML κ a.toList b.toList (o++b.extract j (j+k)).toList i (j+k):=by
 rw[BO,Eb];exact m.addB P.sb k h
theorem MP.doneB(P:MP κ a b)(m:ML κ a.toList b.toList o.toList i j)(d:j=b.size):Rm κ a b (o++a.extract i a.size++b.extract j b.size):=by
 unfold Rm;rw[BO,BO,j7,j7];refine m.endA P.sa P.sb λy _ z c=>?_;rw[FE (by rw[AR];lia)]at c;exact absurd c (by simp)
theorem MP.doneA(P:MP κ a b)(m:ML κ a.toList b.toList o.toList i j)(hi:i=a.size):Rm κ a b (o++a.extract i a.size++b.extract j b.size):=by
 unfold Rm;rw[BO,BO,j7,j7];refine m.endA P.sa P.sb λy c z _=>?_;rw[FE (by rw[AR];lia)]at c;exact absurd c (by simp)
theorem MP.lastA(P:MP κ a b)(m:ML κ a.toList b.toList o.toList i j)(hi:i+1=a.size):Rm κ a b (o++b.extract j b.size++a.extract i a.size):=by
 unfold Rm;rw[BO,BO,j7,j7];refine m.endB P.sa P.sb λy d z f=>?_;obtain⟨t,g,c⟩:=Jl f;rw[AR]at g;have e:i+t=a.size-1:=by lia
 rw[e]at c;exact P.last z (IH.mpr c) y (EW d)
end
theorem Sm.knd{st a:HX}(h:Sm st a){k:JQ}(b:kindOf st=k):kindOf a=k:=h.1.trans b
theorem l9(C:QQ prog w A s κ kd){st:HX}{left:Bool}{d:A7}{b:F1 A7}{bs n e:Nat}{Q:A5 Nat->HX->Prop}(D:kindOf st=kd)(f:Q_ κ d)
  (hsz:bs+n<=b.size) (F:∀(i:Nat) p,b[i]?=some p->Q_ κ p) (G:∀(u v:Nat) p q,u<=v->v<n->b[bs+u]?=some p->b[bs+v]?=some q->le κ p q) (g:e<n)
  (h:∀k,k<=n->(∀(t:Nat) p,t<k->b[bs+t]?=some p->PB κ left d p=true)->(∀(t:Nat) p,k<=t->t<n->b[bs+t]?=some p->PB κ left d p=false)->Q (some k) st) :
  wpS (model prog w) A E s (U1 left d b bs n e) Q st:=by
 have c:∀t,t<n->∃p,b[bs+t]?=some p:=λt e=>X5 (by lia);refine Mz C D f (λt=>match b[bs+t]? with | some p=>PB κ left d p | none=>false) (λi H=>?_) (λi j m y a=>?_) g λk o I J=>?_
 .obtain⟨p,a⟩:=c i H;exact⟨p,a,F _ p a,by rw[a]⟩
 .obtain⟨p,z⟩:=c i (by lia);obtain⟨q,B⟩:=c j y;rw[B]at a;rw[z];have l:=G i j p q m y z B;dsimp only at a⊢;unfold PB at a⊢;cases left with
  | true =>
   simp only[FD]at a⊢;exact KeyOrd.klt_of_kle_of_klt l a
  | false =>
   simp only[AV,CN,Bool.not_eq_true']at a⊢;exact KeyOrd.kle_trans l a
 .refine h k o (λt p e a=>?_) λt p r x a=>?_
  .have:=I t e;rw[a]at this;exact this
  .have:=J t r x;rw[a]at this;exact this
theorem Ew{a p:A7}(h:PB κ false a p=true):le κ p a:=by
 unfold PB at h;show κ.blt (kk κ a) (kk κ p)=false;simpa using h
theorem Al{a p:A7}(h:PB κ false a p=false):κ.klt (kk κ a) (kk κ p):=by
 unfold PB at h;show κ.blt (kk κ a) (kk κ p)=true;simpa using h
theorem Je{a p:A7}(h:PB κ true a p=true):κ.klt (kk κ p) (kk κ a):=by
 unfold PB at h;show κ.blt (kk κ p) (kk κ a)=true;simpa using h
theorem Ea{a p:A7}(h:PB κ true a p=false):le κ a p:=by
 unfold PB at h;show κ.blt (kk κ p) (kk κ a)=false;simpa using h
section
variable{α:Type}{Q:α->HX->Prop}{st:HX}
theorem S8{c:Prop}{_:Decidable c}{t e:StateT HX Sem α}(h1:c->wpS (model prog w) A E s t Q st)(h2:¬c->wpS (model prog w) A E s e Q st):wpS (model prog w) A E s (if c then t else e) Q st:=by
 split
 .rename_i h;exact h1 h
 .rename_i h;exact h2 h
theorem O8{x y:Nat}{t e:StateT HX Sem α}(h1:x=y->wpS (model prog w) A E s t Q st)(h2:x≠y->wpS (model prog w) A E s e Q st):wpS (model prog w) A E s (if(x == y)=true then t else e) Q st :=
 S8 (λh=>h1 (eq_of_beq h)) λh=>h2 λz=>h (beq_iff_eq.mpr z)
theorem Tc{c:Prop}{_:Decidable c}{t:StateT HX Sem α}{F:Nat->StateT HX Sem α}(x:Nat){y:Nat}(h:∀g,wpS (model prog w) A E s (F g) Q st)(e:t=F x):wpS (model prog w) A E s (if c then t else F y) Q st:=by
 subst e;exact S8 (λ_=>h _) λ_=>h _
theorem Do{c:Prop}{_:Decidable c}{t:StateT HX Sem α}{F:F1 A7->Nat->StateT HX Sem α}{o:F1 A7}{i:Nat}(R:F1 A7->Nat->Prop)(h:∀o i,R o i->wpS (model prog w) A E s (F o i) Q st)
  (a:(∀o i,R o i->wpS (model prog w) A E s (F o i) Q st)->c->wpS (model prog w) A E s t Q st) (b:¬c->R o i):wpS (model prog w) A E s (if c then t else F o i) Q st:=S8 (a h) λz=>h _ _ (b z)
end
theorem Qm{α β:Type}{h:Sem Unit}{i:StateT HX Sem A7}{x0:A7}{b e:Prop}{_:Decidable b}{_:Decidable e}{j k:A7->StateT HX Sem α}{d:A7->HX->β}{n:Nat}{f:Nat->β->StateT HX Sem (ForInStep β)}{g:β->StateT HX Sem α}{Q:α->HX->Prop}{st:HX}
  (m:∀R:Unit->HX->Prop,R () st->wpS (model prog w) A E s (liftM h:StateT HX Sem Unit) R st) (o:∀R:A7->HX->Prop,R x0 st->wpS (model prog w) A E s i R st) (h1:b->wpS (model prog w) A E s (j x0) Q st) (h2:¬b->e->wpS (model prog w) A E s (k x0) Q st)
  (p:¬b->¬e->wpS (model prog w) A E s (forIn [0:n] (d x0 st) f) (λc a=>wpS (model prog w) A E s (g c) Q a) st) :
  wpS (model prog w) A E s ((liftM h:StateT HX Sem Unit) >>= λ_=>i >>= λx=>if b then j x else if e then k x else get >>= λa=>forIn [0:n] (d x a) f >>= g) Q st :=
 wpS_bind (m _ (wpS_bind (o _ (S8 h1 λl=>S8 (h2 l) λq=>wpS_bind (wpS_get (wpS_bind (p l q)))))))
def MR(κ:KeyKind)(a b:F1 A7)(st:HX){β:Type}(c:A5 (F1 A7)×β)(d:HX):Prop:=Sm st d/\∃r,c.1=some r/\Rm κ a b r
theorem MR.mk{a b r:F1 A7}{st d:HX}{β:Type}{c:β}(e:Sm st d)(h:Rm κ a b r):MR κ a b st (some r,c) d:=⟨e,r,rfl,h⟩
structure PX(κ:KeyKind)(a b:F1 A7)(n:Nat)(o:F1 A7)(i j:Nat):Prop where
 m:ML κ a.toList b.toList o.toList i j
 hi:i+1<a.size
 hj:j<b.size
 hn:n<=i+j
theorem PX.putB{a b o c:F1 A7}{n i j:Nat}(h:PX κ a b n o i j)(m:ML κ a.toList b.toList c.toList i (j+1))(e:j+1≠b.size):PX κ a b (n+1) c i (j+1):=⟨m,h.hi,GA h.hj e,HL h.hn⟩
theorem PX.putA{a b o c:F1 A7}{n i j:Nat}(h:PX κ a b n o i j)(m:ML κ a.toList b.toList c.toList (i+1) j)(e:i+1+1≠a.size):PX κ a b (n+1) c (i+1) j:=⟨m,GA h.hi e,h.hj,by rw[Nat.add_right_comm];exact HL h.hn⟩
theorem PX.mono{a b o:F1 A7}{n c i j:Nat}(h:PX κ a b n o i j)(l:c<=n):PX κ a b c o i j:=⟨h.m,h.hi,h.hj,Nat.le_trans l h.hn⟩
def zGi(κ:KeyKind)(a b:F1 A7)(st:HX)(n:Nat)(c:A5 (F1 A7)×F1 A7×Nat×Nat×Nat)(d:HX):Prop:=Sm st d/\∃o i j e,c =(none,o,i,j,e)/\PX κ a b n o i j
def OY(κ:KeyKind)(a b:F1 A7)(st:HX)(n:Nat)(c:A5 (F1 A7)×F1 A7×Nat×Nat×Nat×Nat)(d:HX):Prop:=Sm st d/\∃o i j e f,c =(none,o,i,j,e,f)/\PX κ a b n o i j
def PY(κ:KeyKind)(a b:F1 A7)(st:HX)(n:Nat)(c:A5 (F1 A7)×F1 A7×Nat×Nat×Nat×Nat×Nat)(d:HX):Prop:=Sm st d/\∃o i j e f g,c =(none,o,i,j,e,f,g)/\PX κ a b n o i j
theorem OY.mk{a b o:F1 A7}{st c:HX}{n i j d e:Nat}(f:Sm st c)(h:PX κ a b n o i j):OY κ a b st n (none,o,i,j,d,e) c:=⟨f,_,_,_,_,_,rfl,h⟩
theorem PY.mk{a b o:F1 A7}{st c:HX}{n i j mg d e:Nat}(f:Sm st c)(h:PX κ a b n o i j):PY κ a b st n (none,o,i,j,mg,d,e) c:=⟨f,_,_,_,_,_,_,rfl,h⟩
theorem Jm(C:QQ prog w A s κ kd){st:HX}{a b:F1 A7}{Q:F1 A7->HX->Prop}(hk:kindOf st=kd)(P:MP κ a b)
  (h:∀r d,Sm st d->Rm κ a b r->Q r d):wpS (model prog w) A E s (Eg a b) Q st:=by
 rw[Ix];obtain⟨b0,O⟩:=X5 (a:=b) (i:=0) P.nb;have m0:ML κ a.toList b.toList (#[]:F1 A7).toList 0 0:=⟨by simp,List.Pairwise.nil,λx hx=>absurd hx (by simp),λx hx=>absurd hx (by simp)⟩;have m1:ML κ a.toList b.toList (#[b0]:F1 A7).toList 0 1:=by
  have:=P.pushB m0 O (by rw[FI];exact P.first b0 O);simpa using this
 apply Qm (x0:=b0) (λR z=>wpS_lift (EC ⟨rfl,z⟩)) (λR z=>C9 O z)
 case h1=>exact λS=>wpS_pure (h _ _ (Sm.refl _) (P.doneB m1 (eq_of_beq S)))
 case h2=>exact λ_ T=>wpS_pure (h _ _ (Sm.refl _) (P.lastA m1 (eq_of_beq T)))
 intro S T;have p1:PX κ a b 1 #[b0] 0 1:=⟨m1,GA P.na λz=>T (beq_iff_eq.mpr z),GA P.nb λz=>S (beq_iff_eq.mpr z),Nat.le_refl _⟩;refine wpS_mono (wpS_forRange (I:=λx=>zGi κ a b st (x+1)) (Q:=MR κ a b st) ?st ?en ⟨Sm.refl _,_,_,_,_,rfl,p1⟩) ?po
 case po =>
  rintro⟨c1,c2⟩ d ⟨sm,r,e,Z⟩;cases e;exact wpS_pure (h r d sm Z)
 case en =>
  rintro c d ⟨sm,o,i,j,mg,rfl,p⟩;obtain⟨_,h1,h2,h3⟩:=p;exfalso;lia
 case st =>
  rintro x c d _ hx ⟨sm,o,i,j,mg,rfl,p⟩;refine wpS_bind (wpS_mono (wpS_forRange (I:=λ_=>OY κ a b st (x+1)) (Q:=λc d=>MR κ a b st c d\/OY κ a b st (x+1) c d) ?st1 ?en1 (OY.mk sm p)) ?po1)
  case en1=>exact λc st2 z=>.inr z
  case st1 =>
   rintro x2 c st2 _ _ ⟨f,o,i',j',ac,bc,rfl,N⟩;obtain⟨bj,l⟩:=X5 (a:=b) (i:=j') N.hj;obtain⟨ai,n⟩:=X5 (a:=a) (i:=i') (GJ N.hi);refine wpS_bind (C9 l (wpS_bind (C9 n (wpS_bind (Hy C (f.knd hk) (P.kb _ _ l) (P.ka _ _ n) ?_)))));refine S8 (λU=>wpS_bind (C9 l ?_)) λU=>wpS_bind (C9 n ?_)
   .have m3:=P.pushB N.m l λz H=>IV (KeyOrd.kle_of_klt U) (Dd P.sa (IH.mp n) z H);refine O8 (λG=>wpS_pure (.inl (MR.mk f (P.doneB m3 G)))) λG=>?_;have D:=(N.putB m3 G).mono (DX _);exact S8 (λ_=>wpS_pure (.inr (OY.mk f D))) λ_=>wpS_pure (OY.mk f D)
   .have m3:=P.pushA N.m n λz H=>IV (show le κ ai bj from B_.mpr U) (Dd P.sb (IH.mp l) z H);refine O8 (λG=>wpS_pure (.inl (MR.mk f (P.lastA m3 G)))) λG=>?_;have D:=(N.putA m3 G).mono (DX _);exact S8 (λ_=>wpS_pure (.inr (OY.mk f D))) λ_=>wpS_pure (OY.mk f D)
  case po1 =>
   rintro⟨c1,c2⟩ st2 (⟨f,r,e,Z⟩ | ⟨f,o2,i2,j2,ac,bc,e,N⟩)
   .cases e;exact wpS_pure (MR.mk f Z)
   .cases e;refine wpS_bind (wpS_lift (EC ⟨rfl,?_⟩));refine wpS_bind (wpS_mono (wpS_forRange (I:=λx3=>PY κ a b st (x+1+x3)) (Q:=λc d=>MR κ a b st c d\/PY κ a b st (x+1+1) c d) ?st2 ?en2 (PY.mk f N)) ?po2)
    case en2 =>
     rintro c st3 ⟨F,o',i',j',mg',ac,bc,rfl,D⟩;refine .inr (PY.mk F (D.mono ?_));have:=P.na;lia
    case po2 =>
     rintro⟨c1,c2⟩ st3 (⟨F,r,e,Z⟩ | ⟨F,o',i',j',mg',ac,bc,e,D⟩)
     .cases e;exact wpS_pure (MR.mk F Z)
     .cases e;refine wpS_bind (V5 F λst4 B=>?_);exact wpS_pure ⟨B,_,_,_,_,rfl,D⟩
    case st2 =>
     rintro x3 c st3 _ _ ⟨F,o3,V,j3,mg3,ac3,bc3,rfl,D⟩;obtain⟨bj,l⟩:=X5 (a:=b) (i:=j3) D.hj;have hi3:V +(a.size-V)<=a.size:=by rw[Nat.add_sub_cancel' (DH (GJ D.hi))];exact Nat.le_refl _
     have hj3:=D.hj;apply Tc (mg3-1) (y:=mg3)
     case e=>exact rfl
     intro g;refine wpS_bind (V5 F λst4 B=>?_);refine wpS_bind (C9 l (wpS_bind (l9 C (B.knd hk) (P.kb _ _ l) hi3 P.ka (λu v p q W _ G Y=>r8 P.sa (EF W _) (IH.mp G) (IH.mp Y)) (Nat.sub_pos_of_lt (GJ D.hi)) λk hk1 k1 k2=>?_)));have m4:ML κ a.toList b.toList (o3++a.extract V (V+k)).toList (V+k) j3:=P.extA D.m λy hy z H=>by
      obtain⟨t,X,e⟩:=Ck hy;exact IV (Ew (k1 t y X (IH.mpr e))) (Dd P.sb (IH.mp l) z H)
     have K:∀z∈a.toList.drop (V+k),le κ bj z:=λz H=>by
      obtain⟨t,X,e⟩:=Jl H;rw[AR]at X;exact KeyOrd.kle_of_klt (Al (k2 (k+t) z (ER _ _) (by lia) (by rw[<-Nat.add_assoc];exact IH.mpr e)))
     apply Do (o:=o3) (i:=V) (λo i=>PX κ a b (x+1+x3) o i j3/\∀z∈a.toList.drop i,le κ bj z)
     .rintro o4 i4 ⟨p4,K⟩;refine wpS_bind (C9 l ?_);have m5:=P.pushB p4.m l K;refine O8 (λe3=>wpS_pure (.inl (MR.mk B (P.doneB m5 e3)))) λe3=>?_;have L:=p4.putB m5 e3;generalize o4.push bj=o5 at m5 L⊢;generalize j3+1=j5 at m5 L⊢;obtain⟨ai,n⟩:=X5 (a:=a) (i:=i4) (GJ L.hi);refine wpS_bind (C9 n (wpS_bind (l9 C (B.knd hk) (P.ka _ _ n) (by rw[Nat.add_sub_cancel' (DH L.hj)];exact Nat.le_refl _) P.kb (λu v p q W _ G Y=>r8 P.sb (EF W _) (IH.mp G) (IH.mp Y)) (Nat.sub_pos_of_lt L.hj) λk' hk1' k1' k2'=>?_)));have M:∀z∈b.toList.drop (j5+k'),le κ ai z:=λz H=>by
       obtain⟨t,X,e⟩:=Jl H;rw[AR]at X;exact Ea (k2' (k'+t) z (ER _ _) (by lia) (by rw[<-Nat.add_assoc];exact IH.mpr e))
      apply Do (o:=o5) (i:=j5) (λo j=>PX κ a b (x+1+x3+1) o i4 j/\∀z∈b.toList.drop j,le κ ai z)
      .rintro o6 j6 ⟨p6,M⟩;refine wpS_bind (C9 n ?_);have m7:=P.pushA p6.m n M;refine O8 (λe5=>wpS_pure (.inl (MR.mk B (P.lastA m7 e5)))) λe5=>?_;have p7:=p6.putA m7 e5;exact S8 (λ_=>wpS_pure (.inr (PY.mk B (p7.mono (by lia))))) λ_=>wpS_pure (PY.mk B (p7.mono (by lia)))
      .intro hF J;have m6:ML κ a.toList b.toList (o5++b.extract j5 (j5+k')).toList i4 (j5+k'):=P.extB m5 λy hy z H=>by
        obtain⟨t,X,e⟩:=Ck hy;exact IV (KeyOrd.kle_of_klt (Je (k1' t y X (IH.mpr e)))) (Dd P.sa (IH.mp n) z H)
       have hj5:=L.hj;exact O8 (λe4=>wpS_pure (.inl (MR.mk B (P.doneB m6 e4)))) λe4=>hF _ _ ⟨⟨m6,L.hi,by lia,Nat.le_trans L.hn (by lia)⟩,M⟩
      .intro J;have z0:k'=0:=GB J;subst z0;exact⟨L,M⟩
     .intro hF J;have hi:=D.hi;exact O8 (λG=>wpS_pure (.inl (MR.mk B (P.lastA m4 G)))) λG=>O8 (λY=>wpS_pure (.inl (MR.mk B (P.doneA m4 Y)))) λY=>hF _ _ ⟨⟨m4,by lia,D.hj,Nat.le_trans D.hn (by lia)⟩,K⟩
     .intro J;have z0:k=0:=GB J;subst z0;exact⟨D,K⟩
end
section
variable{prog:CM}{w:F8}{A:IC}{E:A2->A4->Prop}{s:A4}{κ:KeyKind}{kd:JQ}
def Dn:F1 A7->F1 A7->StateT HX Sem (F1 A7):=sortPriv% PySem.Builtin.mergeHi
theorem Jw(a b:F1 A7):Dn a b =(do
  rule "list.sort.merge-hi"
  let e:=a.size+b.size
  let d (o:F1 A7) (i j:Nat):=a.extract 0 i++b.extract 0 j++o.reverse
  let h (o:F1 A7) (i j:Nat):=b.extract 0 j++a.extract 0 i++o.reverse
  let mut i:=a.size-1
  let mut j:=b.size
  let mut o:F1 A7:=#[<-elem' a i]
  if i == 0 then return d o i j
  if j == 1 then return h o i j
  let mut mg:=gallopOf (<-get)
  for _ in [0:e] do
   let mut f:=0
   let mut g:=0
   for _ in [0:e] do
    let some l <-lt' (<-elem' b (j-1)) (<-elem' a (i-1)) | return d o i j
    if l then
     i:=i-1;o:=o.push (<-elem' a i);f:=f+1;g:=0
     if i == 0 then return d o i j
     if f ≥ mg then break
    else
     j:=j-1;o:=o.push (<-elem' b j);g:=g+1;f:=0
     if j == 1 then return h o i j
     if g ≥ mg then break
   rule "list.sort.gallop"
   mg:=mg+1
   for _ in [0:e] do
    if mg>1 then mg:=mg-1
    Aw mg
    let some c <-U1 false (<-elem' b (j-1)) a 0 i (i-1) | return d o i j
    let k:=i-c
    f:=k
    if k>0 then
     o:=o ++(a.extract c i).reverse;i:=c
     if i == 0 then return d o i j
    j:=j-1;o:=o.push (<-elem' b j)
    if j == 1 then return h o i j
    let some c <-U1 true (<-elem' a (i-1)) b 0 j (j-1) | return d o i j
    let k:=j-c
    g:=k
    if k>0 then
     o:=o ++(b.extract c j).reverse;j:=c
     if j == 1 then return h o i j
     if j == 0 then return d o i j
    i:=i-1;o:=o.push (<-elem' a i)
    if i == 0 then return d o i j
    if f<7&&g<7 then break
   mg:=mg+1
   Aw mg
  unsupported "internal:list.sort.merge-bound"):=rfl
abbrev ON(κ:KeyKind)(a b o:F1 A7)(i j:Nat):Prop:=MH κ a.toList b.toList o.toList.reverse i j
section
variable{a b o:F1 A7}{i j k:Nat}{p q:A7}
theorem td1{l:A1 A7}{i:Nat}{p:A7}(hi:1<=i)(h:l[i-1]?=some p):(l.take i).drop (i-1) = [p]:=by
 rw[GL,show i-(i-1)=1 by lia];exact Qn h
theorem Jn(a:F1 A7)(k i:Nat):(a.extract k i).toList =(a.toList.take i).drop k:=by
 rw[EX,EO,GL]
theorem Dv{l:A1 A7}(h:KR κ l){i:Nat}{p:A7}(a:l[i-1]?=some p):∀z∈l.take i,le κ z p:=λz b=>by
 obtain⟨t,c,_,e⟩:=Nm b;exact r8 h (by lia) e a
theorem MP.hpA(P:MP κ a b)(m:ON κ a b o i j)(hi:1<=i)(c:a[i-1]?=some p)(h:∀z∈b.toList.take j,le κ z p):ON κ a b (o.push p) (i-1) j:=by
 have d:=m.addA P.sa (i-1) (by lia) (by rw[td1 hi (IH.mp c)];intro y e;rw[AE.mp e];exact h);rw[td1 hi (IH.mp c)]at d;unfold ON;rw[DC,GS];exact d
theorem MP.hpB(P:MP κ a b)(m:ON κ a b o i j)(c:1<=j)(d:b[j-1]?=some q)(h:∀z∈a.toList.take i,le κ z q):ON κ a b (o.push q) i (j-1):=by
 have e:=m.addB P.sb (j-1) (by lia) (by rw[td1 c (IH.mp d)];intro y f;rw[AE.mp f];exact h);rw[td1 c (IH.mp d)]at e;unfold ON;rw[DC,GS];exact e
theorem MP.heA(P:MP κ a b)(m:ON κ a b o i j)(c:k<=i)(h:∀y∈(a.toList.take i).drop k,∀z∈b.toList.take j,le κ z y):ON κ a b (o ++(a.extract k i).reverse) k j:=by
 unfold ON;rw[BO,FP,GS,List.reverse_reverse,Jn];exact m.addA P.sa k c h
theorem MP.heB(P:MP κ a b)(m:ON κ a b o i j)(c:k<=j)(h:∀y∈(b.toList.take j).drop k,∀z∈a.toList.take i,le κ z y):ON κ a b (o ++(b.extract k j).reverse) i k:=by
 unfold ON;rw[BO,FP,GS,List.reverse_reverse,Jn];exact m.addB P.sb k c h
theorem MP.hdA(P:MP κ a b)(m:ON κ a b o i j)(hi:i=0):Rm κ a b (a.extract 0 i++b.extract 0 j++o.reverse):=by
 unfold Rm;rw[BO,BO,FP,l8,l8];refine m.endA P.sa P.sb λy c z _=>?_;rw[hi,List.take_zero]at c;exact absurd c (by simp)
theorem MP.hdB(P:MP κ a b)(m:ON κ a b o i j)(d:j=0):Rm κ a b (a.extract 0 i++b.extract 0 j++o.reverse):=by
 unfold Rm;rw[BO,BO,FP,l8,l8];refine m.endA P.sa P.sb λy _ z c=>?_;rw[d,List.take_zero]at c;exact absurd c (by simp)
theorem MP.hfB(P:MP κ a b)(m:ON κ a b o i j)(g:j=1):Rm κ a b (b.extract 0 j++a.extract 0 i++o.reverse):=by
 unfold Rm;rw[BO,BO,FP,l8,l8];refine m.endB P.sa P.sb λy c z d=>?_;obtain⟨t,h,_,e⟩:=Nm c;have f:t=0:=by lia
 rw[f]at e;exact P.first y (IH.mpr e) z (DG d)
end
structure OJ(κ:KeyKind)(a b:F1 A7)(n:Nat)(o:F1 A7)(i j:Nat):Prop where
 m:ON κ a b o i j
 hi:1<=i
 hj:2<=j
 ia:i<=a.size
 jb:j<=b.size
 hn:n+i+j<=a.size+b.size
theorem OJ.putA{a b o c:F1 A7}{n i j:Nat}(h:OJ κ a b n o i j)(m:ON κ a b c (i-1) j)(e:i-1≠0):OJ κ a b (n+1) c (i-1) j:=by
 obtain⟨_,g,d,k,f,l⟩:=h;exact⟨m,by lia,d,by lia,f,by lia⟩
theorem OJ.putB{a b o c:F1 A7}{n i j:Nat}(h:OJ κ a b n o i j)(m:ON κ a b c i (j-1))(e:j-1≠1):OJ κ a b (n+1) c i (j-1):=by
 obtain⟨_,d,g,f,k,l⟩:=h;exact⟨m,d,by lia,f,by lia,by lia⟩
theorem OJ.mono{a b o:F1 A7}{n c i j:Nat}(h:OJ κ a b n o i j)(l:c<=n):OJ κ a b c o i j:=⟨h.m,h.hi,h.hj,h.ia,h.jb,Nat.le_trans (Nat.add_le_add_right (Nat.add_le_add_right l _) _) h.hn⟩
theorem OJ.la{a b o:F1 A7}{n i j:Nat}(h:OJ κ a b n o i j):i-1<a.size:=BJ (Nat.sub_lt h.hi (GY)) h.ia
theorem OJ.lb{a b o:F1 A7}{n i j:Nat}(h:OJ κ a b n o i j):j-1<b.size:=BJ (Nat.sub_lt (GJ h.hj) (GY)) h.jb
theorem OJ.hj1{a b o:F1 A7}{n i j:Nat}(h:OJ κ a b n o i j):1<=j:=Nat.le_of_succ_le h.hj
def zGs(κ:KeyKind)(a b:F1 A7)(st:HX)(n:Nat)(c:A5 (F1 A7)×Nat×Nat×F1 A7×Nat)(d:HX):Prop:=Sm st d/\∃i j o e,c =(none,i,j,o,e)/\OJ κ a b n o i j
def OZ(κ:KeyKind)(a b:F1 A7)(st:HX)(n:Nat)(c:A5 (F1 A7)×Nat×Nat×F1 A7×Nat×Nat)(d:HX):Prop:=Sm st d/\∃i j o e f,c =(none,i,j,o,e,f)/\OJ κ a b n o i j
def PZ(κ:KeyKind)(a b:F1 A7)(st:HX)(n:Nat)(c:A5 (F1 A7)×Nat×Nat×F1 A7×Nat×Nat×Nat)(d:HX):Prop:=Sm st d/\∃i j o e f g,c =(none,i,j,o,e,f,g)/\OJ κ a b n o i j
theorem OZ.mk{a b o:F1 A7}{st c:HX}{n i j d e:Nat}(f:Sm st c)(h:OJ κ a b n o i j):OZ κ a b st n (none,i,j,o,d,e) c:=⟨f,_,_,_,_,_,rfl,h⟩
theorem PZ.mk{a b o:F1 A7}{st c:HX}{n i j mg d e:Nat}(f:Sm st c)(h:OJ κ a b n o i j):PZ κ a b st n (none,i,j,o,mg,d,e) c:=⟨f,_,_,_,_,_,_,rfl,h⟩
theorem Ja(C:QQ prog w A s κ kd){st:HX}{a b:F1 A7}{Q:F1 A7->HX->Prop}(hk:kindOf st=kd)(P:MP κ a b)
  (h:∀r f,Sm st f->Rm κ a b r->Q r f):wpS (model prog w) A E s (Dn a b) Q st:=by
 rw[Jw];have hna:=P.na;have hnb:=P.nb;obtain⟨b0,U⟩:=X5 (a:=a) (i:=a.size-1) (Nat.sub_lt hna GY);have m0:ON κ a b (#[]:F1 A7) a.size b.size:=⟨by simp,List.Pairwise.nil,λx hx=>absurd hx (by simp),λx hx=>absurd hx (by simp)⟩;have m1:ON κ a b (#[b0]:F1 A7) (a.size-1) b.size:=by
  have:=P.hpA m0 hna U (λz J=>P.last b0 U z (DG J));simpa using this
 apply Qm (x0:=b0) (λR z=>wpS_lift (EC ⟨rfl,z⟩)) (λR z=>C9 U z)
 case h1=>exact λN=>wpS_pure (h _ _ (Sm.refl _) (P.hdA m1 (eq_of_beq N)))
 case h2=>exact λ_ O=>wpS_pure (h _ _ (Sm.refl _) (P.hfB m1 (eq_of_beq O)))
 intro N O;have N:¬a.size-1=0:=λz=>N (beq_iff_eq.mpr z);have O:¬b.size=1:=λz=>O (beq_iff_eq.mpr z);have p1:OJ κ a b 1 #[b0] (a.size-1) b.size:=⟨m1,by lia,by lia,by lia,by lia,by lia⟩;refine wpS_mono (wpS_forRange (I:=λx=>zGs κ a b st (x+1)) (Q:=MR κ a b st) ?st ?en ⟨Sm.refl _,_,_,_,_,rfl,p1⟩) ?po
 case po =>
  rintro⟨c1,c2⟩ f ⟨sm,r,e,hr⟩;cases e;exact wpS_pure (h r f sm hr)
 case en =>
  rintro c f ⟨sm,i,j,o,mg,rfl,p⟩;obtain⟨_,h1,h2,_,_,h3⟩:=p;exfalso;lia
 case st =>
  rintro x c f _ hx ⟨sm,i,j,o,mg,rfl,p⟩;refine wpS_bind (wpS_mono (wpS_forRange (I:=λ_=>OZ κ a b st (x+1)) (Q:=λc f=>MR κ a b st c f\/OZ κ a b st (x+1) c f) ?st1 ?en1 (OZ.mk sm p)) ?po1)
  case en1=>exact λc st2 z=>.inr z
  case st1 =>
   rintro x2 c st2 _ _ ⟨l,i',j',o,ac,bc,rfl,M⟩;obtain⟨bj,n⟩:=X5 (a:=b) (i:=j' - 1) M.lb;obtain⟨ai,B⟩:=X5 (a:=a) (i:=i' - 1) M.la;refine wpS_bind (C9 n (wpS_bind (C9 B (wpS_bind (Hy C (l.knd hk) (P.kb _ _ n) (P.ka _ _ B) ?_)))));refine S8 (λV=>wpS_bind (C9 B ?_)) λV=>wpS_bind (C9 n ?_)
   .have m3:=P.hpA M.m M.hi B λz J=>IV (Dv P.sb (IH.mp n) z J) (KeyOrd.kle_of_klt V);refine O8 (λH=>wpS_pure (.inl (MR.mk l (P.hdA m3 H)))) λH=>?_;have F:=(M.putA m3 H).mono (DX _);exact S8 (λ_=>wpS_pure (.inr (OZ.mk l F))) λ_=>wpS_pure (OZ.mk l F)
   .have m3:=P.hpB M.m M.hj1 n λz J=>IV (Dv P.sa (IH.mp B) z J) (show le κ ai bj from B_.mpr V);refine O8 (λH=>wpS_pure (.inl (MR.mk l (P.hfB m3 H)))) λH=>?_;have F:=(M.putB m3 H).mono (DX _);exact S8 (λ_=>wpS_pure (.inr (OZ.mk l F))) λ_=>wpS_pure (OZ.mk l F)
  case po1 =>
   rintro⟨c1,c2⟩ st2 (⟨l,r,e,hr⟩ | ⟨l,i2,j2,o2,ac,bc,e,M⟩)
   .cases e;exact wpS_pure (MR.mk l hr)
   .cases e;refine wpS_bind (wpS_lift (EC ⟨rfl,?_⟩));refine wpS_bind (wpS_mono (wpS_forRange (I:=λx3=>PZ κ a b st (x+1+x3)) (Q:=λc f=>MR κ a b st c f\/PZ κ a b st (x+1+1) c f) ?st2 ?en2 (PZ.mk l M)) ?po2)
    case en2 =>
     rintro c st3 ⟨G,i',j',o',mg',ac,bc,rfl,F⟩;exact .inr (PZ.mk G (F.mono (by lia)))
    case po2 =>
     rintro⟨c1,c2⟩ st3 (⟨G,r,e,hr⟩ | ⟨G,i',j',o',mg',ac,bc,e,F⟩)
     .cases e;exact wpS_pure (MR.mk G hr)
     .cases e;refine wpS_bind (V5 G λst4 D=>?_);exact wpS_pure ⟨D,_,_,_,_,rfl,F⟩
    case st2 =>
     rintro x3 c st3 _ _ ⟨G,i3,j3,o3,mg3,ac3,bc3,rfl,F⟩;obtain⟨bj,n⟩:=X5 (a:=b) (i:=j3-1) F.lb;apply Tc (mg3-1) (y:=mg3)
     case e=>exact rfl
     intro g;refine wpS_bind (V5 G λst4 D=>?_);refine wpS_bind (C9 n (wpS_bind (l9 C (D.knd hk) (P.kb _ _ n) (by rw[FF];exact F.ia) P.ka (λu v p q W _ H e2=>r8 P.sa (EF W _) (IH.mp H) (IH.mp e2)) (Nat.sub_lt F.hi GY) λk X k1 k2=>?_)));dsimp only;have m4:ON κ a b (o3 ++(a.extract k i3).reverse) k j3:=P.heA F.m X λy hy z J=>by
      obtain⟨t,Y,Z,e⟩:=Wh hy;exact IV (Dv P.sb (IH.mp n) z J) (KeyOrd.kle_of_klt (Al (k2 t y Y Z (by rw[FF];exact IH.mpr e))))
     have S:∀z∈a.toList.take k,le κ z bj:=λz J=>by
      obtain⟨t,ht,_,e⟩:=Nm J;exact Ew (k1 t z ht (by rw[FF];exact IH.mpr e))
     generalize hd:i3-k=d;apply Do (o:=o3) (i:=i3) (λo i=>OJ κ a b (x+1+x3) o i j3/\∀z∈a.toList.take i,le κ z bj)
     .rintro o4 i4 ⟨p4,S⟩;refine wpS_bind (C9 n ?_);have m5:=P.hpB p4.m p4.hj1 n S;refine O8 (λe3=>wpS_pure (.inl (MR.mk D (P.hfB m5 e3)))) λe3=>?_;have p5:=p4.putB m5 e3;generalize o4.push bj=o5 at m5 p5⊢;generalize j3-1=j5 at m5 p5⊢;obtain⟨ai,B⟩:=X5 (a:=a) (i:=i4-1) p5.la;refine wpS_bind (C9 B (wpS_bind (l9 C (D.knd hk) (P.ka _ _ B) (by rw[FF];exact p5.jb) P.kb (λu v p q W _ H e2=>r8 P.sb (EF W _) (IH.mp H) (IH.mp e2)) (Nat.sub_lt p5.hj1 GY) λk' K k1' k2'=>?_)));dsimp only;have T:∀z∈b.toList.take k',le κ z ai:=λz J=>by
       obtain⟨t,ht,_,e⟩:=Nm J;exact KeyOrd.kle_of_klt (Je (k1' t z ht (by rw[FF];exact IH.mpr e)))
      generalize hd':j5-k'=d';apply Do (o:=o5) (i:=j5) (λo j=>OJ κ a b (x+1+x3+1) o i4 j/\∀z∈b.toList.take j,le κ z ai)
      .rintro o6 j6 ⟨p6,T⟩;refine wpS_bind (C9 B ?_);have m7:=P.hpA p6.m p6.hi B T;refine O8 (λe5=>wpS_pure (.inl (MR.mk D (P.hdA m7 e5)))) λe5=>?_;have p7:=p6.putA m7 e5;exact S8 (λ_=>wpS_pure (.inr (PZ.mk D (p7.mono (by lia))))) λ_=>wpS_pure (PZ.mk D (p7.mono (by lia)))
      .intro hF L;have m6:ON κ a b (o5 ++(b.extract k' j5).reverse) i4 k':=P.heB m5 K λy hy z J=>by
        obtain⟨t,Y,Z,e⟩:=Wh hy;exact IV (Dv P.sa (IH.mp B) z J) (Ea (k2' t y Y Z (by rw[FF];exact IH.mpr e)))
       obtain⟨_,h1,h2,h3,h4,h5⟩:=p5;exact O8 (λe4=>wpS_pure (.inl (MR.mk D (P.hfB m6 e4)))) λe4=>O8 (λe5=>wpS_pure (.inl (MR.mk D (P.hdB m6 e5)))) λe5=>hF _ _ ⟨⟨m6,h1,by lia,h3,Nat.le_trans K h4,by lia⟩,T⟩
      .intro L;have z0:k'=j5:=Nat.le_antisymm K (Nat.le_of_sub_eq_zero (hd'.trans (GB L)));subst z0;exact⟨p5,T⟩
     .intro hF L;obtain⟨_,h1,h2,h3,h4,h5⟩:=F;exact O8 (λH=>wpS_pure (.inl (MR.mk D (P.hdA m4 H)))) λH=>hF _ _ ⟨⟨m4,by lia,h2,Nat.le_trans X h3,h4,by lia⟩,S⟩
     .intro L;have z0:k=i3:=Nat.le_antisymm X (Nat.le_of_sub_eq_zero (hd.trans (GB L)));subst z0;exact⟨F,S⟩
end
section
variable{prog:CM}{w:F8}{A:IC}{E:A2->A4->Prop}{s:A4}{κ:KeyKind}{kd:JQ}
def JJ(l:A1 A7)(lo n:Nat):A1 A7:=(l.drop lo).take n
theorem Qy(m:A1 A7)(lo:Nat):∀(n:Nat) (a:F1 A7),lo+n+m.length<=a.size ->
  ((m.zipIdx n).foldl (λa (x:A7×Nat)=>a.setIfInBounds (lo+x.2) x.1) a).size=a.size /\
  ∀t:Nat,((m.zipIdx n).foldl (λa (x:A7×Nat)=>a.setIfInBounds (lo+x.2) x.1) a)[t]?=if lo+n<=t/\t<lo+n+m.length then m[t-(lo+n)]? else a[t]?:=by
 induction m with
 | nil =>
  intro n a h;refine⟨rfl,λt=>?_⟩;rw[AI (by simp only[GZ];omega)];rfl
 | cons p m d =>
  intro n a h;rw[BM]at h;rw[List.zipIdx_cons,List.foldl_cons];obtain⟨e,f⟩:=d (n+1) (a.setIfInBounds (lo+n) p) (by rw[GU];omega);refine⟨e.trans GU,λt=>?_⟩;rw[f t,BM];by_cases b:lo+n=t
  .subst b;rw[AI (by omega),AK (by omega),Array.getElem?_setIfInBounds_self_of_lt (by omega),Nat.sub_self];rfl
  .by_cases c:lo +(n+1)<=t/\t<lo +(n+1)+m.length
   .rw[AK c,AK (by omega),show t-(lo+n) =(t-(lo +(n+1)))+1 by omega,List.getElem?_cons_succ]
   .rw[AI c,AI (by omega),Array.getElem?_setIfInBounds_ne b]
theorem Ca(m:A1 A7)(lo:Nat)(a:F1 A7)(h:lo+m.length<=a.size) :
  (m.zipIdx.foldl (λa (x:A7×Nat)=>a.setIfInBounds (lo+x.2) x.1) a).toList=a.toList.take lo++m++a.toList.drop (lo+m.length):=by
 obtain⟨e,c⟩:=Qy m lo 0 a (by omega);refine FQ λt=>?_;rw[BN,c t];have b:(a.toList.take lo).length=lo:=by rw[AX,AR];omega
 by_cases d:t<lo
 .rw[AI (by omega),BG,DU (by omega),DI d,BN]
 .by_cases f:t<lo+m.length
  .rw[AK (by omega),DU (by rw[AZ];omega),DM (by omega),b];rfl
  .rw[AI (by omega),DM (by rw[AZ];omega),AZ,b,GC,BN];congr 1;omega
theorem Oz(l:A1 A7)(lo n:Nat):l=l.take lo++JJ l lo n++l.drop (lo+n):=by
 unfold JJ;rw[BG,<-FH,BT,BT]
theorem Jk(l:A1 A7)(lo n m:Nat):JJ l lo (n+m)=JJ l lo n++JJ l (lo+n) m:=by
 unfold JJ;rw[List.take_add,FH]
structure LC(κ:KeyKind)(l l':A1 A7)(lo n:Nat):Prop where
 perm:l'.Perm l
 front:l'.take lo=l.take lo
 back:l'.drop (lo+n)=l.drop (lo+n)
theorem LC.refl(l:A1 A7)(lo n:Nat):LC κ l l lo n:=⟨List.Perm.refl _,rfl,rfl⟩
theorem LC.seg_front{l a:A1 A7}{lo n:Nat}(h:LC κ l a lo n){u m:Nat}(b:u+m<=lo):JJ a u m=JJ l u m:=by
 have:∀x:A1 A7,JJ x u m =((x.take lo).drop u).take m:=λx=>by
  unfold JJ;rw[GL,List.take_take,FA (by omega)]
 rw[this,this,h.front]
theorem LC.seg_back{l a:A1 A7}{lo n:Nat}(h:LC κ l a lo n){u m:Nat}(b:lo+n<=u):JJ a u m=JJ l u m:=by
 have:∀x:A1 A7,JJ x u m =((x.drop (lo+n)).drop (u-(lo+n))).take m:=λx=>by
  unfold JJ;rw[FH,show lo+n +(u-(lo+n))=u by omega]
 rw[this,this,h.back]
theorem LC.of{l z:A1 A7}{lo n:Nat}(a:z.Perm (JJ l lo n))(d:lo+n<=l.length):LC κ l (l.take lo++z++l.drop (lo+n)) lo n/\JJ (l.take lo++z++l.drop (lo+n)) lo n=z:=by
 have b:(l.take lo).length=lo:=by rw[AX];omega
 have c:z.length=n:=by
  rw[a.length_eq];unfold JJ;rw[AX,CY];omega
 refine⟨⟨?_,?_,?_⟩,?_⟩
 .conv=>rhs;rw[Oz l lo n]
  exact DP _ (DJ _ a)
 .rw[BG,List.take_append_of_le_length (by omega),CK (by omega)]
 .rw[List.drop_append,FE (by rw[AZ];omega),List.nil_append,AZ,b,c,Nat.sub_self,FI]
 .unfold JJ;rw[BG,List.drop_append,FE (by omega),List.nil_append,b,Nat.sub_self,FI,List.take_append_of_le_length (by omega),CK (by omega)]
structure St(κ:KeyKind)(kd:JQ)(a₀:F1 A7)(st:HX):Prop where
 perm:(arrOf st).toList.Perm a₀.toList
 kind:kindOf st=kd
 failed:failedOf st=none
theorem St.size{a₀:F1 A7}{st:HX}(h:St κ kd a₀ st):(arrOf st).size=a₀.size:=by
 have:=h.perm.length_eq;simpa using this
theorem St.has{a₀:F1 A7}{st:HX}(h:St κ kd a₀ st)(b:KeysOf κ a₀)(i:Nat)(p:A7)(e:(arrOf st)[i]?=some p):Q_ κ p :=
 b p (h.perm.mem_iff.mp (AL (IH.mp e)))
theorem Q0{l:A1 A7}{lo n t:Nat}(a:t<n):(JJ l lo n)[t]?=l[lo+t]?:=by
 unfold JJ;rw[DI a,GC]
theorem Jp(i:Nat):mergeAt' i =(do
  let u <-get
  let(some (b,c,f),some (e,d,_)):=((pendingOf u)[i]?,(pendingOf u)[i+1]?) | unsupported "internal:list.sort.pending"
  set (setPending u (((pendingOf u).setIfInBounds i (b,c+d,f)).eraseIdxIfInBounds (i+1)))
  let some k <-U1 false (<-elem' (arrOf u) e) (arrOf u) b c 0 | return false
  let(b,c):=(b+k,c-k)
  if c == 0 then return true
  let some d <-U1 true (<-elem' (arrOf u) (b+c-1)) (arrOf u) e d (d-1) | return false
  if d == 0 then return true
  let x:=(arrOf u).extract b e
  let y:=(arrOf u).extract e (e+d)
  let g <-if c<=d then Eg x y else Dn x y
  modify λv=>setArr v (g.toList.zipIdx.foldl (λa (z:A7×Nat)=>a.setIfInBounds (b+z.2) z.1) (arrOf v))
  return(failedOf (<-get)).isNone):=rfl
theorem Yt{st st2:HX}{Q:PUnit->HX->Prop}(h:Q ⟨⟩ st2):wpS (model prog w) A E s (set st2:StateT HX Sem PUnit) Q st:=by
 unfold wpS;rw[StateT.run_set];exact AG ⟨rfl,h⟩
theorem Jr(C:QQ prog w A s κ kd){a₀:F1 A7}(L:KeysOf κ a₀){st:HX}{i b c pw sb f pw2:Nat}{Q:Bool->HX->Prop}(j:St κ kd a₀ st)
  (hi:(pendingOf st)[i]?=some (b,c,pw)) (hj:(pendingOf st)[i+1]?=some (sb,f,pw2)) (hsb:sb=b+c) (hsz:sb+f<=a₀.size) (hna:1<=c) (hnb:1<=f)
  (N:KR κ (JJ (arrOf st).toList b c)) (O:KR κ (JJ (arrOf st).toList sb f))
  (h:∀n,St κ kd a₀ n->LC κ (arrOf st).toList (arrOf n).toList b (c+f)->KR κ (JJ (arrOf n).toList b (c+f)) ->
   pendingOf n =((pendingOf st).setIfInBounds i (b,c+f,pw)).eraseIdxIfInBounds (i+1)->Q true n):wpS (model prog w) A E s (mergeAt' i) Q st:=by
 subst hsb;have hL:(arrOf st).toList.length=a₀.size:=by rw[AR];exact j.size
 have hsz':=j.size;rw[Jp];refine wpS_bind (wpS_get ?_);rw[hi,hj];dsimp only;refine wpS_bind (Yt ?_);obtain⟨R,D⟩:=X5 (a:=arrOf st) (i:=b+c) (by omega);have S:∀u v p q,u<=v->v<c->(arrOf st)[b+u]?=some p->(arrOf st)[b+v]?=some q->le κ p q:=λu v p q H hv T F =>
  r8 N H (by rw[Q0 (by omega)];exact IH.mp T) (by rw[Q0 hv];exact IH.mp F)
 have U:∀u v p q,u<=v->v<f->(arrOf st)[b+c+u]?=some p->(arrOf st)[b+c+v]?=some q->le κ p q:=λu v p q H hv T F =>
  r8 O H (by rw[Q0 (by omega)];exact IH.mp T) (by rw[Q0 hv];exact IH.mp F)
 refine wpS_bind (C9 D (wpS_bind (l9 C j.kind (j.has L _ _ D) (by omega) (j.has L) S (by omega) λk hk1 k1 k2=>?_)));dsimp only;have V:∀z∈JJ (arrOf st).toList (b+c) f,le κ R z:=λz I=>by
  obtain⟨t,l,e⟩:=Ck I;exact U 0 t R z (by omega) l D (IH.mpr e)
 have xk:∀x∈(JJ (arrOf st).toList b c).take k,le κ x R:=λx hx=>by
  obtain⟨t,l,o,e⟩:=Nm hx;unfold JJ at o;rw[AX]at o;rw[Q0 (by omega)]at e;exact Ew (k1 t x l (IH.mpr e))
 have kx:∀x∈(JJ (arrOf st).toList b c).drop k,le κ R x:=λx hx=>by
  obtain⟨t,l,e⟩:=Jl hx;unfold JJ at l;rw[AX]at l;rw[Q0 (by omega)]at e;exact KeyOrd.kle_of_klt (Al (k2 (k+t) x (by omega) (by omega) (IH.mpr e)))
 have W:St κ kd a₀ (setPending st (((pendingOf st).setIfInBounds i (b,c+f,pw)).eraseIdxIfInBounds (i+1))):=⟨j.perm,j.kind,j.failed⟩;by_cases X:c-k=0
 .rw[AK (by simpa using X)];have hkk:k=c:=by omega
  refine wpS_pure (h _ W (LC.refl _ _ _) ?_ rfl);show KR κ (JJ (arrOf st).toList b (c+f));rw[Jk];refine CO.mpr ⟨N,O,λx hx y hy=>IV (xk x ?_) (V y hy)⟩;rw[CK (by unfold JJ;rw[AX];omega)];exact hx
 rw[AI (by simpa using X)];obtain⟨M,J⟩:=X5 (a:=arrOf st) (i:=b+k +(c-k)-1) (by omega);refine wpS_bind (C9 J (wpS_bind (l9 C W.kind (j.has L _ _ J) (by omega) (j.has L) U (by omega) λg Y k1' k2'=>?_)));dsimp only;have G:(arrOf st)[b +(c-1)]?=some M:=by rw[show b +(c-1)=b+k +(c-k)-1 by omega];exact J
 have K:∀x∈JJ (arrOf st).toList b c,le κ x M:=λx hx=>by
  obtain⟨t,l,e⟩:=Ck hx;exact S t (c-1) x M (by omega) (by omega) (IH.mpr e) G
 have yk:∀y∈(JJ (arrOf st).toList (b+c) f).take g,le κ y M:=λy hy=>by
  obtain⟨t,l,o,e⟩:=Nm hy;unfold JJ at o;rw[AX]at o;rw[Q0 (by omega)]at e;exact KeyOrd.kle_of_klt (Je (k1' t y l (IH.mpr e)))
 have ky:∀y∈(JJ (arrOf st).toList (b+c) f).drop g,le κ M y:=λy hy=>by
  obtain⟨t,l,e⟩:=Jl hy;unfold JJ at l;rw[AX]at l;rw[Q0 (by omega)]at e;exact Ea (k2' (g+t) y (by omega) (by omega) (IH.mpr e))
 by_cases B:g=0
 .rw[AK (by simpa using B)];refine wpS_pure (h _ W (LC.refl _ _ _) ?_ rfl);show KR κ (JJ (arrOf st).toList b (c+f));rw[Jk];refine CO.mpr ⟨N,O,λx hx y hy=>IV (K x hx) (ky y ?_)⟩;rw[B,FI];exact hy
 rw[AI (by simpa using B)];have Z:((arrOf st).extract (b+k) (b+c)).toList =(JJ (arrOf st).toList b c).drop k:=by
  rw[Jn];unfold JJ;rw[GL,GL,FH];congr 1;omega
 have ey:((arrOf st).extract (b+c) (b+c+g)).toList =(JJ (arrOf st).toList (b+c) f).take g:=by
  rw[Eb];unfold JJ;rw[List.take_take,FA Y]
 have P:MP κ ((arrOf st).extract (b+k) (b+c)) ((arrOf st).extract (b+c) (b+c+g)):=by
  refine⟨by rw[Z];exact N.sublist (FN _ _),by rw[ey];exact O.sublist (EY _ _),λt p e=>?_,λt p e=>?_,?_,?_,λq e z I=>?_,λp e z I=>?_⟩
  .have m:=AL (IH.mp e);rw[Z]at m;obtain⟨u,_,F⟩:=Ck (EW m);exact j.has L _ p (IH.mpr F)
  .have m:=AL (IH.mp e);rw[ey]at m;obtain⟨u,_,F⟩:=Ck (DG m);exact j.has L _ p (IH.mpr F)
  .rw[GD];omega
  .rw[GD];omega
  .have m:=IH.mp e;rw[ey,DI (by omega),Q0 (by omega)]at m;have:q=R:=by
    have:=IH.mp D;rw[Nat.add_zero,this]at m;exact(BE m).symm
   subst this;rw[Z]at I;exact kx z I
  .have m:=IH.mp e;rw[Z,GD,GC,Q0 (by omega)]at m;have:p=M:=by
    have q:=IH.mp G;rw[show k +(min (b+c) (arrOf st).size-(b+k)-1)=c-1 by omega,q]at m;exact(BE m).symm
   subst this;rw[ey]at I;exact yk z I
 have fin:∀(r:F1 A7) (d:HX),Sm (setPending st (((pendingOf st).setIfInBounds i (b,c+f,pw)).eraseIdxIfInBounds (i+1))) d->Rm κ ((arrOf st).extract (b+k) (b+c)) ((arrOf st).extract (b+c) (b+c+g)) r ->
   Q (failedOf (setArr d (r.toList.zipIdx.foldl (λa (z:A7×Nat)=>a.setIfInBounds (b+k+z.2) z.1) (arrOf d)))).isNone (setArr d (r.toList.zipIdx.foldl (λa (z:A7×Nat)=>a.setIfInBounds (b+k+z.2) z.1) (arrOf d))):=by
  rintro r d ⟨q1,q2,q3,q4⟩ ⟨r1,r2⟩;rw[Z,ey]at r2;have hrl:r.toList.length =(c-k)+g:=by
   rw[r2.length_eq,AZ];unfold JJ;rw[CY,AX,AX,CY,AX,CY];omega
  have q2':arrOf d=arrOf st:=q2;have ef:failedOf (setArr d (r.toList.zipIdx.foldl (λa (z:A7×Nat)=>a.setIfInBounds (b+k+z.2) z.1) (arrOf d)))=none:=q4.trans j.failed;rw[ef];have el:=Ca r.toList (b+k) (arrOf d) (by rw[q2'];omega);have eq:(r.toList.zipIdx.foldl (λa (z:A7×Nat)=>a.setIfInBounds (b+k+z.2) z.1) (arrOf d)).toList =(arrOf st).toList.take b ++((JJ (arrOf st).toList b c).take k++r.toList ++(JJ (arrOf st).toList (b+c) f).drop g) ++(arrOf st).toList.drop (b +(c+f)):=by
   rw[el,q2',hrl];have T:(arrOf st).toList.take (b+k) =(arrOf st).toList.take b ++(JJ (arrOf st).toList b c).take k:=by
    unfold JJ;rw[List.take_add,List.take_take,FA hk1]
   have F:(arrOf st).toList.drop (b+k +(c-k+g)) =(JJ (arrOf st).toList (b+c) f).drop g ++(arrOf st).toList.drop (b +(c+f)):=by
    unfold JJ;rw[GL,FH,show b+k +(c-k+g)=b+c+g by omega]
    conv=>lhs;rw[<-BT (f-g) ((arrOf st).toList.drop (b+c+g))]
    rw[FH,show b+c+g +(f-g)=b +(c+f) by omega]
   rw[T,F];simp only[BG]
  have hp:((JJ (arrOf st).toList b c).take k++r.toList ++(JJ (arrOf st).toList (b+c) f).drop g).Perm (JJ (arrOf st).toList b (c+f)):=by
   rw[Jk];have a1:((JJ (arrOf st).toList b c).take k++r.toList ++(JJ (arrOf st).toList (b+c) f).drop g).Perm ((JJ (arrOf st).toList b c).take k ++((JJ (arrOf st).toList b c).drop k ++(JJ (arrOf st).toList (b+c) f).take g) ++(JJ (arrOf st).toList (b+c) f).drop g) :=
    DP _ (DJ _ r2)
   refine a1.trans (List.Perm.of_eq ?_);rw[<-BG,BT,BG,BT]
  obtain⟨pa,ps⟩:=LC.of (κ:=κ) hp (by rw[hL];omega);have hs:KR κ ((JJ (arrOf st).toList b c).take k++r.toList ++(JJ (arrOf st).toList (b+c) f).drop g):=by
   refine CO.mpr ⟨CO.mpr ⟨N.sublist (EY _ _),r1,λx hx y hy=>?_⟩,O.sublist (FN _ _),λx hx y hy=>?_⟩
   .rcases BD.mp (r2.mem_iff.mp hy)with hy | hy
    .exact IV (xk x hx) (kx y hy)
    .exact IV (xk x hx) (V y (DG hy))
   .rcases BD.mp hx with hx | hx
    .exact IV (K x (DG hx)) (ky y hy)
    .rcases BD.mp (r2.mem_iff.mp hx)with hx | hx
     .exact IV (K x (EW hx)) (ky y hy)
     .exact IV (yk x hx) (ky y hy)
  refine h _ ⟨?_,q1.trans j.kind,q4.trans j.failed⟩ ?_ ?_ q3
  .show(r.toList.zipIdx.foldl (λa (z:A7×Nat)=>a.setIfInBounds (b+k+z.2) z.1) (arrOf d)).toList.Perm a₀.toList;rw[eq];exact pa.perm.trans j.perm
  .show LC κ (arrOf st).toList (r.toList.zipIdx.foldl (λa (z:A7×Nat)=>a.setIfInBounds (b+k+z.2) z.1) (arrOf d)).toList b (c+f);rw[eq];exact pa
  .show KR κ (JJ (r.toList.zipIdx.foldl (λa (z:A7×Nat)=>a.setIfInBounds (b+k+z.2) z.1) (arrOf d)).toList b (c+f));rw[eq,ps];exact hs
 by_cases hab:c-k<=g
 .rw[AK hab];refine wpS_bind (Jm C W.kind P λr d q r1=>?_);exact wpS_bind (wpS_modify (wpS_bind (wpS_get (wpS_pure (fin r d q r1)))))
 .rw[AI hab];refine wpS_bind (Ja C W.kind P λr d q r1=>?_);exact wpS_bind (wpS_modify (wpS_bind (wpS_get (wpS_pure (fin r d q r1)))))
end
section
variable{prog:CM}{w:F8}{A:IC}{E:A2->A4->Prop}{s:A4}{κ:KeyKind}{kd:JQ}{a₀:F1 A7}
theorem Tu{xs:F1 A7}{i:Nat}{p:A7}(h:xs[i]?=some p):KK κ xs i=kk κ p:=by unfold KK kk;rw[h]
def SI(κ:KeyKind)(xs:F1 A7)(lo m:Nat):Prop:=∀i j,i<=j->j<m->κ.kle (KK κ xs (lo+i)) (KK κ xs (lo+j))
def NI(κ:KeyKind)(xs:F1 A7)(lo m:Nat):Prop:=∀i j,i<=j->j<m->κ.kle (KK κ xs (lo+j)) (KK κ xs (lo+i))
theorem SI.sor{xs:F1 A7}{lo m:Nat}(h:SI κ xs lo m):KR κ (JJ xs.toList lo m):=by
 refine List.pairwise_iff_getElem.mpr λi j a b c=>?_;unfold JJ at a b;rw[AX]at a b;have d:xs[lo+i]?=some (JJ xs.toList lo m)[i]:=by
  rw[IH,<-Q0 (n:=m) (by omega)];exact AC _
 have e:xs[lo+j]?=some (JJ xs.toList lo m)[j]:=by
  rw[IH,<-Q0 (n:=m) (by omega)];exact AC _
 have:=h i j (by omega) (by omega);rw[Tu d,Tu e]at this;exact this
structure Lo(κ:KeyKind)(kd:JQ)(a₀:F1 A7)(st0:HX)(lo n:Nat)(st:HX):Prop where
 S:St κ kd a₀ st
 pend:pendingOf st=pendingOf st0
 out:∀t,t<lo\/lo+n<=t->(arrOf st)[t]? =(arrOf st0)[t]?
theorem Lo.part{st0 st:HX}{lo n:Nat}(h:Lo κ kd a₀ st0 lo n st)(c:St κ kd a₀ st0):LC κ (arrOf st0).toList (arrOf st).toList lo n:=by
 refine⟨h.S.perm.trans c.perm.symm,FQ λt=>?_,FQ λt=>?_⟩
 .by_cases b:t<lo
  .rw[DI b,DI b,BN,BN];exact h.out t (.inl b)
  .rw[EQ (by rw[AX];omega),EQ (by rw[AX];omega)]
 .rw[GC,GC,BN,BN];exact h.out _ (.inr (by omega))
theorem Lo.mirror{st0 st:HX}{lo n i j:Nat}(h:Lo κ kd a₀ st0 lo n st)(hi:lo<=i)(c:j<=lo+n)(d:lo+n<=a₀.size):Lo κ kd a₀ st0 lo n (setArr st (mirror (arrOf st) i j ((j-i) / 2))):=by
 refine⟨⟨(Array.perm_iff_toList_perm.mp (mirror_perm _ _ _ _)).trans h.S.perm,h.S.kind,h.S.failed⟩,h.pend,λt b=>?_⟩;show(PyProof.Rows.mirror (arrOf st) i j ((j-i) / 2))[t]?=_;have:=h.S.size;rw[getElem?_mirror_all (by omega),AI (by omega)];exact h.out t b
theorem R1(C:QQ prog w A s κ kd)(e:KeysOf κ a₀){st:HX}(b:St κ kd a₀ st){i j:Nat}{Q:A5 Bool->HX->Prop}(hi:i<a₀.size)(f:j<a₀.size)
  (h:Q (some (κ.blt (KK κ (arrOf st) i) (KK κ (arrOf st) j))) st):wpS (model prog w) A E s (ltAt' i j) Q st:=by
 have:=b.size;obtain⟨p,c⟩:=X5 (a:=arrOf st) (i:=i) (by omega);obtain⟨q,d⟩:=X5 (a:=arrOf st) (i:=j) (by omega);rw[ltAt'_eq];refine wpS_bind (wpS_get ?_);refine wpS_bind (C9 c (wpS_bind (C9 d (Hy C b.kind (b.has e _ _ c) (b.has e _ _ d) ?_))));rw[Tu c,Tu d]at h;exact h
theorem SQ{st:HX}{lo a b:Nat}{f:Nat->(A5 (A5 Nat)×Nat)->StateT HX Sem (ForInStep (A5 (A5 Nat)×Nat))}{Q:(A5 (A5 Nat)×Nat)->HX->Prop}
  (y:∀x n,1<=n->n<b->wpS (model prog w) A E s (f x (none,n)) (λr k=>k=st/\r=if κ.blt (KK κ (arrOf st) (lo+n)) (KK κ (arrOf st) (lo+n-1))=true then .done (none,n)else .yield (none,n+1)) st)
  (B:1<=a) (m:a<=b) (z:SI κ (arrOf st) lo a)
  (h:∀n,a<=n->n<=b->SI κ (arrOf st) lo n->(n=b\/κ.klt (KK κ (arrOf st) (lo+n)) (KK κ (arrOf st) (lo+n-1)))->Q (none,n) st):wpS (model prog w) A E s (forIn [a:b] (none,a) f) Q st:=by
 refine wpS_forRange (I:=λx c k=>k=st/\c =(none,x)/\SI κ (arrOf st) lo x) ?_ ?_ ⟨rfl,rfl,z⟩
 .rintro x c k o p ⟨rfl,rfl,g⟩;refine wpS_mono (y x x (by omega) p) λr l ⟨e,er⟩=>?_;subst e;cases d:κ.blt (KK κ (arrOf l) (lo+x)) (KK κ (arrOf l) (lo+x-1))
  .rw[d,AI AW]at er;subst er;refine⟨rfl,rfl,λi j q C=>?_⟩;by_cases t:j<x
   .exact g i j q t
   .have u:j=x:=by omega
    subst u;by_cases v:i=j
    .subst v;exact KeyOrd.kle_refl _
    .have:=g i (j-1) (by omega) (by omega);rw[show lo +(j-1)=lo+j-1 by omega]at this;exact KeyOrd.kle_trans this d
  .rw[d,AK rfl]at er;subst er;exact h x o (by omega) g (.inr d)
 .rintro c k ⟨rfl,rfl,g⟩;rw[show max a b=b by omega]at g⊢;exact h b m (Nat.le_refl _) g (.inl rfl)
theorem NI.step{xs ys:F1 A7}{lo x:Nat}(h:1<=x)(e:∀k,KK κ ys k=KK κ xs k)(f:NI κ xs lo x)(g:κ.kle (KK κ xs (lo+x)) (KK κ xs (lo+x-1))):NI κ ys lo (x+1):=by
 intro i j a l;rw[e,e];by_cases b:j<x
 .exact f i j a b
 .have c:j=x:=by omega
  subst c;by_cases d:i=j
  .subst d;exact KeyOrd.kle_refl _
  .have:=f i (j-1) (by omega) (by omega);rw[show lo +(j-1)=lo+j-1 by omega]at this;exact KeyOrd.kle_trans g this
abbrev DS:=A5 (A5 Nat)×Nat×Nat
theorem zCm{st0 st:HX}{lo n d:Nat}(hsz:lo+d<=a₀.size){f:Nat->DS->StateT HX Sem (ForInStep DS)}{Q:DS->HX->Prop}
  (H:∀x n q b,1<=n->n<d->Lo κ kd a₀ st0 lo d b->wpS (model prog w) A E s (f x (none,n,q)) (λr st2 =>
   if κ.blt (KK κ (arrOf b) (lo+n)) (KK κ (arrOf b) (lo+n-1))=true then(st2=if q>0 then setArr b (mirror (arrOf b) (lo+n-(q+1)) (lo+n) ((lo+n-(lo+n-(q+1))) / 2))else b)/\r = .yield (none,n+1,0)
   else st2=b/\r=if κ.blt (KK κ (arrOf b) (lo+n-1)) (KK κ (arrOf b) (lo+n))=true then .done (none,n,q)else .yield (none,n+1,q+1)) b)
  (h1:1<=n) (z:n<=d) (J:Lo κ kd a₀ st0 lo d st) (K:NI κ (arrOf st) lo n)
  (h:∀m q b,Lo κ kd a₀ st0 lo d b->n<=m->m<=d->NI κ (arrOf b) lo m->q+1<=m->(∀i,m-(q+1)<=i->i<m->KK κ (arrOf b) (lo+i)=KK κ (arrOf b) (lo+m-1))->Q (none,m,q) b) :
  wpS (model prog w) A E s (forIn [n:d] (none,n,0) f) Q st:=by
 refine wpS_forRange (I:=λx c b=>∃q,c =(none,x,q)/\Lo κ kd a₀ st0 lo d b/\NI κ (arrOf b) lo x/\q+1<=x /\
   (∀i,x-(q+1)<=i->i<x->KK κ (arrOf b) (lo+i)=KK κ (arrOf b) (lo+x-1))) ?_ ?_ ⟨0,rfl,J,K,by omega,λi h1 M=>by congr 1;omega⟩
 .rintro x c b B C ⟨q,rfl,j,l,v,p⟩;have L:=j.S.size;refine wpS_mono (H x x q b (by omega) C j) λr st2 y=>?_;cases g:κ.blt (KK κ (arrOf b) (lo+x)) (KK κ (arrOf b) (lo+x-1))
  .rw[g,AI AW]at y;obtain⟨e,er⟩:=y;subst e;cases o:κ.blt (KK κ (arrOf st2) (lo+x-1)) (KK κ (arrOf st2) (lo+x))
   .rw[o,AI AW]at er;subst er;have t:KK κ (arrOf st2) (lo+x)=KK κ (arrOf st2) (lo+x-1):=KeyOrd.kle_antisymm o g;refine⟨q+1,rfl,j,NI.step (by omega) (λ_=>rfl) l o,by omega,λi D F=>?_⟩;rw[show lo +(x+1)-1=lo+x by omega];by_cases G:i=x
    .subst G;rfl
    .rw[t];exact p i (by omega) (by omega)
   .rw[o,AK rfl]at er;subst er;exact h x q st2 j B (by omega) l v p
  .rw[g,AK rfl]at y;obtain⟨e,er⟩:=y;subst er;have o:κ.kle (KK κ (arrOf b) (lo+x)) (KK κ (arrOf b) (lo+x-1)):=KeyOrd.kle_of_klt g;by_cases u:q>0
   .rw[AK u]at e;subst e;refine⟨0,rfl,j.mirror (by omega) (by omega) hsz,NI.step (by omega) (KK_mirror_equal (by omega) λk D F=>?_) l o,by omega,λi D F=>by congr 1;omega⟩;have:=p (k-lo) (by omega) (by omega);rw[show lo +(k-lo)=k by omega]at this;exact this
   .rw[AI u]at e;subst e;exact⟨0,rfl,j,NI.step (by omega) (λ_=>rfl) l o,by omega,λi D F=>by congr 1;omega⟩
 .rintro c b ⟨q,rfl,j,l,v,p⟩;rw[show max n d=d by omega]at l v p⊢;exact h d q b j z (Nat.le_refl _) l v p
theorem NI.turn{xs:F1 A7}{lo n:Nat}(a:lo+n<=xs.size)(h:NI κ xs lo n):SI κ (mirror xs lo (lo+n) ((lo+n-lo) / 2)) lo n:=by
 intro i j b c;rw[KK_mirror a,KK_mirror a,AK (by omega),AK (by omega)];have:=h (n-1-j) (n-1-i) (by omega) (by omega);rw[show lo +(n-1-i)=lo +(lo+n)-1-(lo+i) by omega,show lo +(n-1-j)=lo +(lo+n)-1-(lo+j) by omega]at this;exact this
theorem Fc(C:QQ prog w A s κ kd)(D:KeysOf κ a₀){st:HX}{lo c:Nat}{Q:A5 Nat->HX->Prop}(W:St κ kd a₀ st)(hsz:lo+c<=a₀.size)(h1:1<=c)
  (h:∀m b,Lo κ kd a₀ st lo c b->1<=m->m<=c->SI κ (arrOf b) lo m->Q (some m) b):wpS (model prog w) A E s (countRun' lo c) Q st:=by
 have X:Lo κ kd a₀ st lo c st:=⟨W,rfl,λ_ _=>rfl⟩;rw[countRun'_eq];dsimp only;refine wpS_bind (SQ (κ:=κ) (lo:=lo) (λx n G H=>?_) (Nat.le_refl 1) h1 (λi j p P=>by have:i=j:=(by omega);subst this;exact KeyOrd.kle_refl _) λn R T F Y=>?_)
 .dsimp only;refine wpS_bind (R1 C D W (by omega) (by omega) ?_);dsimp only;cases κ.blt (KK κ (arrOf st) (lo+n)) (KK κ (arrOf st) (lo+n-1))
  .exact wpS_pure ⟨rfl,rfl⟩
  .exact wpS_pure ⟨rfl,rfl⟩
 dsimp only;by_cases I:n=c
 .rw[AK (by simpa using I)];exact wpS_pure (h n st X R T F)
 rw[AI (by simpa using I)];have U:κ.klt (KK κ (arrOf st) (lo+n)) (KK κ (arrOf st) (lo+n-1)):=Y.resolve_left I;have hz:=W.size;by_cases V:n>1
 .rw[AK V];refine wpS_bind (R1 C D W (by omega) (by omega) ?_);dsimp only;cases J:κ.blt (KK κ (arrOf st) lo) (KK κ (arrOf st) (lo+n-1))with
  | true =>
   simp only[FD];exact wpS_pure (h n st X R T F)
  | false =>
   simp only[AV,CN];have r:∀k,lo<=k->k<lo+n->KK κ (arrOf st) k=KK κ (arrOf st) (lo+n-1):=by
    intro k hk1 hk2;have a1:=F 0 (k-lo) (by omega) (by omega);have a2:=F (k-lo) (n-1) (by omega) (by omega);rw[Nat.add_zero,show lo +(k-lo)=k by omega]at a1;rw[show lo +(k-lo)=k by omega,show lo +(n-1)=lo+n-1 by omega]at a2;exact KeyOrd.kle_antisymm a2 (KeyOrd.kle_trans J a1)
   have K:=KK_mirror_equal (κ:=κ) (xs:=arrOf st) (i:=lo) (j:=lo+n) (by omega) r;refine wpS_bind (wpS_reverse ?_);have L:=X.mirror (i:=lo) (j:=lo+n) (by omega) (by omega) hsz;have Z:NI κ (mirror (arrOf st) lo (lo+n) ((lo+n-lo) / 2)) lo (n+1):=by
    refine NI.step (by omega) K (λi j p P=>?_) (KeyOrd.kle_of_klt U);rw[r (lo+i) (by omega) (by omega),r (lo+j) (by omega) (by omega)];exact KeyOrd.kle_refl _
   refine wpS_bind (wpS_lift (EC ⟨rfl,?_⟩));refine wpS_bind (zCm (κ:=κ) (kd:=kd) (a₀:=a₀) (st0:=st) (lo:=lo) hsz (λx f q b G H t=>?_) (by omega) (by omega) L Z λm q b l hm1 u v y he=>?_)
   .dsimp only;refine wpS_bind (R1 C D t.S (by omega) (by omega) ?_);dsimp only;cases κ.blt (KK κ (arrOf b) (lo+f)) (KK κ (arrOf b) (lo+f - 1))
    .simp only[AV,CN];refine wpS_bind (R1 C D t.S (by omega) (by omega) ?_);dsimp only;cases κ.blt (KK κ (arrOf b) (lo+f - 1)) (KK κ (arrOf b) (lo+f))
     .exact wpS_pure ⟨rfl,rfl⟩
     .exact wpS_pure ⟨rfl,rfl⟩
    .simp only[FD];by_cases y:q>0
     .rw[AK y,AK y];exact wpS_bind (wpS_reverse (wpS_pure ⟨rfl,rfl⟩))
     .rw[AI y,AI y];exact wpS_pure ⟨rfl,rfl⟩
   .dsimp only;have hz3:=l.S.size;by_cases z:q>0
    .rw[AK z];refine wpS_bind (wpS_reverse (wpS_bind (wpS_reverse ?_)));have g:=l.mirror (i:=lo+m-(q+1)) (j:=lo+m) (by omega) (by omega) hsz;have d:=g.mirror (i:=lo) (j:=lo+m) (by omega) (by omega) hsz;have hz4:=g.S.size;have M:NI κ (mirror (arrOf b) (lo+m-(q+1)) (lo+m) ((lo+m-(lo+m-(q+1))) / 2)) lo m:=by
      have K:=KK_mirror_equal (κ:=κ) (xs:=arrOf b) (i:=lo+m-(q+1)) (j:=lo+m) (by omega) (λk G H=>by
       have:=he (k-lo) (by omega) (by omega);rw[show lo +(k-lo)=k by omega]at this;exact this)
      intro i j p P;rw[K,K];exact v i j p P
     have N:=M.turn (κ:=κ) (lo:=lo) (n:=m) (by rw[mirror_size];omega);refine wpS_bind (SQ (κ:=κ) (lo:=lo) (λx f G H=>?_) (by omega) u N λO B e o _=>wpS_pure (h O _ d (by omega) e o));dsimp only;refine wpS_bind (R1 C D d.S (by omega) (by omega) ?_);dsimp only;cases κ.blt (KK κ _ (lo+f)) (KK κ _ (lo+f - 1))
     .exact wpS_pure ⟨rfl,rfl⟩
     .exact wpS_pure ⟨rfl,rfl⟩
    .rw[AI z];refine wpS_bind (wpS_reverse ?_);have d:=l.mirror (i:=lo) (j:=lo+m) (by omega) (by omega) hsz;have N:=v.turn (κ:=κ) (lo:=lo) (n:=m) (by omega);refine wpS_bind (SQ (κ:=κ) (lo:=lo) (λx f G H=>?_) (by omega) u N λO B e o _=>wpS_pure (h O _ d (by omega) e o));dsimp only;refine wpS_bind (R1 C D d.S (by omega) (by omega) ?_);dsimp only;cases κ.blt (KK κ _ (lo+f)) (KK κ _ (lo+f - 1))
     .exact wpS_pure ⟨rfl,rfl⟩
     .exact wpS_pure ⟨rfl,rfl⟩
 .rw[AI V];have hn1':n=1:=by omega
  have L:=X;have Z:NI κ (arrOf st) lo (n+1):=by
   refine NI.step (by omega) (λ_=>rfl) (λi j p P=>?_) (KeyOrd.kle_of_klt U);have:i=j:=by omega
   subst this;exact KeyOrd.kle_refl _
  refine wpS_bind (wpS_lift (EC ⟨rfl,?_⟩));refine wpS_bind (zCm (κ:=κ) (kd:=kd) (a₀:=a₀) (st0:=st) (lo:=lo) hsz (λx f q b G H t=>?_) (by omega) (by omega) L Z λm q b l hm1 u v y he=>?_)
  .dsimp only;refine wpS_bind (R1 C D t.S (by omega) (by omega) ?_);dsimp only;cases κ.blt (KK κ (arrOf b) (lo+f)) (KK κ (arrOf b) (lo+f - 1))
   .simp only[AV,CN];refine wpS_bind (R1 C D t.S (by omega) (by omega) ?_);dsimp only;cases κ.blt (KK κ (arrOf b) (lo+f - 1)) (KK κ (arrOf b) (lo+f))
    .exact wpS_pure ⟨rfl,rfl⟩
    .exact wpS_pure ⟨rfl,rfl⟩
   .simp only[FD];by_cases y:q>0
    .rw[AK y,AK y];exact wpS_bind (wpS_reverse (wpS_pure ⟨rfl,rfl⟩))
    .rw[AI y,AI y];exact wpS_pure ⟨rfl,rfl⟩
  .dsimp only;have hz3:=l.S.size;by_cases z:q>0
   .rw[AK z];refine wpS_bind (wpS_reverse (wpS_bind (wpS_reverse ?_)));have g:=l.mirror (i:=lo+m-(q+1)) (j:=lo+m) (by omega) (by omega) hsz;have d:=g.mirror (i:=lo) (j:=lo+m) (by omega) (by omega) hsz;have hz4:=g.S.size;have M:NI κ (mirror (arrOf b) (lo+m-(q+1)) (lo+m) ((lo+m-(lo+m-(q+1))) / 2)) lo m:=by
     have K:=KK_mirror_equal (κ:=κ) (xs:=arrOf b) (i:=lo+m-(q+1)) (j:=lo+m) (by omega) (λk G H=>by
      have:=he (k-lo) (by omega) (by omega);rw[show lo +(k-lo)=k by omega]at this;exact this)
     intro i j p P;rw[K,K];exact v i j p P
    have N:=M.turn (κ:=κ) (lo:=lo) (n:=m) (by rw[mirror_size];omega);refine wpS_bind (SQ (κ:=κ) (lo:=lo) (λx f G H=>?_) (by omega) u N λO B e o _=>wpS_pure (h O _ d (by omega) e o));dsimp only;refine wpS_bind (R1 C D d.S (by omega) (by omega) ?_);dsimp only;cases κ.blt (KK κ _ (lo+f)) (KK κ _ (lo+f - 1))
    .exact wpS_pure ⟨rfl,rfl⟩
    .exact wpS_pure ⟨rfl,rfl⟩
   .rw[AI z];refine wpS_bind (wpS_reverse ?_);have d:=l.mirror (i:=lo) (j:=lo+m) (by omega) (by omega) hsz;have N:=v.turn (κ:=κ) (lo:=lo) (n:=m) (by omega);refine wpS_bind (SQ (κ:=κ) (lo:=lo) (λx f G H=>?_) (by omega) u N λO B e o _=>wpS_pure (h O _ d (by omega) e o));dsimp only;refine wpS_bind (R1 C D d.S (by omega) (by omega) ?_);dsimp only;cases κ.blt (KK κ _ (lo+f)) (KK κ _ (lo+f - 1))
    .exact wpS_pure ⟨rfl,rfl⟩
    .exact wpS_pure ⟨rfl,rfl⟩
theorem Lo.bubble{st0 st:HX}{lo n b d:Nat}(h:Lo κ kd a₀ st0 lo n st)(h1:lo+d<=b)(h2:b<lo+n)(e:lo+n<=a₀.size):Lo κ kd a₀ st0 lo n (setArr st (bubble (arrOf st) b d)):=by
 refine⟨⟨(Array.perm_iff_toList_perm.mp (bubble_perm _ _ _)).trans h.S.perm,h.S.kind,h.S.failed⟩,h.pend,λt c=>?_⟩;show(PyProof.Rows.bubble (arrOf st) b d)[t]?=_;have:=h.S.size;rw[getElem?_bubble (by omega) d (by omega),AI (by omega),AI (by omega)];exact h.out t c
theorem Bu(C:QQ prog w A s κ kd)(H:KeysOf κ a₀){st0 st:HX}{lo g n v:Nat}{Q:Bool->HX->Prop}(J:Lo κ kd a₀ st0 lo g st)(hsz:lo+g<=a₀.size)(U:n<=g)(K:v<=n)(L:SI κ (arrOf st) lo v)
  (h:∀b,Lo κ kd a₀ st0 lo g b->SI κ (arrOf b) lo n->Q true b):wpS (model prog w) A E s (binarySort' lo n v) Q st:=by
 rw[binarySort'_eq];refine wpS_bind (wpS_mono (wpS_forRange (I:=λk c b=>c =(none,())/\Lo κ kd a₀ st0 lo g b/\SI κ (arrOf b) lo (min k n))
  (Q:=λc b=>c =(none,())/\Lo κ kd a₀ st0 lo g b/\SI κ (arrOf b) lo n) ?step ?fin ?init) ?post)
 case post =>
  rintro c b ⟨rfl,m,f⟩;exact wpS_pure (h b m f)
 case init =>
  refine⟨rfl,J,λi j y M=>?_⟩;by_cases B:v=0
  .have:i=j:=by omega
   subst this;exact KeyOrd.kle_refl _
  .exact L i j y (by omega)
 case fin =>
  rintro c b ⟨N,m,f⟩;refine⟨N,m,?_⟩
  rwa [show min (max (max v 1) n) n=n by omega]at f
 case step =>
  rintro k c b O P ⟨rfl,m,f⟩;rw[show min k n=k by omega]at f;dsimp only;refine wpS_bind (wpS_mono (wpS_forRange (I:=λx c d=>d=b/\∃l r,c =(none,l,r)/\l<=r/\r<=k/\r-l<=k-x /\
    (∀i,i<l->κ.kle (KK κ (arrOf b) (lo+i)) (KK κ (arrOf b) (lo+k)))/\(∀i,r<=i->i<k->κ.klt (KK κ (arrOf b) (lo+k)) (KK κ (arrOf b) (lo+i))))
   (Q:=λc d=>d=b/\∃l r,c =(none,l,r)/\l<=k /\
    (∀i,i<l->κ.kle (KK κ (arrOf b) (lo+i)) (KK κ (arrOf b) (lo+k)))/\(∀i,l<=i->i<k->κ.klt (KK κ (arrOf b) (lo+k)) (KK κ (arrOf b) (lo+i)))) ?istep ?ifin ?iinit) ?ipost)
  case iinit=>exact⟨rfl,0,k,rfl,by omega,by omega,by omega,λi V=>by omega,λi B G=>by omega⟩
  case ifin =>
   rintro c d ⟨rfl,l,r,rfl,D,u,F,o,p⟩;have:l=r:=by omega
   subst this;exact⟨rfl,l,l,rfl,u,o,p⟩
  case istep =>
   rintro x c d _ R ⟨rfl,l,r,rfl,D,u,F,o,p⟩;dsimp only;by_cases t:l ≥ r
   .rw[AK t];have:l=r:=by omega
    subst this;exact wpS_pure ⟨rfl,l,l,rfl,u,o,p⟩
   .rw[AI t];refine wpS_bind (R1 C H m.S (by omega) (by omega) ?_);dsimp only;cases q:κ.blt (KK κ (arrOf d) (lo+k)) (KK κ (arrOf d) (lo +(l+r) / 2))
    case true =>
     simp only[FD];refine wpS_pure ⟨rfl,l,(l+r) / 2,rfl,by omega,by omega,Zl (Nat.lt_of_not_le t) F,o,λi B G=>?_⟩;exact KeyOrd.klt_of_klt_of_kle q (f _ _ B G)
    case false =>
     simp only[AV,CN];refine wpS_pure ⟨rfl,(l+r) / 2+1,r,rfl,by omega,by omega,Xg (Nat.lt_of_not_le t) F,λi B=>?_,p⟩;exact KeyOrd.kle_trans (f i ((l+r) / 2) (by omega) (by omega)) (show κ.kle _ _ from q)
  case ipost =>
   rintro c d ⟨rfl,l,r,rfl,T,o,p⟩;have W:=m.S.size;show wpS _ _ _ _ (do moveDown' (lo+k) (lo+l);pure (ForInStep.yield (none,()))) _ _;rw[moveDown'_eq];refine wpS_bind (wpS_modify (wpS_pure ⟨rfl,m.bubble (by omega) (by omega) hsz,?_⟩));rw[show min (k+1) n=k+1 by omega];intro i j y M;show κ.kle (KK κ (bubble (arrOf d) (lo+k) (lo+k-(lo+l))) (lo+i)) (KK κ (bubble (arrOf d) (lo+k) (lo+k-(lo+l))) (lo+j));rw[KK_bubble (by omega) (by omega),KK_bubble (by omega) (by omega),show lo+k-(lo+k-(lo+l))=lo+l by omega];have e:∀z,1<=z->lo+z-1=lo +(z-1):=λz _=>by omega
   repeat' split
   all_goals first
    | (exfalso;omega)
    | exact KeyOrd.kle_refl _
    | exact o _ (by omega)
    | exact KeyOrd.kle_of_klt (p _ (by omega) (by omega))
    | exact f _ _ (by omega) (by omega)
    | (rw[e j (by omega)];exact KeyOrd.kle_of_klt (p _ (by omega) (by omega)))
    | (rw[e i (by omega)];exact o _ (by omega))
    | (rw[e j (by omega)];exact f _ _ (by omega) (by omega))
    | (rw[e i (by omega),e j (by omega)];exact f _ _ (by omega) (by omega))
    | (rw[e i (by omega)];exact f _ _ (by omega) (by omega))
end
abbrev Run:=Nat×Nat×Nat
def MF:A1 Run->Nat->Nat->Prop
 | [],a,b=>a=b
 | x::r,a,b=>x.1=a/\1<=x.2.1/\MF r (a+x.2.1) b
def MF.app:∀{i l2:A1 Run} {a b:Nat},MF (i++l2) a b↔∃c,MF i a c/\MF l2 c b
 | [],l2,a,b=>⟨λh=>⟨a,rfl,h⟩,λ⟨c,d,e⟩=>by have:a=c:=d;subst this;exact e⟩
 | x::r,l2,a,b=>by
  constructor
  .rintro⟨d,e,j⟩;obtain⟨c,f,g⟩:=MF.app.mp j;exact⟨c,⟨d,e,f⟩,g⟩
  .rintro⟨c,⟨d,e,f⟩,g⟩;exact⟨d,e,MF.app.mpr ⟨c,f,g⟩⟩
def MF.le:∀{l:A1 Run} {a b:Nat},MF l a b->a+l.length<=b
 | [],a,b,h=>by have:a=b:=h;subst this;simp
 | x::r,a,b,⟨d,e,c⟩=>by have:=MF.le c;rw[BM];omega
def MF.mem:∀{l:A1 Run} {a b:Nat} {x:Run},MF l a b->x∈l->a<=x.1/\x.1+x.2.1<=b
 | [],_,_,_,_,hx=>absurd hx (by simp)
 | y::r,a,b,x,⟨d,f,c⟩,hx=>by
  have g:=MF.le c;rcases AQ.mp hx with e | hx
  .subst e;omega
  .have:=MF.mem c hx;omega
def zFk{l:A1 Run}{i:Nat}{x y:Run}(a:l[i]?=some x)(b:l[i+1]?=some y):l=l.take i++x::y::l.drop (i+2):=by
 obtain⟨c,rfl⟩:=AF.mp a;obtain⟨d,rfl⟩:=AF.mp b
 conv=>lhs;rw[<-BT i l]
 rw[EN c,EN d]
def zEk{l:A1 Run}{i:Nat}{x y:Run}(z:Run)(a:l[i]?=some x)(b:l[i+1]?=some y):(l.set i z).eraseIdx (i+1)=l.take i++z::l.drop (i+2):=by
 obtain⟨d,_⟩:=AF.mp a;obtain⟨f,_⟩:=AF.mp b;have e:=zFk a b;have c:(l.take i).length=i:=by rw[AX];omega
 generalize l.take i=p at *;generalize l.drop (i+2)=q at *;subst e;rw[List.set_append_right _ _ (by omega),c,Nat.sub_self,List.eraseIdx_append_of_length_le (by omega),c,show i+1-i=1 by omega];rfl
section
variable{prog:CM}{w:F8}{A:IC}{E:A2->A4->Prop}{s:A4}{κ:KeyKind}{kd:JQ}{a₀:F1 A7}
structure RI(κ:KeyKind)(kd:JQ)(a₀:F1 A7)(lo:Nat)(st:HX):Prop where
 S:St κ kd a₀ st
 cov:MF (pendingOf st).toList 0 lo
 sor:∀x∈(pendingOf st).toList,KR κ (JJ (arrOf st).toList x.1 x.2.1)
theorem Ji(C:QQ prog w A s κ kd)(I:KeysOf κ a₀){st:HX}{lo i:Nat}{Q:Bool->HX->Prop}(R:RI κ kd a₀ lo st)(J:lo<=a₀.size)(hi:i+1 <(pendingOf st).size)
  (h:∀b,RI κ kd a₀ lo b->(pendingOf b).size+1 =(pendingOf st).size->LC κ (arrOf st).toList (arrOf b).toList 0 lo->Q true b):wpS (model prog w) A E s (mergeAt' i) Q st:=by
 obtain⟨⟨g,d,q⟩,u⟩:∃x,(pendingOf st)[i]?=some x:=⟨_,getElem?_pos _ i (by omega)⟩;obtain⟨⟨K,f,r⟩,n⟩:∃x,(pendingOf st)[i+1]?=some x:=⟨_,getElem?_pos _ (i+1) hi⟩;have j:(pendingOf st).toList[i]?=some (g,d,q):=by rw[BN];exact u
 have k:(pendingOf st).toList[i+1]?=some (K,f,r):=by rw[BN];exact n
 have e:=zFk j k;have c:=R.cov;rw[e]at c;obtain⟨v,B,L⟩:=MF.app.mp c;obtain⟨D,F,M,G,o⟩:=L;dsimp only at D F M G o;have N:=MF.le o;refine Jr C I R.S u n (by omega) (by omega) F G (R.sor _ (AL j)) (R.sor _ (AL k)) λb O p P T=>?_;have t:(pendingOf b).toList =(pendingOf st).toList.take i ++(g,d+f,q) ::(pendingOf st).toList.drop (i+2):=by
  rw[T,<-zEk (g,d+f,q) j k];simp
 refine h b ⟨O,?_,λx l=>?_⟩ ?_ ?_
 .rw[t];exact MF.app.mpr ⟨v,B,D,(by show 1<=d+f;omega),(by show MF _ (v +(d+f)) lo;rw[<-Nat.add_assoc];exact o)⟩
 .rw[t]at l;have m:∀y∈(pendingOf st).toList,(y.1+y.2.1<=g\/g +(d+f)<=y.1)->KR κ (JJ (arrOf b).toList y.1 y.2.1):=λy n ho=>by
   have:=R.sor y n;rcases ho with ho | ho
   .rw[p.seg_front ho];exact this
   .rw[p.seg_back ho];exact this
  rcases BD.mp l with hm | hm
  .have:=MF.mem B hm;exact m x (DG hm) (.inl (by omega))
  .rcases AQ.mp hm with hm | hm
   .subst hm;exact P
   .have:=MF.mem o hm;exact m x (EW hm) (.inr (by omega))
 .have:=congrArg List.length t;rw[AR,AZ,BM,AX,CY,AR]at this;omega
 .have H:∀z:A1 A7,z.drop (0+lo) =(z.drop (g +(d+f))).drop (lo-(g +(d+f))):=λz=>by
   rw[FH];congr 1;omega
  exact⟨p.perm,rfl,by rw[H,H,p.back]⟩
theorem Bo{l:F1 Run}{a:Nat}:(l.modify (l.size-1) λx=>(x.1,x.2.1,a)).toList.map (λx:Run=>(x.1,x.2.1))=l.toList.map λx:Run=>(x.1,x.2.1):=by
 refine FQ λt=>?_;rw[AH,AH,BN,BN,Array.getElem?_modify];split
 .cases l[t]?<;>rfl
 .rfl
theorem MF.congr:∀{l c:A1 Run} {a b:Nat},c.map (λx:Run=>(x.1,x.2.1))=l.map (λx:Run=>(x.1,x.2.1))->MF l a b->MF c a b
 | [],[],_,_,_,h=>h
 | [],_::_,_,_,e,_=>by simp at e
 | _::_,[],_,_,e,_=>by simp at e
 | x::r,y::n,a,b,e,⟨f,g,i⟩=>by
  rw[BC,BC]at e;obtain⟨j,k⟩:=List.cons.inj e;obtain⟨m,d⟩:=Prod.mk.inj j;exact⟨m.trans f,by rw[d];exact g,by rw[d];exact MF.congr k i⟩
theorem RI.congr{lo:Nat}{st:HX}(R:RI κ kd a₀ lo st){p:F1 Run}(e:p.toList.map (λx:Run=>(x.1,x.2.1)) =(pendingOf st).toList.map λx:Run=>(x.1,x.2.1)):RI κ kd a₀ lo (setPending st p):=by
 refine⟨⟨R.S.perm,R.S.kind,R.S.failed⟩,MF.congr e R.cov,λx b=>?_⟩;have:(x.1,x.2.1)∈(pendingOf st).toList.map λx:Run=>(x.1,x.2.1):=by
  rw[<-e];exact BB.mpr ⟨x,b,rfl⟩
 obtain⟨y,c,d⟩:=BB.mp this;obtain⟨f,g⟩:=Prod.mk.inj d;have:=R.sor y c;rw[f,g]at this;exact this
theorem Dy(C:QQ prog w A s κ kd)(v:KeysOf κ a₀){st:HX}{Q:Unit->HX->Prop}(hS:St κ kd a₀ st)(hp:pendingOf st = #[])
  (h:∀d,St κ kd a₀ d->KR κ (arrOf d).toList->Q () d):wpS (model prog w) A E s sortRuns' Q st:=by
 rw[sortRuns'_eq];refine wpS_bind (wpS_get ?_);dsimp only;have hz:=hS.size;rw[hz];generalize minRun' a₀.size a₀.size 0=B;refine wpS_bind (wpS_mono (wpS_forRange (I:=λx c d=>∃lo,c =(none,lo)/\RI κ kd a₀ lo d/\lo<=a₀.size/\min x a₀.size<=lo)
  (Q:=λc d=>∃lo,c =(none,lo)/\RI κ kd a₀ lo d/\lo=a₀.size) ?st ?en ⟨0,rfl,⟨hS,by rw[hp];rfl,λx K=>by rw[hp]at K;exact absurd K (by simp)⟩,CP _,by omega⟩) ?po)
 case en =>
  rintro c d ⟨lo,rfl,R,P,h2⟩;exact⟨lo,rfl,R,by omega⟩
 case po =>
  rintro c d ⟨lo,rfl,R,rfl⟩;dsimp only;refine wpS_bind (wpS_mono (wpS_forRange (I:=λx c d=>c =(none,())/\RI κ kd a₀ a₀.size d/\(pendingOf d).size+x<=a₀.size+1)
   (Q:=λc d=>c =(none,())/\RI κ kd a₀ a₀.size d/\(pendingOf d).size<=1) ?st3 ?en3 ⟨rfl,R,?in3⟩) ?po3)
  case in3 =>
   have:=MF.le R.cov;rw[AR]at this;omega
  case en3 =>
   rintro c e ⟨rfl,R2,g⟩;exact⟨rfl,R2,by omega⟩
  case po3 =>
   rintro c e ⟨rfl,R2,g⟩;refine wpS_pure (h e R2.S ?_);have c:=R2.cov;have L:=R2.sor;have hz2:=R2.S.size;have M:(pendingOf e).toList.length<=1:=by rw[AR];exact g
   generalize (pendingOf e).toList=l at c L M
   match l,c,L,M with
   | [],c,_,_ =>
    have c':0=a₀.size:=c;have:(arrOf e).toList = []:=List.eq_nil_of_length_eq_zero (by rw[AR];omega);rw[this];exact List.Pairwise.nil
   | [x],⟨c1,c2,c3⟩,L,_ =>
    have c3':0+x.2.1=a₀.size:=c3;have:=L x (AE.mpr rfl);unfold JJ at this;rw[c1,FI,CK (by rw[AR];omega)]at this;exact this
   | _::_::_,_,_,M=>exact absurd M (by simp)
  case st3 =>
   rintro x c e _ K ⟨rfl,R2,g⟩
   try dsimp only
   refine wpS_bind (wpS_get ?_);by_cases r:(pendingOf e).size<=1
   .rw[AK r];exact wpS_pure ⟨rfl,R2,r⟩
   rw[AI r];refine wpS_bind (Ji C v R2 (Nat.le_refl _) ?_ λst3 R3 e3 _=>?_)
   .have T:∀{c:Prop} [Decidable c] {n:Nat},(if c then n-1 else n)+1<=n+1:=by intro c _ n;split<;>omega
    exact Nat.lt_of_le_of_lt T (by omega)
   .simp only[EU,AV,CN];exact wpS_pure ⟨rfl,R3,by omega⟩
 case st =>
  rintro x c d _ K ⟨lo,rfl,R,P,h2⟩;dsimp only;by_cases D:lo ≥ a₀.size
  .rw[AK D];exact wpS_pure ⟨lo,rfl,R,by omega⟩
  rw[AI D];refine wpS_bind (Fc C v R.S (by omega) (by omega) λm e L2 hm1 hm2 t=>?_);dsimp only;by_cases F:m<B
  .rw[AK F];refine wpS_bind (wpS_lift (EC ⟨rfl,?_⟩));refine wpS_bind (Bu C v L2 (by omega) (show min (a₀.size-lo) B<=a₀.size-lo by omega) (by omega) t λq O U=>?_);simp only[EU,AV,CN];have hN:1<=min (a₀.size-lo) B/\min (a₀.size-lo) B<=a₀.size-lo:=by omega
   generalize min (a₀.size-lo) B=N at hN U⊢;have G:RI κ kd a₀ lo q:=by
    refine⟨O.S,by rw[O.pend];exact R.cov,λy k=>?_⟩;rw[O.pend]at k;have hc:=MF.mem R.cov k;rw[(O.part R.S).seg_front (by omega)];exact R.sor y k
   refine wpS_bind (wpS_get ?_);have i:∀(b:HX),RI κ kd a₀ lo b->KR κ (JJ (arrOf b).toList lo N)->RI κ kd a₀ (lo+N) (setPending b ((pendingOf b).push (lo,N,0))):=λb f V=>by
    refine⟨⟨f.S.perm,f.S.kind,f.S.failed⟩,?_,λy k=>?_⟩
    .show MF ((pendingOf b).push (lo,N,0)).toList 0 (lo+N);rw[DC];exact MF.app.mpr ⟨lo,f.cov,rfl,(by show 1<=N;omega),rfl⟩
    .have hy':y∈((pendingOf b).push (lo,N,0)).toList:=k;rw[DC]at hy';rcases BD.mp hy' with hy' | hy'
     .exact f.sor y hy'
     .rw[AE.mp hy'];exact V
   cases W:(pendingOf q).back? with
   | none =>
    dsimp only;refine wpS_bind (wpS_modify (wpS_pure ⟨_,rfl,i _ G U.sor,by omega,by omega⟩))
   | some X =>
    obtain⟨H,u,pb⟩:=X;dsimp only;generalize power' a₀.size (2*H+u) (2*H+u+u+N) a₀.size=Y;refine wpS_bind (wpS_mono (wpS_forRange (I:=λx c b=>c =(none,())/\RI κ kd a₀ lo b/\LC κ (arrOf q).toList (arrOf b).toList 0 lo)
     (Q:=λc b=>c =(none,())/\RI κ kd a₀ lo b/\LC κ (arrOf q).toList (arrOf b).toList 0 lo) ?stc1 (λ_ _ z=>z) ⟨rfl,G,LC.refl _ _ _⟩) ?poc1)
    case stc1 =>
     rintro x' c b _ _ ⟨rfl,f,j⟩
     try dsimp only
     refine wpS_bind (wpS_get ?_);by_cases o:(pendingOf b).size>1
     .rw[AK o];obtain⟨⟨u1,u2,Z⟩,hu⟩:∃y,(pendingOf b)[(pendingOf b).size-2]?=some y:=⟨_,getElem?_pos _ _ (by omega)⟩;rw[hu];dsimp only;by_cases p:Z<=Y
      .rw[AK p];exact wpS_pure ⟨rfl,f,j⟩
      rw[AI p];refine wpS_bind (Ji C v f P (by omega) λst7 R7 _ J=>?_);simp only[EU,AV,CN];exact wpS_pure ⟨rfl,R7,⟨J.perm.trans j.perm,rfl,J.back.trans j.back⟩⟩
     .rw[AI o];exact wpS_pure ⟨rfl,f,j⟩
    case poc1 =>
     rintro c b ⟨rfl,f,j⟩;dsimp only;refine wpS_bind (wpS_modify (wpS_bind (wpS_modify (wpS_pure ⟨_,rfl,i _ (f.congr Bo) ?_,by omega,by omega⟩))));show KR κ (JJ (arrOf b).toList lo N);rw[j.seg_back (by omega)];exact U.sor
  .rw[AI F];have G:RI κ kd a₀ lo e:=by
    refine⟨L2.S,by rw[L2.pend];exact R.cov,λy k=>?_⟩;rw[L2.pend]at k;have hc:=MF.mem R.cov k;rw[(L2.part R.S).seg_front (by omega)];exact R.sor y k
   refine wpS_bind (wpS_get ?_);have i:∀(b:HX),RI κ kd a₀ lo b->KR κ (JJ (arrOf b).toList lo m)->RI κ kd a₀ (lo+m) (setPending b ((pendingOf b).push (lo,m,0))):=λb f V=>by
    refine⟨⟨f.S.perm,f.S.kind,f.S.failed⟩,?_,λy k=>?_⟩
    .show MF ((pendingOf b).push (lo,m,0)).toList 0 (lo+m);rw[DC];exact MF.app.mpr ⟨lo,f.cov,rfl,(by show 1<=m;omega),rfl⟩
    .have hy':y∈((pendingOf b).push (lo,m,0)).toList:=k;rw[DC]at hy';rcases BD.mp hy' with hy' | hy'
     .exact f.sor y hy'
     .rw[AE.mp hy'];exact V
   cases W:(pendingOf e).back? with
   | none =>
    dsimp only;refine wpS_bind (wpS_modify (wpS_pure ⟨_,rfl,i _ G t.sor,by omega,by omega⟩))
   | some X =>
    obtain⟨H,u,pb⟩:=X;dsimp only;generalize power' a₀.size (2*H+u) (2*H+u+u+m) a₀.size=Y;refine wpS_bind (wpS_mono (wpS_forRange (I:=λx c b=>c =(none,())/\RI κ kd a₀ lo b/\LC κ (arrOf e).toList (arrOf b).toList 0 lo)
     (Q:=λc b=>c =(none,())/\RI κ kd a₀ lo b/\LC κ (arrOf e).toList (arrOf b).toList 0 lo) ?stc2 (λ_ _ z=>z) ⟨rfl,G,LC.refl _ _ _⟩) ?poc2)
    case stc2 =>
     rintro x' c b _ _ ⟨rfl,f,j⟩
     try dsimp only
     refine wpS_bind (wpS_get ?_);by_cases o:(pendingOf b).size>1
     .rw[AK o];obtain⟨⟨u1,u2,Z⟩,hu⟩:∃y,(pendingOf b)[(pendingOf b).size-2]?=some y:=⟨_,getElem?_pos _ _ (by omega)⟩;rw[hu];dsimp only;by_cases p:Z<=Y
      .rw[AK p];exact wpS_pure ⟨rfl,f,j⟩
      rw[AI p];refine wpS_bind (Ji C v f P (by omega) λst7 R7 _ J=>?_);simp only[EU,AV,CN];exact wpS_pure ⟨rfl,R7,⟨J.perm.trans j.perm,rfl,J.back.trans j.back⟩⟩
     .rw[AI o];exact wpS_pure ⟨rfl,f,j⟩
    case poc2 =>
     rintro c b ⟨rfl,f,j⟩;dsimp only;refine wpS_bind (wpS_modify (wpS_bind (wpS_modify (wpS_pure ⟨_,rfl,i _ (f.congr Bo) ?_,by omega,by omega⟩))));show KR κ (JJ (arrOf b).toList lo m);rw[j.seg_back (by omega)];exact t.sor
end
def kd1(κ:KeyKind)(v:A2):κ.α:=(κ.keyOf v).getD κ.dflt
section
variable{prog:CM}{w:F8}{A:IC}{E:A2->A4->Prop}{s:A4}{κ:KeyKind}{kd:JQ}
def TM(a:A3)(s c:A4):Prop:=∀b o,b≠a->s.heap.get? b=some o->c.heap.get? b=some o
structure RR(prog:CM)(w:F8)(a:A3)(s:A4)(κ:KeyKind)(kd:JQ)(vs:A1 A2):Prop where
 cmp:∀(A:IC) (s':A4),TM a s s'->QQ prog w A s' κ kd
 key:∀v∈vs,∃k,κ.keyOf v=some k
 kind:2<=vs.length->∀(A:IC) (E:A2->A4->Prop) (s':A4) (Q:JQ->A4->Prop),TM a s s'->Q kd s'->wpAny (model prog w) A (keyKind' vs.toArray) Q E s'
def Out(κ:KeyKind)(vs:A1 A2)(out:F1 A2):Prop:=out.toList.Perm vs/\out.toList.Pairwise λu v=>κ.kle (kd1 κ u) (kd1 κ v)
theorem Vu{vs:A1 A2}{xs:F1 A7}(a:xs.toList.Perm (pairsOf vs).toList)(b:KR κ xs.toList):Out κ vs (xs.map (·.2)):=by
 rw[pairsOf_toList]at a;have c:∀p∈xs.toList,p.1=p.2:=λp h=>(mem_zip_self (a.mem_iff.mp h)).1;have e:(xs.map (·.2)).toList=xs.toList.map (·.1):=by
  rw[Array.toList_map];exact GT λp h=>(c p h).symm
 refine⟨?_,?_⟩
 .rw[e];have:=a.map Prod.fst
  rwa [List.map_fst_zip (Nat.le_refl _)]at this
 .rw[e,DD];exact b
theorem Dz{a:A3}{vs:A1 A2}{n:Nat}{P:Fin->A4->Prop}(k:s.heap.get? a=some (seqObj "list" vs.toArray n))(m:vs.length<=sizeLine)(K:RR prog w a s κ kd vs)
  (h:∀out:F1 A2,Out κ vs out->P (.done (.ret .none)) { s with heap:=sortedHeap s.heap a vs out }) :
  wpAny (model prog w) A (Builtin.«list.sort» ⟨[.ref a],[]⟩) P E s:=by
 rw[list_sort_plain];have q:a<s.heap.objs.size:=AJ k;have i:vs.toArray.size=vs.length:=by simp
 refine AA (listItems_at k rfl ?_);refine AA (listUpdate_at k rfl ?_ (by rw[i];exact m) (by simp));obtain⟨l,j⟩:∃l,(s.heap.update a (Obj.mapSeq λ_=>#[])).get? a=some (seqObj "list" #[] l):=⟨_,get?_update_seq k (λ_=>#[])⟩;refine AA (seqEpoch_at j rfl ?_);refine AA (wpAny_newTuple ?_ (by simpa using m));refine AA (HV ?_);refine BX ?_;have d:(((s.heap.update a (Obj.mapSeq λ_=>#[])).push (seqObj "tuple" vs.toArray 0)).push (seqObj "list" #[] 0)).get? a=some (seqObj "list" #[] l):=by
  rw[Heap.get?_push_ne _ _ _ (by rw[size_push',HM];exact A_ (DE q)),Heap.get?_push_ne _ _ _ (by rw[HM];exact A_ q)];exact j
 show wpAny (model prog w) A _ P E { s with heap:=((s.heap.update a (Obj.mapSeq λ_=>#[])).push (seqObj "tuple" vs.toArray 0)).push (seqObj "list" #[] 0) };dsimp only;have r:TM a s { s with heap:=((s.heap.update a (Obj.mapSeq λ_=>#[])).push (seqObj "tuple" vs.toArray 0)).push (seqObj "list" #[] 0) }:=λb o t e =>
  AD _ (AD _ ((CG s.heap _ (Ne.symm t)).trans e))
 by_cases f:vs.toArray.size<2
 .rw[AK f,AK f];refine AA (AG ?_);rw[StateT.run_pure];refine AA (AG ?_);dsimp only;refine AA (seqEpoch_at d rfl ?_);refine AA (listUpdate_at d rfl ?_ (by simp) (by rw[HG];show(pairsOf vs).size<=_;rw[pairsOf_size];omega));simp only[bne_self_eq_false,AV,CN];refine AG (h _ (Vu (κ:=κ) (xs:=pairsOf vs) (List.Perm.refl _) ?_));rw[pairsOf_toList];rw[i]at f
  match vs,f with
  | [],_=>exact List.Pairwise.nil
  | [v],_=>exact FX _ _
  | _::_::_,f=>simp at f;omega
 .rw[AI f,AI f];refine AA (K.kind (by omega) A E _ _ r ?_);refine AA (CF (Dy (K.cmp A _ r) (a₀:=pairsOf vs) (st:=SortSt.mk' kd (vs.toArray.zip vs.toArray) #[] 7 none)
   (Q:=λ_ c=>St κ kd (pairsOf vs) c/\KR κ (arrOf c).toList)
   (λp g=>?_) ⟨List.Perm.refl _,rfl,rfl⟩ rfl λc u x=>⟨u,x⟩) ?_ λ_ _ e=>e)
  .rw[pairsOf_toList]at g;exact K.key _ (mem_zip_self g).2
  rintro⟨⟨⟩,c⟩ z ⟨rfl,g,y⟩;dsimp only;refine AA (seqEpoch_at d rfl ?_);refine AA (listUpdate_at d rfl ?_ (by simp) (by rw[HG];show(arrOf c).size<=_;rw[g.size,pairsOf_size];omega));rw[show failedOf c=none from g.failed];simp only[bne_self_eq_false,AV,CN];exact AG (h _ (Vu g.perm y))
theorem MM{x:A2}{Q:A2->A4->Prop}
  (g:wpAny (model prog w) A.in1 (collect x) (λvs s1=>s1.os=s.os/\vs.length<=sizeLine/\(∃(κ:KeyKind) (kd:JQ),(∀d:A4,TM s1.heap.objs.size s1 d->RR prog w s1.heap.objs.size d κ kd vs) /\
   ∀(out:F1 A2) (h':IA) (e:Nat),Out κ vs out->(∀b o,s1.heap.get? b=some o->h'.get? b=some o)->h'.get? s1.heap.objs.size=some (seqObj "list" out e)->Q (.ref s1.heap.objs.size) { s1 with heap:=h' })) E s) :
  wpAny (model prog w) A (call (.builtin "sorted") [x]) Q E s:=by
 refine Calls.call_function_entry kind_sorted plain_sorted entry_sorted (args_sorted1 _) ?_;unfold Builtin.«sorted»;refine AA (m:=checkCount "sorted" 1 1 _) (AG ?_);refine AA (CF g (λvs s1 ⟨i,j,κ,kd,K,q⟩=>?_) λ_ _ z=>z);refine AA (HV ?_);have a:(s1.heap.push (seqObj "list" vs.toArray 0)).get? s1.heap.objs.size=some (seqObj "list" vs.toArray 0):=AN _ rfl;show wpAny _ _ _ _ _ { s1 with heap:=s1.heap.push (seqObj "list" vs.toArray 0) };have k:TM s1.heap.objs.size s1 { s1 with heap:=s1.heap.push (seqObj "list" vs.toArray 0) }:=λb o _ e=>AD _ e;refine AA (BX (DQ slot_list_sort ⟨_,a,rfl⟩ entry_list_sort (Dz (s:={ s1 with heap:=s1.heap.push (seqObj "list" vs.toArray 0) }) a j (K _ k) λout l=>⟨_,rfl,?_⟩) (args_list_sort _)));obtain⟨e,n⟩:=sortedHeap_at (h:=s1.heap.push (seqObj "list" vs.toArray 0)) (out:=out) a;refine AG ⟨_,rfl,q out _ e l (λb o f=>?_) n⟩;have c:=AJ f;rw[sortedHeap_old (A_ c) (by rw[size_push'];exact DE c)];exact AD _ f
theorem OV{a:A3}{vs:A1 A2}{d:A1 Str}(b:StrsAre vs d):RR prog w a s strKind oneType' vs:=by
 refine⟨λA c _=>⟨λx y k l Q E e f q=>?_⟩,λv g=>?_,λh A E c Q _ q=>?_⟩
 .rw[keyLt'_oneType];exact strKind_oneLt prog w A E c x y k l e f q
 .obtain⟨x,t,rfl⟩:=b.all v g;exact⟨_,rfl⟩
 .match vs,h,b with
  | v1::i::r,_,b =>
   rw[keyKind_strs b];exact AG q
def LA(a b:A1 Nat×A1 Nat):Bool:=decide (a.1<b.1)||(decide (a.1=b.1)&&decide (a.2<b.2))
theorem JH{a b:A1 Nat×A1 Nat}:LA a b=true↔a.1<b.1\/(a.1=b.1/\a.2<b.2):=by
 unfold LA;simp
theorem SW(a b:A1 Nat):a<b\/a=b\/b<a:=by
 by_cases h:a<b
 .exact .inl h
 .by_cases c:b<a
  .exact .inr (.inr c)
  .exact .inr (.inl (List.le_antisymm (List.not_lt.mp c) (List.not_lt.mp h)))
def Sz:A1 A2->A5 (A1 Nat×A1 Nat)
 | [.str x _,.str y _]=>some (x.cps.toList,y.cps.toList)
 | _=>none
def Qd(c:A2):Data->A5 (A1 Nat×A1 Nat)
 | .seq a _=>if c = .type "tuple" then Sz a.toList else none
 | _=>none
def ND(h:IA):A2->A5 (A1 Nat×A1 Nat)
 | .ref p=>(h.get? p).bind λo=>Qd o.cls o.data
 | _=>none
@[reducible] def pairKind(h:IA):KeyKind where
 α:=A1 Nat×A1 Nat
 blt:=LA
 irrefl a:=by
  rw[B_];intro z;rcases JH.mp z with z | ⟨_,z⟩
  .exact List.lt_irrefl _ z
  .exact List.lt_irrefl _ z
 trans a b c e d:=by
  rw[JH]at *;rcases e with e | ⟨e,f⟩
  .rcases d with d | ⟨d,_⟩
   .exact .inl (List.lt_trans e d)
   .exact .inl (d▸e)
  .rcases d with d | ⟨d,g⟩
   .exact .inl (e▸d)
   .exact .inr ⟨e.trans d,List.lt_trans f g⟩
 negTrans a b c h:=by
  rw[JH]at h;simp only[JH];rcases h with h | ⟨h,i⟩
  .rcases SW a.1 b.1 with q | q | q
   .exact .inl (.inl q)
   .exact .inr (.inl (q▸h))
   .exact .inr (.inl (List.lt_trans q h))
  .rcases SW a.1 b.1 with q | q | q
   .exact .inl (.inl q)
   .rcases SW a.2 b.2 with r | r | r
    .exact .inl (.inr ⟨q,r⟩)
    .exact .inr (.inr ⟨q▸h,r▸i⟩)
    .exact .inr (.inr ⟨q▸h,List.lt_trans r i⟩)
   .exact .inr (.inl (h▸q))
 total a b e d:=by
  rw[B_]at e d;rcases SW a.1 b.1 with q | q | q
  .exact absurd (JH.mpr (.inl q)) e
  .rcases SW a.2 b.2 with r | r | r
   .exact absurd (JH.mpr (.inr ⟨q,r⟩)) e
   .exact Prod.ext q r
   .exact absurd (JH.mpr (.inr ⟨q.symm,r⟩)) d
  .exact absurd (JH.mpr (.inl q)) d
 keyOf:=ND h
 dflt:=([],[])
def LZ(h:IA)(v:A2)(x y:Str):Prop:=∃p o n t u,v = .ref p/\h.get? p=some o/\o.cls = .type "tuple"/\o.data = .seq #[.str x t,.str y u] n
theorem LZ.key{h:IA}{v:A2}{x y:Str}(z:LZ h v x y):ND h v=some (x.cps.toList,y.cps.toList):=by
 obtain⟨p,o,n,t,u,rfl,e,c,d⟩:=z;show(h.get? p).bind (λo=>Qd o.cls o.data)=_;rw[e];show Qd o.cls o.data=_;rw[d,c];unfold Qd;exact(AK rfl).trans rfl
theorem zBv{l:A1 A2}{k:A1 Nat×A1 Nat}(e:Sz l=some k):∃x t y u,l = [.str x t,.str y u]:=by
 match l,e with
 | [.str x t,.str y u],_=>exact⟨x,t,y,u,rfl⟩
theorem Rh{h:IA}{v:A2}{k:A1 Nat×A1 Nat}(e:ND h v=some k):∃x y,LZ h v x y:=by
 match v,e with
 | .ref p,e =>
  have g:(h.get? p).bind (λo=>Qd o.cls o.data)=some k:=e;obtain⟨o,i,b⟩:=Option.bind_eq_some_iff.mp g;cases d:o.data with
  | seq f n =>
   rw[d]at b;have a:(if o.cls = .type "tuple" then Sz f.toList else none)=some k:=b;by_cases c:o.cls = .type "tuple"
   .rw[AK c]at a;obtain⟨x,t,y,u,j⟩:=zBv a;refine⟨x,y,p,o,n,t,u,rfl,i,c,?_⟩;rw[d];have:f = #[.str x t,.str y u]:=by rw[<-Array.toList_inj,j]
    rw[this]
   .rw[AI c]at a;cases a
  | _=>rw[d]at b;cases b
theorem Lc{h:IA}{v:A2}{k:A1 Nat×A1 Nat}{x y:Str}(z:LZ h v x y)(e:ND h v=some k):k =(x.cps.toList,y.cps.toList):=by
 rw[z.key]at e;exact(BE e).symm
theorem QE{a:A3}{vs:A1 A2}{F:IA}(B:∀v∈vs,∃x y,LZ F v x y)(C:∀b o,F.get? b=some o->b≠a/\s.heap.get? b=some o) :
  RR prog w a s (pairKind F) (tuples' true) vs:=by
 refine⟨λA G J=>⟨λx y k l Q E O P q=>?_⟩,λv K=>?_,λh2 A E G Q J q=>?_⟩
 .obtain⟨g,m,R⟩:=Rh O;obtain⟨f,i,S⟩:=Rh P;have Y:=Lc R O;have Z:=Lc S P;subst Y Z;obtain⟨px,ox,nx,t1,u1,rfl,U,_,d1⟩:=R;obtain⟨py,oy,ny,t2,u2,rfl,V,_,d2⟩:=S;have f1:=J _ _ (C _ _ U).1 (C _ _ U).2;have f2:=J _ _ (C _ _ V).1 (C _ _ V).2;refine PySem.W.kat_lt f1 d1 f2 d2 ?_;show PySem.W.KatLex prog w A true _ Q [(.str g t1,.str f t2),(.str m u1,.str i u2)] 0 G;refine PySem.W.kat_cons (wpAny_eqBool_str (PySem.W.kat_go (λj=>?_) λj=>?_))
  .have j:g=f:=by simpa using j
   refine PySem.W.kat_yes (PySem.W.kat_cons (wpAny_eqBool_str (PySem.W.kat_go (λh=>?_) λh=>?_)))
   .have h:m=i:=by simpa using h
    refine PySem.W.kat_yes (PySem.W.kat_nil ?_);have:LA (g.cps.toList,m.cps.toList) (f.cps.toList,i.cps.toList)=decide (2<2):=by
     rw[j,h];exact(pairKind F).irrefl (f.cps.toList,i.cps.toList)
    show Q (decide (2<2)) G;rw[<-this];exact q
   .refine PySem.W.kat_no (PySem.W.kat_one _ _ (lt_str ?_));have:LA (g.cps.toList,m.cps.toList) (f.cps.toList,i.cps.toList)=decide (m.cps.toList<i.cps.toList):=by
     rw[j];unfold LA;simp[List.lt_irrefl]
    show Q (decide (m.cps.toList<i.cps.toList)) G;rw[<-this];exact q
  .have j:¬g=f:=by simpa using j
   refine PySem.W.kat_no (oneLt_str ?_);have L:¬g.cps.toList=f.cps.toList:=λz=>j (by cases g;cases f;simp at z;simp[z]);have:LA (g.cps.toList,m.cps.toList) (f.cps.toList,i.cps.toList)=decide (g.cps.toList<f.cps.toList):=by
    unfold LA;simp[L]
   rw[<-this];exact q
 .obtain⟨x,y,z⟩:=B v K;exact⟨_,z.key⟩
 .have hT:∀(H:A1 A2),(∀v∈H,∃x y,LZ F v x y)->∃D,PySem.W.KatTups G.heap H D/\D.length=H.length/\∀v∈D,∃x t,v = .str x t:=by
   intro H
   induction H with
   | nil=>exact λ_=>⟨[],.nil,rfl,λv B=>by simp at B⟩
   | cons v r ih =>
    intro I;obtain⟨D,M,X,N⟩:=ih λu hu=>I u (AU _ hu);obtain⟨x,y,p,o,n,t,u,rfl,e,c,d⟩:=I v (BH ..);refine⟨.str x t::D,.cons (J _ _ (C _ _ e).1 (C _ _ e).2) c d rfl M,by simp[X],λz hz=>?_⟩;rcases AQ.mp hz with rfl | hz
    .exact⟨x,t,rfl⟩
    .exact N z hz
  obtain⟨D,M,X,N⟩:=hT vs B;refine PySem.W.kat_kind (T:=.type "str") M (by omega) (λv B=>?_) (by rfl) q;obtain⟨x,t,rfl⟩:=N v B;exact .now
end
end TS
set_option Elab.async false
namespace L2
open PySem PySem.Spec PyProof.Rows
abbrev IU:=Sum Int Str
def Ed:IU->A2->Bool
 | .inl k,v=>Value.isInt k v
 | .inr x,v=>Value.isStrOf x v
def zGe(w:F8):IU->Int
 | .inl k=>hashInt k
 | .inr x=>hashStr w x
def G8:∀{k:IU} {v:A2},Ed k v=true->(∃i t,k=Sum.inl i/\v=Value.int i t)\/(∃x t,k=Sum.inr x/\v=Value.str x t)
 | .inl i,v,h=>by
  obtain⟨t,e⟩:=Value.isInt_shape (k:=i) (v:=v) h;exact .inl ⟨i,t,rfl,e⟩
 | .inr x,v,h=>by
  obtain⟨t,e⟩:=Value.isStrOf_shape (x:=x) (v:=v) h;exact .inr ⟨x,t,rfl,e⟩
def Rv(i:Int)(t:Tok):Ed (.inl i) (.int i t)=true:=by simp[Ed,Value.isInt]
def Z8(x:Str)(t:Tok):Ed (.inr x) (.str x t)=true:=by simp[Ed,Value.isStrOf]
def zCi(a b:Int):decide ((Sum.inl a:IU)=Sum.inl b) =(a == b):=by
 by_cases e:a=b
 .subst e;simp
 .have h:¬(Sum.inl a:IU)=Sum.inl b:=λq=>e (Sum.inl.inj q);rw[BA h];exact(beq_eq_false_iff_ne.mpr e).symm
def zBs(a b:Str):decide ((Sum.inr a:IU)=Sum.inr b)=decide (a=b):=by
 by_cases e:a=b
 .subst e;simp
 .have h:¬(Sum.inr a:IU)=Sum.inr b:=λq=>e (Sum.inr.inj q);rw[BA h,BA e]
def zAb(a:Int)(b:Str):decide ((Sum.inl a:IU)=Sum.inr b)=false:=BA (λq=>nomatch q)
def zBy(a:Str)(b:Int):decide ((Sum.inr a:IU)=Sum.inl b)=false:=BA (λq=>nomatch q)
def C4(prog:CM)(w:F8):PySem.KeyKind prog w IU where
 is:=Ed
 hash:=zGe w
 inj:=λv a b g f=>by
  rcases G8 g with⟨i,t,rfl,rfl⟩ | ⟨x,t,rfl,rfl⟩
  .rcases G8 f with⟨j,u,rfl,e⟩ | ⟨y,u,rfl,e⟩
   .injection e with c _;rw[c]
   .exact nomatch e
  .rcases G8 f with⟨j,u,rfl,e⟩ | ⟨y,u,rfl,e⟩
   .exact nomatch e
   .injection e with c _;rw[c]
 byValue:=λk v h=>by
  rcases G8 h with⟨i,t,rfl,rfl⟩ | ⟨x,t,rfl,rfl⟩<;>rfl
 pyHash:=λd h=>by
  rcases G8 d with⟨i,t,rfl,rfl⟩ | ⟨x,t,rfl,rfl⟩
  .exact wpAny_pyHash_int h
  .exact wpAny_pyHash_str h
 eqBool:=λl d h=>by
  rcases G8 l with⟨i,t,rfl,rfl⟩ | ⟨x,t,rfl,rfl⟩
  .rcases G8 d with⟨j,u,rfl,rfl⟩ | ⟨y,u,rfl,rfl⟩
   .rw[zCi]at h;exact wpAny_eqBool_int h
   .rw[zAb]at h;exact SeqAt.EqAt.int_str i t y u _ _ _ _ h
  .rcases G8 d with⟨j,u,rfl,rfl⟩ | ⟨y,u,rfl,rfl⟩
   .rw[zBy]at h;exact SeqAt.EqAt.str_int x t j u _ _ _ _ h
   .rw[zBs]at h;exact wpAny_eqBool_str h
 «strs»:=λk x t v h=>by
  rcases G8 h with⟨i,u,rfl,e⟩ | ⟨y,u,rfl,e⟩
  .exact nomatch e
  .injection e with c _;subst c;cases v<;>rfl
def Il(prog:CM)(w:F8)(i:Int)(t:Tok):(C4 prog w).is (.inl i) (.int i t)=true:=Rv i t
def Jq(prog:CM)(w:F8)(x:Str)(t:Tok):(C4 prog w).is (.inr x) (.str x t)=true:=Z8 x t
inductive V where
 | non | bl (b:Bool) | int (i:Int) | str (x:Str) | byt (b:F1 UInt8) | flt (b:UInt64) | ref (a:A3) | ty (n:String)
 deriving DecidableEq
def RelV:V->A2->Prop
 | .non,u=>u=Value.none
 | .bl b,u=>u=Value.bool b
 | .int i,u=>∃t,u=Value.int i t
 | .str x,u=>∃t,u=Value.str x t
 | .byt b,u=>∃t,u=Value.bytes b t
 | .flt b,u=>∃t,u=Value.float b t
 | .ref a,u=>u=Value.ref a
 | .ty n,u=>u=Value.type n
abbrev II:A1 V->A1 A2->Prop:=Paired RelV
def II.length{xs:A1 V}{us:A1 A2}(r:II xs us):xs.length=us.length:=Paired.length r
def II.get:∀{xs:A1 V} {us:A1 A2} {i:Nat} {x:V},II xs us->xs[i]?=some x->∃u,us[i]?=some u/\RelV x u
 | _,_,_,_,.nil,e=>by simp at e
 | _,_,0,_,.cons r _,e=>by simp at e;subst e;exact⟨_,rfl,r⟩
 | _,_,i+1,x,.cons _ t,e=>by
  obtain⟨u,a,b⟩:=II.get (i:=i) (x:=x) t (by simpa using e);exact⟨u,by simpa using a,b⟩
def II.set{x:V}{u:A2}(r:RelV x u):∀{xs:A1 V} {us:A1 A2} (i:Nat),II xs us->II (xs.set i x) (us.set i u)
 | _,_,_,.nil=>.nil
 | _,_,0,.cons _ t=>.cons r t
 | _,_,i+1,.cons q t=>.cons q (II.set r i t)
def II.append:∀{xs ys:A1 V} {us a:A1 A2},II xs us->II ys a->II (xs++ys) (us++a)
 | _,_,_,_,.nil,s=>s
 | _,_,_,_,.cons r t,s=>.cons r (II.append t s)
def II.take:∀{xs:A1 V} {us:A1 A2} (n:Nat),II xs us->II (xs.take n) (us.take n)
 | _,_,0,_=>.nil
 | _,_,_+1,.nil=>.nil
 | _,_,n+1,.cons r t=>.cons r (II.take n t)
def II.drop:∀{xs:A1 V} {us:A1 A2} (n:Nat),II xs us->II (xs.drop n) (us.drop n)
 | _,_,0,r=>r
 | _,_,_+1,.nil=>.nil
 | _,_,n+1,.cons _ t=>II.drop n t
def II.none_of:∀{xs:A1 V} {us:A1 A2} {i:Nat},II xs us->xs[i]?=none->us[i]?=none:=fun{xs us i} r e=>by
 have a:=r.length;have b:xs.length<=i:=GR.mp e;exact GR.mpr (by omega)
def ME:A5 V->A5 A2->Prop
 | some v,some u=>RelV v u
 | none,none=>True
 | _,_=>False
def KV{κ:Type}:A1 (κ×V)->A1 (κ×A2)->Prop:=Paired λ(p:κ×V) (q:κ×A2)=>p.1=q.1/\RelV p.2 q.2
def kV:IU->V
 | .inl i=>.int i
 | .inr x=>.str x
inductive HO where
 | lst (xs:A1 V)
 | tup (xs:A1 V)
 | dK (kvs:A1 (IU×V)) | dT (kvs:A1 (A1 IU×V))
 | set (S:Int->Bool) (n:Nat)
 | ins (C dx:A3) (fs:A1 (Str×V))
 | own (x:A3)
 | xd (fs:A1 (Str×V))
 | met (f x:A3)
 | rng (lo hi:Int)
 | frz (o:Obj) (u:HO)
 | tbl (ps:F1 A2)
 | ext (φ:IA->Prop)
set_option genInjectivity false
abbrev Hp:=A3->A5 HO
def HZ(H:Hp)(a:A3)(o:HO):Hp:=λb=>if b=a then some o else H b
def A9{H:Hp}{a:A3}{o:HO}:HZ H a o a=some o:=by unfold HZ;rw[AK rfl]
def B6{H:Hp}{a b:A3}{o:HO}(h:b≠a):HZ H a o b=H b:=by unfold HZ;rw[AI h]
def Q2{H:Hp}{a b:A3}{o u:HO}(h:H a=some o)(h':H b=some u)(d:o≠u):a≠b:=by
 intro e;subst e;rw[h]at h';exact d (BE h')
def B2{H:Hp}{a b:A3}{o:HO}(h:H a=some o)(h':H b=none):a≠b:=by
 intro e;subst e;rw[h]at h';cases h'
section
variable(P:CM)(w:F8)
def IP(H:Hp)(h:IA)(a:A3):HO->Prop
 | .lst d=>d.length<=sizeLine/\∃(b:A1 A2) (n:Nat),II d b/\h.get? a=some { cls:=.type "list",data:=.seq b.toArray n }
 | .tup d=>d.length<=sizeLine/\∃b:A1 A2,II d b/\IsTup h a b.toArray
 | .dK c=>c.length<=sizeLine/\(a == sysModules)=false/\∃j,KV c j/\h.DictOf (C4 P w) a j
 | .dT c=>c.length<=sizeLine/\(a == sysModules)=false/\∃d:A1 (A1 IU×A3×A2),
   Paired (λ(p:A1 IU×V) (q:A1 IU×A3×A2)=>p.1=q.1/\H q.2.1=some (.tup (p.1.map kV))/\RelV p.2 q.2.2) c d /\
   ∃o k r,h.get? a=some o/\o.ExactDict/\o.data = .dict k r/\k.toList=d.map (entryOfKey (tupleKind (C4 P w)))/\(d.map (·.1)).Nodup
 | .set S n=>h.SetOf (intKind P w) a S n
 | .ins C i g=>H i=some (.own a)/\g.length<=1000/\i≠a/\h.get? a=some (PySem.W.instObj C i) /\
   ∃e,h.Ns1 i e/\(∀f,ME (g.lookup f) (e f))/\PySem.Within e (g.map (·.1))
 | .own _=>∃o,h.get? a=some o
 | .xd g=>∃e,h.Ns1 a e/\∀f,ME (g.lookup f) (e f)
 | .rng lo s=>∃t u v,h.get? a=some { cls:=.type "range",data:=.fields #[.int lo t,.int s u,.int 1 v] }
 | .frz o u=>h.get? a=some o/\IP H h a u
 | .tbl y=>h.get? a=some { cls:=.none,data:=.fields y }
 | .met f x=>h.get? a=some (PySem.W.methodObj (.ref f) (.ref x))
 | .ext φ=>φ h/\(∃o,h.get? a=some o)/\∀l m:IA,φ l->(∀o,l.get? a=some o->m.get? a=some o)->φ m
def LT(H:Hp)(h:IA):Prop:=∀a o,H a=some o->IP P w H h a o
end
section
variable{P:CM}{w:F8}{H H':Hp}{h h':IA}{a:A3}{o:HO}
theorem IP.lt(x:IP P w H h a o):a<h.objs.size:=by
 cases o with
 | lst c=>obtain⟨_,_,_,_,e⟩:=x;exact AJ e
 | tup c=>obtain⟨_,_,_,p⟩:=x;exact p.lt
 | dK b=>obtain⟨_,_,_,_,o,_,_,e,_⟩:=x;exact AJ e
 | dT b=>obtain⟨_,_,_,_,o,_,_,e,_⟩:=x;exact AJ e
 | set S n=>obtain⟨o,_,_,_,e,_⟩:=x;exact AJ e
 | ins C g d=>obtain⟨_,_,_,e,_⟩:=x;exact AJ e
 | own y=>obtain⟨_,e⟩:=x;exact AJ e
 | xd d=>obtain⟨_,⟨_,_,_,e,_⟩,_⟩:=x;exact AJ e
 | rng lo i=>obtain⟨_,_,_,e⟩:=x;exact AJ e
 | frz j u=>obtain⟨e,_⟩:=x;exact AJ e
 | tbl k=>exact AJ (show h.get? a=some _ from x)
 | met f y=>exact AJ (show h.get? a=some _ from x)
 | ext φ=>obtain⟨_,⟨_,e⟩,_⟩:=x;exact AJ e
theorem Paired.mapP{α β:Type}{F G:α->β->Prop}:∀{l₁:A1 α} {l₂:A1 β},Paired F l₁ l₂->(∀a b,F a b->G a b)->Paired G l₁ l₂
 | _,_,.nil,_=>.nil
 | _,_,.cons r t,f=>.cons (f _ _ r) (Paired.mapP t f)
theorem IP.stay(x:IP P w H h a o)(k:∀b u,(b=a\/H b=some (.own a))->h.get? b=some u->h'.get? b=some u)
  (D:∀b,H b=some (.own a)->H' b=some (.own a)) (E:∀b xs,H b=some (.tup xs)->H' b=some (.tup xs)):IP P w H' h' a o:=by
 induction o with
 | lst xs=>obtain⟨z,l,n,r,e⟩:=x;exact⟨z,l,n,r,k _ _ (.inl rfl) e⟩
 | tup xs=>obtain⟨z,l,r,g,e,c⟩:=x;exact⟨z,l,r,g,k _ _ (.inl rfl) e,c⟩
 | dK m=>obtain⟨z,y,F,r,g,i,j,e,c⟩:=x;exact⟨z,y,F,r,g,i,j,k _ _ (.inl rfl) e,c⟩
 | dT m =>
  obtain⟨z,y,xs,r,g,i,j,e,c⟩:=x;exact⟨z,y,xs,Paired.mapP r λp q z=>⟨z.1,E _ _ z.2.1,z.2.2⟩,g,i,j,k _ _ (.inl rfl) e,c⟩
 | set S n=>obtain⟨g,i,j,t,e,c⟩:=x;exact⟨g,i,j,t,k _ _ (.inl rfl) e,c⟩
 | ins C L G =>
  obtain⟨d,z,I,e,s,⟨A,i,j,J,c⟩,r⟩:=x;exact⟨D _ d,z,I,k _ _ (.inl rfl) e,s,⟨A,i,j,k _ _ (.inr d) J,c⟩,r⟩
 | own y=>obtain⟨g,e⟩:=x;exact⟨g,k _ _ (.inl rfl) e⟩
 | xd G=>obtain⟨s,⟨A,i,j,e,c⟩,r⟩:=x;exact⟨s,⟨A,i,j,k _ _ (.inl rfl) e,c⟩,r⟩
 | rng lo M=>obtain⟨t,u,v,e⟩:=x;exact⟨t,u,v,k _ _ (.inl rfl) e⟩
 | frz g u K=>obtain⟨e,q⟩:=x;exact⟨k _ _ (.inl rfl) e,K q⟩
 | tbl B =>
  have e:h.get? a=some { cls:=.none,data:=.fields B }:=x;show h'.get? a=some { cls:=.none,data:=.fields B };exact k a _ (.inl rfl) e
 | met f y =>
  have e:h.get? a=some (PySem.W.methodObj (.ref f) (.ref y)):=x;show h'.get? a=some (PySem.W.methodObj (.ref f) (.ref y));exact k a _ (.inl rfl) e
 | ext φ=>obtain⟨p,⟨o,e⟩,st⟩:=x;exact⟨st _ _ p λo q=>k _ _ (.inl rfl) q,⟨o,k _ _ (.inl rfl) e⟩,st⟩
theorem LT.lt(x:LT P w H h)(e:H a=some o):a<h.objs.size:=(x a o e).lt
theorem LT.fresh(x:LT P w H h)(e:h.objs.size<=a):H a=none:=by
 cases q:H a with
 | none=>rfl
 | some u=>exact absurd (BJ (x.lt q) e) (CQ _)
theorem LT.kept(x:LT P w H h)(k:∀b u,h.get? b=some u->h'.get? b=some u):LT P w H h':=λa o e =>
 (x a o e).stay (λb u _ q=>k b u q) (λ_ q=>q) λ_ _ q=>q
theorem LT.laid(x:LT P w H h)(k:∀b u,h.get? b=some u->h'.get? b=some u)(i:h.objs.size<=a)(d:IP P w (HZ H a o) h' a o):LT P w (HZ H a o) h':=λb u e=>by
 have f:=x.fresh i;by_cases g:b=a
 .subst g;rw[A9]at e;cases e;exact d
 .rw[B6 g]at e;exact(x b u e).stay (λc v _ q=>k c v q) (λc q=>by rw[B6 (B2 q f)];exact q) λc j q=>by rw[B6 (B2 q f)];exact q
end
def Rd(H:Hp)(a:A3)(u:HO):Prop:=H a=some u\/∃o,H a=some (.frz o u)
def Rd.ok{P:CM}{w:F8}{H:Hp}{h:IA}{a:A3}{u:HO}(r:Rd H a u)(x:LT P w H h):IP P w H h a u:=by
 rcases r with r | ⟨o,r⟩
 .exact x a u r
 .obtain⟨_,q⟩:=x a _ r;exact q
def TJ:A5 HO->Prop
 | some (.lst _)=>True
 | some (.dK _)=>True
 | some (.dT _)=>True
 | some (.set _ _)=>True
 | some (.ins _ _ _)=>True
 | some (.ext _)=>True
 | _=>False
section
variable{P:CM}{w:F8}{H:Hp}{h h':IA}{x e:A3}{o':HO}
theorem LT.write(p:LT P w H h)(g:TJ (H x))(n:e=x\/H e=some (.own x))(k:∀b u,b≠e->h.get? b=some u->h'.get? b=some u)(l:∃u,h'.get? e=some u)
  (m:IP P w (HZ H x o') h' x o'):LT P w (HZ H x o') h':=λb u q=>by
 have d:∀c y,H c=some (.own y)->c≠x:=λc y r z=>by subst z;rw[r]at g;exact g
 have f:∀c i,H c=some (.tup i)->c≠x:=λc i r z=>by subst z;rw[r]at g;exact g
 by_cases j:b=x
 .subst j;rw[A9]at q;cases q;exact m
 .rw[B6 j]at q;by_cases a:b=e
  .have o:H b=some (.own x):=by
    rcases n with z | z
    .exact absurd (a.trans z) j
    .rw[a];exact z
   rw[q]at o;cases o;obtain⟨v,s⟩:=l;exact⟨v,by rw[a];exact s⟩
  .refine(p b u q).stay (λc v hc r=>k c v ?_ r) (λc r=>by rw[B6 (d c b r)];exact r) λc i r=>by rw[B6 (f c i r)];exact r
   rcases hc with rfl | hc
   .exact a
   .rintro rfl;rcases n with z | z
    .exact d c b hc z
    .rw[hc]at z;cases z;exact j rfl
end
structure Un(fs ex:A1 A3)(H H':Hp)(h h':IA):Prop where
 keep:∀b o,h.get? b=some o->H b=none->b∉fs->b∉ex->h'.get? b=some o
 slot:∀b o,h.get? b=some o->H b=none->b∈fs->b∉ex->∃sl,h'.get? b=some { o with slots:=sl }
 free:∀b o,h.get? b=some o->H b=none->b∉ex->H' b=none
 there:∀b o,h.get? b=some o->b∉ex->∃o',h'.get? b=some o'
 tups:∀b xs,H b=some (.tup xs)->H' b=some (.tup xs)
 frzs:∀b o u,H b=some (.frz o u)->H' b=some (.frz o u)
 tbls:∀b ps,H b=some (.tbl ps)->∃more,H' b=some (.tbl (ps++more))
section
variable{fs fs' ex ex':A1 A3}{H H1 H2:Hp}{h h1 h2 h':IA}{a x e:A3}{o:HO}
theorem Un.any(u:Un fs ex H H1 h h1){b:A3}{ob:Obj}(q:h.get? b=some ob)(n:H b=none)(a:b∉ex):∃d,h1.get? b=some { ob with slots:=d }:=by
 by_cases c:b∈fs
 .exact u.slot b ob q n c a
 .exact⟨ob.slots,u.keep b ob q n c a⟩
theorem Un.kept(k:∀b u,h.get? b=some u->h'.get? b=some u):Un fs ex H H h h' :=
 ⟨λb a q _ _ _=>k b a q,λb a q _ _ _=>⟨a.slots,k b a q⟩,λ_ _ _ n _=>n,λb a q _=>⟨a,k b a q⟩,λ_ _ q=>q,λ_ _ _ q=>q,λ_ c q=>⟨#[],by rw[q];simp⟩⟩
theorem Un.refl:Un fs ex H H h h:=Un.kept λ_ _ q=>q
theorem Un.laid(k:∀b u,h.get? b=some u->h'.get? b=some u)(d:h.objs.size<=a)(c:H a=none):Un fs ex H (HZ H a o) h h' where
 keep:=λb u q _ _ _=>k b u q
 slot:=λb u q _ _ _=>⟨u.slots,k b u q⟩
 free:=λb u q n _=>by rw[B6 (A_ (BJ (AJ q) d))];exact n
 there:=λb u q _=>⟨u,k b u q⟩
 tups:=λb e q=>by rw[B6 (B2 q c)];exact q
 frzs:=λb u e q=>by rw[B6 (B2 q c)];exact q
 tbls:=λb f q=>⟨#[],by rw[B6 (B2 q c),q];simp⟩
theorem Un.write(c:TJ (H x))(j:e=x\/H e=some (.own x))(k:∀b u,b≠e->h.get? b=some u->h'.get? b=some u)(d:∃u,h'.get? e=some u):Un fs ex H (HZ H x o) h h':=by
 have g:∀b,H b=none->b≠x:=λb n z=>by subst z;rw[n]at c;exact c
 have i:∀b,H b=none->b≠e:=λb n z=>by
  subst z;rcases j with r | r
  .exact g b n r
  .rw[n]at r;cases r
 have f:∀b u,H b=some u->¬TJ (some u)->b≠x:=λb u q l z=>by subst z;rw[q]at c;exact l c
 refine⟨λb u q n _ _=>k b u (i b n) q,λb u q n _ _=>⟨u.slots,k b u (i b n) q⟩,λb u q n _=>by rw[B6 (g b n)];exact n,λb u q _=>?_,
  λb m q=>by rw[B6 (f b _ q λz=>z)];exact q,λb u m q=>by rw[B6 (f b _ q λz=>z)];exact q,λb p q=>⟨#[],by rw[B6 (f b _ q λz=>z),q];simp⟩⟩
 by_cases a:b=e
 .subst a;exact d
 .exact⟨u,k b u a q⟩
end
def trk(h:IA)(H:Hp):A1 A3:=(List.range h.objs.size).filter λa=>(H a).isSome
def Te(h:IA)(H:Hp):IA:=PySem.W.hideAll h (trk h H)
def Gn(h:IA)(H:Hp):(Te h H).objs.size=h.objs.size:=PySem.W.hideAll_size _ _
def y0{h:IA}{H:Hp}{b:A3}{o:Obj}(e:h.get? b=some o)(n:H b=none):(Te h H).get? b=some o :=
 PySem.W.hideAll_get _ e λa=>by
  have q:(H b).isSome=true:=(BQ.mp a).2;rw[n]at q;simp at q
def Qa{h:IA}{H:Hp}{b:A3}{o:Obj}(e:(Te h H).get? b=some o):h.get? b=some o/\H b=none:=by
 have a:h.get? b=some o:=PySem.W.of_hideAll (trk h H) e;refine⟨a,?_⟩;cases q:H b with
 | none=>rfl
 | some x =>
  have c:b∈trk h H:=BQ.mpr ⟨BU.mpr (AJ a),by simp[q]⟩;have z:(Te h H).get? b=none:=PySem.W.hideAll_none (trk h H) c;rw[z]at e;cases e
structure Mod(K:PySem.W.Frag)(mg:Str->A5 A2)(base:IA):Prop where
 kin:K.In base
 glob:base.Ns mainGlobals mg
 blt:∃mb,base.Ns builtinsNs mb/\∀x:Str,x≠ "__name__"->mb x=bootBuiltins x
 nolimit:base.NoLimit
set_option genInjectivity false in
structure Cx where
 prog:CM
 w:F8
 K:PySem.W.Frag
 mg:Str->A5 A2
 base:IA
 A:IC
 N:A1 Str
 s₀:A4
 H₀:Hp
 env:P_
 outer:A1 P_
 stack:A1 P_
 ex:A1 A3
 fn:Str->Bool
 calm:Bool
 pn:A1 (A3×Obj)
 xe:A2->A4->Prop
def PP(l:A1 P_):A1 A3:=l.filterMap (·.frame)
abbrev Cx.fs(X:Cx):A1 A3:=PP X.outer
def TD(a:JB)(x:Str):Prop:=a.names.lookup x=some .local\/a.names.lookup x=some .cell\/a.names.lookup x=some .free
def Loc(a:JB)(x:Str):Prop:=a.names.lookup x=some .local\/a.names.lookup x=some .cell
def zGc(a:P_)(h:IA)(m:Str->A5 A2)(x:Str)(u:A2):Prop :=
 (a.kindOf x=some .local/\m x=some u)\/((a.kindOf x=some .cell\/a.kindOf x=some .free)/\∃c,a.cells.lookup x=some c/\h.IsCell c (some u))
structure Cx.Ok(X:Cx):Prop where
 mod:Mod X.K X.mg X.base
 kind:X.env.scope.kind = .function
 glob:X.env.globals=mainGlobals
 blt:X.env.builtins=builtinsNs
 above:X.s₀.heap.objs.size<=X.env.locals
 inj:∀x y c,X.env.cells.lookup x=some c->X.env.cells.lookup y=some c->x=y
 has:∀x,(X.env.kindOf x=some .cell\/X.env.kindOf x=some .free)->∃c,X.env.cells.lookup x=some c
 cab:∀x c,X.fn x=true->X.env.cells.lookup x=some c->X.s₀.heap.objs.size<=c
 hd:X.calm=true->X.A.handled=none
 frames:X.A.frames=some X.stack
 stk:X.stack=X.outer\/(X.stack=X.env::X.outer/\X.env.frame=some X.env.locals)
 exf:∀b∈X.ex,b≠X.env.locals/\∀x c,X.env.cells.lookup x=some c->c≠b
 bs:∀b o,X.base.get? b=some o->X.s₀.heap.get? b=some o/\X.H₀ b=none
 bsz:X.base.objs.size<=X.s₀.heap.objs.size
 noex:∀b o,X.base.get? b=some o->b∉X.ex
 exfs:∀b∈X.ex,b∉X.fs
 funs:X.s₀.heap.FunFrames X.base X.outer
 frf:∀b∈X.fs,X.H₀ b=none
structure Inv(X:Cx)(pins:A1 (A3×Obj))(σ:A1 (A5 V))(H:Hp)(s:A4):Prop where
 ok:X.Ok
 os:s.os=X.s₀.os
 bare:AllBare s.gens
 base:Un X.fs X.ex X.H₀ H X.s₀.heap s.heap
 loc:∃m,s.heap.Ns X.env.locals m/\∀(i:Nat) (x:Str) (v:V),X.N[i]?=some x->σ[i]?=some (some v)->TD X.env.scope x->∃u,RelV v u/\zGc X.env s.heap m x u
 cell:∀x c,X.env.cells.lookup x=some c->∃v,s.heap.IsCell c v
 free:H X.env.locals=none
 freeC:∀x c,X.env.cells.lookup x=some c->H c=none
 pin:∀p∈X.pn++pins,s.heap.get? p.1=some p.2/\H p.1=none/\p.1≠X.env.locals/\p.1∉X.fs/\∀v,p.2.data≠ .cell v
 hok:LT X.prog X.w H s.heap
 len:σ.length=X.N.length
section
variable{X:Cx}{pins:A1 (A3×Obj)}{σ:A1 (A5 V)}{H H':Hp}{s:A4}{h':IA}
theorem Cx.Ok.nofr(a:X.Ok){b:A3}{o:Obj}(e:X.base.get? b=some o):b∉X.fs:=λc=>by
 have:=(a.funs.mem c).1;rw[e]at this;cases this
theorem Inv.bs(I:Inv X pins σ H s):∀b o,X.base.get? b=some o->s.heap.get? b=some o/\H b=none:=λb o e =>
 ⟨I.base.keep b o (I.ok.bs b o e).1 (I.ok.bs b o e).2 (I.ok.nofr e) (I.ok.noex b o e),I.base.free b o (I.ok.bs b o e).1 (I.ok.bs b o e).2 (I.ok.noex b o e)⟩
theorem Inv.bk(I:Inv X pins σ H s):∀b o,X.base.get? b=some o->s.heap.get? b=some o:=λb o e=>(I.bs b o e).1
theorem Inv.mod(I:Inv X pins σ H s):Mod X.K X.mg X.base:=I.ok.mod
theorem Inv.kIn(I:Inv X pins σ H s):X.K.In s.heap:=I.ok.mod.kin.keeps I.bk
theorem Inv.lt(I:Inv X pins σ H s):X.env.locals<s.heap.objs.size:=let⟨_,a,_⟩:=I.loc;a.lt
theorem Inv.sz(I:Inv X pins σ H s):X.s₀.heap.objs.size<=s.heap.objs.size:=Nat.le_trans I.ok.above (DH I.lt)
theorem Inv.nofs(I:Inv X pins σ H s){a:A3}(h:s.heap.objs.size<=a):a∉X.fs:=λb=>by
 obtain⟨_,o,c,_⟩:=I.ok.funs.mem b;exact absurd (BJ (AJ c) (Nat.le_trans I.sz h)) (CQ _)
theorem Inv.cne(I:Inv X pins σ H s):∀x c,X.env.cells.lookup x=some c->c≠X.env.locals:=λx c e z=>by
 obtain⟨v,o,d,f⟩:=I.cell x c e;obtain⟨m,⟨g,h,i,a,b,_⟩,_⟩:=I.loc;rw[z,a]at d;cases d;rw[b]at f;cases f
theorem Inv.funs(I:Inv X pins σ H s):s.heap.FunFrames X.base X.outer:=by
 have a:∀(l:A1 P_),(∀b∈PP l,b∈X.fs)->X.s₀.heap.FunFrames X.base l->s.heap.FunFrames X.base l:=by
  intro l
  induction l with
  | nil=>intro _ _;trivial
  | cons h r i =>
   intro g j;obtain⟨k,⟨L,o,c,m,n,p⟩,q⟩:=j;have d:L∈X.fs:=g L (by unfold PP;rw[DV,c];exact BH);obtain⟨t,e⟩:=I.base.slot L o n (I.ok.frf L d) d λz=>I.ok.exfs L z d;exact⟨k,⟨L,_,c,m,e,p⟩,i (λb f=>g b (by unfold PP;rw[DV,c];exact AU _ f)) q⟩
 exact a X.outer (λ_ f=>f) I.ok.funs
theorem Inv.stack(I:Inv X pins σ H s):s.heap.FunFrames X.base X.stack:=by
 rcases I.ok.stk with e | ⟨e,a⟩
 .rw[e];exact I.funs
 .rw[e];obtain⟨m,b,_⟩:=I.loc;refine .cons (by rw[I.ok.kind];decide) a b ?_ I.funs;exact Heap.get?_none_of_le (Nat.le_trans I.ok.bsz I.ok.above)
theorem Inv.stkSub(I:Inv X pins σ H s):∀b∈PP X.stack,b∈X.env.locals::X.fs:=λb a=>by
 rcases I.ok.stk with e | ⟨e,c⟩
 .rw[e]at a;exact AU _ a
 .rw[e]at a;unfold PP at a;rw[DV,c]at a;exact a
theorem Inv.stkFree(I:Inv X pins σ H s):∀b∈PP X.stack,H b=none:=λb hb=>by
 rcases AQ.mp (I.stkSub b hb)with e | hb
 .rw[e];exact I.free
 .obtain⟨_,o,a,_⟩:=I.ok.funs.mem hb;exact I.base.free b o a (I.ok.frf b hb) λz=>I.ok.exfs b z hb
theorem Inv.step{g':F1 GenState}{t':Nat}{d':Drawn}{ch:A1 A3}(I:Inv X pins σ H s)
  (g:∀b∈ch,(b∈X.ex\/X.s₀.heap.objs.size<=b)/\b≠X.env.locals/\(∀x c,X.env.cells.lookup x=some c->c≠b)/\∀p∈X.pn++pins,p.1≠b)
  (h:∀b o,b≠X.env.locals->b∉X.fs->b∉ch->s.heap.get? b=some o->H b=none->h'.get? b=some o)
  (B:∀b o,b≠X.env.locals->b∈X.fs->b∉ch->s.heap.get? b=some o->H b=none->∃O,h'.get? b=some { o with slots:=O }) (f:∀b o,b∉ch->s.heap.get? b=some o->H b=none->H' b=none)
  (C:∀b o,b∉ch->s.heap.get? b=some o->∃F,h'.get? b=some F)
  (G:∀b xs,H b=some (.tup xs)->H' b=some (.tup xs)) (J:∀b o u,H b=some (.frz o u)->H' b=some (.frz o u)) (K:∀b N,H b=some (.tbl N)->∃more,H' b=some (.tbl (N++more)))
  (ns:∀m,s.heap.Ns X.env.locals m->h'.Ns X.env.locals m) (P:LT X.prog X.w H' h') (W:AllBare g') :
  Inv X pins σ H' { s with heap:=h',gens:=g',drawn:=d',toks:=t' }:=by
 have L:∀b o,X.s₀.heap.get? b=some o->b≠X.env.locals:=λb o e=>A_ (BJ (AJ e) I.ok.above);have y:∀b o,X.s₀.heap.get? b=some o->b∉X.ex->b∉ch:=λb o e a D=>by
  rcases(g b D).1 with z | z
  .exact a z
  .exact absurd (BJ (AJ e) z) (CQ _)
 have j:∀x c,X.env.cells.lookup x=some c->∀v,s.heap.IsCell c v->h'.IsCell c v:=λx c e v ⟨o,E,Q⟩=>by
  have t:c∉ch:=λz=>(g c z).2.2.1 x c e rfl;by_cases S:c∈X.fs
  .obtain⟨O,q⟩:=B c o (I.cne x c e) S t E (I.freeC x c e);exact⟨_,q,Q⟩
  .exact⟨o,h c o (I.cne x c e) S t E (I.freeC x c e),Q⟩
 refine⟨I.ok,I.os,W,⟨λb o e n D a=>?_,λb o e n D a=>?_,λb o e n a=>?_,λb o e a=>?_,λb xs e=>G b xs (I.base.tups b xs e),λb o xs e=>J b o xs (I.base.frzs b o xs e),λb N e=>?_⟩,?_,λx c e=>?_,?_,λx c e=>?_,λp T=>?_,P,I.len⟩
 .exact h b o (L b o e) D (y b o e a) (I.base.keep b o e n D a) (I.base.free b o e n a)
 .obtain⟨O,A⟩:=I.base.slot b o e n D a;obtain⟨R,M⟩:=B b _ (L b o e) D (y b o e a) A (I.base.free b o e n a);exact⟨R,M⟩
 .obtain⟨F,A⟩:=I.base.there b o e a;exact f b F (y b o e a) A (I.base.free b o e n a)
 .obtain⟨F,A⟩:=I.base.there b o e a;exact C b F (y b o e a) A
 .obtain⟨Y,A⟩:=I.base.tbls b N e;obtain⟨Z,M⟩:=K b _ A;exact⟨Y++Z,by rw[M,Array.append_assoc]⟩
 .obtain⟨m,hn,hl⟩:=I.loc;refine⟨m,ns m hn,λi x v A M e3=>?_⟩;obtain⟨u,r,l⟩:=hl i x v A M e3;refine⟨u,r,?_⟩;rcases l with l | ⟨k,c,e,z⟩
  .exact .inl l
  .exact .inr ⟨k,c,e,j x c e _ z⟩
 .obtain⟨v,z⟩:=I.cell x c e;exact⟨v,j x c e v z⟩
 .obtain⟨m,⟨o,_,_,E,_⟩,_⟩:=I.loc;exact f _ o (λz=>(g _ z).2.1 rfl) E I.free
 .obtain⟨v,o,E,Q⟩:=I.cell x c e;exact f c o (λz=>(g c z).2.2.1 x c e rfl) E (I.freeC x c e)
 .obtain⟨e,n,U,V,d⟩:=I.pin p T;have t:p.1∉ch:=λz=>(g p.1 z).2.2.2 p T rfl;exact⟨h p.1 p.2 U V t e n,f p.1 p.2 t e n,U,V,d⟩
theorem Inv.un{t':Nat}(I:Inv X pins σ H s)(u:Un X.fs [] H H' s.heap h')(c:LT X.prog X.w H' h'):Inv X pins σ H' { s with heap:=h',toks:=t' }:=by
 obtain⟨m,⟨o,l,p,h,r⟩,_⟩:=id I.loc;obtain⟨q,i⟩:=u.any h I.free (by simp);exact I.step (g':=s.gens) (d':=s.drawn) (ch:=[]) (λ_ z=>nomatch z) (λb o _ d _ e n=>u.keep b o e n d (by simp)) (λb o _ d _ e n=>u.slot b o e n d (by simp)) (λb o _ e n=>u.free b o e n (by simp)) (λb o _ e=>u.there b o e (by simp)) u.tups u.frzs u.tbls (λt j=>by
  obtain⟨v,f,g,a,k⟩:=j;rw[h]at a;cases a;exact⟨_,f,g,i,k⟩) c I.bare
theorem Inv.call{g':F1 GenState}{t':Nat}{d':Drawn}{ch:A1 A3}(I:Inv X pins σ H s)(u:Un (PP X.stack) ch H H' s.heap h')(g:LT X.prog X.w H' h')(l:AllBare g')
  (d:∀b∈ch,(b∈X.ex\/X.s₀.heap.objs.size<=b)/\b≠X.env.locals/\(∀x c,X.env.cells.lookup x=some c->c≠b)/\∀p∈X.pn++pins,p.1≠b) :
  Inv X pins σ H' { s with heap:=h',gens:=g',drawn:=d',toks:=t' }:=by
 obtain⟨m,⟨o,y,A,k,r⟩,_⟩:=id I.loc;obtain⟨B,h⟩:=u.any k I.free λz=>(d _ z).2.1 rfl;exact I.step (ch:=ch) d (λb o h q a e n=>u.keep b o e n (λz=>(AQ.mp (I.stkSub b z)).elim h q) a) (λb o _ _ a e n=>u.any e n a) (λb o a e n=>u.free b o e n a) (λb o a e=>u.there b o e a) u.tups u.frzs u.tbls (λC t=>by
  obtain⟨D,i,j,f,v⟩:=t;rw[k]at f;cases f;exact⟨_,i,j,h,v⟩) g l
theorem Inv.turned{t':Nat}{a:A3}(I:Inv X pins σ H s)(k:∀b o,b≠a->s.heap.get? b=some o->h'.get? b=some o)(h:H a=none)(g:a≠X.env.locals)
  (h1:a∈X.ex\/X.s₀.heap.objs.size<=a) (h2:∀x c,X.env.cells.lookup x=some c->c≠a) (i:∀p∈X.pn++pins,p.1≠a):Inv X pins σ H { s with heap:=h',toks:=t' }:=by
 have f:∀b u,H b=some u->b≠a:=λb u e z=>by rw[z,h]at e;cases e
 refine I.step (g':=s.gens) (d':=s.drawn) (ch:=[a]) (λb j=>?_) (λb o _ _ d e _=>k b o (λz=>d (by simp[z])) e) (λb o _ _ d e _=>⟨o.slots,k b o (λz=>d (by simp[z])) e⟩) (λ_ _ _ _ n=>n)
  (λb o d e=>⟨o,k b o (λz=>d (by simp[z])) e⟩) (λ_ _ e=>e) (λ_ _ _ e=>e) (λb A e=>⟨#[],by rw[e];simp⟩) (λm l=>?_) (λb u e=>?_) I.bare
 .have e:b=a:=by simpa using j
  subst e;exact⟨h1,g,h2,i⟩
 .obtain⟨o,t,w,y,r⟩:=l;exact⟨o,t,w,k _ o (Ne.symm g) y,r⟩
 .refine(I.hok b u e).stay (λc v d q=>k c v ?_ q) (λ_ q=>q) λ_ _ q=>q;rcases d with z | z
  .rw[z];exact f b u e
  .exact f c _ z
theorem Inv.tok(I:Inv X pins σ H s)(t:Nat):Inv X pins σ H { s with toks:=t }:=I.un (h':=s.heap) (t':=t) Un.refl I.hok
theorem Inv.kept{t':Nat}(I:Inv X pins σ H s)(k:∀b u,s.heap.get? b=some u->h'.get? b=some u):Inv X pins σ H { s with heap:=h',toks:=t' }:=I.un (Un.kept k) (I.hok.kept k)
theorem Inv.laid{a:A3}{o:HO}{t':Nat}(I:Inv X pins σ H s)(k:∀b u,s.heap.get? b=some u->h'.get? b=some u)(c:s.heap.objs.size<=a)(d:IP X.prog X.w (HZ H a o) h' a o) :
  Inv X pins σ (HZ H a o) { s with heap:=h',toks:=t' }:=I.un (Un.laid k c (I.hok.fresh c)) (I.hok.laid k c d)
theorem Inv.write{x e:A3}{o:HO}{t':Nat}(I:Inv X pins σ H s)(d:TJ (H x))(f:e=x\/H e=some (.own x))(k:∀b u,b≠e->s.heap.get? b=some u->h'.get? b=some u)(a:∃u,h'.get? e=some u)
  (c:IP X.prog X.w (HZ H x o) h' x o):Inv X pins σ (HZ H x o) { s with heap:=h',toks:=t' }:=I.un (Un.write d f k a) (I.hok.write d f k a c)
theorem Inv.pins_of{a:A1 (A3×Obj)}(I:Inv X pins σ H s)(h:∀p∈a,s.heap.get? p.1=some p.2/\H p.1=none/\p.1≠X.env.locals/\p.1∉X.fs/\∀v,p.2.data≠ .cell v):Inv X a σ H s :=
 ⟨I.ok,I.os,I.bare,I.base,I.loc,I.cell,I.free,I.freeC,λp b=>(BD.mp b).elim (λz=>I.pin p (FR _ z)) (h p),I.hok,I.len⟩
theorem Ld{N:A1 Str}(c:N.Nodup){i j:Nat}{x:Str}(a:N[i]?=some x)(b:N[j]?=some x):i=j:=by
 obtain⟨f,d⟩:=AF.mp a;obtain⟨g,e⟩:=AF.mp b;exact(List.getElem_inj c).mp (d.trans e.symm)
theorem Hi{M:Model}{A:IC}{E:A2->A4->Prop}{i:Nat}{x:Str}{v:V}{u:A2}{Q:Unit->A4->Prop}(I:Inv X pins σ H s)(hN:X.N.Nodup)(hi:X.N[i]?=some x)(t:Loc X.env.scope x)(r:RelV v u)
  (h:∀W,Inv X pins (σ.set i (some v)) H W->(∃a,Heap.SameBut a s.heap W.heap/\(a=X.env.locals\/X.env.cells.lookup x=some a))->Q () W) (hf:X.fn x=true\/X.env.scope.names.lookup x=some .local:=by first | exact .inl rfl | exact .inr rfl | assumption):wpAny M A (storeName X.env x u) Q E s:=by
 obtain⟨m,Y,hl⟩:=id I.loc;have K:(X.env.scope.kind == .class||(X.env.scope.kind == .module&&X.env.locals != X.env.globals))=false:=by rw[I.ok.kind];rfl
 have hiσ:i<σ.length:=by rw[I.len];exact(AF.mp hi).1
 have D:=I.cne;have g:∀{a:A3} {h':IA},(∃o,s.heap.get? a=some o/\H a=none)->Heap.SameBut a s.heap h'->LT X.prog X.w H h':=fun{a h'} ha f b ob e=>by
  obtain⟨_,_,B⟩:=ha;refine(I.hok b ob e).stay (λc S hc q=>(f.2 c ?_).trans q) (λ_ q=>q) λ_ _ q=>q;rintro rfl;rcases hc with rfl | hc
  .rw[B]at e;cases e
  .rw[B]at hc;cases hc
 rcases t with hk | hk
 .refine wpAny_storeName_local hk Y (λh' Z f=>?_) K;obtain⟨oL,_,_,hoL,_⟩:=id Y;refine h _ ⟨I.ok,I.os,I.bare,⟨λb o e n F t=>?_,λb o e n F t=>?_,I.base.free,λb o e t=>?_,I.base.tups,I.base.frzs,I.base.tbls⟩,⟨_,Z,λj y v' l C e3=>?_⟩,λy c e=>?_,I.free,I.freeC,λp hp=>?_,g ⟨oL,hoL,I.free⟩ f,by simpa using I.len⟩ ⟨_,f,.inl rfl⟩
  .exact(f.2 b (A_ (BJ (AJ e) I.ok.above))).trans (I.base.keep b o e n F t)
  .obtain⟨sl,l⟩:=I.base.slot b o e n F t;exact⟨sl,(f.2 b (A_ (BJ (AJ e) I.ok.above))).trans l⟩
  .obtain⟨o',l⟩:=I.base.there b o e t;exact⟨o',(f.2 b (A_ (BJ (AJ e) I.ok.above))).trans l⟩
  .by_cases G:j=i
   .subst G;rw[hi]at l;cases l;rw[HH hiσ]at C;cases C;exact⟨u,r,.inl ⟨hk,by simp⟩⟩
   .rw[List.getElem?_set_ne (Ne.symm G)]at C;obtain⟨u',r',q⟩:=hl j y v' l C e3;refine⟨u',r',?_⟩;rcases q with⟨k,e⟩ | ⟨k,c,e,z⟩
    .refine .inl ⟨k,?_⟩;have:y≠x:=λe=>G (Ld hN l (e▸hi));simp[this,e]
    .exact .inr ⟨k,c,e,z.sameBut f (D y c e)⟩
  .obtain⟨S,z⟩:=I.cell y c e;exact⟨S,z.sameBut f (D y c e)⟩
  .obtain⟨e,n,T,nf,d⟩:=I.pin p hp;exact⟨(f.2 p.1 T).trans e,n,T,nf,d⟩
 .have J:X.fn x=true:=by
   rcases hf with z | z
   .exact z
   .rw[z]at hk;cases hk
  obtain⟨c,hc⟩:=I.ok.has x (.inl hk);obtain⟨S,z⟩:=I.cell x c hc;refine wpAny_storeName_cell I.ok.kind hk hc z (λh' L f=>?_);obtain⟨oc,O,P⟩:=id z;refine h { s with heap:=h' } ⟨I.ok,I.os,I.bare,⟨λb o e n F t=>?_,λb o e n F t=>?_,I.base.free,λb o e t=>?_,I.base.tups,I.base.frzs,I.base.tbls⟩,⟨m,Y.sameBut f (Ne.symm (D x c hc)),λj y v' l C e3=>?_⟩,λy U e=>?_,I.free,I.freeC,λp hp=>?_,g ⟨oc,O,I.freeC x c hc⟩ f,by simpa using I.len⟩ ⟨c,f,.inr hc⟩
  .exact(f.2 b (A_ (BJ (AJ e) (I.ok.cab x c J hc)))).trans (I.base.keep b o e n F t)
  .obtain⟨sl,l⟩:=I.base.slot b o e n F t;exact⟨sl,(f.2 b (A_ (BJ (AJ e) (I.ok.cab x c J hc)))).trans l⟩
  .obtain⟨o',l⟩:=I.base.there b o e t;exact⟨o',(f.2 b (A_ (BJ (AJ e) (I.ok.cab x c J hc)))).trans l⟩
  .by_cases G:j=i
   .subst G;rw[hi]at l;cases l;rw[HH hiσ]at C;cases C;exact⟨u,r,.inr ⟨.inl hk,c,hc,L⟩⟩
   .rw[List.getElem?_set_ne (Ne.symm G)]at C;obtain⟨u',r',q⟩:=hl j y v' l C e3;refine⟨u',r',?_⟩;rcases q with q | ⟨k,U,e,z'⟩
    .exact .inl q
    .refine .inr ⟨k,U,e,z'.sameBut f ?_⟩;rintro rfl;exact G (Ld hN l (I.ok.inj _ _ _ e hc▸hi))
  .by_cases R:U=c
   .subst R;exact⟨_,L⟩
   .obtain⟨w2,z2⟩:=I.cell y U e;exact⟨w2,z2.sameBut f R⟩
  .obtain⟨e,n,T,nf,d⟩:=I.pin p hp;refine⟨(f.2 p.1 ?_).trans e,n,T,nf,d⟩;intro q;rw[q,O]at e;have q':oc=p.2:=BE e;exact d S (by rw[<-q'];exact P)
theorem d6{M:Model}{A:IC}{E:A2->A4->Prop}{i:Nat}{x:Str}{v:V}{u:A2}{Q:Unit->A4->Prop}(I:Inv X pins σ H s)(b:X.N.Nodup)(hi:X.N[i]?=some x)(c:Loc X.env.scope x)(r:RelV v u)
  (h:∀a,Inv X pins (σ.set i (some v)) H a->Q () a) (d:X.fn x=true\/X.env.scope.names.lookup x=some .local:=by first | exact .inl rfl | exact .inr rfl | assumption):wpAny M A (storeName X.env x u) Q E s :=
 Hi I b hi c r (λa e _=>h a e) d
theorem Inv.call'{a:A4}{ch:A1 A3}(I:Inv X pins σ H s)(g:a.os=s.os)(u:Un (PP X.stack) ch H H' s.heap a.heap)(d:LT X.prog X.w H' a.heap)(h:AllBare a.gens)
  (f:∀b∈ch,(b∈X.ex\/X.s₀.heap.objs.size<=b)/\b≠X.env.locals/\(∀x c,X.env.cells.lookup x=some c->c≠b)/\∀p∈X.pn++pins,p.1≠b):Inv X pins σ H' a:=by
 obtain⟨h',g',d',t',i⟩:=a;have e:i=s.os:=g;subst e;exact I.call (g':=g') (t':=t') (d':=d') u d h f
end
abbrev XK:=A2->A5 A3->Hp->Prop
abbrev St:=A1 (A5 V)
abbrev VK:=V->Hp->Prop
abbrev TE:=St->Hp->VK->Prop
abbrev TT:=St->Hp->(Bool->Hp->Prop)->Prop
abbrev TA:=St->Hp->(A1 V->Hp->Prop)->Prop
set_option genInjectivity false in
structure Ends where
 nx:St->Hp->Prop
 rt:VK
 bk:St->Hp->Prop:=λ_ _=>False
 ct:St->Hp->Prop:=λ_ _=>False
abbrev TS:=Ends->St->Hp->Prop
def EP(X:Cx)(a:A1 (A3×Obj))(σ:St)(Q:VK)(u:A2)(c:A4):Prop:=∃v b,Inv X a σ b c/\RelV v u/\Q v b
def TP(X:Cx)(a:A1 (A3×Obj))(σ:St)(Q:Bool->Hp->Prop)(b:Bool)(d:A4):Prop:=∃c,Inv X a σ c d/\Q b c
def AP(X:Cx)(a:A1 (A3×Obj))(σ:St)(Q:A1 V->Hp->Prop)(us:A1 A2)(d:A4):Prop:=∃b c,Inv X a σ c d/\II b us/\Q b c
def SP(X:Cx)(a:A1 (A3×Obj))(D:Ends)(f:Flow)(c:A4):Prop :=
 match f with
 | .next=>∃σ' b,Inv X a σ' b c/\D.nx σ' b
 | .brk=>∃σ' b,Inv X a σ' b c/\D.bk σ' b
 | .cont=>∃σ' b,Inv X a σ' b c/\D.ct σ' b
 | .ret u=>∃v σ' b,Inv X a σ' b c/\RelV v u/\D.rt v b
def PE(X:Cx)(e:IE)(t:TE):Prop :=
 ∀(a:A1 (A3×Obj)) (s:A4) (σ:St) (H:Hp) (Q:VK),Inv X a σ H s->t σ H Q->wpAny (model X.prog X.w) X.A (eval e X.env) (EP X a σ Q) X.xe s
def PT(X:Cx)(e:IE)(t:TT):Prop :=
 ∀(a:A1 (A3×Obj)) (s:A4) (σ:St) (H:Hp) (Q:Bool->Hp->Prop),Inv X a σ H s->t σ H Q->wpAny (model X.prog X.w) X.A (isTrue e X.env (eval e X.env)) (TP X a σ Q) X.xe s
def PW(X:Cx)(e:IE)(t:TT):Prop :=
 ∀(b:Sem A2) (a:A1 (A3×Obj)) (s:A4) (σ:St) (H:Hp) (Q:Bool->Hp->Prop),Inv X a σ H s->t σ H Q->wpAny (model X.prog X.w) X.A (isTrue e X.env b) (TP X a σ Q) X.xe s
def PW.pt{X:Cx}{e:IE}{t:TT}(h:PW X e t):PT X e t:=h _
def PA(X:Cx)(c:A1 IE)(t:TA):Prop :=
 ∀(b:Pos) (a:A1 (A3×Obj)) (s:A4) (σ:St) (H:Hp) (Q:A1 V->Hp->Prop),Inv X a σ H s->t σ H Q->wpAny (model X.prog X.w) X.A (spliced (backTo b (starEach c X.env))) (AP X a σ Q) X.xe s
def PS(X:Cx)(st:IL)(t:TS):Prop :=
 ∀(a:A1 (A3×Obj)) (s:A4) (σ:St) (H:Hp) (D:Ends),Inv X a σ H s->t D σ H->wpAny (model X.prog X.w) X.A (exec st X.env) (SP X a D) X.xe s
def QG(X:Cx)(st:A1 IL)(t:TS):Prop :=
 ∀(a:A1 (A3×Obj)) (s:A4) (σ:St) (H:Hp) (D:Ends),Inv X a σ H s->t D σ H->wpAny (model X.prog X.w) X.A (execs st X.env) (SP X a D) X.xe s
def IY{α:Type}{t:Sem α}{Q b:α->A4->Prop}{M:Model}{A:IC}{E:A2->A4->Prop}{s:A4}(h:wpAny M A t Q E s)(c:∀a s,Q a s->b a s):wpAny M A t b E s:=CF h c λ_ _ x=>x
section
variable{X:Cx}
def Ux(i:Nat):TE:=λσ H Q=>∃v,σ[i]?=some (some v)/\Q v H
def tC(v:V):TE:=λ_ H Q=>Q v H
theorem Wt{i:Nat}{x:Str}{pos:Pos}(k:X.N[i]?=some x)(n:TD X.env.scope x)(f:(x ==("__debug__":Str))=false:=by decide)(g:(x ==("__classdict__":Str))=false:=by decide):PE X (.Name x pos) (Ux i):=by
 intro d s σ H Q I h;obtain⟨v,e,h⟩:=h;obtain⟨m,o,p⟩:=I.loc;obtain⟨u,r,l⟩:=p i x v k e n;have b:EP X d σ Q u s:=⟨v,H,I,r,h⟩;rcases l with⟨hk,q⟩ | ⟨hk,c,j,a⟩
 .exact wpAny_Name (wpAny_loadName_local I.ok.kind hk o q b) f
 .rcases hk with hk | hk
  .exact wpAny_Name (wpAny_loadName_cell I.ok.kind hk j a b) f
  .exact wpAny_Name (wpAny_loadName_free I.ok.kind hk j a b g) f
theorem B7{i j pos}:PE X (.Constant (.int i) j pos) (tC (.int i)):=λ_ _ _ H _ I h=>wpAny_Constant_int ⟨.int i,H,I.tok _,⟨_,rfl⟩,h⟩
theorem X3{b j pos}:PE X (.Constant (.bool b) j pos) (tC (.bl b)):=λ_ _ _ H _ I h=>Constant_bool ⟨.bl b,H,I,rfl,h⟩
theorem Bf{j pos}:PE X (.Constant .none j pos) (tC .non):=λ_ _ _ H _ I h=>Constant_none ⟨.non,H,I,rfl,h⟩
theorem Q1{x j pos}:PE X (.Constant (.str x) j pos) (tC (.str x)):=λ_ _ _ H _ I h=>Calls.Constant_str ⟨.str x,H,I.tok _,⟨_,rfl⟩,h⟩
def Gl(X:Cx)(x:Str):Prop:=X.env.kindOf x=some .globalImplicit
theorem Ju{E:A2->A4->Prop}{a:A1 (A3×Obj)}{s:A4}{σ:St}{H:Hp}{x:Str}{u:A2}{pos:Pos}{Q:A2->A4->Prop}(I:Inv X a σ H s)(b:Gl X x)(c:X.mg x=some u)(h:Q u s)
  (d:(x ==("__debug__":Str))=false:=by decide):wpAny (model X.prog X.w) X.A (eval (.Name x pos) X.env) Q E s :=
 Calls.Name_function_global I.ok.kind b (Calls.loadGlobal_global (by rw[I.ok.glob];exact I.mod.glob.keeps I.bk) c h) d
theorem q0{E:A2->A4->Prop}{a:A1 (A3×Obj)}{s:A4}{σ:St}{H:Hp}{x:Str}{u:A2}{pos:Pos}{Q:A2->A4->Prop}(I:Inv X a σ H s)(b:Gl X x)(c:X.mg x=none)(d:bootBuiltins x=some u)(h:Q u s)
  (e:x≠ "__name__":=by decide) (f:(x ==("__debug__":Str))=false:=by decide):wpAny (model X.prog X.w) X.A (eval (.Name x pos) X.env) Q E s:=by
 obtain⟨j,g,i⟩:=I.mod.blt;exact Calls.Name_function_global I.ok.kind b (Calls.loadGlobal_builtin (by rw[I.ok.glob];exact I.mod.glob.keeps I.bk) c (by rw[I.ok.blt];exact g.keeps I.bk) ((i x e).trans d) h) f
theorem Jd{x:Str}{v:V}{u:A2}{pos:Pos}(a:Gl X x)(b:X.mg x=some u)(r:RelV v u)(c:(x ==("__debug__":Str))=false:=by decide):PE X (.Name x pos) (tC v) :=
 λ_ _ _ H _ I h=>Ju I a b ⟨v,H,I,r,h⟩ c
theorem Zm{x:Str}{v:V}{u:A2}{pos:Pos}(a:Gl X x)(b:X.mg x=none)(c:bootBuiltins x=some u)(r:RelV v u)(d:x≠ "__name__":=by decide)(e:(x ==("__debug__":Str))=false:=by decide):PE X (.Name x pos) (tC v) :=
 λ_ _ _ H _ I h=>q0 I a b c ⟨v,H,I,r,h⟩ d e
variable{a b:IE}{ta tb:TE}{pos:Pos}
def PC(X:Cx)(op:CmpOp)(a b:IE)(t:TE):Prop :=
 ∀(c:A1 (A3×Obj)) (s:A4) (σ:St) (H:Hp) (Q:VK),Inv X c σ H s->t σ H Q ->
  wpAny (model X.prog X.w) X.A (eval a X.env) (λv s₁=>wpAny (model X.prog X.w) X.A (eval b X.env) (λu s₂=>wpAny (model X.prog X.w) X.A (compareOp op v u) (EP X c σ Q) X.xe s₂) X.xe s₁) X.xe s
def tB(t:TE):TT:=λσ H Q=>t σ H λx a=>∃c,x = .bl c/\Q c a
theorem zCo{op:CmpOp}{t:TE}(h:PC X op a b t)(h1:behindInMarks op b=false:=by first | exact e _ (by decide) (by decide) | rfl):PT X (.Compare a [op] [b] pos) (tB t):=by
 intro f s σ H Q I g;refine wpAny_isTrue_Compare1 (IY (h f s σ H _ I g) λv n h1=>IY h1 λu o i=>IY i λc p ⟨x,j,k,l,m⟩=>?_) h1;obtain⟨d,rfl,q⟩:=m;cases l;exact DF ⟨j,k,q⟩
theorem P3{e:IE}{t:TE}(h:PE X e t)(c:∀a,isTrue e X.env a =(do let v <-a;standAt e.pos;holding [v] (truthy v)):=by intro _;rfl):PT X e (tB t):=by
 intro b s σ H Q I f;refine isTrue_plain (IY (h b s σ H _ I f) λv l ⟨x,g,i,j,k⟩=>?_) (c _);obtain⟨d,rfl,q⟩:=k;cases j;exact DF ⟨g,i,q⟩
variable{tA tB':TT}{rest:A1 IE}
def zFj(t u:TT):TT:=λσ H Q=>t σ H λc a=>if c=true then u σ a Q else Q false a
def tOr(t u:TT):TT:=λσ H Q=>t σ H λc a=>if c=true then Q true a else u σ a Q
def zFv(t:TT):TT:=λσ H Q=>t σ H λc a=>Q (!c) a
theorem Ez(d:PT X a tA):PW X (.BoolOp .And [a] pos) tA:=by
 intro f b s σ H Q I h;refine isTrue_and (IY (d b s σ H Q I h) λc g e=>?_);cases c with
 | true=>exact isTrue_and_nil e
 | false=>exact e
theorem U4(d:PT X a tA):PW X (.BoolOp .Or [a] pos) tA:=by
 intro f b s σ H Q I h;refine isTrue_or (IY (d b s σ H Q I h) λc g e=>?_);cases c with
 | false=>exact isTrue_or_nil e
 | true=>exact e
theorem Hm(i:PT X a tA)(j:PW X (.BoolOp .And (b::rest) pos) tB'):PW X (.BoolOp .And (a::b::rest) pos) (zFj tA tB'):=by
 intro k d s σ H Q I h;refine isTrue_and (IY (i d s σ H _ I h) λc l ⟨e,f,g⟩=>?_);cases c with
 | true=>exact j k d l σ e Q f g
 | false=>exact⟨e,f,g⟩
theorem V3(i:PT X a tA)(j:PW X (.BoolOp .Or (b::rest) pos) tB'):PW X (.BoolOp .Or (a::b::rest) pos) (tOr tA tB'):=by
 intro k d s σ H Q I h;refine isTrue_or (IY (i d s σ H _ I h) λc l ⟨e,f,g⟩=>?_);cases c with
 | true=>exact⟨e,f,g⟩
 | false=>exact j k d l σ e Q f g
theorem P5(d:PT X a tA):PT X (.UnaryOp .Not a pos) (zFv tA):=by
 intro b s σ H Q I h;exact isTrue_not (d b s σ H (λc e=>Q (!c) e) I h)
def zEe(ta tb:TE):TE:=λσ H Q=>ta σ H λx a=>∃c,x = .bl c/\if c=true then tb σ a Q else Q (.bl false) a
theorem Pk{op}{t:TE}(h:PE X a t):PE X (.BoolOp op [a] pos) t:=λb s σ H Q I c=>BoolOp_one (h b s σ H Q I c)
theorem Hj(i:PE X a ta)(j:PE X (.BoolOp .And (b::rest) pos) tb):PE X (.BoolOp .And (a::b::rest) pos) (zEe ta tb):=by
 intro d s σ H Q I h;refine BoolOp_and (IY (i d s σ H _ I h) λv k ⟨x,f,g,l,e⟩=>?_);obtain⟨c,rfl,e⟩:=e;cases l;refine DF ?_;cases c with
 | true=>exact j d k σ f Q g e
 | false=>exact⟨.bl false,f,g,rfl,e⟩
def tIf(t:TT)(ta tb:TE):TE:=λσ H Q=>t σ H λc a=>if c=true then ta σ a Q else tb σ a Q
theorem Tn{c:IE}(k:PT X c tA)(l:PE X a ta)(m:PE X b tb):PE X (.IfExp c a b pos) (tIf tA ta tb):=by
 intro e s σ H Q I h;refine wpAny_IfExp (IY (k e s σ H _ I h) λd f ⟨g,i,j⟩=>?_);cases d with
 | true=>exact l e f σ g Q i j
 | false=>exact m e f σ g Q i j
end
def IG(K:PySem.W.Frag)(H:Hp)(a:A3)(xs:A1 V):Prop :=
 Rd H a (.lst xs) \/
  ∃(o:Obj) (b:F1 A2) (n:Nat),K.lookup a=some o/\o.cls = .type "list"/\o.dict=none/\o.data = .seq b n/\b.size<=sizeLine/\II xs b.toList
def IW(K:PySem.W.Frag)(H:Hp)(a:A3)(xs:A1 V):Prop :=
 Rd H a (.tup xs) \/
  ∃(o:Obj) (b:F1 A2) (n:Nat),K.lookup a=some o/\o.cls = .type "tuple"/\o.data = .seq b n/\b.size<=sizeLine/\II xs b.toList
def zGn:A2->A5 V
 | .none=>some .non
 | .bool b=>some (.bl b)
 | .int i _=>some (.int i)
 | .str x _=>some (.str x)
 | .bytes b _=>some (.byt b)
 | .float b _=>some (.flt b)
 | .ref a=>some (.ref a)
 | .type n=>some (.ty n)
 | _=>none
def RelV.abs{x:V}{u:A2}(r:RelV x u):zGn u=some x:=by
 cases x with
 | non=>cases r;rfl
 | bl _=>cases r;rfl
 | int _=>obtain⟨t,rfl⟩:=r;rfl
 | str _=>obtain⟨t,rfl⟩:=r;rfl
 | byt _=>obtain⟨t,rfl⟩:=r;rfl
 | flt _=>obtain⟨t,rfl⟩:=r;rfl
 | ref _=>cases r;rfl
 | ty _=>cases r;rfl
def RelV.inj{x y:V}{u:A2}(r:RelV x u)(q:RelV y u):x=y:=BE (r.abs.symm.trans q.abs)
def II.inj:∀{xs ys:A1 V} {us:A1 A2},II xs us->II ys us->xs=ys
 | _,_,_,.nil,.nil=>rfl
 | _,_,_,.cons r t,.cons a b=>by rw[r.inj a,II.inj t b]
section
variable{X:Cx}{pins:A1 (A3×Obj)}{σ:St}{H:Hp}{s:A4}{a:A3}{xs ys:A1 V}
theorem IG.of{K:PySem.W.Frag}(h:H a=some (.lst xs)):IG K H a xs:=.inl (.inl h)
theorem IW.of{K:PySem.W.Frag}(h:H a=some (.tup xs)):IW K H a xs:=.inl (.inl h)
theorem Inv.list(I:Inv X pins σ H s)(h:IG X.K H a xs):∃its:A1 A2,II xs its/\PlainL s.heap a its.toArray/\xs.length<=sizeLine:=by
 rcases h with h | ⟨o,its,n,b,c,d,f,g,r⟩
 .obtain⟨z,its,n,r,e⟩:=h.ok I.hok;exact⟨its,r,⟨_,n,e,rfl,rfl,rfl⟩,z⟩
 .refine⟨its.toList,r,⟨o,n,I.kIn a o b,c,d,by simpa using f⟩,?_⟩;have e:=r.length;simp only[AR]at e;omega
theorem Inv.tuple(I:Inv X pins σ H s)(h:IW X.K H a xs):∃its:A1 A2,II xs its/\IsTup s.heap a its.toArray/\xs.length<=sizeLine:=by
 rcases h with h | ⟨o,its,n,b,c,d,f,r⟩
 .obtain⟨z,its,r,p⟩:=h.ok I.hok;exact⟨its,r,p,z⟩
 .refine⟨its.toList,r,⟨o,I.kIn a o b,c,n,by simpa using d⟩,?_⟩;have e:=r.length;simp only[AR]at e;omega
theorem Inv.list_inj(I:Inv X pins σ H s)(h:IG X.K H a xs)(h':IG X.K H a ys):xs=ys:=by
 obtain⟨c,r,⟨o,n,e,_,_,d⟩,_⟩:=I.list h;obtain⟨b,i,⟨k,l,f,_,_,g⟩,_⟩:=I.list h';rw[e]at f;cases f;rw[d]at g;injection g with j _;have:c=b:=by simpa using congrArg Array.toList j
 subst this;exact r.inj i
theorem Inv.tuple_inj(I:Inv X pins σ H s)(h:IW X.K H a xs)(h':IW X.K H a ys):xs=ys:=by
 obtain⟨c,r,⟨o,e,_,n,d⟩,_⟩:=I.tuple h;obtain⟨b,i,⟨k,f,_,l,g⟩,_⟩:=I.tuple h';rw[e]at f;cases f;rw[d]at g;injection g with j _;have:c=b:=by simpa using congrArg Array.toList j
 subst this;exact r.inj i
end
abbrev Cx.wish(X:Cx)(E:A2->A4->Prop):Cx:={ X with xe:=E }
abbrev Cx.nox(X:Cx):Cx:=X.wish λ_ _=>False
def Cx.Ok.wish{X:Cx}(a:X.Ok)(E:A2->A4->Prop):(X.wish E).Ok :=
 ⟨a.mod,a.kind,a.glob,a.blt,a.above,a.inj,a.has,a.cab,a.hd,a.frames,a.stk,a.exf,a.bs,a.bsz,a.noex,a.exfs,a.funs,a.frf⟩
def Cx.Ok.unwish{X:Cx}{E:A2->A4->Prop}(a:(X.wish E).Ok):X.Ok :=
 ⟨a.mod,a.kind,a.glob,a.blt,a.above,a.inj,a.has,a.cab,a.hd,a.frames,a.stk,a.exf,a.bs,a.bsz,a.noex,a.exfs,a.funs,a.frf⟩
section
variable{X:Cx}{pins:A1 (A3×Obj)}{σ:St}{H:Hp}{s:A4}{E:A2->A4->Prop}
theorem Inv.wish(I:Inv X pins σ H s)(E:A2->A4->Prop):Inv (X.wish E) pins σ H s:=⟨I.ok.wish E,I.os,I.bare,I.base,I.loc,I.cell,I.free,I.freeC,I.pin,I.hok,I.len⟩
theorem Inv.unwish(I:Inv (X.wish E) pins σ H s):Inv X pins σ H s:=⟨I.ok.unwish,I.os,I.bare,I.base,I.loc,I.cell,I.free,I.freeC,I.pin,I.hok,I.len⟩
theorem SP.unwish{D:Ends}{f:Flow}{b:A4}(h:SP (X.wish E) pins D f b):SP X pins D f b:=by
 cases f with
 | next=>obtain⟨σ',a,I,q⟩:=h;exact⟨σ',a,I.unwish,q⟩
 | brk=>obtain⟨σ',a,I,q⟩:=h;exact⟨σ',a,I.unwish,q⟩
 | cont=>obtain⟨σ',a,I,q⟩:=h;exact⟨σ',a,I.unwish,q⟩
 | ret u=>obtain⟨v,σ',a,I,r,q⟩:=h;exact⟨v,σ',a,I.unwish,r,q⟩
theorem QG.nox{st:A1 IL}{t:TS}(h:QG X.nox st t):QG X st t:=λpins s σ H D I a =>
 CF (h pins s σ H D (I.wish _) a) (λ_ _ q=>q.unwish) λ_ _ z=>False.elim z
end
section
variable{X:Cx}{st:IL}{rest:A1 IL}{t u:TS}{e:IE}{te:TE}{pos:Pos}
def zCs:TS:=λD σ H=>D.nx σ H
def SO(t u:TS):TS:=λD σ H=>t { D with nx:=u D } σ H
theorem C5:QG X [] zCs:=λ_ _ σ H _ I h=>wpAny_execs_nil ⟨σ,H,I,h⟩
theorem B3(h1:PS X st t)(h2:QG X rest u):QG X (st::rest) (SO t u):=by
 intro a s σ H D I h;refine wpAny_execs_cons (IY (h1 a s σ H { D with nx:=u D } I h) λf b q=>?_);cases f with
 | next =>
  obtain⟨σ',c,d,q⟩:=q;exact h2 a b σ' c D d q
 | ret v=>exact q
 | brk=>exact q
 | cont=>exact q
theorem B4(h1:PS X st t):QG X [st] t:=by
 intro a s σ H D I h;refine wpAny_execs_cons (IY (h1 a s σ H D I h) λf b q=>?_);cases f with
 | next=>exact wpAny_execs_nil q
 | ret v=>exact q
 | brk=>exact q
 | cont=>exact q
theorem Inv.quiet{a:A1 (A3×Obj)}{σ:St}{H:Hp}{s:A4}(I:Inv X a σ H s):interactive X.env=false:=by simp[interactive,I.ok.kind]
def zEa(te:TE):TS:=λD σ H=>te σ H λ_ a=>D.nx σ a
theorem K3(b:PE X e te)(c:swapsWith e none pos.line X.env=pure false:=by rfl):PS X (.Expr e pos) (zEa te):=by
 intro a s σ H D I h;exact wpAny_Expr_any (IY (b a s σ H _ I h) λv i ⟨x,d,f,j,g⟩=>⟨σ,d,f,g⟩) I.quiet c
def zGd(te:TE):TS:=λD σ H=>te σ H D.rt
theorem C1(b:PE X e te):PS X (.Return (some e) pos) (zGd te):=by
 intro a s σ H D I h;exact wpAny_Return_some (IY (b a s σ H _ I h) λv i ⟨x,c,d,f,g⟩=>⟨x,σ,c,d,f,g⟩)
def zFn(c:TT)(t u:TS):TS:=λD σ H=>c σ H λb a=>if b=true then t D σ a else u D σ a
theorem J9{c:IE}{a b:A1 IL}{f:TT}(l:PT X c f)(m:QG X a t)(n:QG X b u):PS X (.If c a b pos) (zFn f t u):=by
 intro e s σ H D I h;refine wpAny_If (IY (l e s σ H _ I h) λd g ⟨i,j,k⟩=>?_);cases d with
 | true=>exact m e g σ i D j k
 | false=>exact n e g σ i D j k
def zBh:TS:=λ_ _ _=>False
theorem Ek:PS X st zBh:=λ_ _ _ _ _ _ h=>h.elim
end
abbrev TG:=V->St->Hp->(St->Hp->Prop)->Prop
abbrev RX:=A1 V->St->Hp->(St->Hp->Prop)->Prop
def PG(X:Cx)(a:IE)(t:TG):Prop :=
 ∀(b:A1 (A3×Obj)) (s:A4) (σ:St) (H:Hp) (v:V) (u:A2) (Q:St->Hp->Prop),Inv X b σ H s->RelV v u->t v σ H Q ->
  wpAny (model X.prog X.w) X.A (assign a X.env u) (λ_ d=>∃σ' c,Inv X b σ' c d/\Q σ' c) X.xe s
def TH(X:Cx)(ts:A1 IE)(t:RX):Prop :=
 ∀(a:A1 (A3×Obj)) (s:A4) (σ:St) (H:Hp) (b:A1 V) (c:A1 A2) (Q:St->Hp->Prop),Inv X a σ H s->II b c->t b σ H Q ->
  wpAny (model X.prog X.w) X.A (assignInOrder ((assignEach ts X.env).map (·.2)) c) (λ_ e=>∃σ' d,Inv X a σ' d e/\Q σ' d) X.xe s
abbrev MO:=V->V->V->Hp->(Hp->Prop)->Prop
def zFi(X:Cx)(t:MO):Prop :=
 ∀(a:A1 (A3×Obj)) (s:A4) (σ:St) (H:Hp) (o i v:V) (b c u:A2) (Q:Hp->Prop),Inv X a σ H s->RelV o b->RelV i c->RelV v u->t o i v H Q ->
  wpAny (model X.prog X.w) X.A (setItem b c u) (λ_ e=>∃d,Inv X a σ d e/\Q d) X.xe s
abbrev TIp:=V->V->Hp->VK->Prop
def PIp(X:Cx)(op:Operator)(t:TIp):Prop :=
 ∀(a:A1 (A3×Obj)) (s:A4) (σ:St) (H:Hp) (x y:V) (v u:A2) (Q:VK),Inv X a σ H s->RelV x v->RelV y u->t x y H Q ->
  wpAny (model X.prog X.w) X.A (inplaceOp op v u) (EP X a σ Q) X.xe s
section
variable{X:Cx}{pos:Pos}
def l4(i:Nat):TG:=λv σ H Q=>Q (σ.set i (some v)) H
theorem D8{i:Nat}{x:Str}(b:X.N.Nodup)(hi:X.N[i]?=some x)(c:Loc X.env.scope x)(d:X.fn x=true\/X.env.scope.names.lookup x=some .local:=by first | exact .inl rfl | exact .inr rfl | assumption):PG X (.Name x pos) (l4 i):=by
 intro a s σ H v u Q I r h;exact wpAny_assign_Name (d6 I b hi c r (λf e=>⟨_,H,e,h⟩) d)
def zGf:RX:=λa σ H Q=>a = []/\Q σ H
def zEr(t:TG)(u:RX):RX:=λa σ H Q=>∃v r,a=v::r/\t v σ H λσ' b=>u r σ' b Q
theorem S4:TH X [] zGf:=by
 intro a s σ H b c Q I r h;obtain⟨e,h⟩:=h;subst e;cases r;exact assignInOrder_nil ⟨σ,H,I,h⟩
theorem E5{e:IE}{b:A1 IE}{t:TG}{u:RX}(h1:PG X e t)(h2:TH X b u)
  (c:(assignEach (e::b) X.env).map (·.2)=assign e X.env ::(assignEach b X.env).map (·.2):=by rfl):TH X (e::b) (zEr t u):=by
 intro a s σ H l m Q I r h;obtain⟨v,n,d,h⟩:=h;subst d;cases r with
 | cons r f =>
  rw[c];refine assignInOrder_cons (IY (h1 a s σ H _ _ _ I r h) λ_ g ⟨σ1,i,j,k⟩=>?_);exact h2 a g σ1 i _ _ Q j f k
def zFp(K:PySem.W.Frag)(n:Nat)(t:RX):TG:=λv σ H Q=>∃a b,v = .ref a/\IW K H a b/\b.length=n/\t b σ H Q
theorem zDe{d:A1 IE}{k:Nat}{t:RX}{n:Nat}(j:X.calm=true)(h:TH X d t)
  (l:(assignEach d X.env).length=n:=by rfl) (f:(assignEach d X.env).findIdx? (·.1)=none:=by rfl):PG X (.Tuple d k pos) (zFp X.K n t):=by
 intro c s σ H v u Q I r g;obtain⟨a,m,p,q,w,g⟩:=g;subst p;cases r;obtain⟨x,i,y,C⟩:=I.tuple q;refine assign_Tuple_tuple (I.ok.hd j) y (by simp[l,<-w,i.length]) f λz A=>?_;have B:Inv X c σ H { s with heap:=z }:=I.kept (t':=s.toks) λb o e=>A b o (A_ (AJ e)) e;exact h c _ σ H m _ Q B (by simpa using i) g
def zGm(a b:TE)(t:MO):TG:=λv σ H Q=>a σ H λo c=>b σ c λi d=>t o i v d λe=>Q σ e
theorem Kj{o i:IE}{d e:TE}{t:MO}(f:PE X o d)(hi:PE X i e)(g:zFi X t)
  (j:∀v,assign (.Subscript o i pos) X.env v =(do
   let b <-holding [v] (eval o X.env)
   let c <-holding [v,b] (eval i X.env)
   standAt pos
   holding [v,b,c] (setItem b c v)
   release [v,b,c] []):=by intro _;rfl):PG X (.Subscript o i pos) (zGm d e t):=by
 intro a s σ H v u Q I r h;rw[j];refine AA (BX (IY (f a s σ H _ I h) λb k ⟨x,l,m,n,p⟩=>?_));refine AA (BX (IY (hi a k σ l _ m p) λc q ⟨y,w,z,A,B⟩=>?_));refine AA (GH (AA (BX (IY (g a q σ w x y v b c u _ z n A r B) λ_ F ⟨C,D,E⟩=>?_))));exact wpAny_release ⟨σ,C,D,E⟩
def zEf(a:TE)(g:TG):TS:=λD σ H=>a σ H λx b=>g x σ b D.nx
theorem Ad{tg e:IE}{b:TE}{g:TG}(c:PE X e b)(d:PG X tg g)(f:swapsWithSole [tg] e pos.line X.env=pure false:=by rfl)(hw:swappedStores [tg] e X.env=pure none:=by rfl)
  (h1:(assignEach [tg] X.env).map (·.2) = [assign tg X.env]:=by rfl):PS X (.Assign [tg] e pos) (zEf b g):=by
 intro a s σ H D I h;refine wpAny_Assign_stores (IY (c a s σ H _ I h) λv i ⟨x,j,k,l,m⟩=>?_) f hw;rw[h1];exact IY (d a i σ j x v _ k l m) λ_ n q=>q
theorem C7{i:Nat}{x:Str}{e:IE}{c:TE}{a:Pos}(d:X.N.Nodup)(hi:X.N[i]?=some x)(f:Loc X.env.scope x)(g:PE X e c)(j:swapsWith e (some (.Name x a)) pos.line X.env=pure false:=by rfl)(k:X.fn x=true\/X.env.scope.names.lookup x=some .local:=by first | exact .inl rfl | exact .inr rfl | assumption) :
  PS X (.Assign [.Name x a] e pos) (zEf c (l4 i)):=by
 intro b s σ H D I h;refine wpAny_Assign_Name (IY (g b s σ H _ I h) λv q ⟨y,l,m,n,o⟩=>?_) j;exact d6 m d hi f n (λr p=>⟨_,l,p,o⟩) k
def zFw(i j:Nat)(a:TA):TS:=λD σ H=>a σ H λb c=>∃v w,b = [v,w]/\D.nx ((σ.set i (some v)).set j (some w)) c
theorem Wj{i j:Nat}{x y:Str}{a b:IE}{C:TA}{k l m:Pos}{n r d}(L:X.calm=true)(E:X.N.Nodup)(hi:X.N[i]?=some x)(M:X.N[j]?=some y)(t:i≠j)
  (F:X.env.scope.names.lookup x=some .local) (G:X.env.scope.names.lookup y=some .local) (O:PA X [a,b] C)
  (hw:swappedStores [.Tuple [.Name x k,.Name y l] n m] (.Tuple [a,b] r d) X.env=pure (some [x,y]))
  (P:swapsWithSole [.Tuple [.Name x k,.Name y l] n m] (.Tuple [a,b] r d) pos.line X.env=pure false:=by rfl) :
  PS X (.Assign [.Tuple [.Name x k,.Name y l] n m] (.Tuple [a,b] r d) pos) (zFw i j C):=by
 intro c s σ H D I h;rw[exec_Assign_arm];refine AA (GH ?_);rw[P];refine AA (AG ?_);rw[AI (by decide)];refine AA (Tuple_ (IY (O _ c s σ H _ I h) λQ s1 ⟨vs,J,R,S,u⟩=>?_));obtain⟨v,w,T,u⟩:=u;subst T;obtain⟨f,g,rfl,U,z⟩:∃f g,Q = [f,g]/\RelV v f/\RelV w g:=by
  cases S with
  | cons p q =>
   cases q with
   | cons V W =>
    cases W;exact⟨_,_,rfl,p,V⟩
 refine DL ?_ (by show 2<=sizeLine;decide);have Y:Inv X c σ J { s1 with heap:=s1.heap.push { cls:=.type "tuple",data:=.seq [f,g].toArray } }:=R.kept (t':=s1.toks) λb o e=>AD _ e;rw[hw];refine AA (AG ?_);show wpAny (model X.prog X.w) X.A (do rule "assign.swapped-stores";let items <-unpackItems (.ref s1.heap.objs.size) 2 none;assignInOrder [λv=>bindName X.env y v,λv=>bindName X.env x v] items.reverse;pure Flow.next) _ _ _;refine AA (EC (AA (unpackItems_tuple (items:=#[f,g]) (I.ok.hd L) (IsTup.new s1.heap _) λh' B=>?_)));have Z:=Y.kept (h':=h') (t':=s1.toks) λb o e=>B b o (A_ (AJ e)) e;show wpAny _ _ (assignInOrder [λv=>bindName X.env y v,λv=>bindName X.env x v] [g,f] >>= λ_=>pure Flow.next) _ _ _;refine AA (assignInOrder_cons (wpAny_bindName (d6 Z E M (.inl G) z (λs2 I4=>?_) (.inr G))));refine assignInOrder_cons (wpAny_bindName (d6 I4 E hi (.inl F) U (λs3 K=>assignInOrder_nil (AG ?_)) (.inr F)));rw[List.set_comm _ _ (Ne.symm t)]at K;exact⟨_,J,K,u⟩
def zFz(i:Nat)(a:TE)(b:TIp):TS:=λD σ H=>∃x,σ[i]?=some (some x)/\a σ H λy c=>b x y c λz d=>D.nx (σ.set i (some z)) d
theorem zCj{i:Nat}{x:Str}{e:IE}{j:TE}{op:Operator}{n:TIp}{d:Pos}(o:X.N.Nodup)(hi:X.N[i]?=some x)(f:Loc X.env.scope x)(p:PE X e j)(q:PIp X op n)(t:X.fn x=true\/X.env.scope.names.lookup x=some .local:=by first | exact .inl rfl | exact .inr rfl | assumption) :
  PS X (.AugAssign (.Name x d) op e pos) (zFz i j n):=by
 intro a s σ H D I h;obtain⟨v,B,h⟩:=h;obtain⟨m,C,E⟩:=I.loc;have g:TD X.env.scope x:=by rcases f with k | k;exact .inl k;exact .inr (.inl k)
 obtain⟨u,r,l⟩:=E i x v hi B g;refine wpAny_AugAssign_Name ?_;have go:wpAny (model X.prog X.w) X.A (eval e X.env) (λw s₂=>wpAny (model X.prog X.w) X.A (inplaceOp op u w) (λr s₃=>wpAny (model X.prog X.w) X.A (storeName X.env x r) (λ_=>SP X a D .next) X.xe s₃) X.xe s₂) X.xe s:=by
  refine IY (p a s σ H _ I h) λw F ⟨y,G,J,K,L⟩=>?_;refine IY (q a F σ G v y u w _ J r K L) λz U ⟨V,M,O,P,Q⟩=>?_;exact d6 O o hi f P (λW R=>⟨_,M,R,Q⟩) t
 rcases l with⟨hk,S⟩ | ⟨hk,c,T,b⟩
 .exact wpAny_loadName_local I.ok.kind hk C S go
 .rcases hk with hk | hk
  .exact wpAny_loadName_cell I.ok.kind hk T b go
  .rcases f with k | k
   .have:X.env.scope.names.lookup x=some .free:=hk;rw[k]at this;cases this
   .have:X.env.scope.names.lookup x=some .free:=hk;rw[k]at this;cases this
def ipI(f:Int->Int->Int):TIp:=λx y H Q=>∃i j,x = .int i/\y = .int j/\Q (.int (f i j)) H
end
set_option genInjectivity false in
structure It where
 go:Nat->Hp->Prop
 yld:Nat->Hp->V->Hp->Prop
 stop:Nat->Hp->Prop
def Di(X:Cx)(a:A1 (A3×Obj))(H:Hp)(b:A3):Prop :=
 H b=none/\b≠X.env.locals/\b∉X.fs/\(b∈X.ex\/X.s₀.heap.objs.size<=b)/\(∀x c,X.env.cells.lookup x=some c->c≠b)/\∀p∈X.pn++a,p.1≠b
def Inv.fpOk{X:Cx}{a:A1 (A3×Obj)}{σ:St}{H H':Hp}{s:A4}{b:A3}(I:Inv X a σ H s)(d:s.heap.objs.size<=b)(f:H' b=none):Di X a H' b:=by
 refine⟨f,Nat.ne_of_gt (BJ I.lt d),I.nofs d,.inr (Nat.le_trans I.sz d),λx c e z=>?_,λp g z=>?_⟩
 .obtain⟨v,q⟩:=I.cell x c e;exact absurd (BJ q.lt (by rw[z];exact d)) (CQ _)
 .exact absurd (BJ (AJ (I.pin p g).1) (by rw[z];exact d)) (CQ _)
structure MD(P:CM)(w:F8)(K:PySem.W.Frag)(tg:IE)(J:It)(fp:A1 A3)(it:A3)(tn:Nat->IA->Prop):Prop where
 mem:it∈fp
 obj:∀i h,tn i h->∀b∈fp,∃o,h.get? b=some o/\∀v,o.data≠ .cell v
 keep:∀i h h',tn i h->(∀b∈fp,∀o,h.get? b=some o->h'.get? b=some o)->tn i h'
 item:∀(X:Cx),X.prog=P->X.w=w->X.K=K->X.calm=true->∀(i:Nat) (pins:A1 (A3×Obj)) (s:A4) (σ:St) (H:Hp) (E:A2->A4->Prop),Inv X pins σ H s->(∀b∈fp,Di X pins H b)->tn i s.heap->J.go i H ->
  wpAny (model P w) X.A (pyNext (.ref it)) (λr s1=>∃u,r=some u /\
   wpAny (model P w) X.A (letOwnedTupleGo tg (.ref it) u) (λ_ s2=>∃x H',Inv X pins σ H' s2/\RelV x u/\J.yld i H x H'/\tn (i+1) s2.heap/\∀b∈fp,H' b=none) E s1) E s
 done:∀(X:Cx),X.prog=P->X.w=w->X.K=K->X.calm=true->∀(i:Nat) (pins:A1 (A3×Obj)) (s:A4) (σ:St) (H:Hp) (E:A2->A4->Prop),Inv X pins σ H s->(∀b∈fp,Di X pins H b)->tn i s.heap->J.stop i H ->
  wpAny (model P w) X.A (pyNext (.ref it)) (λr s1=>r=none/\Inv X pins σ H s1) E s
 self:∀(A:IC) (i:Nat) (s:A4) (Q:A2->A4->Prop) (E:A2->A4->Prop),tn i s.heap->Q (.ref it) s->wpAny (model P w) A (pyIter (.ref it)) Q E s
abbrev TI:=St->Hp->(It->Hp->Prop)->Prop
def PIE(X:Cx)(a:A1 (A3×Obj))(σ:St)(tg:IE)(R:It->Hp->Prop)(c:A2)(e:A4):Prop :=
 ∃(f:A3) (g:A1 A3) (h:Nat->IA->Prop) (J:It) (d:Hp),c = .ref f/\Inv X a σ d e/\MD X.prog X.w X.K tg J g f h/\h 0 e.heap/\(∀b∈g,Di X a d b)/\R J d
def PI(X:Cx)(tg iter:IE)(b:TI):Prop :=
 ∀(a:A1 (A3×Obj)) (s:A4) (σ:St) (H:Hp) (R:It->Hp->Prop),Inv X a σ H s->b σ H R ->
  wpAny (model X.prog X.w) X.A (eval iter X.env) (λv c=>wpAny (model X.prog X.w) X.A (pyIter v) (PIE X a σ tg R) X.xe c) X.xe s
def Mp{M:Model}{A:IC}{E:A2->A4->Prop}{s:A4}{tg:IE}{b:A3}{u:A2}{o:Obj}{n:String}{vs:F1 A2}{Q:Unit->A4->Prop}(c:s.heap.get? b=some o)(d:o.cls = .type n)(e:o.data = .fields vs)
    (f:["enumerate", "zip", "dict_itemiterator", "dict_reverseitemiterator", "odict_iterator", "itertools.zip_longest", "itertools.pairwise"].contains n=false) (a:Q () s):wpAny M A (letOwnedTupleGo tg (.ref b) u) Q E s:=by
  unfold letOwnedTupleGo;cases tg<;>first
    | exact AG a
    | (cases u<;>first
        | exact AG a
        | (refine AA (wpAny_load c ?_)
           rw[d,e];show wpAny M A (if(["enumerate", "zip", "dict_itemiterator", "dict_reverseitemiterator", "odict_iterator", "itertools.zip_longest", "itertools.pairwise"].contains n&&vs[0]? == some (rawInt _))=true then _ else _) Q E s;rw[AI (by intro h;rw[f,ED]at h;cases h)];exact AG a))
def TL(K:PySem.W.Frag)(a:A3):It :=
 ⟨λi H=>∃b x,IG K H a b/\b[i]?=some x,λi H x c=>c=H/\∀b,IG K H a b->b[i]?=some x,λi H=>∃b,IG K H a b/\b.length<=i⟩
def Itt(K:PySem.W.Frag)(a:A3):It :=
 ⟨λi H=>∃b x,IW K H a b/\b[i]?=some x,λi H x c=>c=H/\∀b,IW K H a b->b[i]?=some x,λi H=>∃b,IW K H a b/\b.length<=i⟩
def RS(lo:Int)(n:Nat):It:=⟨λi _=>i<n,λi H x a=>a=H/\x = .int (lo+i),λi _=>n<=i⟩
def Hb{P:CM}{w:F8}{K:PySem.W.Frag}{tg:IE}(a g:A3):MD P w K tg (TL K a) [g] g (λi h=>h.IsListIter g a i) where
 mem:=by simp
 obj:=λi h st b j=>by
  have e:b=g:=by simpa using j
  subst e;obtain⟨o,e,c,d⟩:=st;exact⟨o,e,λv z=>by rw[d]at z;cases z⟩
 keep:=λi h m st k=>st.at λo e=>k g (by simp) o e
 item:=by
  intro X r t y N i f s σ H E I n st A;subst r t y;obtain⟨O,x,q,B⟩:=A;obtain⟨C,D,p,Q⟩:=I.list q;obtain⟨u,R,S⟩:=D.get B;obtain⟨F,G,T,J,L,M⟩:=n g (by simp);refine wpAny_pyNext_list_item st p.isList (x:=u) (by simpa using R) λm l U=>?_;have V:Inv X f σ H { s with heap:=m }:=I.turned (t':=s.toks) (λb o j e=>(U.2 b j).trans e) F G J L M;obtain⟨o,e,c,d⟩:=id l;exact⟨u,rfl,Mp (s:={ s with heap:=m }) e c d (by decide) ⟨x,H,V,S,⟨rfl,λys Y=>by rw[I.list_inj Y q];exact B⟩,l,λb j=>(n b j).1⟩⟩
 done:=by
  intro X r t y N i f s σ H E I n st A;subst r t y;obtain⟨O,q,B⟩:=A;obtain⟨C,D,p,Q⟩:=I.list q;obtain⟨F,G,T,J,L,M⟩:=n g (by simp);have hl:=D.length;exact wpAny_pyNext_list_end (I.ok.hd N) st p.isList (by simp;omega) λm Z=>⟨rfl,I.turned (t':=s.toks) (λb o j e=>Z b o j e) F G J L M⟩
 self:=λ_ _ _ _ _ st h=>wpAny_pyIter_listiter st h
def Nl{P:CM}{w:F8}{K:PySem.W.Frag}{tg:IE}(a g:A3):MD P w K tg (Itt K a) [g] g (λi h=>h.IsTupleIter g a i) where
 mem:=by simp
 obj:=λi h st b j=>by
  have e:b=g:=by simpa using j
  subst e;obtain⟨o,e,c,d⟩:=st;exact⟨o,e,λv z=>by rw[d]at z;cases z⟩
 keep:=λi h n st k=>st.at λo e=>k g (by simp) o e
 item:=by
  intro X t y A N i f s σ H E I q st B;subst t y A;obtain⟨O,x,r,C⟩:=B;obtain⟨l,D,p,Q⟩:=I.tuple r;obtain⟨u,R,S⟩:=D.get C;obtain⟨F,G,T,J,L,M⟩:=q g (by simp);refine wpAny_pyNext_tuple_item st (show s.heap.IsTuple a l.toArray from p) (x:=u) (by simpa using R) λn m U=>?_;have V:Inv X f σ H { s with heap:=n }:=I.turned (t':=s.toks) (λb o j e=>(U.2 b j).trans e) F G J L M;obtain⟨o,e,c,d⟩:=id m;exact⟨u,rfl,Mp (s:={ s with heap:=n }) e c d (by decide) ⟨x,H,V,S,⟨rfl,λys Y=>by rw[I.tuple_inj Y r];exact C⟩,m,λb j=>(q b j).1⟩⟩
 done:=by
  intro X t y A N i f s σ H E I q st B;subst t y A;obtain⟨O,r,C⟩:=B;obtain⟨l,D,p,Q⟩:=I.tuple r;obtain⟨F,G,T,J,L,M⟩:=q g (by simp);have hl:=D.length;exact wpAny_pyNext_tuple_end (I.ok.hd N) st (show s.heap.IsTuple a l.toArray from p) (by simp;omega) λn Z=>⟨rfl,I.turned (t':=s.toks) (λb o j e=>Z b o j e) F G J L M⟩
 self:=λ_ _ _ _ _ st h=>wpAny_pyIter_tupleiter st h
def Nk{P:CM}{w:F8}{K:PySem.W.Frag}{tg:IE}(a:A3)(lo:Int)(n:Nat):MD P w K tg (RS lo n) [a] a (λi h=>IsRangeIter h a (lo +(i:Nat)*1) ((n:Int)-(i:Nat)) 1) where
 mem:=by simp
 obj:=λi h st b d=>by
  have e:b=a:=by simpa using d
  subst e;exact⟨_,st,λv z=>by
   have D:Data.fields _=Data.cell v:=z;cases D⟩
 keep:=λi h g st k=>k a (by simp) _ st
 item:=by
  intro X l m p q i c s σ H E I j st r;subst l m p;obtain⟨u,x,F,y,A,B⟩:=j a (by simp);have W:=Walks.range (prog:=X.prog) (w:=X.w) (I.ok.hd q) a lo 1 n;refine W.item i s _ _ r st λv g C G f kk=>?_;obtain⟨t,rfl⟩:=G;have J:Inv X c σ H { s with heap:=g,toks:=C }:=I.turned (λb o d e=>kk b o (by simpa using d) e) u x y A B;refine⟨_,rfl,Mp (s:={ s with heap:=g,toks:=C }) (n := "range_iterator") f rfl rfl (by decide) ⟨.int (lo+i),H,J,⟨t,?_⟩,⟨rfl,rfl⟩,f,λb d=>(j b d).1⟩⟩;rw[Int.mul_one]
 done:=by
  intro X l m p q i c s σ H E I j st r;subst l m p;obtain⟨u,x,F,y,A,B⟩:=j a (by simp);exact wpAny_pyNext_range_end (I.ok.hd q) st (by have:n<=i:=r;omega) λg L=>⟨rfl,I.turned (t':=s.toks) (λb o d e=>L b o d e) u x y A B⟩
 self:=λ_ _ _ _ _ st h=>wpAny_pyIter_rangeiter st h
section
variable{X:Cx}{tg:IE}
def zBb(K:PySem.W.Frag)(c:TE):TI:=λσ H R=>c σ H λx b=>∃a,x = .ref a/\(∃d,IG K b a d)/\R (TL K a) b
theorem Yl{l:IE}{g:TE}(i:PE X l g):PI X tg l (zBb X.K g):=by
 intro c s σ H R I h;refine IY (i c s σ H _ I h) λv d ⟨x,j,f,k,m⟩=>?_;obtain⟨a,e,⟨u,n⟩,q⟩:=m;subst e;cases k;obtain⟨r,w,p,y⟩:=f.list n;refine EZ p.isList ?_;refine⟨d.heap.objs.size,[d.heap.objs.size],_,_,j,rfl,f.kept (t':=d.toks) λb o e=>AD _ e,Hb a _,⟨_,AN _ rfl,rfl,rfl⟩,λb t=>?_,q⟩;have e:b=d.heap.objs.size:=by simpa using t
 subst e;exact f.fpOk (Nat.le_refl _) (f.hok.fresh (Nat.le_refl _))
theorem Vk{a:A1 (A3×Obj)}{σ:St}{H:Hp}{s:A4}{R:It->Hp->Prop}{E:A2->A4->Prop}{lo hi:Int}{t u v:Tok}{c:Nat}(I:Inv X a σ H s)(h1:-(2^62)<=lo)(h2:lo<2^62)(f:-(2^62)<=hi)(g:hi<2^62)
  (q:R (RS lo (hi-lo).toNat) H):wpAny (model X.prog X.w) X.A (pyIter (.ref s.heap.objs.size)) (PIE X a σ tg R) E { s with heap:=s.heap.push { cls:=.type "range",data:=.fields #[.int lo t,.int hi u,.int 1 v] },toks:=c }:=by
 refine wpAny_pyIter_range (IsRange.new ..) (small_one h1 h2 f g) ?_;have d:Inv X a σ H { s with heap:=s.heap.push { cls:=.type "range",data:=.fields #[.int lo t,.int hi u,.int 1 v] },toks:=c }:=I.kept λb o e=>AD _ e;refine⟨(s.heap.push { cls:=.type "range",data:=.fields #[.int lo t,.int hi u,.int 1 v] }).objs.size,[(s.heap.push { cls:=.type "range",data:=.fields #[.int lo t,.int hi u,.int 1 v] }).objs.size],_,_,H,rfl,
  d.kept (t':=c) λb o e=>AD _ e,Nk _ lo (hi-lo).toNat,?_,λb h=>?_,q⟩
 .have i:lo +((0:Nat):Int)*1=lo:=by simp
  have j:(((hi-lo).toNat:Nat):Int)-((0:Nat):Int)=Builtin.Range.rangeSize lo hi 1:=by rw[rangeSize_one];split<;>omega
  show IsRangeIter _ _ (lo +((0:Nat):Int)*1) ((((hi-lo).toNat:Nat):Int)-((0:Nat):Int)) 1;rw[i,j];exact AN _ rfl
 .have e:b =(s.heap.push { cls:=.type "range",data:=.fields #[.int lo t,.int hi u,.int 1 v] }).objs.size:=by simpa using h
  subst e;exact d.fpOk (Nat.le_refl _) (d.hok.fresh (Nat.le_refl _))
def zDa(a:TA):TI:=λσ H R=>a σ H λb c=>∃j:Int,b = [.int j]/\-(2^62)<=j/\j<2^62/\R (RS 0 j.toNat) c
theorem Oi{a:IE}{d:TA}{p pos:Pos}(f:Gl X "range")(g:X.mg "range" = none)(i:PA X [a] d)(k:starEach [a] X.env = [(false,eval a X.env)]:=by rfl):PI X tg (.Call (.Name "range" p) [a] [] pos) (zDa d):=by
 intro b s σ H R I h;refine Call_ (q0 I f g boot_range (PyProof.Rows.callWith_type1 (IY (i pos b s σ H _ I h) λu v ⟨w,x,l,m,c⟩=>?_) k rfl));obtain⟨j,e,c,n,q⟩:=c;subst e;cases m with
 | cons r o =>
  cases o;obtain⟨t,rfl⟩:=r;exact call_range_1 (Vk l (by omega) (by omega) c n (by simpa using q))
def zGa(c:TI)(g:TG)(d:TS):TS:=λD σ H=>c σ H λJ e=>∃W:Nat->Nat->St->Hp->Prop,(∃m,W 0 m σ e)/\∀i m σ H,W i m σ H ->
 (J.stop i H/\D.nx σ H)\/(J.go i H/\∃N:St->Hp->Prop,(∀σ' a,N σ' a->∃b,b < m/\W (i+1) b σ' a)/\∀x a,J.yld i H x a->g x σ a λσ2 f=>d { D with nx:=N,ct:=N,bk:=D.nx } σ2 f)
def Gs(fp:A1 A3)(h:IA):A1 (A3×Obj):=fp.filterMap λb=>(h.get? b).map λo=>(b,o)
theorem V4{fp:A1 A3}{h:IA}{b:A3}{o:Obj}(a:b∈fp)(e:h.get? b=some o):(b,o)∈Gs fp h:=List.mem_filterMap.mpr ⟨b,a,by rw[e];rfl⟩
theorem Ql{fp:A1 A3}{h:IA}{p:A3×Obj}(a:p∈Gs fp h):p.1∈fp/\h.get? p.1=some p.2:=by
 obtain⟨b,c,e⟩:=List.mem_filterMap.mp a;cases q:h.get? b with
 | none=>rw[q]at e;cases e
 | some o =>
  rw[q]at e;have d:(b,o)=p:=BE e;subst d;exact⟨c,q⟩
theorem Inv.pinned{a:A1 (A3×Obj)}{σ:St}{H:Hp}{s:A4}{fp:A1 A3}(I:Inv X a σ H s)(g:∀b∈fp,Di X a H b)(h:∀b∈fp,∃o,s.heap.get? b=some o/\∀v,o.data≠ .cell v):Inv X (a++Gs fp s.heap) σ H s :=
 I.pins_of λp i=>(BD.mp i).elim (λz=>I.pin p (BP _ z)) λz=>by
  obtain⟨c,e⟩:=Ql z;obtain⟨j,k,l,_⟩:=g p.1 c;obtain⟨o,f,d⟩:=h p.1 c;rw[e]at f;cases f;exact⟨e,j,k,l,d⟩
theorem Inv.unpinned{a pl:A1 (A3×Obj)}{σ:St}{H:Hp}{s:A4}(I:Inv X (a++pl) σ H s):Inv X a σ H s:=I.pins_of λp b=>I.pin p (BP _ (FR _ b))
theorem P8{iter:IE}{q:A1 IL}{R:TI}{g:TG}{S:TS}{pos:Pos}(z:PassesOwn (model X.prog X.w) X.A X.env X.xe)(U:X.calm=true)(hi:PI X tg iter R)(hg:PG X tg g)(c:QG X q S)
  (hs:∀x,foldedSetIterable iter X.env x=pure x:=by intro _;rfl):PS X (.For tg iter q [] pos) (zGa R g S):=by
 intro a s σ H D I h;refine wpAny_For (IY (hi a s σ H _ I h) λv s1 h1=>IY h1 λitv s2 h2=>?_) hs;obtain⟨it,B,V,J,H2,e,I2,T,L,Y,W,⟨m0,w0⟩,C⟩:=h2;subst e;have j:∀{p:Hp},(∀b∈B,p b=none)->∀b∈B,Di X a p b:=λhn b c=>⟨hn b c,(Y b c).2⟩;refine codeAny_forLoop_any (λn Z=>∃i σ' p,Inv X a σ' p Z/\V i Z.heap/\(∀b∈B,p b=none)/\W i n σ' p) ?_ m0 ⟨0,σ,H2,I2,L,λb c=>(Y b c).1,w0⟩;rintro n s3 ⟨i,σ3,K,I3,E,F,w3⟩;rcases C i n σ3 K w3 with⟨stop,qn⟩ | ⟨go,N,hN,step⟩
 .refine G_ z (IY (T.done X rfl rfl rfl U i a s3 σ3 K X.xe I3 (j F) E stop) λr s4 ⟨M,I4⟩=>?_);subst M;exact wpAny_execs_nil ⟨σ3,K,I4,qn⟩
 .refine G_ z (IY (T.item X rfl rfl rfl U i a s3 σ3 K X.xe I3 (j F) E go) λr s4 ⟨u,M,h4⟩=>?_);subst M;refine G_ z (IY h4 λ_ s5 ⟨x,H5,I5,r5,y5,y,O⟩=>?_);have P:=I5.pinned (j O) (T.obj _ _ y);refine G_ z (IY (hg _ s5 σ3 H5 x u _ P r5 (step x H5 y5)) λ_ s6 ⟨σ6,H6,I6,q6⟩=>?_);refine G_ z (IY (c _ s6 σ6 H6 _ I6 q6) λf Q t=>?_);have again:∀{σ7:St} {k:Hp},Inv X (a++Gs B s5.heap) σ7 k Q->N σ7 k->∃m,m<n/\∃i σ' p,Inv X a σ' p Q/\V i Q.heap/\(∀b∈B,p b=none)/\W i m σ' p:=fun{σ7 k} l G=>by
   obtain⟨m',hm,w7⟩:=hN σ7 k G;refine⟨m',hm,i+1,σ7,k,l.unpinned,T.keep _ _ _ y λb c o e=>(l.pin (b,o) (BP _ (BP _ (V4 c e)))).1,λb c=>?_,w7⟩;obtain⟨o,e,d⟩:=T.obj _ _ y b c;exact(l.pin (b,o) (BP _ (BP _ (V4 c e)))).2.1
  cases f with
  | next=>obtain⟨σ7,k,l,G⟩:=t;exact again l G
  | cont=>obtain⟨σ7,k,l,G⟩:=t;exact again l G
  | brk=>obtain⟨σ7,k,l,t⟩:=t;exact⟨σ7,k,l.unpinned,t⟩
  | ret v=>obtain⟨x7,σ7,k,l,r7,t⟩:=t;exact⟨x7,σ7,k,l.unpinned,r7,t⟩
end
def Pb{lo:Int}{n:Nat}{g:TG}{c:TS}{D:Ends}{σ:St}{H:Hp}(Pv:Nat->St->Hp->Prop)(f:Pv 0 σ H)
  (h:∀i σ H,i<n->Pv i σ H->g (.int (lo+i)) σ H λσ2 b=>c { D with nx:=Pv (i+1),ct:=Pv (i+1),bk:=D.nx } σ2 b) (j:∀σ H,Pv n σ H->D.nx σ H) :
  ∃W:Nat->Nat->St->Hp->Prop,(∃m,W 0 m σ H)/\∀i m σ H,W i m σ H ->
   ((RS lo n).stop i H/\D.nx σ H)\/((RS lo n).go i H/\∃N:St->Hp->Prop,(∀σ' H',N σ' H'->∃d,d < m/\W (i+1) d σ' H')/\∀x H',(RS lo n).yld i H x H'->g x σ H' λσ2 b=>c { D with nx:=N,ct:=N,bk:=D.nx } σ2 b):=by
 refine⟨λi m σ H=>m=n-i/\i<=n/\Pv i σ H,⟨n,by simp,CP _,f⟩,?_⟩;rintro i m σ H ⟨rfl,l,p⟩;by_cases a:i<n
 .refine .inr ⟨a,Pv (i+1),λσ' H' k=>⟨n-(i+1),by omega,rfl,a,k⟩,λx H' y=>?_⟩;obtain⟨e,y⟩:=y;subst e y;exact h i σ _ a p
 .have e:i=n:=by omega
  subst e;exact .inl ⟨Nat.le_refl _,j σ H p⟩
abbrev R2:=V->V->Hp->VK->Prop
def KQ(X:Cx)(f:A2->A2->Sem A2)(r:R2):Prop :=
 ∀(a:A1 (A3×Obj)) (s:A4) (σ:St) (H:Hp) (x y:V) (v u:A2) (Q:VK),Inv X a σ H s->RelV x v->RelV y u->r x y H Q ->
  wpAny (model X.prog X.w) X.A (f v u) (EP X a σ Q) X.xe s
def UnR(X:Cx)(f:A2->Sem A2)(r:V->Hp->VK->Prop):Prop :=
 ∀(a:A1 (A3×Obj)) (s:A4) (σ:St) (H:Hp) (x:V) (v:A2) (Q:VK),Inv X a σ H s->RelV x v->r x H Q ->
  wpAny (model X.prog X.w) X.A (f v) (EP X a σ Q) X.xe s
def J8(X:Cx)(f:A2)(r:A1 V->Hp->VK->Prop):Prop :=
 ∀(a:A1 (A3×Obj)) (s:A4) (σ:St) (H:Hp) (b:A1 V) (c:A1 A2) (Q:VK),Inv X a σ H s->II b c->r b H Q ->
  wpAny (model X.prog X.w) X.A (call f c) (EP X a σ Q) X.xe s
def zGq(X:Cx)(r:V->Hp->(Bool->Hp->Prop)->Prop):Prop :=
 ∀(a:A1 (A3×Obj)) (s:A4) (σ:St) (H:Hp) (x:V) (v:A2) (Q:Bool->Hp->Prop),Inv X a σ H s->RelV x v->r x H Q ->
  wpAny (model X.prog X.w) X.A (truthy v) (TP X a σ Q) X.xe s
def tOp(r:R2)(a b:TE):TE:=λσ H Q=>a σ H λx c=>b σ c λy d=>r x y d Q
def tUn(r:V->Hp->VK->Prop)(a:TE):TE:=λσ H Q=>a σ H λx b=>r x b Q
def rI(C:Int->Int->Prop)(g:Int->Int->V):R2:=λx y H Q=>∃i j,x = .int i/\y = .int j/\C i j/\Q (g i j) H
def QW(g:Int->Int->V):R2:=λx y H Q=>∃i j,x = .int i/\y = .int j/\Q (g i j) H
def rU(g:Int->V):V->Hp->VK->Prop:=λx H Q=>∃i,x = .int i/\Q (g i) H
section
variable{X:Cx}{a b c:IE}{ta tb tc:TE}{pos:Pos}
theorem zDn(i:PE X a ta)(j:PE X b tb){c:A1 (A3×Obj)}{s:A4}{σ:St}{H:Hp}{R:V->V->Hp->Prop}(I:Inv X c σ H s)
  (h:ta σ H λx g=>tb σ g λy d=>R x y d) {Q:A2->A4->Prop} {f:A2->A2->Sem A2}
  (k:∀v u e x y d,Inv X c σ d e->RelV x v->RelV y u->R x y d->wpAny (model X.prog X.w) X.A (f v u) Q X.xe e) :
  wpAny (model X.prog X.w) X.A (eval a X.env) (λv s₁=>wpAny (model X.prog X.w) X.A (eval b X.env) (λu s₂=>wpAny (model X.prog X.w) X.A (f v u) Q X.xe s₂) X.xe s₁) X.xe s:=by
 refine IY (i c s σ H _ I h) λv l ⟨x,g,m,n,o⟩=>?_;refine IY (j c l σ g _ m o) λu e ⟨y,d,p,q,r⟩=>?_;exact k v u e x y d p n q r
theorem C8{op:Operator}{r:R2}(d:KQ X (binaryOp op) r)(e:PE X a ta)(f:PE X b tb):PE X (.BinOp a op b pos) (tOp r ta tb):=by
 intro c s σ H Q I h;exact wpAny_BinOp (zDn e f I h λv u g x y i j k l q=>d c g σ i x y v u Q j k l q)
theorem Yv{op:UnaryOp}{r:V->Hp->VK->Prop}(c:UnR X (unaryOp op) r)(d:PE X a ta):PE X (.UnaryOp op a pos) (tUn r ta):=by
 intro b s σ H Q I h;exact UnaryOp_ (IY (d b s σ H _ I h) λv e ⟨x,f,g,i,j⟩=>c b e σ f x v Q g i j)
theorem SJ{f:A2->A2->Sem A2}{C:Int->Int->Prop}{g:Int->Int->Int}
  (rule:∀(i j:Int) (t u:Tok) (s:A4) (Q:A2->A4->Prop) (E:A2->A4->Prop),C i j->Q (.int (g i j) s.toks) { s with toks:=s.toks+1 }->wpAny (model X.prog X.w) X.A (f (.int i t) (.int j u)) Q E s) :
  KQ X f (rI C λi j=>.int (g i j)):=by
 intro a s σ H x y v u Q I b c h;obtain⟨i,j,rfl,rfl,d,q⟩:=h;obtain⟨t,rfl⟩:=b;obtain⟨e,rfl⟩:=c;exact rule i j t e s _ _ d ⟨.int (g i j),H,I.tok _,⟨_,rfl⟩,q⟩
theorem SS{f:A2->A2->Sem A2}{g:Int->Int->Int}
  (rule:∀(i j:Int) (t u:Tok) (s:A4) (Q:A2->A4->Prop) (E:A2->A4->Prop),Q (.int (g i j) s.toks) { s with toks:=s.toks+1 }->wpAny (model X.prog X.w) X.A (f (.int i t) (.int j u)) Q E s) :
  KQ X f (QW λi j=>.int (g i j)):=by
 intro a s σ H x y v u Q I b c h;obtain⟨i,j,rfl,rfl,q⟩:=h;obtain⟨t,rfl⟩:=b;obtain⟨d,rfl⟩:=c;exact rule i j t d s _ _ ⟨.int (g i j),H,I.tok _,⟨_,rfl⟩,q⟩
theorem zDk{f:A2->A2->Sem A2}{g:Int->Int->Bool}
  (rule:∀(i j:Int) (t u:Tok) (s:A4) (Q:A2->A4->Prop) (E:A2->A4->Prop),Q (.bool (g i j)) s->wpAny (model X.prog X.w) X.A (f (.int i t) (.int j u)) Q E s) :
  KQ X f (QW λi j=>.bl (g i j)):=by
 intro a s σ H x y v u Q I b c h;obtain⟨i,j,rfl,rfl,q⟩:=h;obtain⟨t,rfl⟩:=b;obtain⟨d,rfl⟩:=c;exact rule i j t d s _ _ ⟨.bl (g i j),H,I,rfl,q⟩
def zGk(i j:Int):Prop:=0<j/\j<1073741824
def zFb(i j:Int):Prop:=0<=j/\j<=1000000/\i.natAbs<2^64
def SG(i j:Int):Prop:=(-(2^64)<i/\i<2^64)\/(-(2^64)<j/\j<2^64)
theorem SG.ok{i j:Int}(h:SG i j):IntMulOk i j:=by
 rcases h with⟨a,b⟩ | ⟨a,b⟩
 .exact .of_left (intBits_le_64 a b)
 .exact .of_right (intBits_le_64 a b)
theorem No(k:Nat):(0:Int)<=2^k:=by
 rw[two_pow_cast];exact Int.natCast_nonneg _
theorem n9:KQ X (binaryOp .Add) (QW λi j=>.int (i+j)):=SS λ_ _ _ _ _ _ _ q=>add_int q
theorem zBe:KQ X (binaryOp .Sub) (QW λi j=>.int (i-j)):=SS λ_ _ _ _ _ _ _ q=>sub_int q
theorem Ch:KQ X (binaryOp .Mult) (rI SG λi j=>.int (i*j)):=SJ λ_ _ _ _ _ _ _ a q=>mul_int q a.ok
theorem Sk:KQ X (binaryOp .FloorDiv) (rI zGk λi j=>.int (i / j)):=SJ λi j _ _ _ _ _ a q=>by
 have b:(0:Int)<j:=a.1;have c:j<1073741824:=a.2;exact floordiv_int (by omega) (by rw[Int.fdiv_eq_ediv_of_nonneg i (by omega)];exact q) (.inl (PyProof.noPylong_small (by omega)))
theorem Hl:KQ X (binaryOp .Mod) (rI (λ_ j=>0<j) λi j=>.int (i % j)):=SJ λi j _ _ _ _ _ a q=>by
 have b:(0:Int)<j:=a;exact mod_int' (by omega) (by rw[Int.fmod_eq_emod_of_nonneg i (by omega)];exact q)
theorem zCp:KQ X (binaryOp .Pow) (rI zFb λi j=>.int (i^j.toNat)):=SJ λ_ _ _ _ _ _ _ a q=>pow_int_small a.1 a.2.1 a.2.2 q
theorem Bh:KQ X (binaryOp .LShift) (rI zFb λi j=>.int (i*2^j.toNat)):=SJ λ_ _ _ _ _ _ _ a q=>lshift_int_small a.1 a.2.1 a.2.2 q
theorem zCn:KQ X (binaryOp .RShift) (rI (λ_ j=>0<=j) λi j=>.int (i / 2^j.toNat)):=SJ λi j _ _ _ _ _ a q =>
 rshift_int a (by rw[Int.fdiv_eq_ediv_of_nonneg i (No _)];exact q)
theorem Q8:KQ X (binaryOp .BitAnd) (QW λi j=>.int (Builtin.bitAnd i j)):=SS λ_ _ _ _ _ _ _ q=>and_int q
theorem y8:KQ X (binaryOp .BitOr) (QW λi j=>.int (Builtin.bitOr i j)):=SS λ_ _ _ _ _ _ _ q=>or_int q
theorem Wm:KQ X (binaryOp .BitXor) (QW λi j=>.int (Builtin.bitXor i j)):=SS λ_ _ _ _ _ _ _ q=>xor_int q
theorem unI{f:A2->Sem A2}{g:Int->Int}
  (rule:∀(i:Int) (t:Tok) (s:A4) (Q:A2->A4->Prop) (E:A2->A4->Prop),Q (.int (g i) s.toks) { s with toks:=s.toks+1 }->wpAny (model X.prog X.w) X.A (f (.int i t)) Q E s) :
  UnR X f (rU λi=>.int (g i)):=by
 intro a s σ H x v Q I b h;obtain⟨i,rfl,q⟩:=h;obtain⟨t,rfl⟩:=b;exact rule i t s _ _ ⟨.int (g i),H,I.tok _,⟨_,rfl⟩,q⟩
theorem Zz:UnR X (unaryOp .USub) (rU λi=>.int (-i)):=unI λ_ _ _ _ _ q=>neg_int q
theorem Wl:UnR X (unaryOp .Invert) (rU λi=>.int (Builtin.bitNot i)):=unI λ_ _ _ _ _ q=>invert_int q
end
def zFg:V->V->Bool
 | .non,.non=>true | .non,.int _=>true | .int _,.non=>true | .non,.bl _=>true | .bl _,.non=>true | .non,.str _=>true | .str _,.non=>true
 | .int _,.int _=>true | .bl _,.bl _=>true | .str _,.str _=>true | .byt _,.byt _=>true
 | .int _,.str _=>true | .str _,.int _=>true | .bl _,.str _=>true | .str _,.bl _=>true
 | _,_=>false
def rEq:R2:=λx y H Q=>zFg x y=true/\Q (.bl (decide (x=y))) H
def rNe:R2:=λx y H Q=>zFg x y=true/\Q (.bl (!decide (x=y))) H
def Rc{i j:Int}:decide (V.int i=V.int j) =(i == j):=by
 rw[BR];simp
def Wn{i j:Bool}:decide (V.bl i=V.bl j) =(i == j):=by
 rw[BR];simp
def Qs{i j:Str}:decide (V.str i=V.str j) =(i == j):=by
 rw[BR];simp
def Rf{i j:F1 UInt8}:decide (V.byt i=V.byt j) =(i.toList == j.toList):=by
 rw[BR];cases i;cases j;simp
section
variable{X:Cx}{a b c:IE}{ta tb tc:TE}{pos:Pos}
theorem E9{a:A1 (A3×Obj)}{σ:St}{H:Hp}{s:A4}{Q:VK}{k b:Bool}(I:Inv X a σ H s)(q:Q (.bl k) H)(e:k=b):EP X a σ Q (.bool b) s:=by
 subst e;exact⟨.bl k,H,I,rfl,q⟩
theorem Y9:KQ X (compareOp .Eq) rEq:=by
 intro e s σ H x y v u Q I d a h;obtain⟨c,q⟩:=h;cases x with
 | non =>
  cases d;cases y with
  | non=>cases a;exact PySem.EqNone.eq_none_none (E9 I q (by simp))
  | bl j=>cases a;exact PySem.EqNone.eq_none_bool (E9 I q (by simp))
  | int j=>obtain⟨b,rfl⟩:=a;exact PySem.EqNone.eq_none_int (E9 I q (by simp))
  | str j=>obtain⟨b,rfl⟩:=a;exact PySem.EqNone.eq_none_str (E9 I q (by simp))
  | _=>exact absurd (show false=true from c) AW
 | bl i =>
  cases d;cases y with
  | non=>cases a;exact PySem.EqNone.eq_bool_none (E9 I q (by simp))
  | bl j=>cases a;exact eq_bool (E9 I q Wn)
  | str j=>obtain⟨b,rfl⟩:=a;exact PySem.EqMixed.eq_bool_str (E9 I q (by simp))
  | _=>exact absurd (show false=true from c) AW
 | int i =>
  obtain⟨t,rfl⟩:=d;cases y with
  | non=>cases a;exact PySem.EqNone.eq_int_none (E9 I q (by simp))
  | int j=>obtain⟨b,rfl⟩:=a;exact eq_int (E9 I q Rc)
  | str j=>obtain⟨b,rfl⟩:=a;exact PySem.EqMixed.eq_int_str (E9 I q (by simp))
  | _=>exact absurd (show false=true from c) AW
 | str i =>
  obtain⟨t,rfl⟩:=d;cases y with
  | non=>cases a;exact PySem.EqNone.eq_str_none (E9 I q (by simp))
  | bl j=>cases a;exact PySem.EqMixed.eq_str_bool (E9 I q (by simp))
  | int j=>obtain⟨b,rfl⟩:=a;exact PySem.EqMixed.eq_str_int (E9 I q (by simp))
  | str j=>obtain⟨b,rfl⟩:=a;exact eq_str (E9 I q Qs)
  | _=>exact absurd (show false=true from c) AW
 | byt i =>
  obtain⟨t,rfl⟩:=d;cases y with
  | byt j=>obtain⟨b,rfl⟩:=a;exact PySem.W.eq_bytes (E9 I q Rf)
  | _=>exact absurd (show false=true from c) AW
 | _=>cases y<;>exact absurd (show false=true from c) AW
theorem Ij:KQ X (compareOp .NotEq) rNe:=by
 intro e s σ H x y v u Q I d a h;obtain⟨c,q⟩:=h;cases x with
 | non =>
  cases d;cases y with
  | non=>cases a;exact PySem.EqNone.ne_none_none (E9 I q (by simp))
  | bl j=>cases a;exact PySem.EqNone.ne_none_bool (E9 I q (by simp))
  | int j=>obtain⟨b,rfl⟩:=a;exact PySem.EqNone.ne_none_int (E9 I q (by simp))
  | str j=>obtain⟨b,rfl⟩:=a;exact PySem.EqNone.ne_none_str (E9 I q (by simp))
  | _=>exact absurd (show false=true from c) AW
 | bl i =>
  cases d;cases y with
  | non=>cases a;exact PySem.EqNone.ne_bool_none (E9 I q (by simp))
  | bl j=>cases a;exact ne_bool (E9 I q (congrArg not Wn))
  | str j=>obtain⟨b,rfl⟩:=a;exact PySem.EqMixed.ne_bool_str (E9 I q (by simp))
  | _=>exact absurd (show false=true from c) AW
 | int i =>
  obtain⟨t,rfl⟩:=d;cases y with
  | non=>cases a;exact PySem.EqNone.ne_int_none (E9 I q (by simp))
  | int j=>obtain⟨b,rfl⟩:=a;exact ne_int (E9 I q (congrArg not Rc))
  | str j=>obtain⟨b,rfl⟩:=a;exact PySem.EqMixed.ne_int_str (E9 I q (by simp))
  | _=>exact absurd (show false=true from c) AW
 | str i =>
  obtain⟨t,rfl⟩:=d;cases y with
  | non=>cases a;exact PySem.EqNone.ne_str_none (E9 I q (by simp))
  | bl j=>cases a;exact PySem.EqMixed.ne_str_bool (E9 I q (by simp))
  | int j=>obtain⟨b,rfl⟩:=a;exact PySem.EqMixed.ne_str_int (E9 I q (by simp))
  | str j=>obtain⟨b,rfl⟩:=a;exact ne_str (E9 I q (congrArg not Qs))
  | _=>exact absurd (show false=true from c) AW
 | byt i =>
  obtain⟨t,rfl⟩:=d;cases y with
  | byt j=>obtain⟨b,rfl⟩:=a;exact PySem.W.ne_bytes (E9 I q (congrArg not Rf))
  | _=>exact absurd (show false=true from c) AW
 | _=>cases y<;>exact absurd (show false=true from c) AW
theorem zBl:KQ X (compareOp .Lt) (QW λi j=>.bl (decide (i<j))):=zDk λ_ _ _ _ _ _ _ q=>lt_int q
theorem zCq:KQ X (compareOp .LtE) (QW λi j=>.bl (decide (i<=j))):=zDk λ_ _ _ _ _ _ _ q=>le_int q
theorem Xq:KQ X (compareOp .Gt) (QW λi j=>.bl (decide (j<i))):=zDk λ_ _ _ _ _ _ _ q=>gt_int q
theorem zDo:KQ X (compareOp .GtE) (QW λi j=>.bl (decide (j<=i))):=zDk λ_ _ _ _ _ _ _ q=>ge_int q
theorem Qi:KQ X (compareOp .In) (λx y H Q=>∃i j,x = .str i/\y = .str j/\Q (.bl (!(Builtin.Str.occurrences j i 0 j.length 1).isEmpty)) H):=by
 intro a s σ H x y v u Q I b c h;obtain⟨i,j,rfl,rfl,q⟩:=h;obtain⟨t,rfl⟩:=b;obtain⟨d,rfl⟩:=c;exact in_str (E9 I q rfl)
theorem zAp:KQ X (compareOp .Is) (λx y H Q=>y = .non/\Q (.bl (decide (x = .non))) H):=by
 intro a s σ H x y v u Q I b c h;obtain⟨rfl,q⟩:=h;cases c;refine is_none_gen (E9 I q ?_);cases x<;>first
  | (cases b;rfl)
  | (obtain⟨t,rfl⟩:=b;rfl)
theorem Jb:KQ X (compareOp .IsNot) (λx y H Q=>y = .non/\Q (.bl (!decide (x = .non))) H):=by
 intro a s σ H x y v u Q I b c h;obtain⟨rfl,q⟩:=h;cases c;refine isnot_none_gen (E9 I q ?_);cases x<;>first
  | (cases b;rfl)
  | (obtain⟨t,rfl⟩:=b;rfl)
theorem E6(b:IE){op:CmpOp}(h:op≠ .In:=by decide)(h2:op≠ .NotIn:=by decide):behindInMarks op b=false:=by
 have a:(op == CmpOp.In)=false:=by cases op<;>first | rfl | exact absurd rfl h
 have c:(op == CmpOp.NotIn)=false:=by cases op<;>first | rfl | exact absurd rfl h2
 cases b<;>simp[behindInMarks,a,c]
theorem O3{op:CmpOp}{r:R2}(d:KQ X (compareOp op) r)(e:PE X a ta)(f:PE X b tb)(g:behindInMarks op b=false):PE X (.Compare a [op] [b] pos) (tOp r ta tb):=by
 intro c s σ H Q I h;exact wpAny_Compare1 (zDn e f I h λv u i x y j k l m q=>d c i σ j x y v u Q k l m q) g
def zAz(t:TE):TT:=λσ H Q=>t σ H λx a=>∃k,x = .bl k/\Q k a
theorem C2{op:CmpOp}{r:R2}(f:KQ X (compareOp op) r)(g:PE X a ta)(i:PE X b tb)(j:behindInMarks op b=false):PT X (.Compare a [op] [b] pos) (zAz (tOp r ta tb)):=by
 intro d s σ H Q I h;refine wpAny_isTrue_Compare1 (IY (g d s σ H _ I h) λv l ⟨x,m,n,o,p⟩=>IY (i d l σ m _ n p) λu q ⟨y,t,w,A,B⟩ =>
  IY (f d q σ t x y v u _ w o A B) λc G ⟨z,C,D,E,k,e,F⟩=>?_) j
 subst e;cases E;exact DF ⟨C,D,F⟩
def zCy(r b:R2)(ta tb tc:TE):TE:=λσ H Q=>ta σ H λx c=>tb σ c λy d=>r x y d λz a=>∃k,z = .bl k /\
 (if k=true then tc σ a λe f=>b y e f Q else Q (.bl false) a)
theorem To{op g:CmpOp}{r j:R2}(p:KQ X (compareOp op) r)(i:KQ X (compareOp g) j)(q:PE X a ta)(t:PE X b tb)(w:PE X c tc)
  (A:lastMarks [op,g] [b,c]=false:=by with_unfolding_all rfl):PT X (.Compare a [op,g] [b,c] pos) (zAz (zCy r j ta tb tc)):=by
 intro f s σ H Q I h;refine isTrue_chain (IY (q f s σ H _ I h) λv B ⟨x,C,D,E,F⟩=>test_link (IY (t f B σ C _ D F) λu G ⟨y,J,K,l,L⟩ =>
  IY (p f G σ J x y v u _ K E l L) λd M ⟨z,m,n,N,k,e,o⟩=>?_)) A
 subst e;cases N;refine DF ?_;cases k with
 | false =>
  obtain⟨k',O,P⟩:=o;cases O;exact ite_ff ⟨m,n,P⟩
 | true =>
  refine ite_tt (test_last (IY (w f M σ m _ n o) λR S ⟨T,U,V,W,Y⟩=>IY (i f S σ U y T u R _ V l W Y) λd' s5 ⟨z2,Z,I5,r5,k2,e2,q5⟩=>?_));subst e2;cases r5;exact DF ⟨Z,I5,q5⟩
def zDz(K:PySem.W.Frag)(x:V)(H:Hp)(k:Bool):Prop :=
 match x with
 | .non=>k=false
 | .bl b=>k=b
 | .int i=>k =(i != 0)
 | .str y=>y.length<=sizeLine/\k =((y.length:Int) != 0)
 | .byt y=>y.size<=sizeLine/\k =((y.size:Int) != 0)
 | .ref p=>(∃a,IG K H p a/\k=!a.isEmpty)\/(∃a,IW K H p a/\k=!a.isEmpty)\/∃c,H p=some (.dK c)/\k=!c.isEmpty
 | _=>False
theorem Mv{κ:Type}{a:A1 (κ×V)}{vs:A1 (κ×A2)}(r:KV a vs):(!vs.isEmpty)=!a.isEmpty:=by
 cases r<;>rfl
theorem Db{xs:A1 V}{its:A1 A2}(r:II xs its):(!its.toArray.isEmpty)=!xs.isEmpty:=by
 cases r<;>simp
theorem Cf:(sizeLine:Nat)<2^63:=by rw[sizeLine_eq];decide
theorem zAu:zGq X (λx H Q=>∃k,zDz X.K x H k/\Q k H):=by
 intro u s σ H x v Q I g h;obtain⟨k,e,q⟩:=h;have C:=Cf;have D:sizeLine=16777216:=sizeLine_eq;cases x with
 | non =>
  cases g;have a:k=false:=e;subst a;exact truthy_none ⟨H,I,q⟩
 | bl b =>
  cases g;have a:k=b:=e;subst a;exact DF ⟨H,I,q⟩
 | int i =>
  obtain⟨t,rfl⟩:=g;have a:k =(i != 0):=e;subst a;exact PySem.P.truthy_int ⟨H,I,q⟩
 | str y =>
  obtain⟨t,rfl⟩:=g;obtain⟨A,a⟩:y.length<=sizeLine/\k =((y.length:Int) != 0):=e;subst a;exact PySem.P.truthy_str (by omega) ⟨H,I.tok _,q⟩
 | byt y =>
  obtain⟨t,rfl⟩:=g;obtain⟨A,a⟩:y.size<=sizeLine/\k =((y.size:Int) != 0):=e;subst a;exact PySem.W.truthy_bytes (by omega) ⟨H,I.tok _,q⟩
 | ref p =>
  cases g;have a:(∃f,IG X.K H p f/\k=!f.isEmpty)\/(∃f,IW X.K H p f/\k=!f.isEmpty)\/∃c,H p=some (.dK c)/\k=!c.isEmpty:=e;rcases a with⟨f,j,a⟩ | ⟨f,j,a⟩ | ⟨c,j,a⟩
  .subst a;obtain⟨n,r,o,z⟩:=I.list j;have d:=r.length;exact wpAny_truthy_list o.isList (by simp only[AO];omega) ⟨H,I.tok _,by rw[Db r];exact q⟩
  .subst a;obtain⟨n,r,o,z⟩:=I.tuple j;have d:=r.length;exact truthy_tuple o (by simp only[AO];omega) ⟨H,I.tok _,by rw[Db r];exact q⟩
  .subst a;obtain⟨z,B,l,r,m⟩:c.length<=sizeLine/\(p == sysModules)=false/\∃l,KV c l/\s.heap.DictOf (C4 X.prog X.w) p l:=I.hok p _ j;have d:c.length=l.length:=Paired.length r;exact wpAny_truthy_dict B m (by omega) ⟨H,I.tok _,by rw[Mv r];exact q⟩
 | _=>exact(show False from e).elim
theorem Ud(d:PE X a ta)(e:∀b,isTrue a X.env b =(do let v <-b;standAt a.pos;holding [v] (truthy v))) :
  PT X a (λσ H Q=>ta σ H λx H'=>∃k,zDz X.K x H' k/\Q k H'):=by
 intro c s σ H Q I h;exact isTrue_plain (IY (d c s σ H _ I h) λv f ⟨x,g,i,j,l⟩=>zAu c f σ g x v Q i j l) (e _)
theorem U6{x:V}{us:A1 A2}(r:II [x] us):∃u,us = [u]/\RelV x u:=by
 cases r with
 | cons a b=>cases b;exact⟨_,rfl,a⟩
theorem zDc{x y:V}{us:A1 A2}(r:II [x,y] us):∃u a,us = [u,a]/\RelV x u/\RelV y a:=by
 cases r with
 | cons b c =>
  cases c with
  | cons d e=>cases e;exact⟨_,_,rfl,b,d⟩
theorem Kh:J8 X (.builtin "abs") (λxs H Q=>∃i,xs = [.int i]/\Q (.int (if i<0 then -i else i)) H):=by
 intro a s σ H xs b Q I r h;obtain⟨i,rfl,q⟩:=h;obtain⟨u,rfl,t,rfl⟩:=U6 r;exact call_abs_int λu c=>⟨.int (if i<0 then -i else i),H,I.tok _,⟨_,rfl⟩,q⟩
theorem Hs(c:X.calm=true):J8 X (.builtin "max") (λxs H Q=>∃i j,xs = [.int i,.int j]/\Q (.int (if j>i then j else i)) H):=by
 intro b s σ H xs d Q I r h;obtain⟨i,j,rfl,q⟩:=h;obtain⟨u,e,rfl,⟨t,rfl⟩,⟨f,rfl⟩⟩:=zDc r;refine max_two_ints (I.ok.hd c) λg l k=>⟨_,H,I.kept k,?_,q⟩;by_cases a:j>i
 .rw[AK a,AK a];exact⟨_,rfl⟩
 .rw[AI a,AI a];exact⟨_,rfl⟩
theorem He(c:X.calm=true):J8 X (.builtin "min") (λxs H Q=>∃i j,xs = [.int i,.int j]/\Q (.int (if j<i then j else i)) H):=by
 intro b s σ H xs d Q I r h;obtain⟨i,j,rfl,q⟩:=h;obtain⟨u,e,rfl,⟨t,rfl⟩,⟨f,rfl⟩⟩:=zDc r;refine min_two_ints (I.ok.hd c) λg l k=>⟨_,H,I.kept k,?_,q⟩;by_cases a:j<i
 .rw[AK a,AK a];exact⟨_,rfl⟩
 .rw[AI a,AI a];exact⟨_,rfl⟩
theorem Ba:J8 X (.type "int") (λxs H Q=>(∃i,xs = [.int i]/\Q (.int i) H)\/∃k,xs = [.bl k]/\Q (.int (if k then 1 else 0)) H):=by
 intro a s σ H xs c Q I r h;rcases h with⟨i,rfl,q⟩ | ⟨k,rfl,q⟩
 .obtain⟨u,rfl,t,rfl⟩:=U6 r;exact call_int_int ⟨.int i,H,I,⟨_,rfl⟩,q⟩
 .obtain⟨u,rfl,b⟩:=U6 r;cases b;exact call_int_bool ⟨.int (if k then 1 else 0),H,I.tok _,⟨_,rfl⟩,q⟩
end
structure QH(h:IA)(x dx C:A3)(mA:Str->A5 A2):Prop where
 obj:h.get? x=some (PySem.W.instObj C dx)
 ns:h.Ns1 dx mA
 ne:dx≠x
def Ru{h:IA}{c:A3}{d:Str->A5 A2}(n:h.Ns1 c d):∃f,h.get? c=some f/\∀name,PySem.W.lookIn name f=some (d name):=by
 obtain⟨o,g,r,i,j,k,_,l⟩:=n;refine⟨o,i,λname=>?_⟩;have e:=l name;unfold nsFind findBy at e;rw[<-Array.find?_toList]at e;unfold PySem.W.lookIn;rw[j];dsimp only;split
 .rename_i y q;rw[q]at e;exact congrArg some e
 .rename_i q;rw[q]at e;have a:g.toList.any (·.refKey)=false:=by
   rw[List.any_eq_false];intro y m;obtain⟨z,t,b⟩:=k y (Array.mem_toList_iff.mp m);simp[DictEntry.refKey,b]
  have p:¬g.toList.any (·.refKey)=true:=by rw[a];exact AW
  rw[AI p];exact congrArg some e
def QH.look{h:IA}{x b C:A3}{c:Str->A5 A2}(I:QH h x b C c):∃a,PySem.W.InstAt h x (PySem.W.instObj C b) C (some a)/\∀name,PySem.W.lookIn name a=some (c name) :=
 let⟨a,d,e⟩:=Ru I.ns
 ⟨a,⟨I.obj,rfl,rfl,d⟩,e⟩
section
variable{prog:CM}{w:F8}{A:IC}{E:A2->A4->Prop}{s:A4}{K:PySem.W.Frag}{x dx C f:A3}{mA:Str->A5 A2}{name:Str}{v:A2}
theorem Yo{a:Bool}{Q:A2->A4->Prop}(X:K.In s.heap)(I:QH s.heap x dx C mA)(c:PySem.W.plainGet K C name=true)(d:PySem.W.hasDictIn K C=true)
  (e:PySem.W.findIn K (.ref C) name=some none) (f:mA name=some v) (b:PySem.W.handedIn v=true) (h:Q v { s with toks:=s.toks+1 }) :
  wpAny (model prog w) A (getAttr (.ref x) name a) Q E s:=by
 obtain⟨i,J,g⟩:=I.look;exact PySem.W.get_value X J (PySem.W.plainGet_of c).1 (PySem.W.findObj_own d e rfl (by rw[g,f])) b h
theorem Vh{pl:Sem Bool}{Q:A2×A1 A2->A4->Prop}(X:K.In s.heap)(I:QH s.heap x dx C mA)(a:PySem.W.plainGet K C name=true)
  (b:PySem.W.findIn K (.ref C) name=some (some (.ref f))) (c:PySem.W.isFn K (.ref f)=true) (d:mA name=none) (h:Q (.ref f,[.ref x]) s) :
  wpAny (model prog w) A (getMethod (.ref x) name pl) Q E s:=by
 obtain⟨e,J,g⟩:=I.look;exact PySem.W.method_fn X J (PySem.W.plainGet_of a).1 (PySem.W.plainGet_of a).2 b (beq_iff_eq.mp c) (by show(PySem.W.lookIn name e).map (·.isSome)=some false;rw[g,d];rfl) h
theorem Xn{ns:A1 Str}{Q:Unit->A4->Prop}(X:K.In s.heap)(I:QH s.heap x dx C mA)
  (j:PySem.W.findIn K (.ref C) "__setattr__" = some (some (.builtin "object.__setattr__"))) (k:PySem.W.plainOver K C=true) (l:PySem.W.takerIn K C name=some none) (m:PySem.W.hasDictIn K C=true)
  (hw:PySem.Within mA ns) (hsz:ns.length<=sizeLine)
  (h:∀h',QH h' x dx C (λy=>if y=name then some v else mA y)->Heap.SameBut dx s.heap h'->Q () { s with heap:=h',toks:=s.toks+2 }) :
  wpAny (model prog w) A (setAttr (.ref x) name v) Q E s:=by
 obtain⟨t,J,u⟩:=I.look;refine PySem.W.set_plain X J j (PySem.W.osa_open (s:={ s with toks:=s.toks+1 }) (r:=none) X J k l λb=>?_);obtain⟨z,n,e⟩:=PySem.W.any_some m;have o:s.heap.get? x=some ⟨.ref C,some dx,.plain,#[]⟩:=I.obj;refine AA (AG (AA (AA (wpAny_loadPart o (AA (PySem.W.Looks.here (s:={ s with toks:=s.toks+1 }) (PySem.W.looks_clsIn X n) ?_))))));rw[e];refine AG (a:=some dx) (AA (AG (AA ?_)));refine wpAny_nsSet1 (s:={ s with toks:=s.toks+1 }) I.ns λh' c d=>?_;obtain⟨B,p,q,f,g,i⟩:=c.count (PySem.Within.cons name v hw);refine AA (wpAny_lookBehind f (by rw[g];exact pastItsLine_dict (Nat.le_trans i (by rw[BM];omega))) ?_);exact AG (h _ ⟨(d.2 _ (Ne.symm I.ne)).trans I.obj,c,I.ne⟩ d)
theorem Vd{R:Result->A4->Prop}{vs:A1 A2}{b:A1 (Str×A2)}(X:K.In s.heap)(c:PySem.W.makesIn K C=true)
  (hi:PySem.W.findIn K (.ref C) "__init__" = some (some (.ref f))) (e:PySem.W.typeIn K (.ref f)=some (.type "function"))
  (h:codeAny (model prog w) (A.under (.builtin "type.__call__" ⟨.ref C::vs,b⟩)) (.call (.ref f) ⟨.ref (s.heap.objs.size+1)::vs,b⟩) (PySem.W.InitBack (s.heap.objs.size+1) R)
   { s with heap:=(s.heap.push PySem.W.emptyDict).push (PySem.W.instObj C s.heap.objs.size) }) :
  codeAny (model prog w) A (.call (.ref C) ⟨vs,b⟩) R s:=by
 obtain⟨i,g,d,t,os⟩:=s;exact PySem.W.make_core (PySem.W.makes_of X c) (PySem.W.looks_findIn X hi) (λa=>PySem.W.bind_fn X a e) (.inl rfl) h
end
def Q4(f:Str)(v:V):A1 (Str×V)->A1 (Str×V)
 | []=>[(f,v)]
 | (g,x)::r=>if g=f then(g,v)::r else(g,x)::Q4 f v r
def Bn(f g:Str)(v:V):∀c:A1 (Str×V),(Q4 f v c).lookup g=if g=f then some v else c.lookup g
 | []=>by
  show List.lookup g [(f,v)]=_;by_cases h:g=f
  .have a:(g == f)=true:=beq_iff_eq.mpr h;simp only[List.lookup,a,AK h]
  .have a:(g == f)=false:=beq_eq_false_iff_ne.mpr h;simp only[List.lookup,a,AI h]
 | (k,x)::r=>by
  have d:=Bn f g v r;rw[show Q4 f v ((k,x)::r) =(if k=f then(k,v)::r else(k,x)::Q4 f v r)from rfl];by_cases b:k=f
  .rw[AK b];by_cases h:g=k
   .have a:(g == k)=true:=beq_iff_eq.mpr h;simp only[List.lookup,a,AK (h.trans b)]
   .have a:(g == k)=false:=beq_eq_false_iff_ne.mpr h;simp only[List.lookup,a,AI (λe:g=f=>h (e.trans b.symm))]
  .rw[AI b];by_cases h:g=k
   .have a:(g == k)=true:=beq_iff_eq.mpr h;simp only[List.lookup,a,AI (λe:g=f=>b (h.symm.trans e))]
   .have a:(g == k)=false:=beq_eq_false_iff_ne.mpr h;simp only[List.lookup,a];exact d
def Av(f:Str)(v:V):∀a:A1 (Str×V),f∈(Q4 f v a).map (·.1)/\∀g,g∈a.map (·.1)->g∈(Q4 f v a).map (·.1)
 | []=>⟨by simp[Q4],λg h=>by simp at h⟩
 | (k,x)::r=>by
  obtain⟨c,d⟩:=Av f v r;rw[show Q4 f v ((k,x)::r) =(if k=f then(k,v)::r else(k,x)::Q4 f v r)from rfl];by_cases b:k=f
  .rw[AK b];subst b;exact⟨by simp,λg h=>by simpa using h⟩
  .rw[AI b];refine⟨?_,λg h=>?_⟩
   .rw[BC];exact AU _ c
   .rw[BC]at h⊢;rcases AQ.mp h with e | e
    .exact AQ.mpr (.inl e)
    .exact AU _ (d g e)
def Aq(f:Str)(v:V):∀a:A1 (Str×V),(Q4 f v a).length<=a.length+1
 | []=>by simp[Q4]
 | (k,x)::r=>by
  have c:=Aq f v r;rw[show Q4 f v ((k,x)::r) =(if k=f then(k,v)::r else(k,x)::Q4 f v r)from rfl];by_cases b:k=f
  .rw[AK b,BM,BM];omega
  .rw[AI b,BM,BM];omega
def ME.some_of{v:V}{o:A5 A2}(r:ME (some v) o):∃u,o=some u/\RelV v u:=by
 cases o with
 | none=>exact(show False from r).elim
 | some u=>exact⟨u,rfl,r⟩
def ME.none_of{o:A5 A2}(r:ME none o):o=none:=by
 cases o with
 | none=>rfl
 | some u=>exact(show False from r).elim
def On{v:V}{u:A2}(r:RelV v u):PySem.W.handedIn u=true:=by
 cases v with
 | non=>cases(show u=Value.none from r);rfl
 | bl b=>cases(show u=Value.bool b from r);rfl
 | int i=>obtain⟨t,e⟩:=(show ∃t,u=Value.int i t from r);cases e;rfl
 | str x=>obtain⟨t,e⟩:=(show ∃t,u=Value.str x t from r);cases e;rfl
 | byt b=>obtain⟨t,e⟩:=(show ∃t,u=Value.bytes b t from r);cases e;rfl
 | flt b=>obtain⟨t,e⟩:=(show ∃t,u=Value.float b t from r);cases e;rfl
 | ref a=>cases(show u=Value.ref a from r);rfl
 | ty n=>cases(show u=Value.type n from r);rfl
section
variable{P:CM}{w:F8}{H H':Hp}{h h':IA}{a C dx:A3}{fs fs':A1 (Str×V)}
theorem Eh(c:LT P w H h)(e:H a=some (.ins C dx fs)):∃b,QH h a dx C b/\(∀f,ME (fs.lookup f) (b f))/\PySem.Within b (fs.map (·.1))/\fs.length<=1000/\H dx=some (.own a):=by
 obtain⟨d,z,g,i,b,n,r,q⟩:=(show IP P w H h a (.ins C dx fs)from c a _ e);exact⟨b,⟨i,n,g⟩,r,q,z,d⟩
end
structure QS(K:PySem.W.Frag)(C:A3):Prop where
 pg:PySem.W.plainGet K C Str.empty=true
 hd:PySem.W.hasDictIn K C=true
 po:PySem.W.plainOver K C=true
 sa:PySem.W.findIn K (.ref C) "__setattr__" = some (some (.builtin "object.__setattr__"))
def QS.get{K:PySem.W.Frag}{C:A3}(c:QS K C)(f:Str):PySem.W.plainGet K C f=true:=c.pg
def JI(K:PySem.W.Frag)(C:A3)(f:Str):Prop:=PySem.W.findIn K (.ref C) f=some none
def JI.taker{K:PySem.W.Frag}{C:A3}{f:Str}(n:JI K C f):PySem.W.takerIn K C f=some none:=by
 unfold PySem.W.takerIn;rw[show PySem.W.findIn K (.ref C) f=some none from n];rfl
structure RQ(K:PySem.W.Frag)(C:A3)(m:Str)(f:A3):Prop where
 at_:PySem.W.findIn K (.ref C) m=some (some (.ref f))
 fn:PySem.W.isFn K (.ref f)=true
 kp:PySem.W.keepIn K (.ref f)=true
section
variable{X:Cx}{pins:A1 (A3×Obj)}{σ:St}{H:Hp}{s:A4}{a C dx:A3}{fs:A1 (Str×V)}{f:Str}{v:V}{A:IC}{E:A2->A4->Prop}
theorem Mr{b:Bool}{Q:A2->A4->Prop}(I:Inv X pins σ H s)(e:H a=some (.ins C dx fs))(c:QS X.K C)(n:JI X.K C f)(l:fs.lookup f=some v)
  (h:∀u d,Inv X pins σ H d->RelV v u->Q u d):wpAny (model X.prog X.w) A (getAttr (.ref a) f b) Q E s:=by
 obtain⟨i,O,r,_,_,_⟩:=Eh I.hok e;obtain⟨u,j,g⟩:=ME.some_of (v:=v) (o:=i f) (by rw[<-l];exact r f);exact Yo I.kIn O (c.get f) c.hd n j (On g) (h u _ (I.tok _) g)
theorem Cg{m:Str}{g:A3}{pl:Sem Bool}{Q:A2×A1 A2->A4->Prop}(I:Inv X pins σ H s)(e:H a=some (.ins C dx fs))(c:QS X.K C)(k:RQ X.K C m g)(l:fs.lookup m=none)
  (h:Q (.ref g,[.ref a]) s):wpAny (model X.prog X.w) A (getMethod (.ref a) m pl) Q E s:=by
 obtain⟨b,O,r,_,_,_⟩:=Eh I.hok e;have d:b m=none:=ME.none_of (by rw[<-l];exact r m);exact Vh I.kIn O (c.get m) k.at_ k.fn d h
theorem Nv{y:V}{u:A2}{Q:Unit->A4->Prop}(I:Inv X pins σ H s)(e:H a=some (.ins C dx fs))(c:QS X.K C)(n:JI X.K C f)(J:fs.length<1000)(m:RelV y u)
  (h:∀i,Inv X pins σ (HZ H a (.ins C dx (Q4 f y fs))) i->Q () i):wpAny (model X.prog X.w) A (setAttr (.ref a) f u) Q E s:=by
 obtain⟨j,O,r,k,_,l⟩:=Eh I.hok e;have p:(fs.map (·.1)).length<=sizeLine:=by rw[AB,sizeLine_eq];omega
 refine Xn I.kIn O c.sa c.po n.taker c.hd k p λt d v=>h _ ?_;have B:∃o,t.get? dx=some o:=let⟨o,_,_,D,_⟩:=d.ns;⟨o,D⟩;refine I.write (x:=a) (e:=dx) (by rw[e];exact True.intro) (.inr l) (λb q F z=>(v.2 b F).trans z) B ?_;refine⟨by rw[B6 O.ne];exact l,?_,O.ne,d.obj,_,d.ns,λg=>?_,λg G=>?_⟩
 .have:=Aq f y fs;omega
 .show ME ((Q4 f y fs).lookup g) (if g=f then some u else j g);rw[Bn];by_cases q:g=f
  .rw[AK q,AK q];exact m
  .rw[AI q,AI q];exact r g
 .by_cases q:g=f
  .rw[q];exact(Av f y fs).1
  .refine(Av f y fs).2 g (k g λz=>G ?_);show(if g=f then some u else j g)=none;rw[AI q];exact z
theorem Inv.made(I:Inv X pins σ H s):Inv X pins σ (HZ (HZ H s.heap.objs.size (.own (s.heap.objs.size+1))) (s.heap.objs.size+1) (.ins C s.heap.objs.size []))
  { s with heap:=(s.heap.push PySem.W.emptyDict).push (PySem.W.instObj C s.heap.objs.size) }:=by
 have c:(s.heap.push PySem.W.emptyDict).get? s.heap.objs.size=some PySem.W.emptyDict:=AN s.heap rfl;have f:((s.heap.push PySem.W.emptyDict).push (PySem.W.instObj C s.heap.objs.size)).get? (s.heap.objs.size+1)=some (PySem.W.instObj C s.heap.objs.size):=by
  have:=AN (s.heap.push PySem.W.emptyDict) (o:=PySem.W.instObj C s.heap.objs.size) rfl
  rwa [CU]at this
 have g:(s.heap.push PySem.W.emptyDict).Ns s.heap.objs.size (λ_=>none):=⟨PySem.W.emptyDict,#[],_,c,rfl,(λe h=>absurd h (by simp)),λ_=>rfl⟩;have i:=I.laid (a:=s.heap.objs.size) (o:=.own (s.heap.objs.size+1)) (h':=s.heap.push PySem.W.emptyDict) (t':=s.toks) (λb u q=>AD _ q) (Nat.le_refl _) ⟨_,c⟩;refine i.laid (a:=s.heap.objs.size+1) (o:=.ins C s.heap.objs.size []) (t':=s.toks) (λb u q=>AD _ q) (Nat.le_of_eq (CU _ _)) ?_;have d:s.heap.objs.size≠s.heap.objs.size+1:=A_ (EB _);refine⟨by rw[B6 d,A9],CP _,d,f,λ_=>none,(Heap.Ns1.of_empty g).at λo q=>AD _ q,λ_=>True.intro,λy j=>absurd rfl j⟩
theorem Zo{prog:CM}{w:F8}{a:P_}{e:IE}{f:Str}{pos:Pos}{s:A4}{Q:A2->A4->Prop}(b:attributeBase e f a (eval e a)=eval e a)
  (h:wpAny (model prog w) A (eval e a) (λo s₁=>wpAny (model prog w) A (getAttr o f true) Q E s₁) E s):wpAny (model prog w) A (eval (.Attribute e f pos) a) Q E s :=
 Attribute_any_ h (by rw[arm_eval_Attribute,b])
end
def zDj(K:PySem.W.Frag)(d:TE)(f:Str):TE:=λσ H Q=>d σ H λx b=>∃a C e c v,x = .ref a/\b a=some (.ins C e c)/\QS K C/\JI K C f/\c.lookup f=some v/\Q v b
def zFh(K:PySem.W.Frag)(e g:TE)(f:Str):TS:=λD σ H=>g σ H λy h=>e σ h λx c=>∃a C d b,x = .ref a/\c a=some (.ins C d b)/\QS K C/\JI K C f/\b.length<1000 /\
 D.nx σ (HZ c a (.ins C d (Q4 f y b)))
section
variable{X:Cx}{o e value:IE}{f:Str}{pos pos' tpos:Pos}{ta tv:TE}
theorem zBm(d:PE X e ta)(g:attributeBase e f X.env (eval e X.env)=eval e X.env):PE X (.Attribute e f pos) (zDj X.K ta f):=by
 intro b s σ H Q I h;refine Zo g (IY (d b s σ H _ I h) λu t ⟨x,i,j,k,a,C,w,y,v,m,o,c,n,l,q⟩=>?_);subst m;obtain rfl:u=Value.ref a:=k;exact Mr j o c n l λz A p r=>⟨v,i,p,r,q⟩
theorem zAx(d:PE X o ta)(e:PE X value tv)(g:swapsWith value (some (.Attribute o f pos')) pos.line X.env=pure false):PS X (.Assign [.Attribute o f pos'] value pos) (zFh X.K ta tv f):=by
 intro b s σ H D I h;refine plainObj_wpAny_Assign_Attribute (IY (e b s σ H _ I h) λu i ⟨y,j,k,m,q⟩=>IY (d b i σ j _ k q) λp B ⟨x,E,r,t,a,C,F,G,v,w,c,n,l,z⟩=>?_) g;subst v;obtain rfl:p=Value.ref a:=t;exact Nv r w c n l m λJ A=>⟨σ,_,A,z⟩
end
section
variable{X:Cx}{pins:A1 (A3×Obj)}{σ:St}{H:Hp}{s:A4}{A:IC}{E:A2->A4->Prop}{Q:A2->A4->Prop}{c:A2}{b:Bool}
inductive MZ(K:PySem.W.Frag)(H:Hp):V->A2->Prop where
 | non:MZ K H .non (.type "NoneType")
 | bl (x:Bool):MZ K H (.bl x) (.type "bool")
 | int (i:Int):MZ K H (.int i) (.type "int")
 | str (x:Str):MZ K H (.str x) (.type "str")
 | flt (x:UInt64):MZ K H (.flt x) (.type "float")
 | lst {a:A3} {xs:A1 V} (e:H a=some (.lst xs)):MZ K H (.ref a) (.type "list")
 | frz {a:A3} {o:Obj} {xs:A1 V} (e:H a=some (.frz o (.lst xs))):MZ K H (.ref a) (.type "list")
 | tup {a:A3} {xs:A1 V} (e:H a=some (.tup xs)):MZ K H (.ref a) (.type "tuple")
 | dK {a:A3} {kvs:A1 (IU×V)} (e:H a=some (.dK kvs)):MZ K H (.ref a) (.type "dict")
 | dT {a:A3} {kvs:A1 (A1 IU×V)} (e:H a=some (.dT kvs)):MZ K H (.ref a) (.type "dict")
 | ins {a C dx:A3} {fs:A1 (Str×V)} (e:H a=some (.ins C dx fs)) (cl:QS K C) (ha:PySem.W.findIn K (.ref C) "__class__" = some (some (.builtin "object.__class__")))
   (hn:PySem.W.specialIn K (.builtin "object.__class__") "__get__" = some (some (.builtin "getset_descriptor.__get__"))) (htk:PySem.W.takesIn K (.builtin "object.__class__")=some true)
   (hm:PySem.W.mroIn K C (.type "object")=some true):MZ K H (.ref a) (.ref C)
theorem Ol{x:V}{u t:A2}(I:Inv X pins σ H s)(d:RelV x u)(ty:MZ X.K H x t)(e:PySem.W.kitOne X.K t c=some b)(h:∀v,Q (.bool b) { s with toks:=v }) :
  wpAny (model X.prog X.w) A (call (.builtin "isinstance") [u,c]) Q E s:=by
 cases ty with
 | non=>cases(show u=Value.none from d);exact PySem.W.kia_one PySem.W.kitx_none I.kIn True.intro e (λz=>nomatch z) h
 | bl y=>cases(show u=Value.bool y from d);exact PySem.W.kia_one PySem.W.kitx_bool I.kIn True.intro e (λz=>nomatch z) h
 | int i=>obtain⟨t,q⟩:=(show ∃t,u=Value.int i t from d);cases q;exact PySem.W.kia_one PySem.W.kitx_int I.kIn True.intro e (λz=>nomatch z) h
 | str y=>obtain⟨t,q⟩:=(show ∃t,u=Value.str y t from d);cases q;exact PySem.W.kia_one PySem.W.kitx_str I.kIn True.intro e (λz=>nomatch z) h
 | flt y=>obtain⟨t,q⟩:=(show ∃t,u=Value.float y t from d);cases q;exact PySem.W.kia_one PySem.W.kitx_float I.kIn True.intro e (λz=>nomatch z) h
 | @lst a k f =>
  cases(show u=Value.ref a from d);obtain⟨_,_,n,_,g⟩:=(show IP X.prog X.w H s.heap a (.lst k)from I.hok a _ f);exact PySem.W.kia_one PySem.W.kitx_list I.kIn ⟨_,g,rfl⟩ e (λz=>nomatch z) h
 | @frz a B k f =>
  cases(show u=Value.ref a from d);obtain⟨_,_,_,n,_,g⟩:=(show IP X.prog X.w H s.heap a (.frz B (.lst k))from I.hok a _ f);exact PySem.W.kia_one PySem.W.kitx_list I.kIn ⟨_,g,rfl⟩ e (λz=>nomatch z) h
 | @tup a k f =>
  cases(show u=Value.ref a from d);obtain⟨_,_,_,p⟩:=(show IP X.prog X.w H s.heap a (.tup k)from I.hok a _ f);obtain⟨o,g,l,_⟩:=p;exact PySem.W.kia_one PySem.W.kitx_tuple I.kIn ⟨o,g,l⟩ e (λz=>nomatch z) h
 | @dK a j f =>
  cases(show u=Value.ref a from d);obtain⟨_,_,N,_,p⟩:=(show IP X.prog X.w H s.heap a (.dK j)from I.hok a _ f);obtain⟨o,D,F,g,l,_⟩:=p;exact PySem.W.kia_one PySem.W.kitx_dict I.kIn ⟨o,g,l.1⟩ e (λz=>nomatch z) h
 | @dT a j f =>
  cases(show u=Value.ref a from d);obtain⟨_,_,k,_,o,D,F,g,l,_⟩:=(show IP X.prog X.w H s.heap a (.dT j)from I.hok a _ f);exact PySem.W.kia_one PySem.W.kitx_dict I.kIn ⟨o,g,l.1⟩ e (λz=>nomatch z) h
 | @ins a C P R f r G L m M =>
  cases(show u=Value.ref a from d);obtain⟨S,O,_⟩:=Eh I.hok f;obtain⟨T,J,_⟩:=O.look;exact PySem.W.kia_one (PySem.W.kitx_own (r.get _) r.hd G L m M) I.kIn J e (λz=>nomatch z) h
end
structure JD(k:Nat)(A:IC):Prop where
 hd:A.handled=none
 dp:A.depth+3*k+5<recursionLimit
 un:A.units+16*k+200<cLine
def JD.mono{j k:Nat}{A:IC}(r:JD k A)(h:j<=k):JD j A:=⟨r.hd,by have:=r.dp;omega,by have:=r.un;omega⟩
def JD.deeper{k:Nat}{A:IC}(r:JD (k+1) A)(a:P_):JD k (A.deeper a) :=
 ⟨r.hd,by have:=r.dp;show A.depth+1+3*k+5<_;omega,by have:=r.un;show A.units+3+16*k+200<_;omega⟩
def Mw{A:IC}{C:A3}{us:A1 A2}{a:A1 (Str×A2)}:(A.under (.builtin "type.__call__" ⟨.ref C::us,a⟩)).depth=A.depth+1:=by
 first | rfl | simp[Around.under,Code.weight,Code.isCreation,Code.isGuard,Code.isCaller,Code.frames,Code.isFrame,guardIds]
def Ny{A:IC}{C:A3}{us:A1 A2}{a:A1 (Str×A2)}:(A.under (.builtin "type.__call__" ⟨.ref C::us,a⟩)).units=A.units+1:=by
 first | rfl | simp[Around.under,Code.cUnits,Code.frames,Code.isFrame]
def JD.make{k:Nat}{A:IC}(r:JD (k+1) A)(C:A3)(us:A1 A2)(a:A1 (Str×A2)):JD k (A.under (.builtin "type.__call__" ⟨.ref C::us,a⟩)) :=
 ⟨r.hd,by have:=r.dp;rw[Mw];omega,by have:=r.un;rw[Ny];omega⟩
def JD.depth{k:Nat}{A:IC}(r:JD k A):A.depth<recursionLimit:=by have:=r.dp;omega
def JD.units{k:Nat}{A:IC}(r:JD k A):A.units+64<cLine:=by have:=r.un;omega
def SU:TA:=λ_ H Q=>Q [] H
def zCc(a:TE)(b:TA):TA:=λσ H Q=>a σ H λx c=>b σ c λd e=>Q (x::d) e
section
variable{X:Cx}{e:IE}{es:A1 IE}{te:TE}{t:TA}{pos:Pos}
theorem B1:PA X [] SU:=λ_ _ _ _ H Q I h=>Calls.spliced_nil ⟨[],H,I,.nil,h⟩
theorem A8(b:PE X e te)(c:PA X es t)(d:starEach (e::es) X.env =(false,eval e X.env)::starEach es X.env:=by rfl):PA X (e::es) (zCc te t):=by
 intro pos a s σ H Q I h;rw[d];show wpAny _ _ (spliced ((false,eval e X.env)::backTo pos (starEach es X.env))) _ _ s;refine Calls.spliced_cons (IY (b a s σ H _ I h) λu f ⟨x,g,i,j,k⟩=>?_);exact IY (c pos a f σ g _ i k) λq r ⟨l,m,n,o,p⟩=>⟨x::l,m,n,.cons j o,p⟩
def zGj(t:TA):TE:=λσ H Q=>t σ H λa b=>a.length<=sizeLine/\∀p,b p=none->Q (.ref p) (HZ b p (.tup a))
def zFo(t:TA):TE:=λσ H Q=>t σ H λa b=>a.length<=sizeLine/\∀p,b p=none->Q (.ref p) (HZ b p (.lst a))
theorem K8{g}(h:PA X es t):PE X (.Tuple es g pos) (zGj t):=by
 intro a s σ H Q I i;refine wpAny_Tuple_spliced (IY (h pos a s σ H _ I i) λj c ⟨k,d,f,r,z,q⟩=>⟨by rw[<-r.length];exact z,?_⟩);have l:d c.heap.objs.size=none:=f.hok.fresh (Nat.le_refl _);refine⟨.ref c.heap.objs.size,HZ d c.heap.objs.size (.tup k),f.laid (t':=c.toks) (λb u e=>AD _ e) (Nat.le_refl _) ?_,rfl,q _ l⟩;exact⟨z,j,r,⟨_,AN _ rfl,rfl,_,rfl⟩⟩
theorem M7(h:PA X es t):PE X (.List es pos) (zFo t):=by
 intro a s σ H Q I g;refine wpAny_List_spliced (IY (h pos a s σ H _ I g) λi c ⟨j,d,f,r,z,q⟩=>⟨by rw[<-r.length];exact z,?_⟩);have k:d c.heap.objs.size=none:=f.hok.fresh (Nat.le_refl _);refine⟨.ref c.heap.objs.size,HZ d c.heap.objs.size (.lst j),f.laid (t':=c.toks) (λb u e=>AD _ e) (Nat.le_refl _) ?_,rfl,q _ k⟩;exact⟨z,i,0,r,AN _ rfl⟩
end
abbrev Sp:=A1 V->Hp->VK->XK->Prop
abbrev RF:=A1 P_->Hp->A4->XK->A2->A4->Prop
structure O_(P:CM)(w:F8)(K:PySem.W.Frag)(mg:Str->A5 A2)(base:IA)(A:IC)(outer:A1 P_)(s:A4)(H:Hp):Prop where
 frames:A.frames=some outer
 mod:Mod K mg base
 bs:∀b o,base.get? b=some o->s.heap.get? b=some o/\H b=none
 bsz:base.objs.size<=s.heap.objs.size
 funs:s.heap.FunFrames base outer
 frf:∀b∈PP outer,H b=none
 hok:LT P w H s.heap
 bare:AllBare s.gens
def CE(a:A1 P_)(P:CM)(w:F8)(H:Hp)(s:A4)(Q:VK)(u:A2)(b:A4):Prop :=
 ∃v c,b.os=s.os/\AllBare b.gens/\Un (PP a) [] H c s.heap b.heap/\LT P w c b.heap/\RelV v u/\Q v c
def CR(c:RF)(a:A1 P_)(P:CM)(w:F8)(H:Hp)(s:A4)(Q:VK)(E:XK)(r:Result)(b:A4):Prop :=
 match r with
 | .ok (.ret u)=>CE a P w H s Q u b
 | .ok _=>False
 | .error e=>c a H s E e b
structure IJ(P:CM)(w:F8)(K:PySem.W.Frag)(mg:Str->A5 A2)(base:IA)(CX:RF)(k:Nat)(f:A3)(fd:IS)(ps:A1 Str)(sp:Sp):Prop where
 len:∀vs H Q E,sp vs H Q E->vs.length=ps.length
 run:∀(A:IC) (outer:A1 P_) (s:A4) (H:Hp) (args:Args) (us:A1 A2) (vs:A1 V) (Q:VK) (E:XK),JD k A->O_ P w K mg base A outer s H->BindsTo s fd args (ps.zip us)->II vs us->sp vs H Q E ->
  codeAny (model P w) A (.call (.ref f) args) (CR CX outer P w H s Q E) s
def IJ.mono{P:CM}{w:F8}{K:PySem.W.Frag}{mg:Str->A5 A2}{base:IA}{b:RF}{j k:Nat}{f:A3}{c:IS}{d:A1 Str}{sp:Sp}(F:IJ P w K mg base b j f c d sp)(h:j<=k) :
  IJ P w K mg base b k f c d sp:=⟨F.len,λA a s H args e g Q E i=>F.run A a s H args e g Q E (i.mono h)⟩
def O_.make{P:CM}{w:F8}{K:PySem.W.Frag}{mg:Str->A5 A2}{base:IA}{A:IC}{a:A1 P_}{s:A4}{H:Hp}(e:O_ P w K mg base A a s H)(C:A3)(us:A1 A2)(b:A1 (Str×A2)) :
  O_ P w K mg base (A.under (.builtin "type.__call__" ⟨.ref C::us,b⟩)) a s H:=⟨by first | exact e.frames | (simpa [Around.under,Code.envs,Code.isFrame,pushEnvs] using e.frames),e.mod,e.bs,e.bsz,e.funs,e.frf,e.hok,e.bare⟩
section
variable{X:Cx}{pins:A1 (A3×Obj)}{σ:St}{H:Hp}{s s':A4}
theorem Inv.env0(I:Inv X pins σ H s):O_ X.prog X.w X.K X.mg X.base X.A X.stack s H :=
 ⟨I.ok.frames,I.ok.mod,I.bs,Nat.le_trans I.ok.bsz I.sz,I.stack,I.stkFree,I.hok,I.bare⟩
theorem Inv.after{Q:VK}{u:A2}(I:Inv X pins σ H s)(h:CE X.stack X.prog X.w H s Q u s'):EP X pins σ Q u s':=by
 obtain⟨v,f,os,a,i,c,r,q⟩:=h;obtain⟨j,g,d,t,e⟩:=s';obtain rfl:e=s.os:=os;exact⟨v,f,I.call (h':=j) (g':=g) (d':=d) (t':=t) (ch:=[]) i c a (λb z=>absurd z (by simp)),r,q⟩
end
def Xv(sp:Sp)(a:A1 V)(E:XK)(t:TA):TE:=λσ H Q=>t σ H λb c=>sp (b++a) c Q E
def zCt(C:A3)(m:Str)(sp:Sp)(b:A1 V)(E:XK)(e:TE)(t:TA):TE:=λσ H Q=>e σ H λx c=>∃a f d,x = .ref a/\c a=some (.ins C f d)/\d.lookup m=none /\
 t σ c λg h=>sp (x ::(g++b)) h Q E
def zDq(C:A3)(sp:Sp)(b:A1 V)(E:XK)(t:TA):TE:=λσ H Q=>t σ H λd c=>∀x a,c x=none->c a=none->a≠x ->
 sp (.ref x ::(d++b)) (HZ (HZ c a (.own x)) x (.ins C a [])) (λv e=>v = .non/\Q (.ref x) e) E
def Binds(K:PySem.W.Frag)(d:IS)(b:A1 Str)(c:A1 A2):Prop :=
 ∀(s:A4) (a:A1 A2),K.In s.heap->(a++c).length=b.length->BindsTo s d ⟨a,[]⟩ (b.zip (a++c))
def Binds.all{K:PySem.W.Frag}{b:IS}{a:A1 Str}(h:∀us:A1 A2,us.length=a.length->bindArgs b ⟨us,[]⟩=pure (a.zip us)):Binds K b a []:=λs us _ c=>by
 rw[CT]at c⊢;exact .of_eq (h us c)
def o8(c:RF)(X:Cx)(E:XK):Prop:=∀(a:A1 (A3×Obj)) (σ:St) (H:Hp) (s:A4) (e:A2) (b:A4),Inv X a σ H s->c X.stack H s E e b->X.xe e b
section
variable{X:Cx}{CX:RF}{k:Nat}{f C:A3}{fd:IS}{ps:A1 Str}{sp:Sp}{dvs:A1 V}{ds:A1 A2}{E:XK}{x m:Str}{p pos apos:Pos}{e o:IE}{es:A1 IE}{ta:TE}{t:TA}
theorem Lj{a:A1 (A3×Obj)}{σ:St}{H:Hp}{s:A4}{Q:VK}{us:A1 A2}{vs:A1 V}(F:IJ X.prog X.w X.K X.mg X.base CX k f fd ps sp)(d:JD k X.A)(g:Binds X.K fd ps ds)(i:II dvs ds)(j:o8 CX X E)
  (I:Inv X a σ H s) (r:II vs us) (h:sp (vs++dvs) H Q E):wpAny (model X.prog X.w) X.A (call (.ref f) us) (EP X a σ Q) X.xe s:=by
 have c:II (vs++dvs) (us++ds):=r.append i;have l:(us++ds).length=ps.length:=by rw[<-c.length];exact F.len _ _ _ _ h
 refine wpAny_call (GM (F.run X.A X.stack s H ⟨us,[]⟩ (us++ds) (vs++dvs) Q E d I.env0 (g s us I.kIn l) c h) λr m b=>?_);cases r with
 | error e=>exact j a σ H s e m I b
 | ok n =>
  cases n with
  | ret u=>exact I.after b
  | next=>exact False.elim b
  | brk=>exact False.elim b
  | cont=>exact False.elim b
theorem Xr(F:IJ X.prog X.w X.K X.mg X.base CX k f fd ps sp)(g:JD k X.A)(i:Gl X x)(j:X.mg x=some (.ref f))(l:PySem.W.keepIn X.K (.ref f)=true)(m:Binds X.K fd ps ds)(n:II dvs ds)(o:o8 CX X E)
  (u:PA X (e::es) t) (b:(x ==("__debug__":Str))=false:=by decide) (v:starEach (e::es) X.env =(false,eval e X.env)::starEach es X.env:=by rfl) (c:(backTo pos (starEach es X.env)).any (·.1)=false:=by rfl) :
  PE X (.Call (.Name x p) (e::es) [] pos) (Xv sp dvs E t):=by
 intro a s σ H Q I h;refine ES (Ju I i j ?_ b);refine PySem.W.callWith_K (h₀:=X.base) I.ok.mod.kin l (IY (u pos a s σ H _ I h) λy z ⟨B,C,d,r,q⟩=>⟨d.kIn,?_⟩) v c;exact Lj F g m n o d r q
theorem D0{pl:Sem Bool}(v:PE X o ta)(c:QS X.K C)(i:RQ X.K C m f)(F:IJ X.prog X.w X.K X.mg X.base CX k f fd ps sp)(y:JD k X.A)(z:Binds X.K fd ps ds)(B:II dvs ds)(D:o8 CX X E)(G:PA X (e::es) t)
  (d:starEach (e::es) X.env =(false,eval e X.env)::starEach es X.env:=by rfl) (g:(backTo pos (starEach es X.env)).any (·.1)=false:=by rfl)
  (J:eval (.Call (.Attribute o m apos) (e::es) [] pos) X.env =(do
   let j <-eval o X.env
   standAt apos.atName
   let(f,first) <-holding [j] (getMethod j m pl)
   callWith pos f first (backTo pos (starEach (e::es) X.env)) (backToKw pos (keywordEach [] X.env))):=by rfl) :
  PE X (.Call (.Attribute o m apos) (e::es) [] pos) (zCt C m sp dvs E ta t):=by
 intro b s σ H Q I h;refine PySem.W.methodCall_KW (pl:=pl) (IY (v b s σ H _ I h) λu L ⟨x,M,n,N,a,S,T,O,P,l,q⟩=>?_) J;subst O;obtain rfl:u=Value.ref a:=N;refine Cg n P c i l ?_;refine PySem.W.callWith_K (first:=[.ref a]) (h₀:=X.base) I.ok.mod.kin i.kp (IY (G pos b L σ M _ n q) λus U ⟨vs,V,p,r,R⟩=>⟨p.kIn,?_⟩) d g;exact Lj (us:=.ref a::us) (vs:=.ref a::vs) F y z B D p (.cons rfl r) R
theorem Ur{pl:Sem Bool}(i:PE X o ta)(c:QS X.K C)(e:RQ X.K C m f)(F:IJ X.prog X.w X.K X.mg X.base CX k f fd ps sp)(j:JD k X.A)(n:Binds X.K fd ps ds)(p:II dvs ds)(r:o8 CX X E)
  (t:eval (.Call (.Attribute o m apos) [] [] pos) X.env =(do
   let g <-eval o X.env
   standAt apos.atName
   let(f,first) <-holding [g] (getMethod g m pl)
   callWith pos f first (backTo pos (starEach [] X.env)) (backToKw pos (keywordEach [] X.env))):=by rfl) :
  PE X (.Call (.Attribute o m apos) [] [] pos) (zCt C m sp dvs E ta SU):=by
 intro b s σ H Q I h;refine PySem.W.methodCall_KW (pl:=pl) (IY (i b s σ H _ I h) λu B ⟨x,D,d,v,a,G,J,y,z,l,q⟩=>?_) t;subst y;obtain rfl:u=Value.ref a:=v;refine Cg d z c e l ?_;exact PySem.W.callWith_K0 (first:=[.ref a]) d.kIn e.kp (Lj (us:=[.ref a]) (vs:=[.ref a]) F j n p r d (.cons rfl .nil) q)
structure Mk(K:PySem.W.Frag)(C f:A3):Prop where
 makes:PySem.W.makesIn K C=true
 init:PySem.W.findIn K (.ref C) "__init__" = some (some (.ref f))
 fn:PySem.W.isFn K (.ref f)=true
 kp:PySem.W.keepIn K (.ref C)=true
theorem Vq{a:A1 (A3×Obj)}{σ:St}{H:Hp}{s:A4}{Q:VK}{us:A1 A2}{vs:A1 V}(M:Mk X.K C f)(F:IJ X.prog X.w X.K X.mg X.base CX k f fd ps sp)(j:JD (k+1) X.A)(l:Binds X.K fd ps ds)(m:II dvs ds)
  (n:o8 CX X E) (I:Inv X a σ H s) (r:II vs us)
  (h:∀x c,H x=none->H c=none->c≠x->sp (.ref x ::(vs++dvs)) (HZ (HZ H c (.own x)) x (.ins C c [])) (λv o=>v = .non/\Q (.ref x) o) E) :
  wpAny (model X.prog X.w) X.A (call (.ref C) us) (EP X a σ Q) X.xe s:=by
 have g:=h (s.heap.objs.size+1) s.heap.objs.size (I.hok.fresh (DX _)) (I.hok.fresh (Nat.le_refl _)) (A_ (EB _));have d:=Inv.made (C:=C) I;have i:II (V.ref (s.heap.objs.size+1) ::(vs++dvs)) (Value.ref (s.heap.objs.size+1) ::(us++ds)):=.cons rfl (r.append m);have p:(Value.ref (s.heap.objs.size+1)::us++ds).length=ps.length:=by
  have e:=i.length;rw[F.len _ _ _ _ g]at e;exact e.symm
 refine wpAny_call (Vd (f:=f) I.kIn M.makes M.init (beq_iff_eq.mp M.fn) (GM (F.run _ X.stack _ _ ⟨Value.ref (s.heap.objs.size+1)::us,[]⟩ (Value.ref (s.heap.objs.size+1) ::(us++ds)) _ _ E (j.make C us [])
  (d.env0.make C us []) (l _ (Value.ref (s.heap.objs.size+1)::us) d.kIn p) i g) λr q b=>?_))
 cases r with
 | error e=>exact n a σ _ _ e q d b
 | ok t =>
  cases t with
  | ret u =>
   obtain⟨v,y,z,B,D,G⟩:=d.after b;subst D;exact⟨B,⟨V.ref (s.heap.objs.size+1),y,z,rfl,G⟩⟩
  | next=>exact False.elim b
  | brk=>exact False.elim b
  | cont=>exact False.elim b
theorem Ka(M:Mk X.K C f)(F:IJ X.prog X.w X.K X.mg X.base CX k f fd ps sp)(g:JD (k+1) X.A)(i:Gl X x)(j:X.mg x=some (.ref C))(l:Binds X.K fd ps ds)(m:II dvs ds)(n:o8 CX X E)
  (o:PA X (e::es) t) (b:(x ==("__debug__":Str))=false:=by decide) (u:starEach (e::es) X.env =(false,eval e X.env)::starEach es X.env:=by rfl) (c:(backTo pos (starEach es X.env)).any (·.1)=false:=by rfl) :
  PE X (.Call (.Name x p) (e::es) [] pos) (zDq C sp dvs E t):=by
 intro a s σ H Q I h;refine ES (Ju I i j ?_ b);refine PySem.W.callWith_K (h₀:=X.base) I.ok.mod.kin M.kp (IY (o pos a s σ H _ I h) λv y ⟨z,B,d,r,q⟩=>⟨d.kIn,?_⟩) u c;exact Vq M F g l m n d r q
end
structure H_(N P:A1 Str)(sc:JB):Prop where
 kind:sc.kind = .function
 co:sc.isCoroutine=false
 gen:sc.isGenerator=false
 nd:N.Nodup
 pre:N.take P.length=P
 par:∀x∈P,sc.names.lookup x=some .local\/sc.names.lookup x=some .cell
 nofree:∀y∈sc.names,y.2≠ .free
def Fj{kindOf:Str->A5 JT}{x:Str}:∀{a:A1 (Str×A2)} {m:Str->A5 A2},(∀v,(x,v)∉a)->bindL kindOf a m x=m x
 | [],_,_=>rfl
 | (n,v)::r,m,h=>by
  unfold bindL;rw[Fj λw b=>h w (AU _ b)];split
  .have:x≠n:=by rintro rfl;exact h v BH
   simp[this]
  .rfl
def Hf{kindOf:Str->A5 JT}{x:Str}:∀{a:A1 (Str×A2)} {m:Str->A5 A2},(∀v,(x,v)∉a)->bindC kindOf a m x=m x
 | [],_,_=>rfl
 | (n,v)::r,m,h=>by
  unfold bindC;rw[Hf λw b=>h w (AU _ b)];split
  .rfl
  .have:x≠n:=by rintro rfl;exact h v BH
   simp[this]
def Gq{kindOf:Str->A5 JT}{x:Str}{v:A2}:∀{P:A1 Str} {vs:A1 A2} {i:Nat} {m:Str->A5 A2},P.Nodup->P[i]?=some x->vs[i]?=some v->kindOf x=some .local ->
  bindL kindOf (P.zip vs) m x=some v
 | [],_,_,_,_,h,_,_=>by simp at h
 | _::_,[],_,_,_,_,h,_=>by simp at h
 | p::P,w::vs,0,m,c,a,b,d=>by
  simp at a b;subst a;subst b;show bindL kindOf ((p,w)::P.zip vs) m p=_;unfold bindL;rw[Fj λv e=>(D_.mp c).1 (HA e).1,AK d];simp
 | p::P,w::vs,i+1,m,c,a,b,d=>by
  show bindL kindOf ((p,w)::P.zip vs) m x=_;unfold bindL;exact Gq (i:=i) (D_.mp c).2 (by simpa using a) (by simpa using b) d
def Fb{kindOf:Str->A5 JT}{x:Str}{v:A2}:∀{P:A1 Str} {vs:A1 A2} {i:Nat} {m:Str->A5 A2},P.Nodup->P[i]?=some x->vs[i]?=some v->kindOf x≠some .local ->
  bindC kindOf (P.zip vs) m x=some v
 | [],_,_,_,_,h,_,_=>by simp at h
 | _::_,[],_,_,_,_,h,_=>by simp at h
 | p::P,w::vs,0,m,c,a,b,d=>by
  simp at a b;subst a;subst b;show bindC kindOf ((p,w)::P.zip vs) m p=_;unfold bindC;rw[Hf λv e=>(D_.mp c).1 (HA e).1,AI d];simp
 | p::P,w::vs,i+1,m,c,a,b,d=>by
  show bindC kindOf ((p,w)::P.zip vs) m x=_;unfold bindC;exact Fb (i:=i) (D_.mp c).2 (by simpa using a) (by simpa using b) d
def y7(N:A1 Str)(vs:A1 V):St:=vs.map some++List.replicate (N.length-vs.length) none
def Uf(g:RF)(P:CM)(w:F8)(K:PySem.W.Frag)(mg:Str->A5 A2)(base:IA)(N:A1 Str)(b:Str)(a:JB)(f:A3)(d:A2)(A:IC)(outer:A1 P_)(s:A4)(H:Hp)(E:XK):Cx where
 prog:=P
 w:=w
 K:=K
 mg:=mg
 base:=base
 A:=A.deeper (envOfC b a s.heap.objs.size f d)
 N:=N
 s₀:=s
 H₀:=H
 env:=envOfC b a s.heap.objs.size f d
 outer:=outer
 stack:=envOfC b a s.heap.objs.size f d::outer
 ex:=[]
 calm:=true
 fn:=λ_=>true
 pn:=[]
 xe:=λe h=>wpAny (model P w) (A.deeper (envOfC b a s.heap.objs.size f d)) (leaving (envOfC b a s.heap.objs.size f d) e) (λ_ c=>g outer H s E e c) (λi c=>g outer H s E i c) h
def Kr{a:JB}{n:Nat}{x:Str}(h:a.names.lookup x=some .cell):∃c,(cellsFrom n a.names []).lookup x=some c:=by
 have q:=PySem.W.cellsFrom_some a.names n [] (.inl h);exact DY.mp q
def Sc{I:RF}{P:CM}{w:F8}{K:PySem.W.Frag}{mg:Str->A5 A2}{base:IA}{N o:A1 Str}{j:Str}{d:JB}{f:A3}{D:A2}{A:IC}{g:A1 P_}{s J:A4}{H:Hp}{E:XK}{us:A1 A2}{vs:A1 V}
  (S:H_ N o d) (O:A.handled=none) (m:O_ P w K mg base A g s H) (U:vs.length=o.length) (r:II vs us)
  (x:InCallC s s.heap.objs.size (bindL (envOfC j d s.heap.objs.size f D).kindOf (o.zip us) λ_=>none) (cellsFrom (s.heap.objs.size+1) d.names []) (bindC (envOfC j d s.heap.objs.size f D).kindOf (o.zip us) λ_=>none) J) :
  Inv (Uf I P w K mg base N j d f D A g s H E) [] (y7 N vs) H J:=by
 have Q:o.length<=N.length:=by have:=congrArg List.length S.pre;rw[AX]at this;omega
 obtain⟨F,X,rfl,L⟩:=x.done;have t:∀b:A3,b∉(Uf I P w K mg base N j d f D A g s H E).ex:=λb z=>absurd (show b∈([]:A1 A3)from z) (by simp);refine⟨⟨m.mod,S.kind,rfl,rfl,Nat.le_refl _,λy z c F l=>?_,λy hy=>?_,λy c _ h=>?_,λ_=>O,Around.frames_deeper m.frames,.inr ⟨rfl,rfl⟩,λb z=>absurd z (t b),m.bs,m.bsz,λb _ _=>t b,λb z=>absurd z (t b),m.funs,m.frf⟩,
  rfl,m.bare,Un.kept L,⟨_,x.toInCall.ns,λi y v F l Y=>?_⟩,λy c h=>⟨_,x.cell y c h⟩,m.hok.fresh (Nat.le_refl _),λy c h=>?_,λp B=>absurd (show p∈([]:A1 (A3×Obj))from B) (by simp),m.hok.kept L,?_⟩
 .exact name_of_addr x.apart (PySem.mem_of_lookup F) (PySem.mem_of_lookup l)
 .have hy:d.names.lookup y=some .cell\/d.names.lookup y=some .free:=hy;rcases hy with hy | hy
  .exact Kr hy
  .exact absurd rfl (S.nofree _ (PySem.mem_of_lookup hy))
 .exact DH (x.above y c (PySem.mem_of_lookup h))
 .have G:i<vs.length:=by
   unfold y7 at l;by_cases G:i<vs.length
   .exact G
   .rw[DM (by simpa using G)]at l;rw[List.getElem?_replicate]at l;split at l<;>cases l
  have R:vs[i]?=some v:=by
   unfold y7 at l;rw[DU (by simpa using G),AH]at l;cases e:vs[i]? with
   | none=>rw[e]at l;cases l
   | some a=>rw[e]at l;cases l;rfl
  obtain⟨u,M,T⟩:=r.get R;have B:o[i]?=some y:=by
   rw[<-S.pre,DI (by omega)];exact F
  have C:o.Nodup:=by rw[<-S.pre];exact S.nd.sublist (EY _ _)
  refine⟨u,T,?_⟩;rcases S.par y (AL B)with k | k
  .exact .inl ⟨k,Gq C B M k⟩
  .obtain⟨c,e⟩:=Kr (n:=s.heap.objs.size+1) k;refine .inr ⟨.inl k,c,e,?_⟩;have q:=x.cell y c e;rw[Fb C B M (by show d.names.lookup y≠_;rw[k];decide)]at q;exact q
 .exact m.hok.fresh (DH (x.above y c (PySem.mem_of_lookup h)))
 .unfold y7;show _=N.length;rw[AZ,AB,GI];omega
def zCf{F:RF}{P:CM}{w:F8}{K:PySem.W.Frag}{mg:Str->A5 A2}{base:IA}{k:Nat}{f:A3}{name d:Str}{h:Arguments}{i:A1 IL}{a:JB}{X kV p Y g ct oc:A2}{Z od:A5 A3}
  {L:F1 (A5 A2)} {N G:A1 Str} {sp:Sp} (lk:K.lookup f=some ⟨oc,od,.func (PySem.W.fnOf name d h i a X kV p Y Z g ct),L⟩) (M:PySem.W.codeIn K g d=true) (S:H_ N G a)
  (z:∀vs H Q E,sp vs H Q E->vs.length=G.length)
  (j:∀(A:IC) (c:A1 P_) (s:A4) (H:Hp) (vs:A1 V) (Q:VK) (E:XK),JD k (A.deeper (envOfC d a s.heap.objs.size f g))->sp vs H Q E ->
   ∃t,QG (Uf F P w K mg base N d a f g A c s H E) i t/\t { nx:=λ_ H'=>Q .non H',rt:=Q } (y7 N vs) H) :
  IJ P w K mg base F (k+1) f (PySem.W.fnOf name d h i a X kV p Y Z g ct) G sp:=by
 refine⟨z,λA c s H args us vs Q E O B hb r C=>?_⟩;have hl:=z _ _ _ _ C;have KX:K.In s.heap:=B.mod.kin.keeps λb o e=>(B.bs b o e).1;have R:s.heap.NoLimit:=B.mod.nolimit.keeps λb o e=>(B.bs b o e).1;have l:∀y∈G.zip us,a.names.lookup y.1=some .local\/(a.names.lookup y.1=some .cell/\((cellsFrom (s.heap.objs.size+1) a.names []).lookup y.1).isSome=true):=λ⟨n,v⟩ hy=>by
  rcases S.par n (HA hy).1 with q | q
  .exact .inl q
  .exact .inr ⟨q,PySem.W.cellsFrom_some _ _ _ (.inl q)⟩
 refine codeAny_call_function O.depth (KX _ _ lk) rfl S.co S.gen rfl (PySem.W.codeRec_of KX M) (hb _ _ _ _ ?_);refine wpAny_newFunctionEnv_cells S.kind l λenv he s1 x=>?_;subst he;refine⟨R.keeps x.toInCall.keep,codeAny_func ?_⟩;obtain⟨t,ht,hq⟩:=j A c s H vs Q E (O.deeper _) C;have I:Inv (Uf F P w K mg base N d a f g A c s H E) [] (y7 N vs) H s1:=Sc S O.hd B hl r x;refine CF (ht [] s1 (y7 N vs) H _ I hq) (λfl T m=>?_) λe T m=>m;have D:∀{σ':St} {H':Hp} {v:V} {u:A2},Inv (Uf F P w K mg base N d a f g A c s H E) [] σ' H' T->RelV v u->Q v H'->CE c P w H s Q u T :=
  fun{σ' H' v u} J U q=>⟨v,H',J.os,J.bare,J.base,J.hok,U,q⟩
 cases fl with
 | ret u =>
  obtain⟨v,σ',H',J,U,q⟩:=m;exact D J U q
 | next =>
  obtain⟨σ',H',J,q⟩:=m;exact D (v:=V.non) (u:=Value.none) J rfl q
 | brk =>
  obtain⟨_,_,_,q⟩:=m;exact False.elim q
 | cont =>
  obtain⟨_,_,_,q⟩:=m;exact False.elim q
section
variable{X:Cx}{x:Str}{p pos:Pos}{e:IE}{es:A1 IE}{t:TA}{id T:String}{r:A1 V->Hp->VK->Prop}
def SX(r:A1 V->Hp->VK->Prop)(t:TA):TE:=λσ H Q=>t σ H λa b=>r a b Q
theorem Vp(d:J8 X (.builtin id) r)(f:Gl X x)(g:X.mg x=none)(i:bootBuiltins x=some (.builtin id))(j:PA X (e::es) t)(k:x≠ "__name__":=by decide)(b:(x ==("__debug__":Str))=false:=by decide)
  (l:starEach (e::es) X.env =(false,eval e X.env)::starEach es X.env:=by rfl) (c:(backTo pos (starEach es X.env)).any (·.1)=false:=by rfl):PE X (.Call (.Name x p) (e::es) [] pos) (SX r t):=by
 intro a s σ H Q I h;refine ES (q0 I f g i ?_ k b);exact PyProof.Rows.callWith_builtin1 (IY (j pos a s σ H _ I h) λm n ⟨o,q,u,v,w⟩=>d a n σ q o m Q u v w) l c
theorem Rg(d:J8 X (.type T) r)(f:Gl X x)(g:X.mg x=none)(i:bootBuiltins x=some (.type T))(j:PA X (e::es) t)(k:x≠ "__name__":=by decide)(b:(x ==("__debug__":Str))=false:=by decide)
  (l:starEach (e::es) X.env =(false,eval e X.env)::starEach es X.env:=by rfl) (c:(backTo pos (starEach es X.env)).any (·.1)=false:=by rfl):PE X (.Call (.Name x p) (e::es) [] pos) (SX r t):=by
 intro a s σ H Q I h;refine ES (q0 I f g i ?_ k b);exact PyProof.Rows.callWith_type1 (IY (j pos a s σ H _ I h) λm n ⟨o,q,u,v,w⟩=>d a n σ q o m Q u v w) l c
theorem Ct(c:J8 X (.type T) r)(d:Gl X x)(e:X.mg x=none)(f:bootBuiltins x=some (.type T))(g:x≠ "__name__":=by decide)(b:(x ==("__debug__":Str))=false:=by decide) :
  PE X (.Call (.Name x p) [] [] pos) (SX r SU):=by
 intro a s σ H Q I h;refine ES (q0 I d e f ?_ g b);exact PyProof.Rows.callWith_type0 (c a s σ H [] [] Q I .nil h)
end
end L2
namespace HT
open PySem PyProof.Rows
def lexLt:A1 Int->A1 Int->Bool
 | [],[]=>false
 | [],_::_=>true
 | _::_,[]=>false
 | x::a,y::b=>if x=y then lexLt a b else decide (x<y)
def Na(x y:Int)(xs ys:A1 Int):lexLt (x::xs) (y::ys)=if x=y then lexLt xs ys else decide (x<y):=rfl
def Dc:lexLt [] []=false:=rfl
def Bx(y:Int)(ys:A1 Int):lexLt [] (y::ys)=true:=rfl
def Cc(x:Int)(xs:A1 Int):lexLt (x::xs) []=false:=rfl
def Th(A:IC)(s:A4)(a:Int)(t:Tok)(c:Int)(u:Tok):∃e,SeqAt.EqAt A s (.int a t) (.int c u) e/\(e=true↔a=c) :=
 ⟨(a == c),SeqAt.EqAt.int_int a t c u,by simp⟩
def Ti(A:IC)(s:A4)(a:Int)(t:Tok)(c:Int)(u:Tok)(prog:CM)(w:F8)(E:A2->A4->Prop)(Q:A2->A4->Prop)(h:Q (.bool (decide (a<c))) s) :
  wpAny (model prog w) A (richCompare .Lt (.int a t) (.int c u)) Q E s :=
 (PyProof.Rows.lt_int h:wpAny (model prog w) A (compareOp .Lt (.int a t) (.int c u)) Q E s)
section
open PySem.SeqAt
open PySem.AutoSeq1 (wpAny_loadPart')
open PySem.MeetsSeq PySem.MeetsSeq2 PySem.MeetsSeq3
def Dx(l b:A3)(items f:F1 A2)(n T:Nat)(U L:A5 A3)(V M:F1 (A5 A2))(ns G:A1 Int)(hi:IntsAre items.toList ns)(Q:IntsAre f.toList G) :
  Meets (Builtin.«tuple.__lt__» ⟨[.ref l,.ref b],[]⟩)
   (λ_ R s=>s.heap.get? l=some { cls:=.type "tuple",dict:=U,data:=.seq items n,slots:=V }/\s.heap.get? b=some { cls:=.type "tuple",dict:=L,data:=.seq f T,slots:=M } /\
    R (.ok (.ret (.bool (lexLt ns G)))) s) :=
 .of_wp λp w A R s h=>by
  obtain⟨H,g,d,I,os⟩:=s;obtain⟨W,X,h⟩:=h;have f2:=AutoSeq1.sub_tuple_tuple;have z1:items.size=ns.length:=by rw[<-hi.length];simp
  have z2:f.size=G.length:=by rw[<-Q.length];simp
  wp_walk using wpAny_loadPart' W,wpAny_loadPart' X,wpAny_forIn_list _ (λr b N=>b.1=none/\N =⟨H,g,d,I,os⟩/\∃(J K:A1 A2) (j k:A1 Int),r=J.zip K /\
   IntsAre J j/\IntsAre K k/\j.length+f.size=k.length+items.size/\R (.ok (.ret (.bool (lexLt j k)))) ⟨H,g,d,I,os⟩) _
  case turn =>
   rintro⟨y,x⟩ r b N ⟨B,rfl,J,K,j,k,m,C,o,i,v⟩;cases C with
   | nil=>rw[List.zip_nil_left]at m;cases m
   | cons a t E =>
    cases o with
    | nil=>rw[List.zip_nil_right]at m;cases m
    | cons c u F =>
     rw[HE]at m;injection m with O D;injection O with Y Z;subst Y Z;rw[Na]at v;simp only[BM]at i;obtain⟨e,he,z⟩:=Th A.in1 ⟨H,g,d,I,os⟩ a t c u;refine AA (he p w _ _ ?_);cases e with
     | true =>
      rw[AK (z.mp rfl)]at v;wp_walk;exact⟨rfl,rfl,_,_,_,_,D,E,F,by omega,v⟩
     | false =>
      rw[AI (λq=>absurd (z.mpr q) AW)]at v;have P:=Ti A.in1 ⟨H,g,d,I,os⟩ a t c u p w;wp_walk using P;exact⟨_,rfl,by simpa using v⟩
  case fin =>
   rintro⟨b1,b2⟩ N ⟨B,rfl,J,K,j,k,m,C,o,i,v⟩;simp only at B;subst B;have S:lexLt j k=decide (items.size<f.size):=by
    cases C with
    | nil =>
     cases o with
     | nil =>
      simp only[GZ]at i;rw[Dc];exact(BA (by omega)).symm
     | cons c u hw =>
      simp only[GZ,BM]at i;rw[Bx];exact(AS (by omega)).symm
    | cons a t S =>
     cases o with
     | nil =>
      simp only[GZ,BM]at i;rw[Cc];exact(BA (by omega)).symm
     | cons c u hw =>
      rw[HE]at m;cases m
   rw[S]at v;wp_walk;exact⟨_,rfl,by simpa [Builtin.Tuple.tupleCompareSizes] using v⟩
  case h =>
   exact⟨rfl,rfl,items.toList,f.toList,ns,G,rfl,hi,Q,by omega,h⟩
end
section
variable{prog:CM}{w:F8}{A:IC}{E:A2->A4->Prop}{s:A4}
theorem QD{l b:A3}{items a:F1 A2}{ns c:A1 Int}{Q:A2->A4->Prop}(q:IsTup s.heap l items)(r:IsTup s.heap b a)(hi:IntsAre items.toList ns)(t:IntsAre a.toList c)
  (u:A.units<cLine) (h:Q (.bool (lexLt ns c)) s):wpAny (model prog w) A (compareOp .Lt (.ref l) (.ref b)) Q E s:=by
 obtain⟨⟨v,y,j,z⟩,k,m,n,o⟩:=id q;obtain⟨⟨p,g,data2,i⟩,d,e,B,f⟩:=id r;simp only at m o e f;subst m o e f;exact richCompare_meets_room (op:=.Lt) ⟨_,k,rfl⟩ ⟨_,d,rfl⟩ PySem.F.slot_tuple_lt PySem.F.entry_tuple_lt (PySem.F.args_tuple_lt_2 _ _) (Dx l b items a n B y g z i ns c hi t)
  ⟨k,d,show Value.bool (lexLt ns c)≠Value.notImplemented/\Q (.bool (lexLt ns c)) s from⟨(λx=>nomatch x),h⟩⟩ u
theorem RM{t b:A3}{vs a:A1 A2}{Q:A2->A4->Prop}(u:IsTup s.heap t vs.toArray)(v:IsTup s.heap b a.toArray)(k:vs≠[])
  (h1:a = []->Q (.ref t) s) (h2:a≠[]->Q (.ref s.heap.objs.size) { s with heap:=s.heap.push { cls:=.type "tuple",data:=.seq (vs++a).toArray } })
  (hsz:vs.length+a.length<=sizeLine):wpAny (model prog w) A (binaryOp .Add (.ref t) (.ref b)) Q E s:=by
 obtain⟨⟨cls,l,data,m⟩,i,o,n,p⟩:=id u;obtain⟨⟨q,d,data2,f⟩,c,g,r,h⟩:=id v;simp only at o p g h;subst o p g h;have e:vs.toArray++a.toArray =(vs++a).toArray:=by simp
 by_cases j:a = []
 .exact concat_meets ⟨_,i,rfl⟩ ⟨_,c,rfl⟩ noFill_tuple_add seq_tuple_add PySem.F.slot_tuple_add PySem.F.entry_tuple_add (PySem.F.args_tuple_add_2 _ _)
   (tuple_addW1 t b vs.toArray a.toArray n r l d m f (by simpa using k) (by simp[j])) ⟨i,c,h1 j⟩
 .refine concat_meets ⟨_,i,rfl⟩ ⟨_,c,rfl⟩ noFill_tuple_add seq_tuple_add PySem.F.slot_tuple_add PySem.F.entry_tuple_add (PySem.F.args_tuple_add_2 _ _)
   (tuple_addW2 t b vs.toArray a.toArray n r l d m f (by simpa using k) (by simpa using j) (by rw[AO,AO];exact hsz)) ⟨i,c,?_⟩
  rw[e];exact h2 j
def PM(n d:Nat):A5 Int->Nat
 | none=>d
 | some v=>if v<0 then(v +(n:Int)).toNat else min v.toNat n
theorem PL(n d:Nat):PM n d none=d:=rfl
theorem QJ(n d k:Nat):PM n d (some (k:Int))=min k n:=by
 show(if(k:Int)<0 then((k:Int) +(n:Int)).toNat else min (k:Int).toNat n)=min k n;rw[AI (by omega),CC]
end
end HT
namespace L2
open PySem PySem.Spec PyProof.Rows
abbrev TO:=St->Hp->(A5 Int->Hp->Prop)->Prop
def PO(X:Cx)(e:A5 IE)(t:TO):Prop :=
 ∀(a:A1 (A3×Obj)) (s:A4) (σ:St) (H:Hp) (Q:A5 Int->Hp->Prop),Inv X a σ H s->t σ H Q ->
  wpAny (model X.prog X.w) X.A (evalPart e X.env) (λu c=>∃o b,Inv X a σ b c/\IsPart u o/\Q o b) X.xe s
def Yr:TO:=λ_ H Q=>Q none H
def zEq(t:TE):TO:=λσ H Q=>t σ H λx a=>∃i,x = .int i/\Q (some i) a
def i8{ns:A1 Int}:∀{us:A1 A2},II (ns.map V.int) us->IntsAre us ns:=by
 induction ns with
 | nil=>intro us r;rw[GN]at r;cases r;exact .nil
 | cons n ns a =>
  intro us r;rw[BC]at r;cases r with
  | cons b c =>
   obtain⟨t,e⟩:=b;subst e;exact .cons n t (a c)
section
variable{X:Cx}{e:IE}{te:TE}{lo hi:A5 IE}{tl th:TO}{pos p2:Pos}
theorem Pq:PO X none Yr:=by
 intro a s σ H Q I h;rw[evalPart_none];exact AG ⟨none,H,I,.none,h⟩
theorem Qf(h:PE X e te):PO X (some e) (zEq te):=by
 intro a s σ H Q I b;rw[evalPart_some];refine IY (h a s σ H _ I b) λu j ⟨x,c,d,f,g⟩=>?_;obtain⟨i,rfl,q⟩:=g;obtain⟨t,rfl⟩:=f;exact⟨some i,c,d,.int i t,q⟩
def SlR(X:Cx)(r:V->A5 Int->A5 Int->Hp->VK->Prop):Prop :=
 ∀(a:A1 (A3×Obj)) (s:A4) (σ:St) (H:Hp) (x:V) (v b c:A2) (lo hi:A5 Int) (d:A3) (Q:VK),Inv X a σ H s->RelV x v->s.heap.IsSliceOf d b c .none->IsPart b lo->IsPart c hi->r x lo hi H Q ->
  ∃T id,typeLookup (.type T) "__getitem__" = pure (some (.builtin id))/\s.TypeIs v T/\wpAny (model X.prog X.w) X.A (getItem v (.ref d)) (EP X a σ Q) X.xe s
def tSl(r:V->A5 Int->A5 Int->Hp->VK->Prop)(te:TE)(tl th:TO):TE:=λσ H Q=>te σ H λx a=>tl σ a λl b=>th σ b λu c=>r x l u c Q
theorem Lk{r:V->A5 Int->A5 Int->Hp->VK->Prop}(f:SlR X r)(g:PE X e te)(i:PO X lo tl)(j:PO X hi th):PE X (.Subscript e (.Slice lo hi none p2) pos) (tSl r te tl th):=by
 intro a s σ H Q I h;refine Subscript_ (IY (g a s σ H _ I h) λv k ⟨x,m,n,o,p⟩=>?_);refine wpAny_Slice (IY (i a k σ m _ n p) λc t ⟨l,y,z,B,C⟩=>IY (j a t σ y _ z C) λvu s3 ⟨u,d,D,E,F⟩=>?_);rw[evalPart_none];refine AG ?_;have G:Inv X a σ d { s3 with heap:=s3.heap.push { cls:=.type "slice",data:=.fields #[c,vu,.none] } }:=D.kept (t':=s3.toks) λb M q=>AD _ q;obtain⟨T,id,J,K,L⟩:=f a { s3 with heap:=s3.heap.push { cls:=.type "slice",data:=.fields #[c,vu,.none] } } σ d x v c vu l u s3.heap.objs.size Q G o (Heap.IsSliceOf.new ..) B E F;show wpAny (model X.prog X.w) X.A (subscriptTail e (.Slice lo hi none p2) v (.ref s3.heap.objs.size)) (EP X a σ Q) X.xe { s3 with heap:=s3.heap.push { cls:=.type "slice",data:=.fields #[c,vu,.none] } };exact tail_any (ops:=[.ref s3.heap.objs.size,v]) K J L (by with_unfolding_all rfl)
def Ww(xs:A1 V)(lo hi:A5 Int):A1 V:=(xs.drop (HT.PM xs.length 0 lo)).take (HT.PM xs.length xs.length hi-HT.PM xs.length 0 lo)
theorem Ip(xs:A1 V)(lo hi:A5 Int):(Ww xs lo hi).length<=xs.length:=by
 unfold Ww;rw[AX,CY];omega
def zFx(K:PySem.W.Frag):R2:=λx y H Q=>∃a b c d,x = .ref a/\y = .ref b/\IW K H a (c.map V.int)/\IW K H b (d.map V.int)/\Q (.bl (HT.lexLt c d)) H
theorem zDd(i:X.A.units<cLine):KQ X (compareOp .Lt) (zFx X.K):=by
 intro e s σ H x y v u Q I j k h;obtain⟨a,b,f,g,rfl,rfl,l,m,q⟩:=h;cases j;cases k;obtain⟨d,n,o,_⟩:=I.tuple l;obtain⟨c,p,p2,_⟩:=I.tuple m;have r:IntsAre d.toArray.toList f:=i8 n;have t:IntsAre c.toArray.toList g:=i8 p;exact HT.QD o p2 r t i ⟨.bl (HT.lexLt f g),H,I,rfl,q⟩
def zEh(K:PySem.W.Frag):R2:=λx y H Q=>∃a b d c,x = .ref a/\y = .ref b/\IW K H a d/\IW K H b c/\d≠[]/\d.length+c.length<=sizeLine /\
 (c = []->Q (.ref a) H)/\(c≠[]->∀p,H p=none->Q (.ref p) (HZ H p (.tup (d++c))))
theorem II.nil_iff{xs:A1 V}{us:A1 A2}(r:II xs us):us = []↔xs = []:=by
 cases r with
 | nil=>simp
 | cons _ _=>simp
theorem Yc:KQ X (binaryOp .Add) (zEh X.K):=by
 intro e s σ H x y v u Q I i j h;obtain⟨a,b,k,l,rfl,rfl,m,n,p,f,r,t⟩:=h;cases i;cases j;obtain⟨A,d,B,_⟩:=I.tuple m;obtain⟨g,c,p2,_⟩:=I.tuple n;refine HT.RM B p2 (λz=>p (d.nil_iff.mp z)) (λz=>⟨.ref a,H,I,rfl,r (c.nil_iff.mp z)⟩) (λz=>?_) (by rw[<-d.length,<-c.length];exact f);refine⟨.ref s.heap.objs.size,_,I.laid (t':=s.toks) (o:=.tup (k++l)) (λb C q=>AD _ q) (Nat.le_refl _) ?_,rfl,t (λw=>z (c.nil_iff.mpr w)) _ (I.hok.fresh (Nat.le_refl _))⟩;exact⟨by rw[AZ];exact f,_,d.append c,IsTup.new _ _⟩
end
def RK(n:Nat)(i:Int):A5 Nat:=if 0<=i then(if i<n then some i.toNat else none)else if -(n:Int)<=i then some (i+n).toNat else none
def QO{α:Type}(xs:A1 α)(i:Int):A5 α:=(RK xs.length i).bind λj=>xs[j]?
def Pz{n:Nat}{i:Int}{j:Nat}(h:RK n i=some j):seqIndex? i n=some j/\j<n/\-(n:Int)<=i/\i<n:=by
 unfold RK at h;by_cases b:0<=i
 .rw[AK b]at h;by_cases a:i<n
  .rw[AK a]at h;have e:i.toNat=j:=BE h;exact⟨by rw[seqIndex_of b a,e],by omega,by omega,a⟩
  .rw[AI a]at h;cases h
 .rw[AI b]at h;by_cases a:-(n:Int)<=i
  .rw[AK a]at h;have e:(i+n).toNat=j:=BE h;exact⟨by rw[seqIndex_neg (by omega) a,e],by omega,a,by omega⟩
  .rw[AI a]at h;cases h
def Ra{α:Type}{xs:A1 α}{i:Int}{v:α}(h:QO xs i=some v):∃j,seqIndex? i xs.length=some j/\xs[j]?=some v/\j<xs.length/\-(xs.length:Int)<=i/\i<xs.length:=by
 unfold QO at h;cases e:RK xs.length i with
 | none=>rw[e]at h;cases h
 | some j =>
  rw[e]at h;obtain⟨a,b,c,d⟩:=Pz e;exact⟨j,a,h,b,c,d⟩
def C6{α:Type}{xs:A1 α}{j:Nat}{v:α}(h:xs[j]?=some v):QO xs (j:Int)=some v:=by
 have a:j<xs.length:=(AF.mp h).1;have e:RK xs.length (j:Int)=some j:=by
  unfold RK;rw[AK (by omega),AK (by omega)];simp
 unfold QO;rw[e];exact h
def Ym(b:IE):Prop:=∀o i,subscripted b false o i=operate [o,i] (getItem o i)
def TK(X:Cx)(r:R2):Prop :=
 ∀(c a:IE) (b:A1 (A3×Obj)) (s:A4) (σ:St) (H:Hp) (x y:V) (v u:A2) (Q:VK),Inv X b σ H s->RelV x v->RelV y u->r x y H Q ->
  subscripted a false v u=operate [v,u] (getItem v u)->wpAny (model X.prog X.w) X.A (subscriptTail c a v u) (EP X b σ Q) X.xe s
def MtR(X:Cx)(id:String)(r:V->A1 V->Hp->VK->Prop):Prop :=
 ∀(a:A1 (A3×Obj)) (s:A4) (σ:St) (H:Hp) (x:V) (b:A1 V) (v:A2) (c:A1 A2) (Q:VK),Inv X a σ H s->RelV x v->II b c->r x b H Q ->
  wpAny (model X.prog X.w) X.A (call (.builtin id) (v::c)) (EP X a σ Q) X.xe s
section
variable{X:Cx}{a b:IE}{ta tb:TE}{pos:Pos}
theorem G0{r:R2}(d:TK X r)(e:PE X a ta)(f:PE X b tb)(g:Ym b):PE X (.Subscript a b pos) (tOp r ta tb):=by
 intro c s σ H Q I h;exact Subscript_ (zDn e f I h λv u i x y j k l m q=>d a b c i σ j x y v u Q k l m q (g _ _))
def zEx(K:PySem.W.Frag):R2:=λx y H Q=>∃p a i v,x = .ref p/\y = .int i/\IG K H p a/\QO a i=some v/\Q v H
def zFq(K:PySem.W.Frag):R2:=λx y H Q=>∃p a i v,x = .ref p/\y = .int i/\IW K H p a/\QO a i=some v/\Q v H
theorem Xd:TK X (zEx X.K):=by
 intro d e a s σ H x y v u Q I A B h m;obtain⟨p,M,i,z,rfl,rfl,C,D,q⟩:=h;cases A;obtain⟨t,rfl⟩:=B;obtain⟨f,r,g,N⟩:=I.list C;obtain⟨j,c,E,O,F,G⟩:=Ra D;obtain⟨w,n,k⟩:=r.get E;have J:=r.length;have P:=Cf;have b:EP X a σ Q w s:=⟨z,H,I,k,q⟩;by_cases o:0<=i
 .have l:i.toNat=j:=by
   rw[seqIndex_of o G]at c;exact BE c
  exact item_listR g.isList o (by omega) (by rw[l];simpa using n) b m
 .have l:(i +(f.toArray.size:Int)).toNat=j:=by
   rw[seqIndex_neg (by omega) F]at c;rw[AO,<-J];exact BE c
  exact subscriptTail_builtinR (x:=w) g.isList.typeIs slot_list_getitem.lookup
   (wpAny_getItem_list_neg (Q:=λr L=>r=w/\EP X a σ Q r L) g.isList (by omega) (by rw[AO]<;>omega) (by omega) (by rw[l];simpa using n) ⟨rfl,b⟩) m
theorem zBn:TK X (zFq X.K):=by
 intro b c a s σ H x y v u Q I g k h l;obtain⟨p,F,i,z,rfl,rfl,m,n,q⟩:=h;cases g;obtain⟨t,rfl⟩:=k;obtain⟨o,r,f,G⟩:=I.tuple m;obtain⟨j,A,B,J,L,M⟩:=Ra n;obtain⟨w,C,d⟩:=r.get B;have D:=r.length;have N:=Cf;have e:EP X a σ Q w s:=⟨z,H,I,d,q⟩;exact subscriptTail_builtinR (x:=w) f.typeIs slot_tuple_getitem.lookup
  (getItem_tuple (j:=j) (Q:=λr E=>r=w/\EP X a σ Q r E) f (by omega) (by omega) (by rw[AO,<-D];exact A) (by simpa using C) ⟨rfl,e⟩) l
theorem Ng(its:A1 A2)(n j:Nat)(u:A2):Obj.mapSeq (·.setIfInBounds j u) { cls:=.type "list",data:=.seq its.toArray n } ={ cls:=.type "list",data:=.seq (its.set j u).toArray n }:=by
 simp[Obj.mapSeq]
theorem Inv.lst{a:A1 (A3×Obj)}{σ:St}{H:Hp}{s:A4}{p:A3}{xs:A1 V}(I:Inv X a σ H s)(h:H p=some (.lst xs)) :
  ∃(its:A1 A2) (n:Nat),II xs its/\s.heap.get? p=some { cls:=.type "list",data:=.seq its.toArray n }/\xs.length<=sizeLine:=by
 obtain⟨z,its,n,r,e⟩:=I.hok p _ h;exact⟨its,n,r,e,z⟩
theorem Inv.lstUpd{a:A1 (A3×Obj)}{σ:St}{H:Hp}{s:A4}{p:A3}{xs ys:A1 V}{its its':A1 A2}{n c:Nat}{f:Obj->Obj}(I:Inv X a σ H s)(h:H p=some (.lst xs))
  (g:s.heap.get? p=some { cls:=.type "list",data:=.seq its.toArray n }) (d:f { cls:=.type "list",data:=.seq its.toArray n } ={ cls:=.type "list",data:=.seq its'.toArray c }) (r:II ys its') (i:ys.length<=sizeLine) (t:Nat) :
  Inv X a σ (HZ H p (.lst ys)) { s with heap:=s.heap.update p f,toks:=t }:=by
 have e:(s.heap.update p f).get? p=some { cls:=.type "list",data:=.seq its'.toArray c }:=by
  rw[CZ f g (by rw[d]<;>rfl),d]
 refine I.write (x:=p) (e:=p) (by rw[h];trivial) (.inl rfl) (λb u j q=>(CG _ _ (Ne.symm j)).trans q) ⟨_,e⟩ ?_;exact⟨i,its',c,r,e⟩
def zEm:V->V->V->Hp->(Hp->Prop)->Prop:=λo i v H Q=>∃p a k j,o = .ref p/\i = .int k/\H p=some (.lst a)/\RK a.length k=some j/\Q (HZ H p (.lst (a.set j v)))
theorem w5:zFi X zEm:=by
 intro a s σ H o i v E F u Q I y z A h;obtain⟨p,B,k,j,rfl,rfl,g,C,q⟩:=h;cases y;obtain⟨t,rfl⟩:=z;obtain⟨b,n,r,d,D⟩:=I.lst g;obtain⟨c,G,l,m⟩:=Pz C;have e:=r.length;have J:=Cf;have w:Inv X a σ (HZ H p (.lst (B.set j v))) { s with heap:=s.heap.update p (Obj.mapSeq (·.setIfInBounds j u)) } :=
  I.lstUpd g d (Ng b n j u) (r.set A j) (by rw[List.length_set];exact D) s.toks
 by_cases x:0<=k
 .have f:k.toNat=j:=by
   rw[seqIndex_of x m]at c;exact BE c
  exact PySem.W.ki_setAt d x (by omega) (by rw[AO,<-e];exact m) (by rw[f];exact⟨_,w,q⟩)
 .have f:(k +(b.toArray.size:Int)).toNat=j:=by
   rw[seqIndex_neg (by omega) l]at c;rw[AO,<-e];exact BE c
  exact PySem.W.ki_setBack d (by omega) (by rw[AO,<-e];exact l) (by omega) (by rw[f];exact⟨_,w,q⟩)
theorem Hw(lo hi:A5 Int)(n:Nat):(sliceBounds lo hi none n).1 =((HT.PM n 0 lo:Nat):Int)/\(sliceBounds lo hi none n).2.1 =((HT.PM n n hi:Nat):Int)/\(sliceBounds lo hi none n).2.2=1:=by
 refine⟨?_,?_,rfl⟩
 .cases lo with
  | none=>simp[sliceBounds,HT.PM]
  | some i =>
   simp only[sliceBounds,HT.PM,Option.getD_none,show(1:Int)>0 by decide,FD];by_cases h:i<0
   .simp only[h,FD]<;>omega
   .simp only[h,CN]<;>omega
 .cases hi with
  | none=>simp[sliceBounds,HT.PM]
  | some i =>
   simp only[sliceBounds,HT.PM,Option.getD_none,show(1:Int)>0 by decide,FD];by_cases h:i<0
   .simp only[h,FD]<;>omega
   .simp only[h,CN]<;>omega
theorem Dh(its:A1 A2)(lo hi:A5 Int):slicePick its.toArray lo hi none =((its.drop (HT.PM its.length 0 lo)).take (HT.PM its.length its.length hi-HT.PM its.length 0 lo)).toArray:=by
 obtain⟨a,b,c⟩:=Hw lo hi its.toArray.size;unfold slicePick;rw[a,b,c];simp only[sliceRange_one,pick_run,AO]<;>rfl
def zFl(K:PySem.W.Frag):V->A5 Int->A5 Int->Hp->VK->Prop:=λx lo c H Q=>∃a b,x = .ref a/\IG K H a b/\∀p,H p=none->Q (.ref p) (HZ H p (.lst (Ww b lo c)))
theorem Zf:SlR X (zFl X.K):=by
 intro f s σ H x v t u lo e w Q I i j k l h;obtain⟨a,c,rfl,m,q⟩:=h;cases i;obtain⟨n,r,g,p⟩:=I.list m;have d:=r.length;refine⟨"list",_,slot_list_getitem.lookup,g.isList.typeIs,?_⟩;refine wpAny_getItem_list_slice g.isList j k l .none (by simp) ?_ (by rw[AO]<;>omega);rw[Dh,<-d];refine⟨.ref s.heap.objs.size,_,I.laid (t':=s.toks) (o:=.lst (Ww c lo e)) (λb y q=>AD _ q) (Nat.le_refl _) ?_,rfl,q _ (I.hok.fresh (Nat.le_refl _))⟩;exact⟨Nat.le_trans (Ip c lo e) p,_,0,(r.drop (HT.PM c.length 0 lo)).take (HT.PM c.length c.length e-HT.PM c.length 0 lo),AN _ rfl⟩
def Cb:V->Bool
 | .non=>true
 | .bl _=>true
 | .int _=>true
 | .str _=>true
 | _=>false
def RT:V->V->Bool
 | .non,.non=>true
 | .bl a,.bl b=>a == b
 | .bl a,.int b=>(if a then 1 else 0) == b
 | .int a,.bl b=>a ==(if b then 1 else 0)
 | .int a,.int b=>a == b
 | .str a,.str b=>a == b
 | _,_=>false
theorem zBf{A:IC}{s:A4}{y x:V}{u v:A2}(e:RelV y u)(c:RelV x v)(g:Cb y=true)(f:Cb x=true):SeqAt.EqAt A s u v (RT y x):=by
 cases y with
 | non =>
  cases e;cases x with
  | non=>cases c;exact SeqAt.EqAt.same _
  | bl b=>cases c;exact SeqAt.EqAt.none_bool b
  | int b=>obtain⟨t,rfl⟩:=c;exact SeqAt.EqAt.none_int b t
  | str b=>obtain⟨t,rfl⟩:=c;exact SeqAt.EqAt.none_str b t
  | _=>exact absurd (show false=true from f) AW
 | bl a =>
  cases e;cases x with
  | non=>cases c;exact SeqAt.EqAt.bool_none a
  | bl b=>cases c;exact SeqAt.EqAt.bool_bool a b
  | int b=>obtain⟨t,rfl⟩:=c;exact SeqAt.EqAt.bool_int a b t
  | str b=>obtain⟨t,rfl⟩:=c;exact SeqAt.EqAt.bool_str a b t
  | _=>exact absurd (show false=true from f) AW
 | int a =>
  obtain⟨d,rfl⟩:=e;cases x with
  | non=>cases c;exact SeqAt.EqAt.int_none a d
  | bl b=>cases c;exact SeqAt.EqAt.int_bool a d b
  | int b=>obtain⟨t,rfl⟩:=c;exact SeqAt.EqAt.int_int a d b t
  | str b=>obtain⟨t,rfl⟩:=c;exact SeqAt.EqAt.int_str a d b t
  | _=>exact absurd (show false=true from f) AW
 | str a =>
  obtain⟨d,rfl⟩:=e;cases x with
  | non=>cases c;exact SeqAt.EqAt.str_none a d
  | bl b=>cases c;exact SeqAt.EqAt.str_bool a d b
  | int b=>obtain⟨t,rfl⟩:=c;exact SeqAt.EqAt.str_int a d b t
  | str b=>obtain⟨t,rfl⟩:=c;exact SeqAt.EqAt.str_str a d b t
  | _=>exact absurd (show false=true from f) AW
 | _=>exact absurd (show false=true from g) AW
def QF(x:V)(u:A2):Bool:=match u with
 | .none=>RT .non x
 | .bool b=>RT (.bl b) x
 | .int i _=>RT (.int i) x
 | .str z _=>RT (.str z) x
 | _=>false
theorem Wp{x y:V}{u:A2}(r:RelV y u)(f:Cb y=true):QF x u=RT y x:=by
 cases y with
 | non=>cases r;rfl
 | bl b=>cases r;rfl
 | int i=>obtain⟨t,rfl⟩:=r;rfl
 | str z=>obtain⟨t,rfl⟩:=r;rfl
 | _=>exact absurd (show false=true from f) AW
theorem Bc{x:V}:∀{xs:A1 V} {us:A1 A2},II xs us->xs.all Cb=true->us.any (QF x)=xs.any λy=>RT y x
 | _,_,.nil,_=>rfl
 | y::xs,u::us,.cons r t,f=>by
  rw[List.all_cons,BI]at f;rw[FV,FV,Wp r f.1,Bc t f.2]
theorem g9{A:IC}{s:A4}{x:V}{v:A2}(a:RelV x v)(b:Cb x=true):∀{xs:A1 V} {us:A1 A2},II xs us->xs.all Cb=true->∀u∈us,SeqAt.EqAt A s u v (QF x u)
 | _,_,.nil,_=>λu hu=>by cases hu
 | y::xs,u::us,.cons r t,f=>λc hu=>by
  rw[List.all_cons,BI]at f;rcases AQ.mp hu with rfl | hu
  .rw[Wp r f.1];exact zBf r a f.1 b
  .exact g9 a b t f.2 c hu
def SL(x:V)(xs:A1 V):Bool:=xs.any λy=>RT y x
def SH(K:PySem.W.Frag)(neg:Bool):R2:=λx y H Q=>∃p a,y = .ref p/\(IG K H p a\/IW K H p a)/\Cb x=true/\a.all Cb=true/\Q (.bl (if neg then !SL x a else SL x a)) H
theorem Ot:KQ X (compareOp .In) (SH X.K false):=by
 intro e s σ H x y v u Q I f i h;obtain⟨p,k,rfl,hq,g,b,q⟩:=h;cases i;rcases hq with hq | hq
 .obtain⟨a,r,c,j⟩:=I.list hq;refine SeqAt.in_listAt (QF x) c.isList (λw d=>g9 f g r b w (by simpa using d)) ⟨.bl _,H,I,rfl,?_⟩;rw[show a.toArray.any (QF x)=a.any (QF x) by simp,Bc r b];exact q
 .obtain⟨a,r,c,j⟩:=I.tuple hq;refine SeqAt.in_tupleAt (QF x) c (λw d=>g9 f g r b w (by simpa using d)) ⟨.bl _,H,I,rfl,?_⟩;rw[show a.toArray.any (QF x)=a.any (QF x) by simp,Bc r b];exact q
theorem Fx:KQ X (compareOp .NotIn) (SH X.K true):=by
 intro e s σ H x y v u Q I f i h;obtain⟨p,k,rfl,hq,g,b,q⟩:=h;cases i;rcases hq with hq | hq
 .obtain⟨a,r,c,j⟩:=I.list hq;refine SeqAt.notIn_listAt (QF x) c.isList (λw d=>g9 f g r b w (by simpa using d)) ⟨.bl _,H,I,rfl,?_⟩;rw[show a.toArray.any (QF x)=a.any (QF x) by simp,Bc r b];exact q
 .obtain⟨a,r,c,j⟩:=I.tuple hq;refine SeqAt.notIn_tupleAt (QF x) c (λw d=>g9 f g r b w (by simpa using d)) ⟨.bl _,H,I,rfl,?_⟩;rw[show a.toArray.any (QF x)=a.any (QF x) by simp,Bc r b];exact q
theorem Fh:J8 X (.builtin "len") (λxs H Q=>∃p ys,xs = [.ref p]/\(IG X.K H p ys\/IW X.K H p ys)/\Q (.int ys.length) H):=by
 intro e s σ H xs i Q I r h;obtain⟨p,ys,rfl,hq,q⟩:=h;obtain⟨u,rfl,f⟩:=U6 r;cases f;have j:=Cf;rcases hq with hq | hq
 .obtain⟨b,c,d,g⟩:=I.list hq;have a:=c.length;exact Calls.call_len_list d.isList (by simp only[AO]<;>omega) ⟨.int ys.length,H,I.tok _,⟨s.toks+1,by rw[AO,a]⟩,q⟩
 .obtain⟨b,c,d,g⟩:=I.tuple hq;have a:=c.length;exact len_tuple d (by simp only[AO]<;>omega) ⟨.int ys.length,H,I.tok _,⟨s.toks+1,by rw[AO,a]⟩,q⟩
theorem Gb:J8 X (.builtin "len") (λxs H Q=>∃z,xs = [.str z]/\z.length<=sizeLine/\Q (.int z.length) H):=by
 intro a s σ H xs b Q I r h;obtain⟨z,rfl,c,q⟩:=h;obtain⟨u,rfl,t,rfl⟩:=U6 r;have d:=Cf;exact len_str (by omega) ⟨.int z.length,H,I.tok _,⟨_,rfl⟩,q⟩
theorem Go:J8 X (.type "list") (λxs H Q=>∃p ys,xs = [.ref p]/\(IG X.K H p ys\/IW X.K H p ys)/\∀l,H l=none->Q (.ref l) (HZ H l (.lst ys))):=by
 intro g s σ H xs B Q I r h;obtain⟨p,ys,rfl,hq,q⟩:=h;obtain⟨u,rfl,A⟩:=U6 r;cases A;have i:∀(a:A1 A2),II ys a->ys.length<=sizeLine->∀(c:IA) (d:Nat),(∀b z,s.heap.get? b=some z->c.get? b=some z) ->
   c.get? s.heap.objs.size=some { cls:=.type "list",dict:=none,data:=.seq a.toArray d,slots:=#[] }->EP X g σ Q (.ref s.heap.objs.size) { s with heap:=c }:=λa f j c d k e =>
  ⟨.ref s.heap.objs.size,_,I.laid (t':=s.toks) k (Nat.le_refl _) (show IP X.prog X.w _ c _ (.lst ys)from⟨j,a,d,f,e⟩),rfl,q _ (I.hok.fresh (Nat.le_refl _))⟩
 rcases hq with hq | hq
 .obtain⟨a,f,t,j⟩:=I.list hq;have m:=f.length;obtain⟨o,v,x,n,y⟩:=t.isList;exact call_list_seq p (.inl rfl) v x y (λc d k e=>i a f j c d k e) (by simp only[AO]<;>omega)
 .obtain⟨a,f,t,j⟩:=I.tuple hq;have m:=f.length;obtain⟨o,v,x,n,y⟩:=t;exact call_list_seq p (.inr rfl) v x y (λc d k e=>i a f j c d k e) (by simp only[AO]<;>omega)
theorem Dk:J8 X (.type "tuple") (λxs H Q=>∃p ys,xs = [.ref p]/\((IG X.K H p ys/\∀l,H l=none->Q (.ref l) (HZ H l (.tup ys)))\/(IW X.K H p ys/\Q (.ref p) H))):=by
 intro a s σ H xs x Q I r h;obtain⟨p,ys,rfl,h⟩:=h;obtain⟨u,rfl,n⟩:=U6 r;cases n;rcases h with⟨f,q⟩ | ⟨f,q⟩
 .obtain⟨c,g,i,j⟩:=I.list f;have k:=g.length;refine call_tuple_list i.isList (λd t=>?_) (by simp only[AO]<;>omega);have m:Inv X a σ H { s with heap:=d }:=I.kept (t':=s.toks) t;have v:Inv X a σ (HZ H d.objs.size (.tup ys)) { s with heap:=d.push { cls:=.type "tuple",data:=.seq c.toArray } } :=
   m.laid (t':=s.toks) (λb o e=>AD _ e) (Nat.le_refl _) (show IP X.prog X.w _ _ _ (.tup ys)from⟨j,c,g,IsTup.new _ _⟩)
  exact⟨.ref d.objs.size,_,v,rfl,q _ (m.hok.fresh (Nat.le_refl _))⟩
 .obtain⟨c,g,i,j⟩:=I.tuple f;exact call_tuple_same i ⟨.ref p,H,I,rfl,q⟩
def tyV(K:PySem.W.Frag)(T:String)(x:V)(H:Hp):Prop:=match x with
 | .str _=>T = "str"
 | .int _=>T = "int"
 | .ref p=>(T = "list"/\∃b,IG K H p b)\/(T = "tuple"/\∃o,K.lookup p=some o/\o.cls = .type "tuple"/\o.dict=none) \/
   (T = "dict"/\((∃a,H p=some (.dK a))\/∃a,H p=some (.dT a)))\/(T = "set"/\∃S n,H p=some (.set S n))
 | _=>False
theorem Wo{f:A1 (A3×Obj)}{σ:St}{H:Hp}{s:A4}{T:String}{x:V}{v:A2}(I:Inv X f σ H s)(r:RelV x v)(ty:tyV X.K T x H) :
  s.TypeIs v T/\∀a,v = .ref a->∃k,s.heap.get? a=some k/\k.dict=none:=by
 cases x with
 | str z =>
  obtain⟨t,rfl⟩:=r;cases(show T = "str" from ty);exact⟨typeIs_str s z t,λ_ e=>nomatch e⟩
 | int i =>
  obtain⟨t,rfl⟩:=r;cases(show T = "int" from ty);exact⟨typeIs_int s i t,λ_ e=>nomatch e⟩
 | ref p =>
  cases r;rcases ty with⟨rfl,w,m⟩ | ⟨rfl,o,b,q,g⟩ | ⟨rfl,b⟩ | ⟨rfl,S,n,b⟩
  .obtain⟨u,_,l,_⟩:=I.list m;refine⟨l.isList.typeIs,λa e=>?_⟩;cases e;obtain⟨o,n,e,c,g,_⟩:=l;exact⟨o,e,g⟩
  .refine⟨⟨o,I.kIn p o b,q⟩,λa e=>?_⟩;cases e;exact⟨o,I.kIn _ o b,g⟩
  .have z:∃o,s.heap.get? p=some o/\o.ExactDict:=by
    rcases b with⟨h,b⟩ | ⟨h,b⟩
    .obtain⟨_,_,_,_,o,_,_,e,d,_⟩:=I.hok p _ b;exact⟨o,e,d⟩
    .obtain⟨_,_,_,_,o,_,_,e,d,_⟩:=I.hok p _ b;exact⟨o,e,d⟩
   obtain⟨o,e,d⟩:=z;refine⟨⟨o,e,d.1⟩,λa j=>?_⟩;cases j;exact⟨o,e,d.2.1⟩
  .obtain⟨o,_,_,_,e,d,_⟩:=I.hok p _ b;refine⟨⟨o,e,d.1⟩,λa j=>?_⟩;cases j;exact⟨o,e,d.2.1⟩
 | _=>exact False.elim ty
def zEy(K:PySem.W.Frag)(T:String)(r:V->A1 V->Hp->VK->Prop)(b:TE):TE:=λσ H Q=>b σ H λx a=>tyV K T x a/\r x [] a Q
def tBM(K:PySem.W.Frag)(T:String)(r:V->A1 V->Hp->VK->Prop)(b:TE)(t:TA):TE:=λσ H Q=>b σ H λx a=>tyV K T x a/\t σ a λc d=>r x c d Q
variable{o e:IE}{es:A1 IE}{to:TE}{t:TA}{name:Str}{apos cpos:Pos}{T id:String}{r:V->A1 V->Hp->VK->Prop}
theorem zAn(i:PlainAttrs T)(d:Slot T name id)(e:typeOf (.builtin id)=pure (.type "method_descriptor"))(j:MtR X id r)(k:PE X o to)
  (b:attributeBase o name X.env (eval o X.env)=eval o X.env:=by rfl) (c:(apos.endLine == cpos.line)=true:=by rfl):PE X (.Call (.Attribute o name apos) [] [] cpos) (zEy X.K T r to):=by
 intro a s σ H Q I h;refine wpAny_Call_method0_late b c (IY (k a s σ H _ I h) λv l ⟨x,m,f,g,ty,n⟩=>?_);obtain⟨p,q⟩:=Wo f g ty;exact⟨T,id,i,d,e,p,q,Calls.callWith_builtin rfl (PySem.evalArgs_none (j a l σ m x [] v [] Q f g .nil n))⟩
theorem zDm(m:PlainAttrs T)(f:Slot T name id)(i:typeOf (.builtin id)=pure (.type "method_descriptor"))(n:MtR X id r)(p:PE X o to)(q:PA X (e::es) t)
  (c:attributeBase o name X.env (eval o X.env)=eval o X.env:=by rfl)
  (g:((backTo cpos (starEach (e::es) X.env)).all (λx=>!x.1) &&(backToKw cpos (keywordEach [] X.env)).all (λx=>x.1.isSome)
   && decide ((e::es).length +([]:A1 Keyword).length +(if([]:A1 Keyword).isEmpty then 0 else 1)<30))=true:=by rfl)
  (d:(apos.endLine == cpos.line)=true:=by rfl) (u:starEach (e::es) X.env =(false,eval e X.env)::starEach es X.env:=by rfl) (b:(backTo cpos (starEach es X.env)).any (·.1)=false:=by rfl) :
  PE X (.Call (.Attribute o name apos) (e::es) [] cpos) (tBM X.K T r to t):=by
 intro a s σ H Q I h;refine wpAny_Call_method_late c g d rfl (IY (p a s σ H _ I h) λv w ⟨x,y,j,k,ty,z⟩=>?_);obtain⟨A,B⟩:=Wo j k ty;refine⟨T,id,m,f,i,A,B,?_⟩;have l:=q cpos a w σ y _ j z;rw[u]at l⊢;refine Calls.callWith_builtin (by show(false||(backTo cpos (starEach es X.env)).any (·.1))=false;rw[b]<;>rfl) (Calls.evalArgs_plain ?_);exact IY l λC D ⟨E,F,G,J,L⟩=>n a D σ F x E v C Q G k J L
end
def QI(X:Cx)(id:String)(r:V->A1 V->Hp->VK->Prop):Prop :=
 ∀(a:A1 (A3×Obj)) (s:A4) (σ:St) (H:Hp) (x:V) (b:A1 V) (v:A2) (c:A1 A2) (Q:VK),Inv X a σ H s->RelV x v->II b c->r x b H Q ->
  wpAny (model X.prog X.w) X.A (call (.builtin id) (v::c)) (EP X a σ Q) X.xe s
def II.one:∀{x:V} {us:A1 A2},II [x] us->∃u,us = [u]/\RelV x u
 | _,_,.cons r .nil=>⟨_,rfl,r⟩
def II.two:∀{x y:V} {us:A1 A2},II [x,y] us->∃u v,us = [u,v]/\RelV x u/\RelV y v
 | _,_,_,.cons r (.cons q .nil)=>⟨_,_,rfl,r,q⟩
def II.zero:∀{us:A1 A2},II [] us->us = []
 | _,.nil=>rfl
def II.eraseIdx:∀{xs:A1 V} {us:A1 A2} (i:Nat),II xs us->II (xs.eraseIdx i) (us.eraseIdx i)
 | _,_,_,.nil=>.nil
 | _,_,0,.cons _ t=>t
 | _,_,i+1,.cons r t=>.cons r (II.eraseIdx i t)
def II.rep{xs:A1 V}{us:A1 A2}(h:II xs us):∀k:Nat,II (List.replicate k xs).flatten (List.replicate k us).flatten
 | 0=>.nil
 | k+1=>by
  rw[EG,EG,GK,GK];exact II.append h (II.rep h k)
def Gc{α:Type}:∀(l:A1 α) (i:Nat),(l.eraseIdx i).length<=l.length
 | [],_=>Nat.le_refl _
 | _::_,0=>DX _
 | _::r,i+1=>HL (Gc r i)
def Gz(its:A1 A2):∀(k:Nat) (a:A1 A2),
  List.foldl (λb c=>b++c) a.toArray (List.replicate k its.toArray) =(a ++(List.replicate k its).flatten).toArray
 | 0,a=>by simp
 | k+1,a=>by
  have e:a.toArray++its.toArray =(a++its).toArray:=by simp
  have d:(a++its) ++(List.replicate k its).flatten=a ++(List.replicate (k+1) its).flatten:=by
   rw[EG,GK,BG]
  rw[<-d,<-Gz its k (a++its),<-e,EG,List.foldl_cons]
section
variable{X:Cx}{pins:A1 (A3×Obj)}{σ:St}{H:Hp}{s:A4}{l b:A3}{xs ys zs:A1 V}
theorem Inv.lset{its its':A1 A2}{n:Nat}{f:F1 A2->F1 A2}{t':Nat}(I:Inv X pins σ H s)(a:H l=some (.lst xs))
  (e:s.heap.get? l=some { cls:=.type "list",data:=.seq its.toArray n }) (b:f its.toArray=its'.toArray) (c:II ys its') (d:ys.length<=sizeLine) :
  Inv X pins σ (HZ H l (.lst ys)) { s with heap:=s.heap.update l (Obj.mapSeq f),toks:=t' }:=by
 have q:=PySem.IsL.update e f;rw[b]at q;refine I.write (x:=l) (e:=l) (by rw[a];exact trivial) (.inl rfl) (λi u g h=>(CG s.heap (Obj.mapSeq f) (Ne.symm g)).trans h) ⟨_,q⟩ ?_;exact⟨d,its',_,c,q⟩
theorem Inv.lnew{its:A1 A2}{t':Nat}(I:Inv X pins σ H s)(a:II ys its)(b:ys.length<=sizeLine) :
  Inv X pins σ (HZ H s.heap.objs.size (.lst ys)) { s with heap:=s.heap.push { cls:=.type "list",data:=.seq its.toArray },toks:=t' } :=
 I.laid (λ_ _ q=>AD _ q) (Nat.le_refl _) ⟨b,its,0,a,AN _ rfl⟩
theorem Inv.fresh(I:Inv X pins σ H s):H s.heap.objs.size=none:=I.hok.fresh (Nat.le_refl _)
theorem Inv.lstM(I:Inv X pins σ H s)(a:H l=some (.lst xs)):xs.length<=sizeLine/\∃(its:A1 A2) (n:Nat),II xs its/\xs.length=its.length/\s.heap.get? l=some { cls:=.type "list",data:=.seq its.toArray n }:=by
 obtain⟨z,its,n,r,e⟩:=I.hok l _ a;exact⟨z,its,n,r,r.length,e⟩
theorem Vc{n:Nat}(h:n<=sizeLine):Builtin.List.listTooLong n=false:=by
 unfold Builtin.List.listTooLong;exact BA (by omega)
end
section
variable{X:Cx}
def Xx:V->A1 V->Hp->VK->Prop:=λx b H Q=>∃l a y,x = .ref l/\b = [y]/\H l=some (.lst a)/\a.length<sizeLine/\Q .non (HZ H l (.lst (a ++ [y])))
theorem P4:QI X "list.append" Xx:=by
 intro b s σ H x i v j Q I d f h;obtain⟨l,k,y,rfl,rfl,c,m,q⟩:=h;cases d;obtain⟨u,rfl,g⟩:=f.one;obtain⟨z,a,n,r,o,e⟩:=I.lstM c;refine call_meets F.slot_list_append ⟨_,e,rfl⟩ F.entry_list_append (F.args_list_append_2 _ _) (PySem.list_append l a.toArray n u (by rw[AO];omega)) ⟨e,?_⟩;refine⟨.non,_,I.lset (its':=a ++ [u]) c e (by simp) (r.append (.cons g .nil)) ?_,rfl,q⟩;rw[AZ,List.length_singleton];omega
def zCv:V->A1 V->Hp->VK->Prop:=λx b H Q=>∃l a i k y,x = .ref l/\b = [.int i]/\H l=some (.lst a)/\-(2^63)<=i/\i<2^63/\seqIndex? i a.length=some k/\a[k]?=some y/\Q y (HZ H l (.lst (a.eraseIdx k)))
theorem Vt:QI X "list.pop" zCv:=by
 intro c s σ H x E v G Q I f g h;obtain⟨l,j,i,k,y,rfl,rfl,d,m,o,p,A,q⟩:=h;cases f;obtain⟨u,rfl,B⟩:=g.one;obtain⟨t,rfl⟩:=B;obtain⟨z,a,n,r,C,e⟩:=I.lstM d;obtain⟨w,D,b⟩:=r.get A;refine call_meets F.slot_list_pop ⟨_,e,rfl⟩ F.entry_list_pop (F.args_list_pop_2 _ _)
  (MeetsSeq.list_pop_at l a.toArray n i t k w (fitsIndex_both m o) (by rw[AO,<-C];exact p) (by rw[<-BN];exact D) (by rw[AO];omega)) ⟨e,?_⟩
 refine⟨y,_,I.lset (its':=a.eraseIdx k) d e ?_ (r.eraseIdx k) ?_,b,q⟩
 .show a.toArray.eraseIdxIfInBounds k =(a.eraseIdx k).toArray;rw[List.eraseIdxIfInBounds_toArray]
 .have:=Gc j k;omega
def zDb:V->A1 V->Hp->VK->Prop:=λx a H Q=>∃l b,x = .ref l/\a = []/\H l=some (.lst b)/\Q .non (HZ H l (.lst []))
theorem Us:QI X "list.clear" zDb:=by
 intro c s σ H x i v j Q I f g h;obtain⟨l,k,rfl,rfl,d,q⟩:=h;cases f;have a:=g.zero;subst a;obtain⟨z,b,n,r,m,e⟩:=I.lstM d;refine call_meets F.slot_list_clear ⟨_,e,rfl⟩ F.entry_list_clear (F.args_list_clear_1 _) (AutoSeq1.list_clear_list_0 l b.toArray n (by rw[AO];omega)) ⟨e,?_⟩;exact⟨.non,_,I.lset (its':=[]) (ys:=[]) d e rfl .nil (CP _),rfl,q⟩
def zFt:R2:=λx y H Q=>∃l b a c,x = .ref l/\y = .ref b/\H l=some (.lst a)/\H b=some (.lst c)/\a.length+c.length<=sizeLine/\∀p,H p=none->Q (.ref p) (HZ H p (.lst (a++c)))
theorem Ln:KQ X (binaryOp .Add) zFt:=by
 intro d s σ H x y v u Q I f g h;obtain⟨l,b,t,w,rfl,rfl,i,j,A,q⟩:=h;cases f;cases g;obtain⟨z,c,n,r,B,e⟩:=I.lstM i;obtain⟨C,a,D,k,m,o⟩:=I.lstM j;refine PySem.P.add_list e o ?_ (by rw[AO,AO];omega);have p:c.toArray++a.toArray =(c++a).toArray:=by simp
 rw[p];exact⟨.ref _,_,I.lnew (t':=s.toks) (r.append k) (by rw[AZ];omega),rfl,q _ I.fresh⟩
def zGg:R2:=λx y H Q=>∃l k a,x = .ref l/\y = .int k/\H l=some (.lst a)/\-(2^63)<=k/\k<2^63/\a.length*k.toNat<=sizeLine /\
 ∀p,H p=none->Q (.ref p) (HZ H p (.lst (List.replicate k.toNat a).flatten))
theorem Yh{α:Type}(xs:A1 α)(k:Nat):(List.replicate k xs).flatten.length=k*xs.length:=by
 induction k with
 | zero=>simp
 | succ k a=>rw[EG,GK,AZ,a,Nat.succ_mul,Nat.add_comm]
theorem Wg:KQ X (binaryOp .Mult) zGg:=by
 intro p s σ H x y v u Q I A B h;obtain⟨l,k,L,rfl,rfl,C,D,E,w,q⟩:=h;cases A;obtain⟨t,rfl⟩:=B;obtain⟨z,b,n,r,G,e⟩:=I.lstM C;have d:b.toArray.size*k.toNat<=sizeLine:=by rw[AO,<-G];exact w
 have f:¬b.toArray.size*k.toNat >(2^63-1) / 8:=by
  have:(sizeLine:Nat)<=(2^63-1) / 8:=by decide
  omega
 have g:¬(!Builtin.List.listFitsIndex k)=true:=by
  rw[fitsIndex_both D E];exact AW
 have c:¬Builtin.List.listTooLong (b.toArray.size*k.toNat)=true:=by
  rw[Vc d];exact AW
 have i:List.foldl (λj o=>j++o) #[] (List.replicate (if b.toArray.isEmpty=true then 0 else k.toNat) b.toArray) =(List.replicate k.toNat b).flatten.toArray:=by
  have J:∀m:Nat,List.foldl (λj o=>j++o) #[] (List.replicate m b.toArray) =(List.replicate m b).flatten.toArray:=λm=>by
   have:=Gz b m [];rw[List.nil_append]at this;exact this
  rw[J];cases b with
  | nil=>simp
  | cons a M=>rw[AI (by simp)]
 refine wpAny_binaryOp_repeat_ref (T := "list") (U := "int") (by decide) ⟨_,e,rfl⟩ (λK=>typeIs_int K k t) noFill_list_mul F.fills_int_mul F.slot_int_rmul repeat_list F.slot_int_index.lookup
  (call_meets F.slot_int_rmul (typeIs_int s k t) F.entry_int_rmul (F.args_int_rmul_2 _ _) (int___rmul___int_list k t l b.toArray n)
   ⟨e,rfl,⟨_,e,rfl⟩,call_meets F.slot_list_mul ⟨_,e,rfl⟩ F.entry_list_mul (F.args_list_mul_2 _ _) (AutoListH.list___mul___list_int_3 l b.toArray n k t g f c) ⟨e,?_⟩⟩)
 rw[i];exact⟨.ref _,_,I.lnew (t':=s.toks) (r.rep k.toNat) (by rw[Yh,Nat.mul_comm];exact w),rfl,q _ I.fresh⟩
end
section
variable{κ:Type}[DecidableEq κ]
def T0(a:A1 (κ×V))(k:κ):A5 V:=(a.find? λb=>decide (b.1=k)).map (·.2)
def Bt(a:A1 (κ×V))(k:κ)(v:V):A1 (κ×V) :=
 if(a.any λb=>decide (b.1=k))=true then a.map (λb=>if b.1=k then(b.1,v)else b)else a ++ [(k,v)]
theorem O6{p:κ×V}{r:A1 (κ×V)}{k:κ}(e:p.1=k):T0 (p::r) k=some p.2:=by simp[T0,FB,e]
theorem O5{p:κ×V}{r:A1 (κ×V)}{k:κ}(e:¬p.1=k):T0 (p::r) k=T0 r k:=by simp[T0,FB,e]
theorem Z9(k:κ):∀a:A1 (κ×V),(a.any λb=>decide (b.1=k)) =(T0 a k).isSome
 | []=>rfl
 | p::r=>by
  rw[FV];by_cases e:p.1=k
  .simp only[O6 e,AS e,Bool.true_or,Option.isSome_some]
  .rw[O5 e,BA e,Bool.false_or];exact Z9 k r
theorem Kk(k j:κ)(y:V):∀a:A1 (κ×V),T0 (a.map λb=>if b.1=k then(b.1,y)else b) j =(T0 a j).map λx=>if j=k then y else x
 | []=>rfl
 | p::r=>by
  have c:=Kk k j y r;rw[BC];by_cases h:p.1=k
  .rw[AK h];by_cases e:p.1=j
   .rw[O6 (p:=(p.1,y)) e,O6 e,HB,AK (e.symm.trans h)]
   .rw[O5 (p:=(p.1,y)) e,O5 e,c]
  .rw[AI h];by_cases e:p.1=j
   .rw[O6 (p:=p) e,O6 e,HB,AI (λz=>h (e.trans z))]
   .rw[O5 (p:=p) e,O5 e,c]
theorem Hk(k j:κ)(y:V):∀a:A1 (κ×V),T0 a k=none->T0 (a ++ [(k,y)]) j=if j=k then some y else T0 a j
 | [],_=>by
  by_cases e:k=j
  .rw[AK e.symm];exact O6 (p:=(k,y)) e
  .rw[AI (λz=>e z.symm)];exact O5 (p:=(k,y)) e
 | p::r,b=>by
  rw[List.cons_append];have c:¬p.1=k:=λz=>by rw[O6 z]at b;cases b
  rw[O5 c]at b;have d:=Hk k j y r b;by_cases e:p.1=j
  .rw[O6 e,O6 e,AI (λz=>c (e.trans z))]
  .rw[O5 e,O5 e,d]
theorem w9(b:A1 (κ×V))(k j:κ)(y:V):T0 (Bt b k y) j=if j=k then some y else T0 b j:=by
 unfold Bt;by_cases a:(b.any λc=>decide (c.1=k))=true
 .rw[AK a,Kk];rw[Z9]at a;by_cases e:j=k
  .obtain⟨x,d⟩:=DY.mp a;rw[AK e,e,d,HB,AK rfl]
  .rw[AI e];cases T0 b j with
   | none=>rfl
   | some x=>rw[HB,AI e]
 .rw[AI a];refine Hk k j y b ?_;rw[Z9]at a;cases q:T0 b k with
  | none=>rfl
  | some x=>rw[q]at a;exact(a rfl).elim
theorem U2(a:A1 (κ×V))(k:κ)(v:V):(Bt a k v).length<=a.length+1:=by
 unfold Bt;split
 .rw[AB];omega
 .rw[AZ,BM,GZ];omega
theorem Ui{a:A1 (κ×V)}{k:κ}(v:V)(h:T0 a k=none):Bt a k v=a ++ [(k,v)]:=by
 unfold Bt;rw[Z9,h];exact AI (by decide)
theorem ME.isSome_eq{o:A5 V}{u:A5 A2}(r:ME o u):o.isSome=u.isSome:=by
 cases o with
 | none=>cases u with
  | none=>rfl
  | some _=>exact(show False from r).elim
 | some _=>cases u with
  | none=>exact(show False from r).elim
  | some _=>rfl
theorem KV.val{a:A1 (κ×V)}{vs:A1 (κ×A2)}(r:KV a vs)(k:κ):ME (T0 a k) (valueAt vs k):=by
 unfold KV at r
 induction r with
 | nil=>exact True.intro
 | @cons p q j c h t g =>
  obtain⟨f,i⟩:=h;by_cases e:p.1=k
  .have d:q.1=k:=f.symm.trans e;have b:valueAt (q::c) k=some q.2:=by simp[valueAt,FB,d]
   rw[O6 e,b];exact i
  .have d:¬q.1=k:=λz=>e (f.trans z);have b:valueAt (q::c) k=valueAt c k:=by simp[valueAt,FB,d]
   rw[O5 e,b];exact g
theorem KV.any{a:A1 (κ×V)}{vs:A1 (κ×A2)}(r:KV a vs)(k:κ):(a.any λb=>decide (b.1=k))=vs.any λb=>decide (b.1=k):=by
 unfold KV at r
 induction r with
 | nil=>rfl
 | cons h t c=>rw[FV,FV,c,h.1]
theorem KV.repl{b:A1 (κ×V)}{vs:A1 (κ×A2)}(r:KV b vs)(k:κ){y:V}{u:A2}(d:RelV y u) :
  KV (b.map λa=>if a.1=k then(a.1,y)else a) (vs.map λa=>if a.1=k then(a.1,u)else a):=by
 unfold KV at r⊢
 induction r with
 | nil=>exact .nil
 | @cons p q i j h t f =>
  rw[BC,BC];refine .cons ?_ f;obtain⟨c,g⟩:=h;by_cases e:p.1=k
  .rw[AK e,AK (c.symm.trans e)];exact⟨c,d⟩
  .rw[AI e,AI (λz=>e (c.trans z))];exact⟨c,g⟩
theorem KV.put{a:A1 (κ×V)}{vs:A1 (κ×A2)}(r:KV a vs)(k:κ){y:V}{u:A2}(b:RelV y u):KV (Bt a k y) (stored vs k u):=by
 unfold Bt stored;rw[r.any k];by_cases e:(vs.any λc=>decide (c.1=k))=true
 .rw[AK e,AK e];exact r.repl k b
 .rw[AI e,AI e];exact Paired.snoc r ⟨rfl,b⟩
theorem KV.length{a:A1 (κ×V)}{vs:A1 (κ×A2)}(r:KV a vs):a.length=vs.length:=Paired.length r
end
def Ik{P:CM}{w:F8}{k:IU}{u:A2}(r:RelV (kV k) u):(C4 P w).is k u=true:=by
 cases k with
 | inl i=>obtain⟨t,e⟩:=(show ∃t,u=Value.int i t from r);subst e;exact Il P w i t
 | inr x=>obtain⟨t,e⟩:=(show ∃t,u=Value.str x t from r);subst e;exact Jq P w x t
def Fr{P:CM}{w:F8}:∀{ks:A1 IU} {us:A1 A2},II (ks.map kV) us->ItemsAre (C4 P w) ks us
 | [],_,r=>by rw[GN]at r;cases r;exact .nil
 | k::ks,_,r=>by
  rw[BC]at r;cases r with
  | cons h t=>exact .cons (Ik h) (Fr t)
abbrev KT(H:Hp):A1 (A1 IU×V)->A1 (A1 IU×A3×A2)->Prop:=Paired λp q=>p.1=q.1/\H q.2.1=some (.tup (p.1.map kV))/\RelV p.2 q.2.2
def KT.val{H:Hp}{a:A1 (A1 IU×V)}{xs:A1 (A1 IU×A3×A2)}(r:KT H a xs)(k:A1 IU):ME (T0 a k) ((atKey xs k).map (·.2)):=by
 induction r with
 | nil=>exact True.intro
 | @cons p q j c h t g =>
  obtain⟨f,_,i⟩:=h;by_cases e:p.1=k
  .have d:q.1=k:=f.symm.trans e;have b:atKey (q::c) k=some q.2:=by simp[atKey,FB,d]
   rw[O6 e,b];exact i
  .have d:¬q.1=k:=λz=>e (f.trans z);have b:atKey (q::c) k=atKey c k:=by simp[atKey,FB,d]
   rw[O5 e,b];exact g
def KT.repl{H:Hp}{a:A1 (A1 IU×V)}{xs:A1 (A1 IU×A3×A2)}(r:KT H a xs)(k:A1 IU){y:V}{u:A2}(f:RelV y u) :
  KT H (a.map λc=>if c.1=k then(c.1,y)else c) (xs.map (putAt k u)):=by
 induction r with
 | nil=>exact .nil
 | @cons p q j l h t g =>
  rw[BC,BC];refine .cons ?_ g;obtain⟨b,d,i⟩:=h;unfold putAt;by_cases e:p.1=k
  .rw[AK e,AK (b.symm.trans e)];exact⟨b,d,f⟩
  .rw[AI e,AI (λz=>e (b.trans z))];exact⟨b,d,i⟩
def KT.put{H:Hp}{a:A1 (A1 IU×V)}{xs:A1 (A1 IU×A3×A2)}(r:KT H a xs)(k:A1 IU){b:A3}{y:V}{u:A2}(d:H b=some (.tup (k.map kV)))(c:RelV y u) :
  KT H (Bt a k y) (storedH xs k b u):=by
 have e:(a.any λf=>decide (f.1=k)) =(atKey xs k).isSome:=by
  rw[Z9,(r.val k).isSome_eq,Option.isSome_map]
 unfold Bt storedH;rw[e];by_cases q:(atKey xs k).isSome=true
 .rw[AK q,AK q];exact r.repl k c
 .rw[AI q,AI q];exact Paired.snoc r ⟨rfl,d,c⟩
def KT.keeps{H H':Hp}{a:A1 (A1 IU×V)}{xs:A1 (A1 IU×A3×A2)}(r:KT H a xs)(c:∀b ys,H b=some (.tup ys)->H' b=some (.tup ys)):KT H' a xs :=
 Paired.mapP r λ_ _ z=>⟨z.1,c _ _ z.2.1,z.2.2⟩
section
variable{P:CM}{w:F8}{H:Hp}{h:IA}{a:A3}
theorem zAq{u:HO}(b:LT P w H h)(e:Rd H a u):IP P w H h a u:=e.ok b
theorem Ox{b:A1 (IU×V)}(c:LT P w H h)(e:Rd H a (.dK b)):b.length<=sizeLine/\(a == sysModules)=false/\∃vs,KV b vs/\h.DictOf (C4 P w) a vs :=
 show IP P w H h a (.dK b)from zAq c e
theorem Yb{b:A1 (IU×V)}(c:LT P w H h)(e:H a=some (.dK b)):b.length<=sizeLine/\(a == sysModules)=false/\∃vs,KV b vs/\h.DictOf (C4 P w) a vs:=Ox c (.inl e)
theorem q9{ks:A1 IU}(c:LT P w H h)(e:H a=some (.tup (ks.map kV))):(tupleKind (C4 P w)).is h ks a:=by
 obtain⟨_,b,r,o,d,f,n,g⟩:=(show IP P w H h a (.tup (ks.map kV))from c a _ e);exact⟨o,b.toArray,n,d,f,g,by simpa using Fr r⟩
theorem Rs{b:A1 (A1 IU×V)}(d:LT P w H h)(e:Rd H a (.dT b)):b.length<=sizeLine/\(a == sysModules)=false /\
  ∃xs,KT H b xs/\h.DictOfH (tupleKind (C4 P w)) a xs:=by
 obtain⟨z,y,xs,r,o,g,i,j,k,n,s,u⟩:=(show IP P w H h a (.dT b)from zAq d e);refine⟨z,y,xs,r,o,g,i,j,k,n,s,λx hx=>?_,u⟩;have c:∀{l:A1 (A1 IU×V)} {m:A1 (A1 IU×A3×A2)},KT H l m->∀x∈m,(tupleKind (C4 P w)).is h x.1 x.2.1:=by
  intro l m q
  induction q with
  | nil=>intro x hx;exact nomatch hx
  | @cons p q A B f t v =>
   intro x hx;rcases AQ.mp hx with e | hx
   .subst e;exact q9 d (by rw[<-f.1];exact f.2.1)
   .exact v x hx
 exact c r x hx
theorem zEo{b:A1 (A1 IU×V)}(c:LT P w H h)(e:H a=some (.dT b)):b.length<=sizeLine/\(a == sysModules)=false /\
  ∃xs,KT H b xs/\h.DictOfH (tupleKind (C4 P w)) a xs:=Rs c (.inl e)
end
def NY(H:Hp)(a:A3)(y:V)(r:A5 V):Prop :=
 (∃c k,Rd H a (.dK c)/\y=kV k/\r=T0 c k)\/∃c k b,Rd H a (.dT c)/\y = .ref b/\H b=some (.tup (k.map kV))/\r=T0 c k
def zDg(H:Hp)(a:A3)(y v:V)(H':Hp):Prop :=
 (∃c k,H a=some (.dK c)/\y=kV k/\c.length<sizeLine/\H'=HZ H a (.dK (Bt c k v))) \/
 ∃c k b,H a=some (.dT c)/\y = .ref b/\H b=some (.tup (k.map kV))/\c.length<sizeLine/\H'=HZ H a (.dT (Bt c k v))
def NY.k{H:Hp}{a:A3}{b:A1 (IU×V)}{k:IU}(e:H a=some (.dK b)):NY H a (kV k) (T0 b k):=.inl ⟨b,k,.inl e,rfl,rfl⟩
section
variable{X:Cx}{pins:A1 (A3×Obj)}{σ:St}{H:Hp}{s:A4}{a:A3}{y v:V}{u r:A2}{o:A5 V}{A:IC}{E:A2->A4->Prop}
theorem Inv.big(I:Inv X pins σ H s):sysModules<s.heap.objs.size:=by
 have h:mainGlobals<s.heap.objs.size:=(I.mod.glob.keeps I.bk).lt;exact Nat.lt_trans (by decide) h
theorem Ri{Q:A2->A4->Prop}(x:A.units+1<cLine)(I:Inv X pins σ H s)(g:NY H a y (some v))(r:RelV y u)(h:∀f t,Inv X pins σ H t->RelV v f->Q f t) :
  wpAny (model X.prog X.w) A (getItem (.ref a) u) Q E s:=by
 rcases g with⟨i,k,e,j,l⟩ | ⟨i,k,b,e,j,B,l⟩
 .subst j;obtain⟨z,C,D,c,m⟩:=Ox I.hok e;obtain⟨f,n,d⟩:=ME.some_of (v:=v) (o:=valueAt D k) (by rw[l];exact c.val k);exact wpAny_getItem_of (Ik r) m.mapOf n (h f _ (I.tok _) d)
 .subst j;cases(show u=Value.ref b from r);obtain⟨z,C,F,c,m⟩:=Rs I.hok e;obtain⟨f,n,d⟩:=ME.some_of (v:=v) (o:=(atKey F k).map (·.2)) (by rw[l];exact c.val k);obtain⟨p,G,q⟩:=BK.mp n;refine wpAny_getItem_heap (tupleKind_room_in1 x) (q9 I.hok B) m G ?_;rw[q];exact h f _ (I.tok _) d
theorem Yj{Q:A2->A4->Prop}(p:A.units+1<cLine)(I:Inv X pins σ H s)(g:NY H a y o)(m:RelV y u)(h:∀n,Inv X pins σ H n->Q (.bool (!o.isSome)) n) :
  wpAny (model X.prog X.w) A (compareOp .NotIn u (.ref a)) Q E s:=by
 rcases g with⟨d,k,e,f,l⟩ | ⟨d,k,b,e,f,r,l⟩
 .subst f;obtain⟨z,i,t,c,j⟩:=Ox I.hok e;refine wpAny_notIn_of (Ik m) i j.mapOf ?_;rw[<-(c.val k).isSome_eq,<-l];exact h _ (I.tok _)
 .subst f;cases(show u=Value.ref b from m);obtain⟨z,i,v,c,j⟩:=Rs I.hok e;refine wpAny_notIn_heap (tupleKind_room_in1 p) (q9 I.hok r) i j ?_;have q:=(c.val k).isSome_eq;rw[Option.isSome_map]at q;rw[<-q,<-l];exact h _ (I.tok _)
theorem Jz{h':IA}{t':Nat}{c:HO}(I:Inv X pins σ H s)(f:TJ (H a))(g:Heap.SameBut a s.heap h')(h:∃q,h'.get? a=some q)(d:IP X.prog X.w (HZ H a c) h' a c) :
  Inv X pins σ (HZ H a c) { s with heap:=h',toks:=t' } :=
 I.write (x:=a) (e:=a) f (.inl rfl) (λb q i z=>(g.2 b i).trans z) h d
theorem We{P:CM}{w:F8}{H':Hp}{h':IA}{b:A1 (IU×V)}{vs:A1 (IU×A2)}(z:b.length<=sizeLine)(d:(a == sysModules)=false)(c:KV b vs)(e:h'.DictOf (C4 P w) a vs) :
  IP P w H' h' a (.dK b):=⟨z,d,vs,c,e⟩
theorem Ry{H':Hp}{Q:Unit->A4->Prop}(L:A.units+1<cLine)(I:Inv X pins σ H s)(g:zDg H a y v H')(C:RelV y u)(D:RelV v r)(h:∀F,Inv X pins σ H' F->Q () F) :
  wpAny (model X.prog X.w) A (setItem (.ref a) u r) Q E s:=by
 rcases g with⟨d,k,e,m,l,n⟩ | ⟨d,k,b,e,m,G,l,n⟩
 .subst m n;obtain⟨z,o,M,f,p⟩:=Yb I.hok e;have t:M.length<=sizeLine:=by rw[<-f.length];exact z
  have x:(Bt d k v).length<=sizeLine:=by have:=U2 d k v;omega
  refine wpAny_setItem_pairs (hsz:=t) (Ik C) p λJ i B=>h _ ?_;have N:∃q,J.get? a=some q:=let⟨q,_,_,j,_⟩:=i;⟨q,j⟩;exact Jz I (by rw[e];exact True.intro) B N (We x o (f.put k D) i)
 .subst m n;cases(show u=Value.ref b from C);obtain⟨z,o,O,f,p⟩:=zEo I.hok e;have t:O.length<=sizeLine:=by rw[<-Paired.length f];exact z
  have x:(Bt d k v).length<=sizeLine:=by have:=U2 d k v;omega
  refine wpAny_setItem_heap (hsz:=t) (tupleKind_room_in1 L) (q9 I.hok G) p λJ i B=>h _ ?_;obtain⟨q,P,R,j,S,T,U,_,V⟩:=i;refine Jz I (by rw[e];exact True.intro) B ⟨q,j⟩ ⟨x,o,_,(f.put k G D).keeps λc W K=>?_,q,P,R,j,S,T,U,V⟩;rw[B6 (Q2 K e (λz=>nomatch z))];exact K
end
def zEz(i:IE):Prop:=∀a b,subscripted i false a b=operate [a,b] (getItem a b)
def Yd{prog:CM}{w:F8}{A:IC}{E:A2->A4->Prop}{s:A4}{c:P_}{b a:IE}{pos:Pos}{T id:String}{Q:A2->A4->Prop}
  (f:typeLookup (.type T) "__getitem__" = pure (some (.builtin id))) (g:zEz a)
  (h:wpAny (model prog w) A (eval b c) (λo s₁=>wpAny (model prog w) A (eval a c) (λi s₂=>s₂.TypeIs o T/\wpAny (model prog w) A (getItem o i) Q E s₂) E s₁) E s) :
  wpAny (model prog w) A (eval (.Subscript b a pos) c) Q E s:=by
 refine Subscript_ (CF h (λo s₁ h₁=>CF h₁ (λi s₂ h₂=>?_) λ_ _ x=>x) λ_ _ x=>x);obtain⟨e,h₂⟩:=h₂;unfold subscriptTail;refine AA ?_;rw[getitemInPython_of_ne e.not_modules];refine AA (wpAny_specialOf e f ?_);have d:wpAny (model prog w) A (subscripted a false o i) (λr s₃=>wpAny (model prog w) A (letTemporaryGo b o r >>= λ_=>pure r) Q E s₃) E s₂:=by
  rw[g o i];exact wpAny_operating (CF h₂ (λr s₃ h₃=>AA (wpAny_letTemporaryGo (AG h₃))) λ_ _ x=>x)
 first
  | exact AG (AA d)
  | exact AA (AG (AA d))
  | exact AA d
def Jx{X:Cx}{c:A1 (A3×Obj)}{σ:St}{H:Hp}{s:A4}{a:A3}{y:V}{o:A5 V}(I:Inv X c σ H s)(g:NY H a y o):s.TypeIs (.ref a) "dict":=by
 rcases g with⟨d,k,e,_,_⟩ | ⟨d,k,b,e,_,_,_⟩
 .obtain⟨_,_,h,_,f⟩:=Ox I.hok e;exact f.typeIs
 .obtain⟨_,_,i,_,f⟩:=Rs I.hok e;exact f.typeIs
def Ub(c ty:TE):TE:=λσ H Q=>c σ H λx d=>ty σ d λy b=>∃a v,x = .ref a/\NY b a y (some v)/\Q v b
def Zn(ty c:TE):TE:=λσ H Q=>ty σ H λy d=>c σ d λx b=>∃a o,x = .ref a/\NY b a y o/\Q (.bl (!o.isSome)) b
def zDl(c ty d:TE):TS:=λD σ H=>d σ H λv e=>c σ e λx f=>ty σ f λy g=>∃a b,x = .ref a/\zDg g a y v b/\D.nx σ b
section
variable{X:Cx}{o i e value:IE}{pos pos' tpos:Pos}{td ty tv:TE}
theorem N9(e:X.A.units+1<cLine)(f:PE X o td)(hi:PE X i ty)(j:zEz i):PE X (.Subscript o i pos) (Ub td ty):=by
 intro b s σ H Q I h;refine Yd PySem.F.slot_dict_getitem.lookup j (IY (f b s σ H _ I h) λu k ⟨x,l,m,n,p⟩=>IY (hi b k σ l _ m p) λB C ⟨y,q,d,r,a,v,t,g,w⟩=>?_);subst t;obtain rfl:u=Value.ref a:=n;exact⟨Jx d g,Ri e d g r λD E z c=>⟨v,q,z,c,w⟩⟩
theorem Po(c:X.A.units+1<cLine)(hi:PE X i ty)(d:PE X o td):PC X .NotIn i o (Zn ty td):=by
 intro b s σ H Q I h;refine IY (hi b s σ H _ I h) λw e ⟨y,f,j,k,l⟩=>IY (d b e σ f _ j l) λu z ⟨x,m,n,p,a,q,r,g,t⟩=>?_;subst r;obtain rfl:u=Value.ref a:=p;exact Yj c n g k λB v=>⟨.bl (!q.isSome),m,v,rfl,t⟩
theorem Oo(c:X.A.units+1<cLine)(d:PE X o td)(hi:PE X i ty)(e:PE X value tv)(f:swapsWith value (some (.Subscript o i pos')) pos.line X.env=pure false) :
  PS X (.Assign [.Subscript o i pos'] value pos) (zDl td ty tv):=by
 intro b s σ H D I h;refine wpAny_Assign_Subscript (IY (e b s σ H _ I h) λr j ⟨v,k,l,m,n⟩=>IY (d b j σ k _ l n) λu p ⟨x,q,t,w,z⟩=>IY (hi b p σ q _ t z) λK L ⟨y,M,B,C,a,E,F,g,G⟩=>?_) f;subst F;obtain rfl:u=Value.ref a:=w;exact Ry c B g C m λN J=>⟨σ,E,J,G⟩
end
def Md{P:CM}{w:F8}{H:Hp}(h:IA)(a:sysModules<h.objs.size):IP P w H (h.push { cls:=.type "dict",data:=.dict #[] }) h.objs.size (.dK []) :=
 ⟨CP _,beq_eq_false_iff_ne.mpr (Ne.symm (A_ a)),[],.nil,Heap.DictOf.new h⟩
def zCg:TE:=λ_ H Q=>∀p,H p=none->Q (.ref p) (HZ H p (.dK []))
section
variable{X:Cx}{pos:Pos}
theorem Vb:PE X (.Dict [] [] pos) zCg:=λb s σ H Q I h =>
 wpAny_Dict_empty ⟨.ref s.heap.objs.size,_,I.laid (a:=s.heap.objs.size) (o:=.dK []) (t':=s.toks) (λ_ _ q=>AD _ q) (Nat.le_refl _) (Md s.heap I.big),rfl,h _ (I.hok.fresh (Nat.le_refl _))⟩
end
def IsD(H:Hp)(a:A3):Prop:=(∃b,Rd H a (.dK b))\/∃b,Rd H a (.dT b)
def Zy{X:Cx}{f:A1 (A3×Obj)}{σ:St}{H:Hp}{s:A4}{a:A3}(I:Inv X f σ H s)(d:IsD H a) :
  s.TypeIs (.ref a) "dict"/\(∀b,Value.ref a = .ref b->∃c,s.heap.get? b=some c/\c.dict=none)/\(a == sysModules)=false:=by
 rcases d with⟨h,e⟩ | ⟨h,e⟩
 .obtain⟨_,i,l,_,g⟩:=Ox I.hok e;refine⟨g.typeIs,λb q=>?_,i⟩;cases q;obtain⟨c,_,_,j,k,_⟩:=g;exact⟨c,j,k.2.1⟩
 .obtain⟨_,i,m,_,g⟩:=Rs I.hok e;refine⟨g.typeIs,λb q=>?_,i⟩;cases q;obtain⟨c,_,_,j,k,_⟩:=g;exact⟨c,j,k.2.1⟩
end L2
namespace Att
open PySem PySem.W PySem.Calls PyProof.Rows
def Bl{P:Params}{h:IA}:∀(ns:A1 Int) (vs:A1 A2),WellAll P h vs (ns.map WData.int)->IntsAre vs ns:=by
 intro ns
 induction ns with
 | nil =>
  intro vs w;rw[GN]at w;cases w;exact .nil
 | cons n ns c =>
  intro vs w;rw[BC]at w;cases w with
  | cons a b =>
   cases a;exact .cons _ _ (c _ b)
def Sh{l:OpenLaw}{n:Nat}(o:l.most=some n){P:Params}{h:IA}{args:A1 WData}{b:A1 A2}
  (c:l.row.toRowW.claim.pre args=true) (j:WellAll P h b args) :
  ∃a vs ns,b = [Value.ref a]/\args = [WData.list (ns.map WData.int)]/\h.get? a=some { cls:=.type "list",data:=.seq vs.toArray }/\IntsAre vs ns/\ns.length<=n:=by
 have k:WShape.hasAll [] args [.list .int]=true:=(pre_splitW c).1;have m:l.pre.holds [] { args:=args }=true:=(pre_splitW c).2;obtain⟨d,r,rfl,p,s⟩:=hasAllW_cons k;obtain rfl:=hasAllW_nil s;obtain⟨y,rfl,t⟩:=hasW_list p;obtain⟨ns,rfl⟩:=items_int t;have e:ns.length<=n:=by
  unfold OpenLaw.pre at m;have g:(WTm.not (.lt (.lit (.int (n:Int))) (.len (.arg 0)))).holds [] { args:=[.list (ns.map .int)] }=true:=by
   have g:=(holds_andW m).1;rw[o]at g;exact g
  have i:=condW_of g (w_not (w_lt w_lit (w_len_list (w_arg rfl))));rw[AB]at i;refine Nat.le_of_not_lt λq=>?_;have u:(n:Int) <((ns.length:Nat):Int):=by omega
  first
   | (rw[AS u]at i;exact absurd i (by decide))
   | (simp at i;omega)
 cases j with
 | cons v w =>
  cases w;cases v with
  | list x f=>exact⟨_,_,ns,rfl,rfl,x,Bl ns _ f,e⟩
def Ps(l:OpenLaw)(args:A1 WData):l.row.toRowW.claim.post args (.bool true) args=true :=
 postW_of (r:=l.row.toRowW) (X:=(true == true))
  (show WShape.has [] (.bool true) .bool=true by first | rfl | decide | simp[WShape.has,WShape.arms,WShape.armsAll])
  (show(WTm.eq .res (.lit (.bool true))).value [] { args:=args,res:=some (.bool true),after:=args }=some (.bool (true == true))from w_eq_bool (w_res rfl) w_lit) rfl
def PR{l:OpenLaw}{n:Nat}{q:CM}{b:A1 Str}{z:(Str->A5 A2)->IA->Prop}{A:F8->IA->Prop}{d:DefRec}
  (E:l.most=some n) (p:d.params.defaults = [])
  (call:∀(w:F8) (s₀ s₁:A4) (mg t:Str->A5 A2) (g:A3) (o:Obj) (u k c:A2) (a:A3) (vs:A1 A2) (ns:A1 Int),
   Ground q b [] z w s₀ mg t s₁.heap->A w s₁.heap ->
   s₁.heap.get? g=some o->o.data = .func (docDef d.name d.params d.body d.scope u k c)->s₁.heap.CodeRec k d.name->mg d.name=some (.ref g) ->
   s₁.heap.get? a=some { cls:=.type "list",data:=.seq vs.toArray }->IntsAre vs ns->ns.length<=n->s₁.gens = #[] ->
   codeAny (model l.prog w) callerA (.call (.ref g) ⟨[.ref a],[]⟩) (λr m=>r = .ok (.ret (.bool true))/\OldK s₁.heap m.heap/\m.os=s₁.os/\AllBare m.gens) s₁) :
  WalkO q b z A l.row.toRowW d [] (λf vs=>PySem.call f vs):=by
 intro w s₀ s₁ mg t G Y g o u k c F kV H I v B x J args C R h D K y L;obtain rfl:F = .none:=Dflts.none B p;obtain rfl:kV = .none:=Dflts.noKw B;obtain⟨a,vs,ns,rfl,rfl,i,e,j⟩:=Sh E h y;refine enter_call (GM (call w s₀ s₁ mg t g o u k c a vs ns G Y H (fd_plain I) v x i e j J) λr m M=>?_);obtain⟨rfl,N,O,P⟩:=M;exact⟨.inl ⟨.bool true,.bool true,[],rfl,λ_=>rfl,.bool true,Ps l _,λ_=>⟨List.Pairwise.nil,λ_ Q=>(nomatch Q)⟩⟩,N,O,P⟩
end Att
namespace L2
open PySem PySem.Spec PyProof.Rows
def Gd:∀{vs:A1 A2} {ns:A1 Int},IntsAre vs ns->II (ns.map V.int) vs
 | _,_,.nil=>.nil
 | _,_,.cons n t h=>.cons ⟨t,rfl⟩ (Gd h)
def O0(s:IL)(j:Nat):IL:=match s with
 | .ClassDef _ _ _ a _ _ _ _ _ _ _=>a.getD j (.Pass ⟨0,0,0,0⟩)
 | _=>.Pass ⟨0,0,0,0⟩
def R8(s:IL):Arguments:=match s with
 | .FunctionDef _ a _ _ _ _ _ _ _ _=>a
 | _=>{ posonlyargs:=[],args:=[],vararg:=none,kwonlyargs:=[],kw_defaults:=[],kwarg:=none,defaults:=[] }
def O2(s:IL):A1 IL:=match s with
 | .FunctionDef _ _ b _ _ _ _ _ _ _=>b
 | _=>[]
def B5(s:IL):JB:=match s with
 | .FunctionDef _ _ _ _ _ _ a _ _ _=>a
 | _=>{ kind:=.function,names:=[],isGenerator:=false,isCoroutine:=false }
abbrev IZ:RF:=λ_ _ _ _ _ _=>False
abbrev E0:XK:=λ_ _ _=>False
def K0{X:Cx}:o8 IZ X E0:=λ_ _ _ _ _ _ _ h=>h.elim
structure PF(K:PySem.W.Frag)(x qual:Str)(st:IL)(f:A3)(fd:IS):Prop where
 ex:∃(oc:A2) (od:A5 A3) (kV doc pm:A2) (an:A5 A3) (cdv ct:A2) (osl:F1 (A5 A2)),
  fd=PySem.W.fnOf x qual (R8 st) (O2 st) (B5 st) .none kV doc pm an cdv ct/\K.lookup f=some ⟨oc,od,.func fd,osl⟩/\PySem.W.codeIn K cdv qual=true
 kp:PySem.W.keepIn K (.ref f)=true
section
variable{P:CM}{w:F8}{K:PySem.W.Frag}{mg:Str->A5 A2}{base:IA}
theorem PF.ok{x b:Str}{st:IL}{f:A3}{l:IS}{N e:A1 Str}{k:Nat}{sp:Sp}(F:PF K x b st f l)(S:H_ N e (B5 st))(g:∀vs H Q E,sp vs H Q E->vs.length=e.length)
  (d:∀(c:A2) (A:IC) (a:A1 P_) (s:A4) (H:Hp) (vs:A1 V) (Q:VK) (E:XK),JD k (A.deeper (envOfC b (B5 st) s.heap.objs.size f c))->sp vs H Q E ->
   ∃t,QG (Uf IZ P w K mg base N b (B5 st) f c A a s H E).nox (O2 st) t/\t { nx:=λ_ H'=>Q .non H',rt:=Q } (y7 N vs) H):IJ P w K mg base IZ (k+1) f l e sp:=by
 obtain⟨p,r,kV,m,u,v,c,y,n,rfl,lk,i⟩:=F.ex;refine zCf lk i S g λA a s H vs Q E o j=>?_;obtain⟨t,h,q⟩:=d c A a s H vs Q E o j;exact⟨t,h.nox,q⟩
theorem PF.binds{x a:Str}{st:IL}{f:A3}{i:IS}{d:A1 Str}(F:PF K x a st f i)
  (h:∀(kV b e:A2) (g:A5 A3) (c ct:A2) (us:A1 A2),us.length=d.length->bindArgs (PySem.W.fnOf x a (R8 st) (O2 st) (B5 st) .none kV b e g c ct) ⟨us,[]⟩=pure (d.zip us)):Binds K i d []:=by
 obtain⟨l,m,kV,b,e,g,c,ct,j,rfl,lk,k⟩:=F.ex;exact .all (h kV b e g c ct)
theorem LJ{x a:Str}{st:IL}{f:A3}{i:A2}{j g:A5 A3}{e:F1 (A5 A2)}{kV d h b ct:A2}(l:K.lookup f=some ⟨i,j,.func (PySem.W.fnOf x a (R8 st) (O2 st) (B5 st) .none kV d h g b ct),e⟩)
  (c:PySem.W.codeIn K b a=true) (k:PySem.W.keepIn K (.ref f)=true):PF K x a st f (PySem.W.fnOf x a (R8 st) (O2 st) (B5 st) .none kV d h g b ct):=⟨⟨i,j,kV,d,h,g,b,ct,e,rfl,l,c⟩,k⟩
end
def i5{A:IC}{k:Nat}(a:JD k A):A.units+1<cLine:=Nat.lt_of_le_of_lt (EF (by decide:1<=64) _) a.units
section
variable{X:Cx}
theorem pv(i:Nat){x:Str}{pos:Pos}(b:X.N[i]?=some x:=by rfl)(c:TD X.env.scope x:=by first | exact Or.inl rfl | exact Or.inr (Or.inl rfl) | exact Or.inr (Or.inr rfl))(d:(x ==("__debug__":Str))=false:=by decide)
  (a:(x ==("__classdict__":Str))=false:=by decide):PE X (.Name x pos) (Ux i):=Wt b c d a
end
def Q6{A B:Prop}(h:B):if false=true then A else B:=by
 rw[AI AW];exact h
def Tf{A B:Prop}(h:A):if true=true then A else B:=by
 rw[AK rfl];exact h
def W0{c A B:Prop}[Decidable c](h1:c->A)(h2:¬c->B):if c then A else B:=by
 by_cases h:c
 .rw[AK h];exact h1 h
 .rw[AI h];exact h2 h
def HY(H H':Hp):Prop:=∀b o,H b=some o->H' b=some o
def HY.refl(H:Hp):HY H H:=λ_ _ h=>h
def HY.trans{H d e:Hp}(a:HY H d)(b:HY d e):HY H e:=λc o h=>b c o (a c o h)
def HY.free{H H':Hp}(e:HY H H'){l:A3}(h:H' l=Option.none):H l=Option.none:=by
 cases q:H l with
 | none=>rfl
 | some o =>
  rw[e l o q]at h;cases h
def MC(X:Cx)(a:JB)(cl:A1 (Str×A3))(N':A1 Str)(b:A1 (A3×Obj))(ex:A1 A3)(c:A4)(d:Hp):Cx where
 prog:=X.prog
 w:=X.w
 K:=X.K
 mg:=X.mg
 base:=X.base
 A:=X.A
 N:=N'
 s₀:=c
 H₀:=d
 env:=compEnvC a cl c.heap.objs.size X.env
 outer:=X.stack
 stack:=X.stack
 ex:=ex
 fn:=λ_=>false
 calm:=X.calm
 pn:=X.pn++b
 xe:=λ_ _=>False
def NZ(X:Cx)(a:JB)(cl:A1 (Str×A3)):A1 Str->A1 (A5 Nat)->Prop
 | [],[]=>True
 | _::N,none::c=>NZ X a cl N c
 | x::N,some j::c=>(X.N[j]?=some x/\X.env.scope.names.lookup x=some .cell/\(relabel a X.env).names.lookup x=some .cell/\cl.lookup x=X.env.cells.lookup x)/\NZ X a cl N c
 | _,_=>False
def QR(X:Cx):A1 (Str×A3)->Prop
 | []=>True
 | p::r=>X.env.cells.lookup p.1=some p.2/\QR X r
structure MQ(X:Cx)(scope:JB)(cl:A1 (Str×A3))(N':A1 Str)(cap:A1 (A5 Nat)):Prop where
 kind:scope.kind = .function
 nocell:∀y∈scope.names,y.2≠ .cell
 loc:∀y∈scope.names,y.2 = .local->scope.names.lookup y.1=some .local
 clos:closureFor scope X.env=pure cl
 cin:QR X cl
 has:((relabel scope X.env).names.all λy=>!(y.2 == .cell||y.2 == .free)||(cl.lookup y.1).isSome)=true
 caps:NZ X scope cl N' cap
def Wf(cap:A1 (A5 Nat))(σ:St):St:=cap.map λo=>o.bind λj=>(σ[j]?).join
def QR.get{X:Cx}:∀{cl:A1 (Str×A3)} {x:Str} {c:A3},QR X cl->cl.lookup x=some c->X.env.cells.lookup x=some c
 | [],_,_,_,h=>by simp at h
 | (y,d)::r,x,c,⟨a,b⟩,h=>by
  rw[HN]at h;cases e:x == y with
  | true =>
   rw[e]at h;cases h;rw[beq_iff_eq.mp e];exact a
  | false =>
   rw[e]at h;exact QR.get b h
def NZ.len{X:Cx}{a:JB}{cl:A1 (Str×A3)}:∀{N:A1 Str} {cap:A1 (A5 Nat)},NZ X a cl N cap->cap.length=N.length
 | [],[],_=>rfl
 | _::N,none::c,h=>by rw[BM,BM,NZ.len (N:=N) (cap:=c) h]
 | _::N,some j::c,h=>by rw[BM,BM,NZ.len h.2]
 | [],_::_,h=>h.elim
 | _::_,[],h=>h.elim
def NZ.get{X:Cx}{a:JB}{cl:A1 (Str×A3)}{j:Nat}{x:Str}:∀{N:A1 Str} {cap:A1 (A5 Nat)} {i:Nat},NZ X a cl N cap->N[i]?=some x->cap[i]?=some (some j) ->
  X.N[j]?=some x/\X.env.scope.names.lookup x=some .cell/\(relabel a X.env).names.lookup x=some .cell/\cl.lookup x=X.env.cells.lookup x
 | [],_,_,_,h,_=>by simp at h
 | _::_,[],_,_,_,h=>by simp at h
 | y::N,none::c,0,_,_,h=>by simp at h
 | y::N,none::c,i+1,h,b,d=>NZ.get (N:=N) (cap:=c) (i:=i) h (by simpa using b) (by simpa using d)
 | y::N,some k::c,0,h,b,d=>by
  simp at b d;subst b;subst d;exact h.1
 | y::N,some k::c,i+1,h,b,d=>NZ.get (N:=N) (cap:=c) (i:=i) h.2 (by simpa using b) (by simpa using d)
section
variable{X:Cx}{scope:JB}{cl:A1 (Str×A3)}{N':A1 Str}{cap:A1 (A5 Nat)}{pins:A1 (A3×Obj)}{σ:St}{H3:Hp}{s3:A4}{ex:A1 A3}
theorem Cn{p:JT->Bool}:∀{names:A1 (Str×JT)} {q:Str->JT->Bool} {x:Str} {k:JT},(names.all λy=>q y.1 y.2)=true->names.lookup x=some k->q x k=true
 | [],_,_,_,_,h=>by simp at h
 | (y,d)::r,q,x,k,a,h=>by
  rw[List.all_cons,BI]at a;rw[HN]at h;cases e:x == y with
  | true =>
   rw[e]at h;cases h;rw[beq_iff_eq.mp e];exact a.1
  | false =>
   rw[e]at h;exact Cn (p:=p) (names:=r) (q:=q) a.2 h
theorem Inv.block(I:Inv X pins σ H3 s3)(S:MQ X scope cl N' cap)(hc:X.calm=true)(t:∀b∈ex,Di X pins H3 b/\∃o,s3.heap.get? b=some o){h1:IA}{T:Nat}
  (G:h1.Ns s3.heap.objs.size (λ_=>none)) (B:∀b o,s3.heap.get? b=some o->h1.get? b=some o) :
  Inv (MC X scope cl N' pins ex s3 H3) [] (Wf cap σ) H3 { s3 with heap:=h1,toks:=T }:=by
 have C:∀b o,s3.heap.get? b=some o->b≠s3.heap.objs.size:=λb o e=>A_ (AJ e);have w:∀x c,cl.lookup x=some c->∃v,s3.heap.IsCell c v:=λx c e=>I.cell x c (S.cin.get e);have A:H3 s3.heap.objs.size=none:=I.hok.fresh (Nat.le_refl _);refine⟨⟨I.ok.mod,?_,I.ok.glob,I.ok.blt,Nat.le_refl _,λx y c H g=>I.ok.inj x y c (S.cin.get H) (S.cin.get g),λx U=>?_,λx c h _=>absurd h AW,I.ok.hd,I.ok.frames,.inl rfl,λb D=>?_,I.bs,Nat.le_trans I.ok.bsz I.sz,λb o e D=>?_,λb D=>?_,I.stack,I.stkFree⟩,
  rfl,I.bare,Un.kept B,⟨_,G,λi x v H g e3=>?_⟩,λx c e=>?_,A,λx c e=>I.freeC x c (S.cin.get e),λp V=>?_,I.hok.kept B,?_⟩
 .exact S.kind
 .have q:∀k,(relabel scope X.env).names.lookup x=some k->(!(k == .cell||k == .free)||(cl.lookup x).isSome)=true:=λk e=>Cn (p:=λ_=>true) (q:=λa k=>!(k == .cell||k == .free)||(cl.lookup a).isSome) S.has e;have J:(relabel scope X.env).names.lookup x=some .cell\/(relabel scope X.env).names.lookup x=some .free:=U;have:(cl.lookup x).isSome=true:=by
   rcases J with e | e
   .exact q _ e
   .exact q _ e
  exact DY.mp this
 .obtain⟨⟨_,_,_,_,W,_⟩,o,e⟩:=t b D;exact⟨C b o e,λx c E=>W x c (S.cin.get E)⟩
 .obtain⟨⟨f0,P,Q,f3,_⟩,_⟩:=t b D;rcases f3 with f3 | f3
  .exact I.ok.noex b o e f3
  .have:=(I.ok.bs b o e).1;exact absurd (BJ (AJ this) f3) (CQ _)
 .intro K;obtain⟨⟨_,P,Q,_⟩,_⟩:=t b D;rcases AQ.mp (I.stkSub b K)with z | z
  .exact P z
  .exact Q z
 .unfold Wf at g;rw[AH]at g;cases E:cap[i]? with
  | none=>rw[E]at g;cases g
  | some o =>
   rw[E]at g;cases o with
   | none=>cases g
   | some j =>
    have f:(σ[j]?).join=some v:=BE g;obtain⟨Y,R,Z,c4⟩:=S.caps.get H E;have F:σ[j]?=some (some v):=by
     cases F:σ[j]? with
     | none=>rw[F]at f;cases f
     | some z=>rw[F]at f;cases z with
      | none=>cases f
      | some z=>cases f;rfl
    obtain⟨m,hn,hl⟩:=I.loc;obtain⟨u,r,l⟩:=hl j x v Y F (.inr (.inl R));refine⟨u,r,?_⟩;rcases l with⟨k,_⟩ | ⟨_,c,L,s⟩
    .have:X.env.scope.names.lookup x=some .local:=k;rw[R]at this;cases this
    .exact .inr ⟨.inl Z,c,c4.trans L,let⟨o,M,N⟩:=s;⟨o,B _ _ M,N⟩⟩
 .obtain⟨v,o,M,N⟩:=w x c e;exact⟨v,o,B _ _ M,N⟩
 .have O:p∈X.pn++pins:=by simpa [MC] using V
  obtain⟨e,n,ne,nf,d⟩:=I.pin p O;refine⟨B _ _ e,n,C _ _ e,λK=>?_,d⟩;rcases AQ.mp (I.stkSub p.1 K)with z | z
  .exact ne z
  .exact nf z
 .unfold Wf;rw[AB];exact S.caps.len
theorem Inv.unblock{σ':St}{H':Hp}{s':A4}{h':IA}(I:Inv X pins σ H3 s3)(g:∀b∈ex,Di X pins H3 b)(J:Inv (MC X scope cl N' pins ex s3 H3) [] σ' H' s')(f:Heap.SameBut s3.heap.objs.size s'.heap h') :
  Inv X pins σ H' { s' with heap:=h' }:=by
 have d:H' s3.heap.objs.size=none:=J.free;refine I.call' (ch:=ex) J.os ⟨λb o e n h a=>?_,λb o e n h a=>?_,λb o e n a=>?_,λb o e a=>?_,J.base.tups,J.base.frzs,J.base.tbls⟩ (λb j e=>?_) J.bare λb i=>?_
 .exact(f.2 b (A_ (AJ e))).trans (J.base.keep b o e n h a)
 .obtain⟨k,q⟩:=J.base.slot b o e n h a;exact⟨k,(f.2 b (A_ (AJ e))).trans q⟩
 .exact J.base.free b o e n a
 .obtain⟨l,q⟩:=J.base.there b o e a;exact⟨l,(f.2 b (A_ (AJ e))).trans q⟩
 .refine(J.hok b j e).stay (λc u m q=>(f.2 c ?_).trans q) (λ_ q=>q) λ_ _ q=>q;rintro rfl;rcases m with z | z
  .rw[<-z,d]at e;cases e
  .rw[d]at z;cases z
 .obtain⟨_,p,_,r,s,t⟩:=g b i;exact⟨r,p,s,t⟩
end
def Ko(e:IE)(d:Nat)(iter tg:IE)(ifs:A1 IE)(b:Sem Fin->Sem Fin)(g f:A2)(a:P_):Sem Fin:=do
 standAt iter.pos
 match <-pyNext g with
 | none=>pure (.done .next)
 | some v =>
  letOwnedTupleGo tg g v
  assign tg a v
  let mut h:=true
  for c in ifs do
   if h then h <-isTrue c a (eval c a)
  if h then b (again (.compLoop e d g f a))else again (.compLoop e d g f a)
def emL(a:IE)(b:A2)(c:P_)(k:Sem Fin):Sem Fin:=(do let _ <-call (.builtin "list.append") [b,<-eval a c]:Sem Unit) >>= λ_=>k
def emD(a b:IE)(D:A3)(c:P_)(k:Sem Fin):Sem Fin:=(do
   let d <-eval a c
   let e <-holding [d] (eval b c)
   standAt { a.pos with endLine:=b.pos.endLine,endCol:=b.pos.endCol }
   holding [d,e] (dictSet D d e):Sem Unit) >>= λ_=>k
def Ce(b tg iter:IE)(ifs:A1 IE)(a:JB)(pos:Pos)(e c:A2)(d:P_) :
  compTurn (.ListComp b [⟨tg,iter,ifs,0⟩] a pos) 0 e c d=Ko (.ListComp b [⟨tg,iter,ifs,0⟩] a pos) 0 iter tg ifs (emL b c d) e c d:=rfl
def Ni(k v tg iter:IE)(ifs:A1 IE)(a:JB)(pos:Pos)(c:A2)(D:A3)(b:P_) :
  compTurn (.DictComp k v [⟨tg,iter,ifs,0⟩] a pos) 0 c (.ref D) b=Ko (.DictComp k v [⟨tg,iter,ifs,0⟩] a pos) 0 iter tg ifs (emD k v D b) c (.ref D) b:=rfl
abbrev QZ:=St->Hp->(St->Hp->Prop)->Prop
def PEm(X:Cx)(b:Sem Fin->Sem Fin)(t:QZ):Prop :=
 ∀(a:A1 (A3×Obj)) (s:A4) (σ:St) (H:Hp) (Q:St->Hp->Prop) (k:Sem Fin) (F:Fin->A4->Prop) (E:A2->A4->Prop),Inv X a σ H s->t σ H Q ->
  (∀c σ' d,Inv X a σ' d c->Q σ' d->wpAny (model X.prog X.w) X.A k F E c)->wpAny (model X.prog X.w) X.A (b k) F E s
def SN(X:Cx)(ifs:A1 IE)(t:TT):Prop :=
 ∀(a:A1 (A3×Obj)) (s:A4) (σ:St) (H:Hp) (Q:Bool->Hp->Prop),Inv X a σ H s->t σ H Q ->
  wpAny (model X.prog X.w) X.A (forIn ifs true λc r=>if r=true then do let b <-isTrue c X.env (eval c X.env);pure (ForInStep.yield b)else pure (ForInStep.yield r)) (TP X a σ Q) X.xe s
def Gr:TT:=λ_ H Q=>Q true H
def K4{X:Cx}:SN X [] Gr:=λ_ _ _ H _ I h=>wpAny_tests_nil ⟨H,I,h⟩
def X6{X:Cx}{c:IE}{t:TT}(h:PT X c t):SN X [c] t:=λa s σ H Q I q=>wpAny_tests_one (h a s σ H Q I q)
def Lr(g:TG)(e:TT)(f:QZ)(J:It)(σ:St)(H:Hp)(Q:St->Hp->Prop):Prop :=
 ∃W:Nat->Nat->St->Hp->Prop,(∃m,W 0 m σ H)/\∀i m σ H,W i m σ H->(J.stop i H/\Q σ H)\/(J.go i H/\∀x c,J.yld i H x c->g x σ c λσ2 h=>e σ2 h λb d =>
  if b=true then f σ2 d λσ3 j=>∃a,a < m/\W (i+1) a σ3 j else ∃a,a < m/\W (i+1) a σ2 d)
section
variable{X:Cx}{e tg iter:IE}{d:Nat}{ifs:A1 IE}{emit:Sem Fin->Sem Fin}{it:A3}{acc:A2}{g:TG}{tc:TT}{em:QZ}{J:It}{fp:A1 A3}{tn:Nat->IA->Prop}{R:Result->A4->Prop}
theorem Ag(G:X.A.under (.compLoop e d (.ref it) acc X.env)=X.A)(t:(model X.prog X.w).den (.compLoop e d (.ref it) acc X.env) =(compTurn e d (.ref it) acc X.env).onRaise (λx=>do noteFrame x X.env;theTreesLotGoes x))(V:X.calm=true)(L:X.xe=λ_ _=>False)(M:compTurn e d (.ref it) acc X.env=Ko e d iter tg ifs emit (.ref it) acc X.env)(hg:PG X tg g)(ht:SN X ifs tc)(N:PEm X emit em)
  (T:MD X.prog X.w X.K tg J fp it tn) {a:A1 (A3×Obj)} {s:A4} {σ:St} {H:Hp} {Q:St->Hp->Prop} (I:Inv X a σ H s) (st:tn 0 s.heap) (Y:∀b∈fp,Di X a H b) (h:Lr g tc em J σ H Q)
  (hR:∀v σ' H',Inv X a σ' H' v->Q σ' H'->R (.ok .next) v):codeAny (model X.prog X.w) X.A (.compLoop e d (.ref it) acc X.env) R s:=by
 obtain⟨W,⟨m0,w0⟩,y⟩:=h;have c:∀{H':Hp},(∀b∈fp,H' b=none)->∀b∈fp,Di X a H' b:=λhn b f=>⟨hn b f,(Y b f).2⟩;have Z:∀{α:Type} {m:Sem α} {P:α->A4->Prop} {E:A2->A4->Prop} {s:A4},wpAny (model X.prog X.w) X.A m P X.xe s->wpAny (model X.prog X.w) X.A m P E s:=λq=>by
  rw[L]at q;exact CF q (λ_ _ z=>z) λ_ _ z=>z.elim
 refine codeAny_loop rfl (λn v=>∃i σ' H',Inv X a σ' H' v/\tn i v.heap/\(∀b∈fp,H' b=none)/\W i n σ' H') (λn s3 hI=>?_) m0 ⟨0,σ,H,I,st,λb f=>(Y b f).1,w0⟩;obtain⟨i,σ3,D,I3,B,C,w3⟩:=hI;rw[G,t];refine wpAny_noted ?_;rw[M];unfold Ko;refine AA (GH (AA ?_));rcases y i n σ3 D w3 with⟨stop,qn⟩ | ⟨go,step⟩
 .refine CF (T.done X rfl rfl rfl V i a s3 σ3 D _ I3 (c C) B stop) (λr s4 ⟨O,I4⟩=>?_) λ_ _ z=>z;subst O;exact AG (hR s4 σ3 D I4 qn)
 .refine CF (T.item X rfl rfl rfl V i a s3 σ3 D _ I3 (c C) B go) (λr s4 ⟨u,O,h4⟩=>?_) λ_ _ z=>z;subst O;refine AA (CF h4 (λ_ s5 ⟨x,H5,I5,r5,y5,j,S⟩=>?_) λ_ _ z=>z);have U:=I5.pinned (c S) (T.obj _ _ j);have again:∀{σ7:St} {k:Hp} {l:A4},Inv X (a++Gs fp s5.heap) σ7 k l->(∃F,F < n/\W (i+1) F σ7 k)->∃m,m<n/\∃i σ' H',Inv X a σ' H' l/\tn i l.heap/\(∀b∈fp,H' b=none)/\W i m σ' H':=fun{σ7 k l} p n7=>by
   obtain⟨F,hm,w7⟩:=n7;refine⟨F,hm,i+1,σ7,k,p.unpinned,T.keep _ _ _ j λb f o e=>(p.pin (b,o) (BP _ (BP _ (V4 f e)))).1,λb f=>?_,w7⟩;obtain⟨o,e,d⟩:=T.obj _ _ j b f;exact(p.pin (b,o) (BP _ (BP _ (V4 f e)))).2.1
  refine AA (CF (Z (hg _ s5 σ3 H5 x u _ U r5 (step x H5 y5))) (λ_ s6 ⟨σ6,H6,I6,q6⟩=>?_) λ_ _ z=>z);refine AA (CF (Z (ht _ s6 σ6 H6 _ I6 q6)) (λok l ⟨k,p,q7⟩=>?_) λ_ _ z=>z);cases ok with
  | false=>exact AG ⟨rfl,again p q7⟩
  | true =>
   exact N _ l σ6 k _ _ _ _ p q7 λs8 σ8 H8 I8 q8=>AG ⟨rfl,again I8 q8⟩
theorem Cs(f:X.A.under (.compStart e d (.ref it) acc X.env)=X.A)(b:(model X.prog X.w).den (.compStart e d (.ref it) acc X.env) =(compStart e d (.ref it) acc X.env).onRaise (λx=>do noteFrame x X.env;standAt theWindowsPlace)){gs:A1 Comprehension}(g:clausesOf e=gs)(k:gs[d]?=some ⟨tg,iter,ifs,0⟩){s:A4}(T:MD X.prog X.w X.K tg J fp it tn)(st:tn 0 s.heap)
  (h:codeAny (model X.prog X.w) X.A (.compLoop e d (.ref it) acc X.env) R s):codeAny (model X.prog X.w) X.A (.compStart e d (.ref it) acc X.env) R s:=by
 refine codeAny_of_tree ?_;rw[f,b];refine wpAny_notedAt ?_;unfold compStart;rw[g,k];show wpAny _ X.A (ask >>= _) _ _ s;refine AA (GO (wpAny_ite ?_));have j:=T.self X.A 0 s (λa c=>codeAny (model X.prog X.w) X.A (.compLoop e d a acc X.env) R c) (notedBy (model X.prog X.w) X.A X.env λx c=>R (.error x) c) st h;split
 .first
   | exact AA (AG (AG (And.intro rfl h)))
   | exact AG (And.intro rfl h)
 .first
   | exact AA (EC (AA (GH (AA (CF j (λa c i=>AG (And.intro rfl i)) λ_ _ x=>x)))))
   | (refine AA (EC ?_);show wpAny _ _ (standAt iter.pos >>= _) _ _ s;exact AA (GH (AA (CF j (λa c i=>AG (And.intro rfl i)) λ_ _ x=>x))))
end
section
variable{X:Cx}{tg iter:IE}{ifs:A1 IE}{g:TG}{tc:TT}{em:QZ}{scope:JB}{cl:A1 (Str×A3)}{N':A1 Str}{cap:A1 (A5 Nat)}{pos:Pos}{wi:TI}
def Ss(wi:TI)(o:A3->HO)(cap:A1 (A5 Nat))(b:A3->It->St->Hp->(St->Hp->Prop)->Prop):TE:=λσ H Q=>wi σ H λJ a=>∀D,a D=none->b D J (Wf cap σ) (HZ a D (o D)) λ_ c=>Q (.ref D) c
theorem Lw{e:IE}{gs:A1 Comprehension}{newAcc:Sem A2}{p2:Pos}(r:clausesOf e =⟨tg,iter,ifs,0⟩::gs)(o:A3->HO)(hs:∀x,foldedSetIterable iter X.env x=pure x)(S:MQ X scope cl N' cap)(hc:X.calm=true)(hi:PI X tg iter wi)
  {lp:A3->It->St->Hp->(St->Hp->Prop)->Prop}
  (t:∀(a:A1 (A3×Obj)) (s:A4) (σ:St) (H:Hp) (Q:A2->A4->Prop) (E:A2->A4->Prop),Inv X a σ H s->(∀l,Inv X a σ (HZ H s.heap.objs.size (o s.heap.objs.size)) l->(∀b f,s.heap.get? b=some f->l.heap.get? b=some f)->Q (.ref s.heap.objs.size) l)->wpAny (model X.prog X.w) X.A newAcc Q E s)
  (L:∀(a:A1 (A3×Obj)) (M:A1 A3) (s3:A4) (N:Hp) (D k:A3) (fp:A1 A3) (u:Nat->IA->Prop) (J:It) (σ:St) (s:A4) (H:Hp) (Q:St->Hp->Prop) (R:Result->A4->Prop),
   MD X.prog X.w X.K tg J fp k u->Inv (MC X scope cl N' a M s3 N) [] σ H s->u 0 s.heap->(∀b∈fp,Di (MC X scope cl N' a M s3 N) [] H b)->lp D J σ H Q ->
   (∀l σ' H',Inv (MC X scope cl N' a M s3 N) [] σ' H' l->Q σ' H'->R (.ok .next) l) ->
   codeAny (model X.prog X.w) X.A (.compLoop e 0 (.ref k) (.ref D) (compEnvC scope cl s3.heap.objs.size X.env)) R s)
  (O:∀k D g,X.A.under (.compStart e 0 (.ref k) (.ref D) g)=X.A) (B:∀k D g,(model X.prog X.w).den (.compStart e 0 (.ref k) (.ref D) g) =(compStart e 0 (.ref k) (.ref D) g).onRaise (λx=>do noteFrame x g;standAt theWindowsPlace))
  (P:∀E Q s,wpAny (model X.prog X.w) X.A (comprehension e scope X.env p2 newAcc false (eval iter X.env)) Q E s->wpAny (model X.prog X.w) X.A (eval e X.env) Q E s) :
  PE X e (Ss wi o cap lp):=by
 intro a s σ H Q I h;refine P _ _ _ (wpAny_comprehension_free (use:=none) r hs S.clos S.kind S.loc (IY (hi a s σ H _ I h) λv s1 C=>IY C λitv i h2=>?_));obtain⟨k,fp,u,J,q,U,I2,T,F,f2,R2⟩:=h2;subst U;refine t a i σ q _ _ I2 λs3 V k3=>?_;have hD:q i.heap.objs.size=none:=I2.hok.fresh (Nat.le_refl _);have n:∀b∈fp,Di X a (HZ q i.heap.objs.size (o i.heap.objs.size)) b/\∃f,s3.heap.get? b=some f:=λb j=>by
  obtain⟨f,e,_⟩:=T.obj _ _ F b j;obtain⟨W,fr⟩:=f2 b j;exact⟨⟨by rw[B6 (A_ (AJ e))];exact W,fr⟩,f,k3 b f e⟩
 refine wpAny_newFunctionEnv S.nocell (by intro y hy;simp at hy) (λC Y Z=>?_) S.kind;have hk:∀b f,s3.heap.get? b=some f->C.get? b=some f:=λb f e=>(Z.2 b (A_ (AJ e))).trans (AD _ e);have I4:Inv (MC X scope cl N' a fp s3 (HZ q i.heap.objs.size (o i.heap.objs.size))) [] (Wf cap σ) (HZ q i.heap.objs.size (o i.heap.objs.size)) { s3 with heap:=C,toks:=s3.toks +([]:A1 (Str×A2)).length } :=
  V.block S hc n Y hk
 have G:u 0 C:=T.keep 0 _ _ F λb j f e=>hk b f (k3 b f e);refine Cs (X:=MC X scope cl N' a fp s3 (HZ q i.heap.objs.size (o i.heap.objs.size))) (gs:=⟨tg,iter,ifs,0⟩::gs) (e:=e) (d:=0) (tg:=tg) (iter:=iter) (ifs:=ifs) (O _ _ _) (B _ _ _) r rfl T G ?_;refine L a fp s3 _ i.heap.objs.size k fp u J (Wf cap σ) _ _ _ _ T I4 G (λb j=>?_) (R2 _ hD) λl σ' H' I' q'=>?_
 .obtain⟨⟨W,f1,f2',f3,f4,f5⟩,f,eo⟩:=n b j;refine⟨W,A_ (AJ eo),λhf=>?_,.inl j,λx c e=>f4 x c (S.cin.get e),λp hp=>f5 p (by simpa [MC] using hp)⟩;rcases AQ.mp (V.stkSub b hf)with z | z
  .exact f1 z
  .exact f2' z
 .obtain⟨m,hn,_⟩:=I'.loc;exact⟨m,hn,λh' j=>⟨.ref _,H',V.unblock (λb j=>(n b j).1) I' j,rfl,q'⟩⟩
end
section
variable{X:Cx}{tg iter elt:IE}{ifs:A1 IE}{g:TG}{tc:TT}{te:TE}{scope:JB}{cl:A1 (Str×A3)}{N':A1 Str}{cap:A1 (A5 Nat)}{pos:Pos}{wi:TI}
def Gp(D:A3)(te:TE):QZ:=λσ H Q=>te σ H λy b=>∃a,b D=some (.lst a)/\a.length<sizeLine/\Q σ (HZ b D (.lst (a ++ [y])))
theorem Ma{α:Type}{X:Cx}(a:X.xe=λ_ _=>False){m:Sem α}{P:α->A4->Prop}{E:A2->A4->Prop}{s:A4}(q:wpAny (model X.prog X.w) X.A m P X.xe s):wpAny (model X.prog X.w) X.A m P E s:=by
 rw[a]at q;exact CF q (λ_ _ z=>z) λ_ _ z=>z.elim
theorem Lb{D:A3}(b:X.xe=λ_ _=>False)(d:PE X elt te):PEm X (emL elt (.ref D) X.env) (Gp D te):=by
 intro a s σ H Q k F E I h e;unfold emL;refine AA (AA (CF (Ma b (d a s σ H _ I h)) (λu f ⟨y,g,i,j,l,m,n,o⟩=>?_) λ_ _ z=>z));refine AA (CF (Ma b (P4 a f σ g (.ref D) [y] (.ref D) [u] (λv c=>v = .non/\Q σ c) i rfl (.cons j .nil) ⟨D,l,y,rfl,rfl,m,n,rfl,o⟩)) (λv p ⟨t,c,q,w,_,r⟩=>?_) λ_ _ z=>z);exact AG (e p σ c q r)
theorem U5(S:MQ X scope cl N' cap)(i:X.calm=true)(hi:PI X tg iter wi)
  (j:∀(a:A1 (A3×Obj)) (c:A1 A3) (d:A4) (f:Hp),PG (MC X scope cl N' a c d f) tg g/\SN (MC X scope cl N' a c d f) ifs tc/\PE (MC X scope cl N' a c d f) elt te)
  (k:∀x,foldedSetIterable iter X.env x=pure x:=by intro _;rfl) :
  PE X (.ListComp elt [⟨tg,iter,ifs,0⟩] scope pos) (Ss wi (λ_=>.lst []) cap λD J σ H Q=>Lr g tc (Gp D te) J σ H Q):=by
 refine Lw (newAcc:=newList []) (p2:=firstIterPos [⟨tg,iter,ifs,0⟩] pos) rfl (λ_=>.lst []) k S i hi (λa s σ H Q E I h=>?_) (λa c d f D q r t J σ s H Q R T I st l h m=>?_) (λ_ _ _=>rfl) (λ_ _ _=>rfl) (λE Q s h=>h)
 .refine HV ?_;exact h _ (I.lnew (t':=s.toks) (its:=[]) .nil (CP _)) λb u e=>AD _ e
 .obtain⟨n,o,p⟩:=j a c d f;exact Ag (X:=MC X scope cl N' a c d f) rfl rfl i rfl (Ce elt tg iter ifs scope pos _ _ _) n o (Lb rfl p) T I st l h m
def Ty(D:A3)(c d:TE):QZ:=λσ H Q=>c σ H λy e=>d σ e λv b=>∃a k,b D=some (.dK a)/\y=kV k/\a.length<sizeLine/\Q σ (HZ b D (.dK (Bt a k v)))
theorem Tp{D:A3}{a b:IE}{j m:TE}(d:X.xe=λ_ _=>False)(o:PE X a j)(p:PE X b m):PEm X (emD a b D X.env) (Ty D j m):=by
 intro c s σ H Q k F E I h t;unfold emD;refine AA (AA (CF (Ma d (o c s σ H _ I h)) (λu w ⟨y,x,A,B,C⟩=>?_) λ_ _ z=>z));refine AA (BX (CF (Ma d (p c w σ x _ A C)) (λr G ⟨v,W,n,J,f,kk,e,K,l,L⟩=>?_) λ_ _ z=>z));refine AA (GH (BX ?_));subst K;obtain⟨z,M,N,g,O⟩:=Yb n.hok e;have P:N.length<=sizeLine:=by rw[<-g.length];exact z
 have R:(Bt f kk v).length<=sizeLine:=by have:=U2 f kk v;omega
 refine wpAny_dictSet_pairs (hsz:=P) (Ik B) O λS i T=>?_;have U:∃q,S.get? D=some q:=let⟨q,_,_,V,_⟩:=i;⟨q,V⟩;exact t _ σ _ (Jz (t':=G.toks+1) n (by rw[e];exact True.intro) T U (We R M (g.put kk J) i)) L
theorem Si{a b:IE}{j k:TE}(S:MQ X scope cl N' cap)(l:X.calm=true)(hi:PI X tg iter wi)
  (m:∀(c:A1 (A3×Obj)) (d:A1 A3) (f:A4) (i:Hp),PG (MC X scope cl N' c d f i) tg g/\SN (MC X scope cl N' c d f i) ifs tc/\PE (MC X scope cl N' c d f i) a j/\PE (MC X scope cl N' c d f i) b k)
  (n:∀x,foldedSetIterable iter X.env x=pure x:=by intro _;rfl) :
  PE X (.DictComp a b [⟨tg,iter,ifs,0⟩] scope pos) (Ss wi (λ_=>.dK []) cap λD J σ H Q=>Lr g tc (Ty D j k) J σ H Q):=by
 refine Lw (newAcc:=newDict) (p2:=firstIterPos [⟨tg,iter,ifs,0⟩] pos) rfl (λ_=>.dK []) n S l hi (λc s σ H Q E I h=>?_) (λc d f i D y z A J σ s H Q R T I st p h r=>?_) (λ_ _ _=>rfl) (λ_ _ _=>rfl) (λE Q s h=>h)
 .refine DL ?_;exact h _ (I.laid (a:=s.heap.objs.size) (o:=.dK []) (t':=s.toks) (λ_ _ q=>AD _ q) (Nat.le_refl _) (Md s.heap I.big)) λb B e=>AD _ e
 .obtain⟨t,u,v,w⟩:=m c d f i;exact Ag (X:=MC X scope cl N' c d f i) rfl rfl l rfl (Ni a b tg iter ifs scope pos _ _ _) t u (Tp rfl v w) T I st p h r
end
instance:LawfulBEq IU where
 rfl {a}:=by cases a with
  | inl i=>show(i == i)=true;simp
  | inr x=>show(x == x)=true;simp
 eq_of_beq {a b} h:=by
  cases a with
  | inl i=>cases b with
   | inl j=>exact congrArg Sum.inl (eq_of_beq (show(i == j)=true from h))
   | inr j=>exact absurd h (by intro z;cases z)
  | inr i=>cases b with
   | inl j=>exact absurd h (by intro z;cases z)
   | inr j=>exact congrArg Sum.inr (eq_of_beq (show(i == j)=true from h))
def Ob(P:CM)(w:F8)(a:A3)(l:A1 IU):HO:=.ext λh=>h.SetOf (C4 P w) a (λk=>decide (k∈l)) l.length
section
variable{X:Cx}{pins:A1 (A3×Obj)}{σ:St}{H:Hp}{s:A4}{a:A3}{l:A1 IU}
theorem zAa{P:CM}{w:F8}{H:Hp}{h:IA}(z:h.SetOf (C4 P w) a (λk=>decide (k∈l)) l.length):IP P w H h a (Ob P w a l) :=
 ⟨z,let⟨o,_,_,_,e,_⟩:=z;⟨o,e⟩,λd f ⟨o,b,c,t,e,r⟩ k=>⟨o,b,c,t,k o e,r⟩⟩
theorem Inv.set(I:Inv X pins σ H s)(e:H a=some (Ob X.prog X.w a l)):s.heap.SetOf (C4 X.prog X.w) a (λk=>decide (k∈l)) l.length:=by
 obtain⟨z,_⟩:=(show IP X.prog X.w H s.heap a (Ob X.prog X.w a l)from I.hok a _ e);exact z
theorem Lf{k:IU}{u:A2}(r:RelV (kV k) u):u.scannable=true:=by
 cases k with
 | inl i=>obtain⟨t,rfl⟩:=r;rfl
 | inr x=>obtain⟨t,rfl⟩:=r;rfl
def zDh(l:A1 IU)(k:IU):A1 IU:=if k∈l then l else l ++ [k]
theorem Jv{P:CM}{w:F8}{h:IA}{S b:IU->Bool}{n c:Nat}(z:h.SetOf (C4 P w) a S n)(e:∀k,b k=S k)(en:c=n):h.SetOf (C4 P w) a b c:=by
 have:b=S:=funext e;subst this;subst en;exact z
theorem Pa:J8 X (.type "set") (λxs H Q=>xs = []/\∀p,H p=none->Q (.ref p) (HZ H p (Ob X.prog X.w p []))):=by
 intro pins s σ H xs c Q I r h;obtain⟨rfl,q⟩:=h;cases r;refine call_set_0 λa=>⟨.ref s.heap.objs.size,_,I.laid (t':=s.toks) (λb o e=>AD _ e) (Nat.le_refl _) (zAa ?_),rfl,q _ (I.hok.fresh (Nat.le_refl _))⟩;exact(setObjOf_fresh a).setOf (AN _ rfl) (by decide)
def zBi(P:CM)(w:F8):V->A1 V->Hp->VK->Prop:=λx b H Q=>∃a l k,x = .ref a/\b = [kV k]/\H a=some (Ob P w a l)/\l.length+1<4096/\Q .non (HZ H a (Ob P w a (zDh l k)))
theorem zAo:QI X "set.add" (zBi X.prog X.w):=by
 intro pins s σ H x r v t Q I g i h;obtain⟨a,l,k,rfl,rfl,c,j,q⟩:=h;cases g;obtain⟨u,rfl,d⟩:=i.one;refine call_set_add (Ik d) (Lf d) (I.set c) j λy m z=>?_;refine⟨.non,_,I.write (x:=a) (e:=a) (t':=s.toks+1) (by rw[c];exact True.intro) (.inl rfl) (λb q n e=>(m.2 b n).trans e) (let⟨o,_,_,_,e,_⟩:=z;⟨o,e⟩) (zAa (Jv z (λp=>?_) ?_)),rfl,q⟩
 .unfold zDh;by_cases e:k∈l
  .rw[AK e];by_cases f:p=k
   .subst f;simp[e]
   .simp[f]
  .rw[AI e];simp
 .unfold zDh;by_cases e:k∈l
  .rw[AK e];simp[e]
  .rw[AI e];simp[e]
def zFd(P:CM)(w:F8)(neg:Bool):R2:=λx y H Q=>∃a l k,y = .ref a/\x=kV k/\H a=some (Ob P w a l)/\Q (.bl (if neg then !decide (k∈l)else decide (k∈l))) H
theorem Tb:KQ X (compareOp .In) (zFd X.prog X.w false):=by
 intro pins s σ H x y v u Q I b c h;obtain⟨a,l,k,rfl,rfl,d,q⟩:=h;cases c;exact wpAny_inSet_of (Ik b) (Lf b) (I.set d) ⟨.bl (decide (k∈l)),H,I.tok _,rfl,q⟩
end
def Its(x:Str):It:=⟨λi _=>i<x.cps.size,λi H v a=>a=H/\∃c,x.cps[i]?=some c/\v = .str ⟨#[c]⟩,λi _=>i=x.cps.size⟩
def Kd{P:CM}{w:F8}{K:PySem.W.Frag}{tg:IE}(a:A3)(x:Str)(t:Tok)(ty:String)(p:["enumerate", "zip", "dict_itemiterator", "dict_reverseitemiterator", "odict_iterator", "itertools.zip_longest", "itertools.pairwise"].contains ty=false)
  (W:∀R:IC,R.handled=none->Walks P w R a [a] [a] x.cps.size (SignAt x) (λi h=>h.IsStrIter a ty x t i))
  (g:∀(A:IC) (i:Nat) (s:A4) (Q:A2->A4->Prop) (E:A2->A4->Prop),s.heap.IsStrIter a ty x t i->Q (.ref a) s->wpAny (model P w) A (pyIter (.ref a)) Q E s):MD P w K tg (Its x) [a] a (λi h=>h.IsStrIter a ty x t i) where
 mem:=by simp
 obj:=λi h st b j=>by
  have e:b=a:=by simpa using j
  subst e;obtain⟨o,e,c,d⟩:=st;exact⟨o,e,λv z=>by rw[d]at z;cases z⟩
 keep:=λi h m st k=>let⟨o,e,r⟩:=st;⟨o,k a (by simp) o e,r⟩
 item:=by
  intro X q y B C i f s σ H E I n st D;subst q y B;obtain⟨F,G,S,J,L,M⟩:=n a (by simp);refine(W X.A (I.ok.hd C)).item i s _ _ D st λv m N T l k=>?_;obtain⟨c,u,U,V⟩:=T;have Y:Inv X f σ H { s with heap:=m,toks:=N }:=I.turned (λb o j e=>k b o (by simpa using j) e) F G J L M;obtain⟨o,e,Z,d⟩:=id l;exact⟨v,rfl,Mp (s:={ s with heap:=m,toks:=N }) e Z d p ⟨.str ⟨#[c]⟩,H,Y,⟨u,V⟩,⟨rfl,c,U,rfl⟩,l,λb j=>(n b j).1⟩⟩
 done:=by
  intro X q y B C i f s σ H E I n st D;subst q y B;obtain⟨F,G,S,J,L,M⟩:=n a (by simp);have O:i=x.cps.size:=D;subst O;exact(W X.A (I.ok.hd C)).done s _ _ st λm N k=>⟨rfl,I.turned (λb o j e=>k b o (by simpa using j) e) F G J L M⟩
 self:=λA i s Q E st h=>g A i s Q E st h
section
variable{X:Cx}{tg:IE}
def zGr(a:TE):TI:=λσ H R=>a σ H λx b=>∃z,x = .str z/\R (Its z) b
theorem zBd{l:IE}{k:TE}(n:PE X l k):PI X tg l (zGr k):=by
 intro a s σ H R I h;refine IY (n a s σ H _ I h) λv s1 ⟨x,p,g,r,u⟩=>?_;obtain⟨z,e,q⟩:=u;subst e;obtain⟨t,rfl⟩:=r;have f:∀(o:Obj) (ty:String),o.cls = .type ty->o.data = .fields #[.str z t,.int (0:Nat) 0]->o.isFreed=false->MD X.prog X.w X.K tg (Its z) [s1.heap.objs.size] s1.heap.objs.size (λi h=>h.IsStrIter s1.heap.objs.size ty z t i) ->
   PIE X a σ tg R (.ref s1.heap.objs.size) { s1 with heap:=s1.heap.push o }:=λo ty c d y T=>by
  refine⟨s1.heap.objs.size,[s1.heap.objs.size],_,_,p,rfl,g.kept (t':=s1.toks) λb o e=>AD _ e,T,⟨o,AN _ y,c,d⟩,λb B=>?_,q⟩;have e:b=s1.heap.objs.size:=by simpa using B
  subst e;exact g.fpOk (Nat.le_refl _) (g.hok.fresh (Nat.le_refl _))
 cases m:z.cps.all (· < 128)
 .exact wpAny_pyIter_wide m (f _ _ rfl rfl rfl (Kd _ z t "str_iterator" (by decide) (λC j=>Walks.strWide j _ z t) λA i s Q E st h=>wpAny_pyIter_striter_wide st h))
 .exact wpAny_pyIter_ascii m (f _ _ rfl rfl rfl (Kd _ z t "str_ascii_iterator" (by decide) (λC j=>Walks.strAscii j _ z t) λA i s Q E st h=>wpAny_pyIter_striter_ascii st h))
end
section
variable{X:Cx}
theorem Tz(E:X.calm=true):J8 X (.builtin "all") (λxs H Q=>∃(p:A3) (bs:A1 Bool),xs = [.ref p]/\IG X.K H p (bs.map V.bl)/\Q (.bl (bs.all id)) H):=by
 intro B s σ H xs M Q I r h;obtain⟨p,bs,rfl,F,q⟩:=h;obtain⟨u,rfl,t⟩:=U6 r;cases t;obtain⟨a,w,x,N⟩:=I.list F;refine call_all_walk (EZ x.isList ?_);have y:p≠s.heap.objs.size:=by
  obtain⟨o,n,e,_⟩:=x;exact A_ (AJ e)
 refine⟨s.heap.objs.size,_,_,_,_,_,λi=>bs.getD i true,rfl,Walks.list (A:=X.A.in1) (show X.A.in1.handled=none from I.ok.hd E) _ p y a.toArray,⟨⟨_,AN _ rfl,rfl,rfl⟩,?_⟩,λi v O P R G J=>?_,λS T k=>?_⟩
 .obtain⟨o,n,e,c,d,L⟩:=x;exact⟨o,AD _ e,c,n,L⟩
 .have f:(bs.map V.bl)[i]?=some (V.bl (bs.getD i true))/\RelV (V.bl (bs.getD i true)) v:=by
   have g:a[i]?=some v:=by simpa using G
   have j:i<a.length:=(AF.mp g).1;have m:=w.length;rw[AB]at m;have e:(bs.map V.bl)[i]?=some (V.bl (bs.getD i true)):=by
    rw[AH,AC (by omega)];simp[AM,AC (show i<bs.length by omega)]
   obtain⟨u,C,t⟩:=w.get e;rw[g]at C;cases C;exact⟨e,t⟩
  cases f.2;exact DF J
 .have m:=w.length;rw[AB]at m;have e:(List.range a.toArray.size).all (λi=>bs.getD i true)=bs.all id:=by
   rw[AO,<-m];rw[BR,DR,DR];constructor
   .intro z b f;obtain⟨i,j,rfl⟩:=FO.mp f;have:=z i (BU.mpr j);simpa [AM,AC j] using this
   .intro z i j;have l:=BU.mp j;have:=z bs[i] (ET l);simpa [AM,AC l] using this
  rw[e];exact⟨.bl (bs.all id),H,I.kept λb o D=>k b o (by
   intro f;have:b=s.heap.objs.size:=by simpa using f
   exact absurd (AJ D) (by rw[this];exact CQ _)) (AD _ D),rfl,q⟩
theorem Cw:∀{a:A1 Str} {us:A1 A2},II (a.map V.str) us->StrsAre us a
 | [],_,.nil=>.nil
 | _::_,_,.cons ⟨t,e⟩ r=>by subst e;exact .cons _ _ (Cw r)
def PN(a b:Str):Prop:=¬b.cps.toList<a.cps.toList
theorem Hd:J8 X (.builtin "sorted") (λxs H Q=>∃(p:A3) (j:A1 Str),xs = [.ref p]/\IG X.K H p (j.map V.str)/\∀(l:A3) (c:A1 Str),H l=none->c.Perm j->c.Pairwise PN->Q (.ref l) (HZ H l (.lst (c.map V.str)))):=by
 intro F s σ H xs f Q I r h;obtain⟨p,j,rfl,M,q⟩:=h;obtain⟨u,rfl,N⟩:=U6 r;cases N;obtain⟨g,G,O,Y⟩:=I.list M;have m:=Cw G;have Z:=G.length;refine TS.MM (collect_list (vs:=g) O.isList ?_ (by omega));refine⟨rfl,by omega,strKind,oneType',λs2 _=>TS.OV m,λa J e P k R=>?_⟩;have i:((s.heap.push (seqObj "list" #[] 0)).update s.heap.objs.size (Obj.mapSeq (· ++ g.toArray))).objs.size=s.heap.objs.size+1:=by rw[HM,size_push']
 obtain⟨n,S⟩:=P;have w:∀v∈a.toList,∃x t,v = .str x t:=λv z=>m.all v (n.mem_iff.mp z);have z:II ((a.toList.map strOf).map V.str) a.toList:=by
  have:∀f:A1 A2,(∀v∈f,∃x t,v = .str x t)->II ((f.map strOf).map V.str) f:=by
   intro f
   induction f with
   | nil=>exact λ_=>.nil
   | cons v r T =>
    intro h;obtain⟨x,t,rfl⟩:=h v (BH ..);exact .cons ⟨t,rfl⟩ (T λu A=>h u (AU _ A))
  exact this _ w
 have d:(a.toList.map strOf).Perm j:=by
  have:=n.map strOf
  rwa [m.strs]at this
 have B:(a.toList.map strOf).Pairwise PN:=by
  rw[DD];refine(List.Pairwise.and_mem.mp S).imp fun{u v} ⟨A,C,q⟩=>?_;obtain⟨x,t,rfl⟩:=w u A;obtain⟨y,t',rfl⟩:=w v C;have U:decide (y.cps.toList<x.cps.toList)=false:=q;exact of_decide_eq_false U
 have D:∀b o,s.heap.get? b=some o->J.get? b=some o:=λb o L=>k b o (by
  rw[Heap.get?_update_ne _ _ _ _ (A_ (AJ L))];exact AD _ L)
 have W:H (s.heap.objs.size+1)=none:=I.hok.fresh (DX _);have E:J.get? (s.heap.objs.size+1)=some (seqObj "list" a e):=by rw[<-i];exact R
 refine⟨.ref (s.heap.objs.size+1),HZ H (s.heap.objs.size+1) (.lst ((a.toList.map strOf).map V.str)),?_,by show Value.ref _=_;rw[<-i],q _ _ W d B⟩;refine I.laid (t':=s.toks) D (DX _) ⟨?_,a.toList,e,z,by simpa using E⟩;rw[AB,AB,n.length_eq];omega
end
def Gy{α β:Type}(f:α->β){l m:A1 β}(h:l.Perm m):∀a:A1 α,m=a.map f->∃b:A1 α,b.Perm a/\l=b.map f:=by
 induction h with
 | nil=>intro a e;exact⟨a,.refl _,e⟩
 | cons x _ o =>
  intro a e;cases a with
  | nil=>cases e
  | cons p a =>
   rw[BC]at e;obtain⟨rfl,c⟩:=List.cons.inj e;obtain⟨b,d,g⟩:=o a c;exact⟨p::b,.cons _ d,by rw[BC,g]⟩
 | swap x y l =>
  intro a e
  match a,e with
  | p::q::a,e =>
   rw[BC,BC]at e;obtain⟨rfl,c⟩:=List.cons.inj e;obtain⟨rfl,r⟩:=List.cons.inj c;exact⟨q::p::a,.swap _ _ _,by rw[BC,BC,r]⟩
 | trans _ _ i j =>
  intro a e;obtain⟨k,d,g⟩:=j a e;obtain⟨n,s,t⟩:=i k g;exact⟨n,s.trans d,t⟩
abbrev JF:=A3×Str×Str
def zFc(q:JF):A1 Nat×A1 Nat:=(q.2.1.cps.toList,q.2.2.cps.toList)
def S_(q r:JF):Prop:=TS.LA (zFc r) (zFc q)=false
def E4(H:Hp)(q:JF):Prop:=H q.1=some (.tup [.str q.2.1,.str q.2.2])
def Gh:∀{a:A1 JF} {us:A1 A2},II (a.map λq=>V.ref q.1) us->us=a.map λq=>Value.ref q.1
 | [],_,.nil=>rfl
 | _::_,_,.cons r t=>by rw[BC,Gh t];cases r;rfl
def Fi:∀(a:A1 JF),II (a.map λq=>V.ref q.1) (a.map λq=>Value.ref q.1)
 | []=>.nil
 | _::a=>.cons rfl (Fi a)
section
variable{X:Cx}
theorem Inv.pairAt{a:A1 (A3×Obj)}{σ:St}{H:Hp}{s:A4}{q:JF}(I:Inv X a σ H s)(h:E4 H q):TS.LZ s.heap (.ref q.1) q.2.1 q.2.2:=by
 obtain⟨b,f,⟨o,e,c,n,d⟩,_⟩:=I.tuple (IW.of h);obtain⟨i,j,rfl,⟨t,rfl⟩,⟨g,rfl⟩⟩:=f.two;exact⟨q.1,o,n,t,g,rfl,e,c,d⟩
theorem Fz:J8 X (.builtin "sorted") (λxs H Q=>∃(p:A3) (j:A1 JF),xs = [.ref p]/\IG X.K H p (j.map λq=>V.ref q.1)/\(∀q∈j,E4 H q) /\
  ∀(l:A3) (c:A1 JF),H l=none->c.Perm j->c.Pairwise S_->Q (.ref l) (HZ H l (.lst (c.map λq=>V.ref q.1)))):=by
 intro C s σ H xs us Q I r h;obtain⟨p,j,rfl,m,y,q⟩:=h;obtain⟨u,rfl,O⟩:=U6 r;cases O;obtain⟨d,D,P,E⟩:=I.list m;have F:=Gh D;have hl:=D.length;refine TS.MM (collect_list (vs:=d) P.isList ?_ (by omega));have f:((s.heap.push (seqObj "list" #[] 0)).update s.heap.objs.size (Obj.mapSeq (· ++ d.toArray))).objs.size=s.heap.objs.size+1:=by rw[HM,size_push']
 have n:∀b o,s.heap.get? b=some o->((s.heap.push (seqObj "list" #[] 0)).update s.heap.objs.size (Obj.mapSeq (· ++ d.toArray))).get? b=some o:=λb o g=>by
  rw[Heap.get?_update_ne _ _ _ _ (A_ (AJ g))];exact AD _ g
 have i:∀q∈j,TS.LZ s.heap (.ref q.1) q.2.1 q.2.2:=λq m=>I.pairAt (y q m);refine⟨rfl,by omega,TS.pairKind s.heap,tuples' true,λs2 R=>TS.QE (λv G=>?_) (λb o g=>?_),λt S e T k U=>?_⟩
 .rw[F]at G;obtain⟨q,m,rfl⟩:=BB.mp G;exact⟨_,_,i q m⟩
 .have w:b≠((s.heap.push (seqObj "list" #[] 0)).update s.heap.objs.size (Obj.mapSeq (· ++ d.toArray))).objs.size:=by
   rw[f];exact A_ (DE (AJ g))
  exact⟨w,R b o w (n b o g)⟩
 .obtain⟨J,L⟩:=T;rw[F]at J;obtain⟨c,x,M⟩:=Gy (λq:JF=>Value.ref q.1) J j rfl;have A:c.Pairwise S_:=by
   rw[M,DD]at L;refine(List.Pairwise.and_mem.mp L).imp fun{a b} ⟨W,Y,z⟩=>?_;have Z:=(i a (x.mem_iff.mp W)).key;have kb:=(i b (x.mem_iff.mp Y)).key;have N:TS.LA ((TS.ND s.heap (.ref b.1)).getD ([],[])) ((TS.ND s.heap (.ref a.1)).getD ([],[]))=false:=z;rw[Z,kb]at N;exact N
  have hn:H (s.heap.objs.size+1)=none:=I.hok.fresh (DX _);have B:S.get? (s.heap.objs.size+1)=some (seqObj "list" t e):=by rw[<-f];exact U
  refine⟨.ref (s.heap.objs.size+1),HZ H (s.heap.objs.size+1) (.lst (c.map λq=>V.ref q.1)),?_,by show Value.ref _=_;rw[<-f],q _ _ hn x A⟩;refine I.laid (t':=s.toks) (λb o g=>k b o (n b o g)) (DX _) ⟨?_,t.toList,e,by rw[M];exact Fi c,by simpa using B⟩;rw[AB,x.length_eq];rw[AB]at E;exact E
end
def Inv.turnLaid{X:Cx}{d:A1 (A3×Obj)}{σ:St}{H:Hp}{s:A4}{h':IA}{t':Nat}{fp:A1 A3}{T:A3}{o:HO}(I:Inv X d σ H s)(k:∀b a,b∉fp->s.heap.get? b=some a->h'.get? b=some a)
  (i:∀b∈fp,Di X d H b) (x:∀b∈fp,∃a,s.heap.get? b=some a) (l:s.heap.objs.size<=T) (j:IP X.prog X.w (HZ H T o) h' T o):Inv X d σ (HZ H T o) { s with heap:=h',toks:=t' }:=by
 have h:=I.hok.fresh l;have y:∀b a,s.heap.get? b=some a->b≠T:=λb a e=>A_ (BJ (AJ e) l);have p:∀b u,H b=some u->b∉fp:=λb u e f=>by rw[(i b f).1]at e;cases e
 refine I.step (g':=s.gens) (d':=s.drawn) (ch:=fp) (λb f=>let⟨_,A,_,B,C,D⟩:=i b f;⟨B,A,C,D⟩) (λb a _ _ g e _=>k b a g e) (λb a _ _ g e _=>⟨a.slots,k b a g e⟩) (λb a _ e n=>by rw[B6 (y b a e)];exact n)
  (λb a g e=>⟨a,k b a g e⟩) (λb t e=>by rw[B6 (B2 e h)];exact e) (λb u t e=>by rw[B6 (B2 e h)];exact e) (λb K e=>⟨#[],by rw[B6 (B2 e h),e];simp⟩) (λm E=>?_) (λb u e=>?_) I.bare
 .obtain⟨a,F,G,J,r⟩:=E;exact⟨a,F,G,k _ a (λf=>(i _ f).2.1 rfl) J,r⟩
 .by_cases f:b=T
  .subst f;rw[A9]at e;cases e;exact j
  .rw[B6 f]at e;refine(I.hok b u e).stay (λc v g q=>k c v ?_ q) (λc q=>by rw[B6 (B2 q h)];exact q) λc t q=>by rw[B6 (B2 q h)];exact q
   rcases g with z | z
   .rw[z];exact p b u e
   .exact p c _ z
def Ite(K:PySem.W.Frag)(a:A3):It :=
 ⟨λi H=>∃b x,IG K H a b/\b[i]?=some x,λi H v c=>∃T x,v = .ref T/\H T=none/\c=HZ H T (.tup [.int i,x])/\∀b,IG K H a b->b[i]?=some x,λi H=>∃b,IG K H a b/\b.length=i⟩
def So{P:CM}{w:F8}{K:PySem.W.Frag}{F:A1 IE}{kk:Nat}{tp:Pos}(a g e:A3)(N:e≠g):MD P w K (.Tuple F kk tp) (Ite K a) [e,g] e (λi h=>(∃f,IsEnum h e g i f)/\h.IsListIter g a i) where
 mem:=by simp
 obj:=λi h st b hb=>by
  obtain⟨⟨f,y⟩,o,G,c,d⟩:=st;rcases AQ.mp hb with rfl | hb
  .exact⟨_,y,λv z=>by cases z⟩
  .rw[AE.mp hb];exact⟨o,G,λv z=>by rw[d]at z;cases z⟩
 keep:=λi h h' st k=>⟨let⟨f,y⟩:=st.1;⟨f,k e (by simp) _ y⟩,st.2.at λo x=>k g (by simp) o x⟩
 item:=by
  intro X hP hw hK B i O s σ H E I D st hg;subst hP hw hK;obtain⟨xs,x,Z,hx⟩:=hg;obtain⟨j,rv,p,hz⟩:=I.list Z;obtain⟨u,hu,ru⟩:=rv.get hx;obtain⟨f0,f1,f2,f3,f4,f5⟩:=D e (by simp);obtain⟨g0,g1,g2,g3,g4,g5⟩:=D g (by simp);have J:a≠e:=λz=>by
   obtain⟨f,y⟩:=st.1;obtain⟨o,n,l,c,_⟩:=p;rw[z,y]at l;cases l;exact absurd c (by show ¬Value.type "enumerate" = Value.type "list";decide)
  have L:a≠g:=λz=>by
   obtain⟨o2,G,c2,d2⟩:=st.2;obtain⟨o,n,l,c,_⟩:=p;rw[z,G]at l;cases l;rw[c2]at c;exact absurd c (by decide)
  have hi:i<j.toArray.size:=by
   rw[AO];exact(AF.mp hu).1
  have W:=WalksT.enumerate (prog:=X.prog) (w:=X.w) (A:=X.A) (I.ok.hd B) e g a N J L j.toArray;refine W.item i s _ _ hi ⟨st.1,st.2,p.isList⟩ λT vals h' tk hv hT ht R k=>?_;obtain⟨t,x',S,rfl⟩:=hv;have:x'=u:=by
   have:j.toArray[i]?=some u:=by simpa using hu
   rw[this]at S;exact(BE S).symm
  subst this;refine⟨.ref T,rfl,W.go F kk tp i T _ _ _ R λG U k2=>?_⟩;have hTn:H T=none:=I.hok.fresh hT;have V:T≠e:=λz=>W.apart i T h' R (by simp[z]);have Y:T≠g:=λz=>W.apart i T h' R (by simp[z]);have kk2:∀b o,b≠e->b≠g->s.heap.get? b=some o->G.get? b=some o:=λb o b1 b2 M=>k2 b o (by simp[b1,b2]) (k b o (by simp[b1,b2]) M);have hT2:G.IsTuple T #[.int i t,x']:=by
   obtain⟨o,l,r⟩:=ht;exact⟨o,k2 T o (by simp[V,Y]) l,r⟩
  refine⟨.ref T,HZ H T (.tup [.int i,x]),I.turnLaid (fp:=[e,g]) (λb o hb M=>kk2 b o (λz=>hb (by simp[z])) (λz=>hb (by simp[z])) M) D (λb hb=>?_) hT ⟨?_,[.int i t,x'],.cons ⟨t,rfl⟩ (.cons ru .nil),hT2⟩,rfl,⟨T,x,rfl,hTn,rfl,λys hy=>by rw[I.list_inj hy Z];exact hx⟩,⟨U.1,U.2.1⟩,λb hb=>?_⟩
  .rcases AQ.mp hb with rfl | hb
   .obtain⟨f,y⟩:=st.1;exact⟨_,y⟩
   .rw[AE.mp hb];obtain⟨o,y,_⟩:=st.2;exact⟨o,y⟩
  .show 2<=sizeLine;decide
  .rcases AQ.mp hb with rfl | hb
   .rw[B6 (Ne.symm V)];exact f0
   .rw[AE.mp hb,B6 (Ne.symm Y)];exact g0
 done:=by
  intro X hP hw hK B i O s σ H E I D st hg;subst hP hw hK;obtain⟨xs,Z,hx⟩:=hg;obtain⟨j,rv,p,hz⟩:=I.list Z;obtain⟨f0,f1,f2,f3,f4,f5⟩:=D e (by simp);obtain⟨g0,g1,g2,g3,g4,g5⟩:=D g (by simp);have J:a≠e:=λz=>by
   obtain⟨f,y⟩:=st.1;obtain⟨o,n,l,c,_⟩:=p;rw[z,y]at l;cases l;exact absurd c (by show ¬Value.type "enumerate" = Value.type "list";decide)
  have L:a≠g:=λz=>by
   obtain⟨o2,G,c2,d2⟩:=st.2;obtain⟨o,n,l,c,_⟩:=p;rw[z,G]at l;cases l;rw[c2]at c;exact absurd c (by decide)
  have W:=WalksT.enumerate (prog:=X.prog) (w:=X.w) (A:=X.A) (I.ok.hd B) e g a N J L j.toArray;have hl:=rv.length;have hi:i=j.toArray.size:=by rw[AO];omega
  rw[hi]at st;refine W.done s _ _ ⟨st.1,st.2,p.isList⟩ λh' tk k=>⟨rfl,?_⟩;have I1:=I.step (h':=h') (H':=H) (t':=tk) (g':=s.gens) (d':=s.drawn) (ch:=[e,g]) (λb hb=>let⟨_,f1,_,f3,f4,f5⟩:=D b hb;⟨f3,f1,f4,f5⟩) (λb C _ _ B e _=>k b C B e) (λb C _ _ B e _=>⟨C.slots,k b C B e⟩) (λ_ _ _ _ n=>n)
   (λb C B e=>⟨C,k b C B e⟩) (λ_ _ e=>e) (λ_ _ _ e=>e) (λb ps e=>⟨#[],by rw[e];simp⟩) (λm R=>?_) (λb u M=>?_) I.bare
  .exact I1
  .obtain⟨C,es,ep,ho,r⟩:=R;exact⟨C,es,ep,k _ C (λhb=>(D _ hb).2.1 rfl) ho,r⟩
  .have nf:∀b u,H b=some u->b∉[e,g]:=λb u e hb=>by rw[(D b hb).1]at e;cases e
   refine(I.hok b u M).stay (λc v B q=>k c v ?_ q) (λ_ q=>q) λ_ _ q=>q;rcases B with z | z
   .rw[z];exact nf b u M
   .exact nf c _ z
 self:=λA i s Q E st h=>by
  obtain⟨f,he⟩:=st.1;exact wpAny_pyIter_enum he h
section
variable{X:Cx}{elts:A1 IE}{kk:Nat}{tp:Pos}
def zAh(K:PySem.W.Frag)(c:TA):TI:=λσ H R=>c σ H λd b=>∃a e,d = [.ref a]/\IG K b a e/\R (Ite K a) b
theorem Yi{a:IE}{g:TA}{p pos:Pos}(m:Gl X "enumerate")(n:X.mg "enumerate" = none)(o:bootBuiltins "enumerate" = some (.type "enumerate"))(r:PA X [a] g)(t:starEach [a] X.env = [(false,eval a X.env)]:=by rfl):PI X (.Tuple elts kk tp) (.Call (.Name "enumerate" p) [a] [] pos) (zAh X.K g):=by
 intro c s σ H R I h;refine Call_ (q0 I m n o (PyProof.Rows.callWith_type1 (IY (r pos c s σ H _ I h) λF s1 ⟨G,i,d,v,w⟩=>?_) t rfl));obtain⟨l,J,e,x,q⟩:=w;subst e;obtain⟨u,rfl,y⟩:=U6 v;cases y;obtain⟨A,L,B,M⟩:=d.list x;refine call_enumerate_list B.isList λC j f D k=>wpAny_pyIter_enum j ?_;have E:Inv X c σ i { s1 with heap:=C }:=d.kept (t':=s1.toks) k;refine⟨s1.heap.objs.size+1,[s1.heap.objs.size+1,s1.heap.objs.size],_,_,i,rfl,E,So l s1.heap.objs.size (s1.heap.objs.size+1) (Nat.succ_ne_self _),⟨⟨_,j⟩,f⟩,λb hb=>?_,q⟩;rcases AQ.mp hb with z | hb
 .rw[z];exact d.fpOk (DX _) (d.hok.fresh (DX _))
 .rw[AE.mp hb];exact d.fpOk (Nat.le_refl _) (d.hok.fresh (Nat.le_refl _))
end
end L2
namespace ST
open PySem
def stp(mask i:Nat):Nat:=(5*i+1) %(mask+1)
def RC(mask:Nat):Nat->Nat->Nat
 | 0,i=>i
 | t+1,i=>RC mask t (stp mask i)
def orb(mask:Nat):Nat->Nat->A1 Nat
 | 0,_=>[]
 | n+1,i=>i::orb mask n (stp mask i)
def Ig(mask a b i:Nat):RC mask (a+b) i=RC mask b (RC mask a i):=by
 induction a generalizing i with
 | zero=>rw[FF];rfl
 | succ a c=>rw[Nat.succ_add];exact c (stp mask i)
def Qu{mask j:Nat}:∀{n i:Nat},j∈orb mask n i->∃t,t<n/\RC mask t i=j
 | 0,_,h=>by simp[orb]at h
 | n+1,i,h=>by
  rcases AQ.mp h with rfl | h
  .exact⟨0,by omega,rfl⟩
  .obtain⟨t,b,a⟩:=Qu h;exact⟨t+1,by omega,a⟩
def RE(mask:Nat):Prop:=mask=7\/mask=31\/mask=127\/mask=511
def QM(mask:Nat):Bool:=(List.range (mask+1)).all (λj=>(orb mask (mask+1) 0).contains j)&&RC mask (mask+1) 0 == 0
def zEl:QM 7=true:=by decide +kernel
def zCk:QM 31=true:=by decide +kernel
def Yp:QM 127=true:=by decide +kernel
def Xk:QM 511=true:=by decide +kernel
def RE.full{mask:Nat}(h:RE mask):QM mask=true:=by
 rcases h with rfl | rfl | rfl | rfl
 .exact zEl
 .exact zCk
 .exact Yp
 .exact Xk
def cyc{mask:Nat}(h:RE mask){i j:Nat}(hi:i<=mask)(l:j<=mask):∃t,t<=mask/\RC mask t i=j:=by
 have f:=h.full;unfold ST.QM at f;rw[BI,DR]at f;obtain⟨m,d⟩:=f;have d:RC mask (mask+1) 0=0:=by simpa using d
 have c:∀k,k<=mask->∃t,t<mask+1/\RC mask t 0=k:=λk o=>Qu (by simpa using m k (BU.mpr (by omega)));obtain⟨a,p,e⟩:=c i hi;obtain⟨b,q,g⟩:=c j l;by_cases n:a<=b
 .refine⟨b-a,by omega,?_⟩;rw[<-e,<-Ig,show a +(b-a)=b by omega,g]
 .refine⟨mask+1-a+b,by omega,?_⟩;rw[<-e,<-Ig,show a +(mask+1-a+b) =(mask+1)+b by omega,Ig,d,g]
def N_(mask:Nat):Nat->Nat×Nat->Nat×Nat
 | 0,x=>x
 | t+1,x=>N_ mask t (SetTable.leap mask x.1 x.2)
def Zh(mask a b:Nat)(x:Nat×Nat):N_ mask (a+b) x=N_ mask b (N_ mask a x):=by
 induction a generalizing x with
 | zero=>rw[FF];rfl
 | succ a c=>rw[Nat.succ_add];exact c _
def Kp(mask:Nat):∀(t:Nat) (x:Nat×Nat),(N_ mask t x).2=x.2 / 32^t
 | 0,x=>by simp[N_]
 | t+1,x=>by
  show(N_ mask t (SetTable.leap mask x.1 x.2)).2=_;rw[Kp mask t];show x.2 / 32 / 32^t=_;rw[Nat.div_div_eq_div_mul,Nat.pow_succ,Nat.mul_comm]
def Wc(mask:Nat):∀(t:Nat) (x:Nat×Nat),x.1<=mask->(N_ mask t x).1<=mask
 | 0,_,h=>h
 | t+1,x,_=>Wc mask t _ (Nat.lt_succ_iff.mp (Nat.mod_lt _ (Nat.succ_pos _)))
def Kz(mask:Nat):∀(t i:Nat),N_ mask t (i,0) =(RC mask t i,0)
 | 0,_=>rfl
 | t+1,i=>by
  show N_ mask t ((i*5+1+0 / 32) %(mask+1),0 / 32)=_;rw[Nat.zero_div,Nat.add_zero,Kz mask t,Nat.mul_comm];rfl
def Op{mask:Nat}(h:RE mask){i j p:Nat}(hi:i<=mask)(a:j<=mask)(b:p<2^64):∃t,t<=mask+13/\(N_ mask t (i,p)).1=j:=by
 have c:(N_ mask 13 (i,p)).2=0:=by
  rw[Kp];exact Nat.div_eq_of_lt (BJ b (by decide))
 obtain⟨t,e,d⟩:=cyc h (Wc mask 13 (i,p) hi) a;refine⟨13+t,by omega,?_⟩;rw[Zh];have:N_ mask 13 (i,p) =((N_ mask 13 (i,p)).1,0):=Prod.ext rfl c;rw[this,Kz];exact d
def MY(t:IK):Nat->SetTable.Probe->SetTable.Probe
 | 0,p=>p
 | n+1,p=>MY t n (t.advance p)
def Rn(t:IK)(a b:Nat)(p:SetTable.Probe):MY t (a+b) p=MY t b (MY t a p):=by
 induction a generalizing p with
 | zero=>rw[FF];rfl
 | succ a c=>rw[Nat.succ_add];exact c _
def Qt(t:IK):∀(m:Nat) (p:SetTable.Probe),p.more=m->∃a,MY t (m+1) p=a/\a.i =(SetTable.leap t.mask p.i p.perturb).1/\a.perturb =(SetTable.leap t.mask p.i p.perturb).2/\a.j=a.i/\a.more=SetTable.runEnd t.mask a.i-a.i/\a.dummy=p.dummy
 | 0,p,h=>by
  have b:t.advance p ={ p with j:=(SetTable.leap t.mask p.i p.perturb).1,more:=SetTable.runEnd t.mask (SetTable.leap t.mask p.i p.perturb).1-(SetTable.leap t.mask p.i p.perturb).1,i:=(SetTable.leap t.mask p.i p.perturb).1,perturb:=(SetTable.leap t.mask p.i p.perturb).2 }:=by
   unfold SetTable.advance;rw[AI (by omega)]
  refine⟨t.advance p,rfl,?_⟩;rw[b];exact⟨rfl,rfl,rfl,rfl,rfl⟩
 | m+1,p,h=>by
  have b:t.advance p ={ p with j:=p.j+1,more:=p.more-1 }:=by unfold SetTable.advance;rw[AK (by omega)]
  obtain⟨a,d,c⟩:=Qt t m (t.advance p) (by rw[b];show p.more-1=m;omega);rw[b]at c;exact⟨a,d,c⟩
def zAv(mask i:Nat):SetTable.runEnd mask i-i<=9:=by unfold SetTable.runEnd;split<;>omega
def Rr(t:IK):∀(n:Nat) (p:SetTable.Probe),p.j=p.i->p.more=SetTable.runEnd t.mask p.i-p.i->∃k,k<=10*n/\(MY t k p).j =(N_ t.mask n (p.i,p.perturb)).1
 | 0,p,a,_=>⟨0,by omega,a⟩
 | n+1,p,a,l=>by
  obtain⟨b,e,c,d,f,g,_⟩:=Qt t p.more p rfl;obtain⟨k,m,h⟩:=Rr t n b f g;have:=zAv t.mask p.i;refine⟨p.more+1+k,by omega,?_⟩;rw[Rn,e,h,c,d];rfl
def Fq(t:IK):∀(n:Nat) (p:SetTable.Probe),(MY t n p).dummy=p.dummy
 | 0,_=>rfl
 | n+1,p=>by
  show(MY t n (t.advance p)).dummy=_;rw[Fq t n];unfold SetTable.advance;split<;>rfl
def Rk{t:IK}(a:RE t.mask)(h:Int){j:Nat}(b:j<=t.mask):∃n,n<10*SetTable.turns t.mask/\(MY t n (t.probeStart h)).j=j:=by
 have c:SetTable.bits h<2^64:=by
  unfold SetTable.bits;have g:0<=h %(2^64:Int):=GF _ (by decide);have i:h %(2^64:Int)<2^64:=FJ _ (by decide);omega
 have d:SetTable.bits h %(t.mask+1)<=t.mask:=Nat.lt_succ_iff.mp (Nat.mod_lt _ (Nat.succ_pos _));obtain⟨n,l,e⟩:=Op a d b c;obtain⟨k,m,f⟩:=Rr t n (t.probeStart h) rfl rfl;refine⟨k,by unfold SetTable.turns;omega,f.trans e⟩
def l0{t:IK}(a:t.dummies = #[])(j:Nat):t.slot j = .empty\/∃i,t.slot j = .live i/\t.place[i]?=some j:=by
 unfold SetTable.slot;dsimp only;by_cases h:(t.place[SetTable.below t.place j]? == some j)=true
 .rw[AK h];exact .inr ⟨_,rfl,by simpa using h⟩
 .rw[AI h];have:SetTable.has t.dummies j=false:=by
   rw[a];unfold SetTable.has;simp
  rw[this];exact .inl rfl
def Nc{t:IK}(c:t.dummies = #[])(f:t.place.size<=t.mask):∃j,j<=t.mask/\t.slot j = .empty:=by
 by_cases h:∃j,j<=t.mask/\t.slot j = .empty
 .exact h
 .exfalso;have a:∀j∈List.range (t.mask+1),j∈t.place.toList:=λj d=>by
   have b:j<=t.mask:=by have:=BU.mp d;omega
   rcases l0 c j with e | ⟨i,_,e⟩
   .exact absurd ⟨j,b,e⟩ h
   .exact AL (by rw[BN];exact e)
  have:=(GP (n:=t.mask+1)).length_le_of_subset a;rw[BV,AR]at this;omega
def Wq{t:IK}(o:t.dummies = #[])(hashAt:Nat->Int)(h:Int)(p:SetTable.Probe)(c:p.dummy=none):∀(k m n a:Nat),m+k=n->t.slot (MY t n p).j = .empty->k<a ->
  (∃j,SetTable.probe.go t hashAt h a (MY t m p)=some (.empty j none)/\t.slot j = .empty) \/
   ∃l i,m<=l/\l<n/\t.slot (MY t l p).j = .live i/\hashAt i=h/\SetTable.probe.go t hashAt h a (MY t m p)=some (.candidate (MY t l p).j i (MY t (l+1) p))
 | k,m,n,0,_,_,q=>absurd q (FC _)
 | k,m,n,a+1,e,r,q=>by
  have d:(MY t m p).dummy=none:=(Fq t m p).trans c;have s:MY t (m+1) p=t.advance (MY t m p):=Rn t m 1 p;rcases l0 o (MY t m p).j with b | ⟨i,b,A⟩
  .refine .inl ⟨(MY t m p).j,?_,b⟩;unfold SetTable.probe.go;rw[b,d]
  .have B:k≠0:=by
    rintro rfl;have:m=n:=by omega
    subst this;rw[r]at b;cases b
   by_cases f:hashAt i=h
   .refine .inr ⟨m,i,Nat.le_refl _,by omega,b,f,?_⟩;unfold SetTable.probe.go;rw[b];dsimp only;rw[AK (by simpa using f),s]
   .have u:SetTable.probe.go t hashAt h (a+1) (MY t m p)=SetTable.probe.go t hashAt h a (MY t (m+1) p):=by
     conv=>lhs;unfold SetTable.probe.go
     rw[b];dsimp only;rw[AI (by simpa using f),s]
    rcases Wq o hashAt h p c (k-1) (m+1) n a (by omega) r (by omega)with⟨j,v,g⟩ | ⟨l,w,v,g,x,y,z⟩
    .exact .inl ⟨j,u.trans v,g⟩
    .exact .inr ⟨l,w,by omega,g,x,y,u.trans z⟩
def Ec{α β:Type}{f g:α->A5 β}:∀{l:A1 α},(∀x∈l,f x=g x)->l.filterMap f=l.filterMap g
 | [],_=>rfl
 | a::r,h=>by
  have b:=h a (BH ..);have c:=Ec (l:=r) λx d=>h x (AU _ d);rw[DV,DV,b,c]
def Wd{α:Type}{f g:Nat->A5 α}{j:Nat}{k:α}(d:g j=some k)(m:f j=none):∀{l:A1 Nat},l.Nodup->j∈l->(∀i,i≠j->g i=f i)->(l.filterMap g).Perm (k::l.filterMap f)
 | [],_,h,_=>by simp at h
 | i::r,o,h,a=>by
  obtain⟨p,q⟩:=D_.mp o;by_cases e:i=j
  .subst e;have er:r.filterMap g=r.filterMap f:=Ec λx s=>a x λz=>p (z▸s);rw[EV d,GV m,er]
  .have n:=Wd d m q ((AQ.mp h).resolve_left λz=>e z.symm) a;cases c:f i with
   | none=>rw[GV ((a i e).trans c),GV c];exact n
   | some b =>
    rw[EV ((a i e).trans c),EV c];exact(List.Perm.cons b n).trans (List.Perm.swap _ _ _)
def SK(mask:Nat)(a:F1 (A5 Nat)):A1 Nat:=(List.range (mask+1)).filterMap λj=>a.getD j none
structure LI(mask:Nat)(ow:F1 (A5 Nat))(k:Nat):Prop where
 sz:ow.size=mask+1
 pm:(SK mask ow).Perm (List.range k)
def Om{mask:Nat}{b:F1 (A5 Nat)}{j:Nat}(c:b[j]?=some none):∀(t a i p:Nat),(N_ mask t (i,p)).1=j->t<a->∃d,SetTable.layClean.free mask b a i p=some d/\b[d]?=some none
 | t,0,_,_,_,h=>absurd h (FC _)
 | t,a+1,i,p,e,h=>by
  unfold SetTable.layClean.free;cases q:(List.range (SetTable.runEnd mask i+1-i)).find? λk=>(b.getD (i+k) (some 0)).isNone with
  | some k =>
   refine⟨i+k,rfl,?_⟩;have:=List.find?_some q;rw[CL]at this;cases g:b[i+k]? with
   | none=>rw[g]at this;simp at this
   | some z=>rw[g]at this;simp at this;rw[this]
  | none =>
   dsimp only;cases t with
   | zero =>
    exfalso;have f:i=j:=e;subst f;have l:0∈List.range (SetTable.runEnd mask i+1-i):=BU.mpr (by unfold SetTable.runEnd;split<;>omega);have:=List.find?_eq_none.mp q 0 l;rw[CL,Nat.add_zero,c]at this;simp at this
   | succ t=>exact Om c t a _ _ e (by omega)
def LI.room{mask:Nat}{a:F1 (A5 Nat)}{k:Nat}(h:LI mask a k)(p:k<=mask):∃j,j<=mask/\a[j]?=some none:=by
 by_cases q:∃j,j<=mask/\a[j]?=some none
 .exact q
 .exfalso;have b:∀j∈List.range (mask+1),∃v,a.getD j none=some v:=λj c=>by
   have g:j<a.size:=by rw[h.sz];exact BU.mp c
   cases e:a[j]? with
   | none=>rw[Array.getElem?_eq_none_iff]at e;omega
   | some v =>
    cases v with
    | none=>exact absurd ⟨j,by have:=BU.mp c;omega,e⟩ q
    | some v=>exact⟨v,by rw[CL,e];rfl⟩
  have i:∀l:A1 Nat,(∀j∈l,∃v,a.getD j none=some v)->(l.filterMap λj=>a.getD j none).length=l.length:=by
   intro l
   induction l with
   | nil=>intro _;rfl
   | cons j r m =>
    intro d;obtain⟨v,n⟩:=d j (BH ..);rw[EV (f:=λj=>a.getD j none) n,BM,BM,m λx o=>d x (AU _ o)]
  have:=h.pm.length_eq;unfold SK at this;rw[i _ b,BV,BV]at this;omega
def LI.put{mask:Nat}{a:F1 (A5 Nat)}{k j:Nat}(h:LI mask a k)(c:a[j]?=some none):LI mask (a.setIfInBounds j (some k)) (k+1):=by
 have b:j<a.size:=by
  obtain⟨d,_⟩:=DA.mp c;exact d
 refine⟨by rw[GU];exact h.sz,?_⟩;have p:=Wd (f:=λj=>a.getD j none) (g:=λi=>(a.setIfInBounds j (some k)).getD i none) (j:=j) (k:=k) (by rw[CL,Array.getElem?_setIfInBounds_self_of_lt b];rfl) (by rw[CL,c];rfl)
  (l:=List.range (mask+1)) GP (BU.mpr (by rw[<-h.sz];exact b)) λi m=>by
   rw[CL,Array.getElem?_setIfInBounds_ne (Ne.symm m),<-CL]
 have e:List.range (k+1)=List.range k ++ [k]:=EJ;refine p.trans ?_;rw[e];exact(List.Perm.cons k h.pm).trans (CV (l₁:=[k]))
def Yg(h:Int):SetTable.bits h<2^64:=by
 unfold SetTable.bits;have a:0<=h %(2^64:Int):=GF _ (by decide);have b:h %(2^64:Int)<2^64:=FJ _ (by decide);omega
def Vx{mask:Nat}(e:RE mask):∀(c:A1 Int) (a:F1 (A5 Nat)) (k:Nat),LI mask a k->k+c.length<=mask->∃b,(c.foldl (init:=some (a,k)) λd h=>do
   let(owner,k) <-d
   let j <-SetTable.layClean.free mask owner (SetTable.turns mask) (SetTable.bits h %(mask+1)) (SetTable.bits h)
   pure (owner.setIfInBounds j (some k),k+1))=some (b,k+c.length)/\LI mask b (k+c.length)
 | [],a,k,h,_=>⟨a,rfl,h⟩
 | x::r,a,k,h,g=>by
  rw[BM]at g;obtain⟨j,l,m⟩:=h.room (by omega);obtain⟨t,u,n⟩:=Op e (i:=SetTable.bits x %(mask+1)) (j:=j) (Nat.lt_succ_iff.mp (Nat.mod_lt _ (Nat.succ_pos _))) l (Yg x);obtain⟨f,o,p⟩:=Om m t (SetTable.turns mask) _ _ n (by unfold SetTable.turns;omega);obtain⟨b,q,s⟩:=Vx e r (a.setIfInBounds f (some k)) (k+1) (h.put p) (by omega);refine⟨b,?_,by rw[BM,show k +(r.length+1)=k+1+r.length by omega];exact s⟩;rw[List.foldl_cons];show List.foldl _ ((SetTable.layClean.free mask a (SetTable.turns mask) (SetTable.bits x %(mask+1)) (SetTable.bits x)).bind λj=>some (a.setIfInBounds j (some k),k+1)) r=_;rw[o];show List.foldl _ (some (a.setIfInBounds f (some k),k+1)) r=_;rw[BM,show k +(r.length+1)=k+1+r.length by omega];exact q
def Za{mask:Nat}(h:RE mask)(finger moves:Nat)(led plain:Bool)(c:F1 Int)(l:c.size<=mask) :
  ∃place a,SetTable.laid mask finger moves led plain c=some ({ mask,place,dummies:=#[],finger,led,moves,plain },a)/\place.size=c.size/\a.toList.Perm (List.range c.size):=by
 have i:LI mask (Array.replicate (mask+1) none) 0:=by
  refine⟨Array.size_replicate,?_⟩;have:SK mask (Array.replicate (mask+1) none) = []:=by
   unfold SK;rw[List.filterMap_eq_nil_iff];intro j m;rw[CL,Array.getElem?_replicate];split<;>rfl
  rw[this];exact List.Perm.refl _
 obtain⟨b,e,d⟩:=Vx h c.toList _ 0 i (by rw[AR];omega);rw[FF,AR]at e d;have k:SetTable.layClean mask c=some b:=by
  unfold SetTable.layClean;rw[<-Array.foldl_toList,e];rfl
 have g:((List.range (mask+1)).filterMap λj=>(b.getD j none).map (j,·)).map (·.2)=SK mask b:=by
  unfold SK;rw[List.map_filterMap];refine Ec λj _=>?_;cases b.getD j none<;>rfl
 refine⟨(((List.range (mask+1)).filterMap λj=>(b.getD j none).map (j,·)).map (·.1)).toArray,(((List.range (mask+1)).filterMap λj=>(b.getD j none).map (j,·)).map (·.2)).toArray,?_,?_,?_⟩
 .unfold SetTable.laid;rw[k];rfl
 .rw[AO,AB,<-AB (f:=(·.2)),g,d.pm.length_eq,BV]
 .show(((List.range (mask+1)).filterMap λj=>(b.getD j none).map (j,·)).map (·.2)).Perm _;rw[g];exact d.pm
def Ua{c:F1 (Int×A2)}{b:F1 Nat}(h:b.toList.Perm (List.range c.size)):(b.filterMap (c[·]?)).toList.Perm c.toList:=by
 rw[Array.toList_filterMap];refine(h.filterMap _).trans (List.Perm.of_eq ?_);refine FQ λt=>?_;have:(List.range c.size).filterMap (λx=>c[x]?)=c.toList:=by
  have:∀(l:A1 (Int×A2)),(List.range l.length).filterMap (λx=>l[x]?)=l:=by
   intro l
   induction l with
   | nil=>rfl
   | cons a r d =>
    rw[BM,List.range_succ_eq_map,EV (by rfl:(a::r)[0]?=some a),List.filterMap_map];congr 1
  have q:=this c.toList;rw[AR]at q;simpa using q
 rw[this]
section
variable{prog:CM}{w:F8}{K:Type}[DecidableEq K]{knd:KeyKind prog w K}{A:IC}{E:A2->A4->Prop}{s:A4}
structure RV(t:IK)(n:Nat):Prop where
 dm:t.dummies = #[]
 pl:t.place.size=n
 mm:RE t.mask
 rm:n*5<t.mask*3
theorem RV.fits{t:IK}{n:Nat}(h:RV t n):t.fits n=true:=by
 have:=h.rm;have:=h.pl;unfold SetTable.fits SetTable.fill;rw[h.dm];simp;omega
theorem RV.odd{t:IK}{n:Nat}(h:RV t n):t.gaveWay=false:=by
 unfold SetTable.gaveWay;rcases h.mm with e | e | e | e<;>rw[e]<;>rfl
def SF(knd:KeyKind prog w K)(a:F1 (Int×A2))(ks:A1 (A1 K×A3)):Prop:=a.toList.Perm (ks.map λq=>((tupleKind knd).hash q.1,Value.ref q.2))
def MO(knd:KeyKind prog w K)(h:IA)(a:A3)(ks:A1 (A1 K×A3)):Prop:=∃o b c t,h.get? a=some o/\o.ExactSet/\o.data = .set b c t/\SF knd b ks/\RV t b.size
theorem SF.get{a:F1 (Int×A2)}{ks:A1 (A1 K×A3)}(h:SF knd a ks){i:Nat}{e:Int×A2}(b:a[i]?=some e):∃k p,(k,p)∈ks/\e =((tupleKind knd).hash k,.ref p):=by
 have:e∈a.toList:=AL (by rw[BN];exact b);obtain⟨q,c,rfl⟩:=BB.mp (h.mem_iff.mp this);exact⟨q.1,q.2,c,rfl⟩
theorem Bq{β:Type}{c:β}{f:A2->β->Sem (ForInStep β)}:∀{l:A1 A2},(∀y∈l,f y c=pure (.yield c))->forIn l c f=pure c
 | [],_=>List.forIn_nil
 | a::r,h=>by
  rw[HC,h a (BH ..),pure_bind];exact Bq λy b=>h y (AU _ b)
theorem Ht{ks:A1 K}{vs:A1 A2}(h:ItemsAre knd ks vs):∀v∈vs,∃x,knd.is x v=true:=by
 induction h with
 | nil=>intro v hv;simp at hv
 | cons a _ b =>
  intro v hv;rcases AQ.mp hv with rfl | hv
  .exact⟨_,a⟩
  .exact b v hv
def Flat(knd:KeyKind prog w K):Prop:=∀v,(∃x,knd.is x v=true)->carriedByValue v=true
theorem Flat.no{v:A2}(a:Flat knd)(h:∃x,knd.is x v=true)(d:Nat):ofAClassStatement d v=pure false:=by
 have:=a v h;cases v<;>first
  | (cases d<;>rfl)
  | (exact absurd this (by intro z;cases z))
theorem Wb{k:A1 K}{p:A3}{Q:Bool->A4->Prop}(c:Flat knd)(d:(tupleKind knd).is s.heap k p)(h:Q false s):wpAny (model prog w) A (ofAClassStatement 8 (.ref p)) Q E s:=by
 obtain⟨o,a,n,b,e,f,g⟩:=d;have i:s.TypeIs (.ref p) "tuple":=⟨o,b,e⟩;unfold ofAClassStatement;refine AA (wpAny_typeOf i ?_);dsimp only;rw[AK (by rfl)];refine AA (AG ?_);simp only[EU,AV,CN];refine AA (DN b f ?_);dsimp only;rw[<-Array.forIn_toList,Bq λy j=>by rw[c.no (Ht g y j)];rfl];exact AA (AG (AG h))
theorem zBo{m:A1 K}{b:A3}{Q:Bool->A4->Prop}(g:Flat knd)(i:(tupleKind knd).is s.heap m b)(h:Q false s){l:A1 A2}(n:∀v∈l,∃k p,v = .ref p/\(tupleKind knd).is s.heap k p) :
  wpAny (model prog w) A (searchCouldBeSeen (.ref b) l) Q E s:=by
 unfold searchCouldBeSeen;refine AA (wpAny_forIn_list _ (λa c d=>d=s/\c =(none,())/\∀v∈a,v∈l) _ ?_ ?_ l _ ⟨rfl,rfl,λ_ h=>h⟩)
 .rintro v a c d ⟨rfl,rfl,e⟩;obtain⟨k,p,rfl,j⟩:=n v (e v (BH ..));dsimp only;have o:carriedByValue (Value.ref b)=false:=rfl;rw[o,ED,Bool.or_false];split
  .exact AG ⟨rfl,rfl,λu f=>e u (AU _ f)⟩
  .refine AA ((tupleKind knd).quiet i ?_);simp only[EU,AV,CN];refine AA ((tupleKind knd).quiet j ?_);simp only[EU,AV,CN];refine AA (Wb g i ?_);simp only[AV,CN];refine AA (Wb g j ?_);simp only[AV,CN];exact AG ⟨rfl,rfl,λu f=>e u (AU _ f)⟩
 .rintro c d ⟨rfl,rfl,_⟩;exact AG h
theorem Uy(t:IK):t.sameMemory t.moves t.mask=some true:=by
 unfold SetTable.sameMemory;simp
theorem Jg{a:A3}{o:Obj}{r:F1 (Int×A2)}{ep:Nat}{t:IK}{ks:A1 (A1 K×A3)}{d:A1 K}{G:A3}{c:Bool}{Q:SetFound->A4->Prop}{n:Nat}
  (hr:(tupleKind knd).room A) (hF:Flat knd) (U:s.heap.get? a=some o) (V:o.data = .set r ep t) (W:SF knd r ks) (D:RV t r.size)
  (H:∀q∈ks,(tupleKind knd).is s.heap q.1 q.2) (X:(tupleKind knd).is s.heap d G) (M:∀q∈ks,q.1≠d) (hn:n<10*SetTable.turns t.mask)
  (he:t.slot (MY t n (t.probeStart ((tupleKind knd).hash d))).j = .empty) (h:∀j,t.slot j = .empty->Q (.free j false) s) :
  ∀(k m b:Nat) (e:A5 SetTable.Probe),e.getD (t.probeStart ((tupleKind knd).hash d))=MY t m (t.probeStart ((tupleKind knd).hash d))->m+k=n->k<b ->
   wpAny (model prog w) A (setSearchFrom a (.ref G) ((tupleKind knd).hash d) c b e) Q E s:=by
 intro k
 induction k using Nat.strongRecOn with
 | _ k ih =>
  intro m b e N O hf;cases b with
  | zero=>omega
  | succ b =>
   unfold setSearchFrom;refine AA (CD U V D.fits ?_);dsimp only;rw[D.odd];simp only[AV,CN];rw[N];unfold SetTable.probe;rcases Wq D.dm _ ((tupleKind knd).hash d) (t.probeStart ((tupleKind knd).hash d)) rfl k m n (10*SetTable.turns t.mask) O he (by omega)with⟨j,F,Y⟩ | ⟨l,i,h1,h2,F,Y,e3⟩
   .rw[F];dsimp only;exact AG (h j Y)
   .rw[e3];dsimp only;obtain⟨u,I,P⟩:∃u,t.slot (MY t l (t.probeStart ((tupleKind knd).hash d))).j = .live u/\t.place[u]?=some (MY t l (t.probeStart ((tupleKind knd).hash d))).j:=by
     rcases l0 D.dm (MY t l (t.probeStart ((tupleKind knd).hash d))).j with z | z
     .rw[z]at F;cases F
     .exact z
    rw[F]at I;cases I;have R:i<r.size:=by
     have:=(DA.mp P).1;rw[D.pl]at this;exact this
    obtain⟨J,f⟩:∃J,r[i]?=some J:=⟨r[i],DA.mpr ⟨R,rfl⟩⟩;obtain⟨k',p',L,rfl⟩:=W.get f;have B:∀v∈(r.filter (·.1 ==(tupleKind knd).hash d)).toList.map (·.2),∃k p,v = .ref p/\(tupleKind knd).is s.heap k p:=by
     intro v hv;obtain⟨z,Z,rfl⟩:=BB.mp hv;have S:z∈r.toList:=by
      rw[Array.toList_filter]at Z;exact(BQ.mp Z).1
     obtain⟨q,hq,rfl⟩:=BB.mp (W.mem_iff.mp S);exact⟨q.1,q.2,rfl,H q hq⟩
    have x:wpAny (model prog w) A (do
      let some (_,y):=r[i]? | unsupported "internal:set-entry"
      let g <-holding [y] (eqBool y (.ref G))
      let(T,_,t') <-setState a
      if c&&g then return .there none
      let some same:=t'.sameMemory t.moves t.mask | unsupported "set.changed-during-lookup:is-the-new-block-at-the-old-address"
      let C <-match(if same then t'.slot (MY t l (t.probeStart ((tupleKind knd).hash d))).j else .empty)with
       | .live u=>match T[u]? with
        | some (_,y')=>do pure (if <-isSame y' y then some u else none)
        | none=>pure none
       | _=>pure none
      match C with
      | none=>rule "set.search.anew";setSearchFrom a (.ref G) ((tupleKind knd).hash d) c b none
      | some u=>if g then return .there (some u)else setSearchFrom a (.ref G) ((tupleKind knd).hash d) c b (some (MY t (l+1) (t.probeStart ((tupleKind knd).hash d))))) Q E s:=by
     rw[f];dsimp only;refine AA (BX ((tupleKind knd).eqBool hr (H _ L) X ?_));rw[BA (M _ L)];refine AA (CD U V D.fits ?_);dsimp only;rw[Uy,HI];simp only[AV,CN,FD];rw[F];dsimp only;rw[f];dsimp only;refine AA (wpAny_isSame_ref_self (AA (AG ?_)));simp only[FD];exact ih (n-(l+1)) (by omega) (l+1) b _ rfl (by omega) (by omega)
    cases hled:t.led with
    | true =>
     simp only[EU,AV,CN];exact x
    | false =>
     simp only[HJ,FD];refine AA (zBo hF X ?_ B);simp only[AV,CN];exact x
theorem Bk{a:A3}{o:Obj}{f:F1 (Int×A2)}{ep:Nat}{t:IK}{ks:A1 (A1 K×A3)}{d:A1 K}{k:A3}{b:Bool}{Q:SetFound->A4->Prop}
  (l:(tupleKind knd).room A) (m:Flat knd) (p:s.heap.get? a=some o) (r:o.data = .set f ep t) (u:SF knd f ks) (c:RV t f.size)
  (g:∀q∈ks,(tupleKind knd).is s.heap q.1 q.2) (v:(tupleKind knd).is s.heap d k) (i:∀q∈ks,q.1≠d) (h:∀j,t.slot j = .empty->Q (.free j false) s) :
  wpAny (model prog w) A (setSearch a (.ref k) ((tupleKind knd).hash d) b) Q E s:=by
 obtain⟨j,x,y⟩:=Nc c.dm (by rw[c.pl];have:=c.rm;omega);obtain⟨n,z,e⟩:=Rk c.mm ((tupleKind knd).hash d) x;unfold setSearch;refine Jg l m p r u c g v i z (by rw[e];exact y) h n 0 100000 none rfl (by omega) ?_;have:SetTable.turns t.mask<=526:=by
  unfold SetTable.turns;rcases c.mm with e | e | e | e<;>omega
 omega
theorem MO.typeIs{a:A3}{ks:A1 (A1 K×A3)}(h:MO knd s.heap a ks):s.TypeIs (.ref a) "set":=let⟨o,_,_,_,b,c,_⟩:=h;⟨o,b,c.1⟩
theorem Pu{a:A3}{b:F1 (Int×A2)}:byScan (.ref a) b=false:=rfl
theorem Od{a:A3}{ks:A1 (A1 K×A3)}{b:A1 K}{e:A3}{Q:A5 Nat->A4->Prop}(k:(tupleKind knd).room A)(l:Flat knd)(m:MO knd s.heap a ks)
  (c:∀q∈ks,(tupleKind knd).is s.heap q.1 q.2) (n:(tupleKind knd).is s.heap b e) (d:∀q∈ks,q.1≠b) (h:Q none s):wpAny (model prog w) A (setFind a (.ref e) ((tupleKind knd).hash b)) Q E s:=by
 obtain⟨o,r,u,t,f,_,g,p,i⟩:=m;unfold setFind setFindIn;refine AA (CD f g i.fits ?_);dsimp only;rw[Pu];simp only[AV,CN];refine AA (Bk k l f g p i c n d λj _=>?_);dsimp only;exact AG h
theorem RL{neg:Bool}{a:A3}{ks:A1 (A1 K×A3)}{b:A1 K}{d:A3}{Q:A2->A4->Prop}(g:A.units+1<cLine)(j:Flat knd)(c:MO knd s.heap a ks)
  (e:∀q∈ks,(tupleKind knd).is s.heap q.1 q.2) (i:(tupleKind knd).is s.heap b d) (f:∀q∈ks,q.1≠b) (h:Q (.bool false) { s with toks:=s.toks +(tupleKind knd).draws b }) :
  wpAny (model prog w) A (compareOp .In (.ref d) (.ref a)) Q E s:=by
 show wpAny _ _ (do return .bool (<-contains (.ref a) (.ref d))) Q E s;refine AA ?_;unfold contains
 try with_reducible refine BX ?_
 refine AA (wpAny_specialOf c.typeIs F.slot_set_contains.lookup ?_);show wpAny _ _ (if(some (Value.builtin "set.__contains__") == some Value.none)=true then _ else _) _ E s;rw[AI (by rw[beq_builtin_none];exact AW)];refine AA (wpAny_callSpecialUnlessNone?_slot (name:=Str.ofString "__contains__") c.typeIs F.slot_set_contains
  (DQ F.slot_set_contains c.typeIs entry_set_contains ?_ (F.args_set_contains_2 _ _)))
 unfold Builtin.«frozenset.__contains__» Builtin.Frozenset.oneOther;simp only[List.isEmpty_nil,bind_assoc];unfold Builtin.Frozenset.addrOf Builtin.Frozenset.withSetAsKey setContains;refine AA (AG ?_)
 try dsimp only
 refine AA (AG ?_)
 try dsimp only
 refine AA (FY ?_);refine BX ?_;refine AA ((tupleKind knd).pyHash ?hroom i ?_)
 case hroom=>exact g
 refine AA (Od (s:={ s with toks:=s.toks +(tupleKind knd).draws b }) ?hroom j c e i f ?_)
 case hroom=>exact g
 refine AG ?_;show wpAny _ _ (ret (Value.bool false)) _ _ _;exact AG ⟨_,rfl,DF (AG h)⟩
def RP(knd:KeyKind prog w K):Prop:=∀v,(∃x,knd.is x v=true)->v.scannable=true
theorem hbv{j:A1 K}{f:A3}{Q:Bool->A4->Prop}(k:RP knd)(l:(tupleKind knd).is s.heap j f)(h:∀b,Q b s):wpAny (model prog w) A (hashByValue 8 (.ref f)) Q E s:=by
 obtain⟨o,d,n,g,m,p,r⟩:=l;have t:s.TypeIs (.ref f) "tuple":=⟨o,g,m⟩;unfold hashByValue;refine AA (wpAny_specialOf t F.slot_tuple_hash.lookup ?_);dsimp only;refine AA (DN g p ?_);dsimp only[Option.getD_some];rw[<-Array.forIn_toList];refine AA (CF (wpAny_forIn_list _ (λa c e=>e=s/\c =(none,())/\∀v∈a,v∈d.toList) (λc e=>e=s/\(c =(none,())\/c =(some false,()))) ?_ ?_ _ _ ⟨rfl,rfl,λ_ z=>z⟩) ?_ λ_ _ q=>q)
 .rintro v a c e ⟨rfl,rfl,i⟩;rw[hashByValue_scannable _ (k v (Ht r v (i v (BH ..))))];refine AA (AG ?_);cases plainKind v with
  | true =>
   simp only[EU,AV,CN];exact AG ⟨rfl,rfl,λu x=>i u (AU _ x)⟩
  | false =>
   simp only[HJ,FD];exact AG ⟨rfl,.inr rfl⟩
 .rintro c e ⟨rfl,rfl,_⟩;exact⟨rfl,.inl rfl⟩
 .rintro c e ⟨rfl,rfl | rfl⟩
  .exact AG (h _)
  .exact AG (h _)
theorem i7{α:Type}(xs:F1 α)(p:Nat)(x:α)(a:p<=xs.size):(SetTable.insertAt xs p x).size=xs.size+1:=by
 unfold SetTable.insertAt;rw[Array.size_append,Array.size_push,GD,GD];omega
theorem Dp{α:Type}(xs:F1 α)(p:Nat)(x:α)(b:p<=xs.size):(SetTable.insertAt xs p x).toList.Perm (xs.toList ++ [x]):=by
 unfold SetTable.insertAt;rw[BO,DC,EX,EX];simp only[EO,FI,Nat.sub_zero];have e:List.take (xs.size-p) (List.drop p xs.toList)=List.drop p xs.toList:=by
  rw[CK];rw[CY,AR];omega
 rw[e];have a:xs.toList=xs.toList.take p++xs.toList.drop p:=(BT ..).symm
 conv=>rhs;rw[a]
 rw[BG,BG];exact DJ _ CV
theorem Y0(xs:F1 Nat)(j:Nat):∀(f lo hi:Nat),lo<=hi->SetTable.below.go xs j f lo hi<=hi
 | 0,lo,hi,h=>h
 | f+1,lo,hi,h=>by
  unfold SetTable.below.go;split
  .rename_i a;dsimp only;split
   .exact Y0 xs j f _ _ (by omega)
   .exact Nat.le_trans (Y0 xs j f _ _ (by omega)) (by omega)
  .exact h
theorem Ut(xs:F1 Nat)(j:Nat):SetTable.below xs j<=xs.size:=Y0 xs j _ _ _ (CP _)
theorem zAd{t:IK}(a:t.dummies = #[])(j:Nat):t.put j =({ t with place:=SetTable.insertAt t.place (SetTable.below t.place j) j },SetTable.below t.place j):=by
 unfold SetTable.put;have:SetTable.has t.dummies j=false:=by
  rw[a];unfold SetTable.has;simp
 rw[this];rfl
theorem zFy:SetTable.sizeAbove 20=32:=by decide
theorem zGo:SetTable.sizeAbove 76=128:=by decide
theorem zDu:SetTable.sizeAbove 308=512:=by decide
theorem Uj{f:F1 (Int×A2)->A5 (IK×F1 Nat)->Sem (F1 (Int×A2)×IK)}(y:∀c g,f c g =(do
  let some (t,b):=g | unsupported "internal:set-table-without-room"
  let d:=b.filterMap (c[·]?)
  if d.size != c.size then unsupported "internal:set-table-lost-an-element"
  pure (d,t)))
  {a:A3} {o:Obj} {c:F1 (Int×A2)} {ep:Nat} {t:IK} {n m:Nat} {Q:Unit->A4->Prop} (q:s.heap.get? a=some o) (r:o.data = .set c ep t) (z:t.dummies = #[]) (j:t.fits c.size=true)
  (l:SetTable.sizeAbove n=m+1) (i:RE m) (hsz:c.size*5<m*3)
  (h:∀(d:F1 (Int×A2)) (t':IK),d.toList.Perm c.toList->RV t' d.size->Q () { s with heap:=s.heap.update a (Obj.putSet d t') }) :
  wpAny (model prog w) A (do
   let(c,_,t) <-setState a
   if SetTable.sizeAbove n>sizeLine then unsupported "set:memory"
   let(c,t) <-f c (t.relaid (c.map (·.1)) n)
   storeSet a c t) Q E s:=by
 refine AA (CD q r j ?_);dsimp only;have p:m<=511:=by rcases i with e | e | e | e<;>omega
 rw[l,AI (by rw[sizeLine_eq];omega)];rw[y];have B:(c.map (·.1)).size<=m:=by rw[HG];omega
 obtain⟨place,b,u,C,v⟩:=Za i t.finger (t.movedTo (SetTable.sizeAbove n-1)) t.led t.plain (c.map (·.1)) B;have D:t.relaid (c.map (·.1)) n=some ({ mask:=m,place,dummies:=#[],finger:=t.finger,led:=t.led,moves:=t.movedTo (SetTable.sizeAbove n-1),plain:=t.plain },b):=by
  unfold SetTable.relaid;rw[l];rw[l]at u;exact u
 rw[D];dsimp only;have x:(b.filterMap (c[·]?)).toList.Perm c.toList:=Ua (by rw[HG]at v;exact v);have k:(b.filterMap (c[·]?)).size=c.size:=by rw[<-AR,x.length_eq,AR]
 rw[AI (by rw[k];simp)];refine AA (AG ?_);dsimp only;refine HK q r (h _ _ x ⟨rfl,?_,i,?_⟩) (by rw[k,sizeLine_eq];omega)
 .rw[k,C,HG]
 .rw[k];exact hsz
theorem Es{h:IA}{a:A3}{o:Obj}{d:F1 (Int×A2)}{ep:Nat}{t:IK}(e:h.get? a=some o)(c:o.data = .set d ep t)(b:F1 (Int×A2))(t':IK) :
  (h.update a (Obj.putSet b t')).get? a=some { o with data:=.set b (ep+1) t' }:=by
 have:=CZ (Obj.putSet b t') e (by rw[putSet_of b t' c];rfl);rw[putSet_of b t' c]at this;exact this
theorem Np{a:A3}{ks:A1 (A1 K×A3)}{g:A1 K}{l:A3}{Q:Bool->A4->Prop}(V:(tupleKind knd).room A)(W:Flat knd)(X:RP knd)(Y:MO knd s.heap a ks)
  (I:∀q∈ks,(tupleKind knd).is s.heap q.1 q.2) (S:(tupleKind knd).is s.heap g l) (J:∀q∈ks,q.1≠g) (hl:ks.length+1<=300)
  (h:∀h',Heap.SameBut a s.heap h'->MO knd h' a (ks ++ [(g,l)])->Q true { s with heap:=h' }) :
  wpAny (model prog w) A (setAddHashed a (.ref l) ((tupleKind knd).hash g)) Q E s:=by
 obtain⟨o,c,ep,t,y,z,B,L,i⟩:=Y;have Z:c.size=ks.length:=by
  have:=L.length_eq;rw[AR,AB]at this;exact this
 unfold setAddHashed setAddHashedIn;refine BX ?_;refine AA (CD y B i.fits ?_);dsimp only;rw[Pu];simp only[AV,CN];refine AA (Bk V W y B L i I S J λj hj=>?_);dsimp only;refine AA (CD y B i.fits ?_);dsimp only;rw[zAd i.dm];dsimp only;have M:=Ut t.place j;have C:SetTable.below t.place j<=c.size:=by rw[i.pl]at M;exact M
 have hrm:=i.rm;have p:=i.mm;have d:=i7 c (SetTable.below t.place j) ((tupleKind knd).hash g,Value.ref l) C;have N:=Dp c (SetTable.below t.place j) ((tupleKind knd).hash g,Value.ref l) C;have D:∀f:F1 (Int×A2),f.toList.Perm (SetTable.insertAt c (SetTable.below t.place j) ((tupleKind knd).hash g,Value.ref l)).toList->SF knd f (ks ++ [(g,l)]):=λf O=>by
  unfold SF;rw[AY];exact O.trans (N.trans (L.append_right _))
 have r:∀n:IK,n.dummies = #[]->n.mask=t.mask->n.place.size=c.size+1->wpAny (model prog w) A (do
   storeSet a (SetTable.insertAt c (SetTable.below t.place j) ((tupleKind knd).hash g,Value.ref l)) n
   if(!false&&n.tooFull)=true then do
    setRelay a (SetTable.grown (c.size+1))
    pure true
   else pure true) Q E s:=by
  intro n G H P;refine AA (HK y B ?_ (by rw[d,sizeLine_eq];omega));have u:=Es y B (SetTable.insertAt c (SetTable.below t.place j) ((tupleKind knd).hash g,Value.ref l)) n;have F:=DW s.heap a (Obj.putSet (SetTable.insertAt c (SetTable.below t.place j) ((tupleKind knd).hash g,Value.ref l)) n);have R:n.tooFull=decide ((c.size+1)*5 ≥ t.mask*3):=by
   unfold SetTable.tooFull SetTable.fill;rw[G,H,P];rfl
  rw[R,HJ,Bool.true_and];by_cases k:(c.size+1)*5 ≥ t.mask*3
  .rw[AS k,AK rfl];have v:∃m,SetTable.sizeAbove (SetTable.grown (c.size+1))=m+1/\RE m/\(c.size+1)*5<m*3:=by
    have hg:SetTable.grown (c.size+1) =(c.size+1)*4:=by
     unfold SetTable.grown;rw[AI (by omega)]
    rw[hg];rcases p with e | e | e | e
    .have:c.size+1=5:=by omega
     rw[this];exact⟨31,zFy,.inr (.inl rfl),by decide⟩
    .have:c.size+1=19:=by omega
     rw[this];exact⟨127,zGo,.inr (.inr (.inl rfl)),by decide⟩
    .have:c.size+1=77:=by omega
     rw[this];exact⟨511,zDu,.inr (.inr (.inr rfl)),by decide⟩
    .omega
   obtain⟨m,c1,c2,c3⟩:=v;refine AA ?_;unfold setRelay;refine Uj (λ_ _=>rfl) (s:={ s with heap:=_ }) u rfl G ?_ c1 c2 (by rw[d];exact c3) λf T O ht=>?_
   .unfold SetTable.fits SetTable.fill;rw[d,P,G,H];have U:c.size+1+0<=t.mask:=by rcases p with e | e | e | e<;>omega
    simp;omega
   .refine AG (h _ (F.trans (DW _ a _)) ?_);exact⟨_,f,_,T,Es u rfl f T,z,rfl,D f O,ht⟩
  .rw[BA k,AI (by decide)];refine AG (h _ F ⟨_,_,_,n,u,z,rfl,D _ (.refl _),⟨G,?_,?_,?_⟩⟩)
   .rw[P,d]
   .rw[H];exact p
   .rw[H,d];omega
 have x:(SetTable.insertAt t.place (SetTable.below t.place j) j).size=c.size+1:=by rw[i7 _ _ _ M,i.pl]
 cases hpl:t.plain with
 | true =>
  simp only[FD];refine AA (hbv X S λb=>?_);cases b with
  | true =>
   simp only[FD];exact r _ i.dm rfl x
  | false =>
   simp only[AV,CN];exact r _ i.dm rfl x
 | false =>
  simp only[AV,CN];refine AA (AG ?_);simp only[FD];exact r _ i.dm rfl x
theorem QY{a:A3}{ks:A1 (A1 K×A3)}{b:A1 K}{c:A3}{Q:A2->A4->Prop}(i:A.units+1<cLine)(l:Flat knd)(m:RP knd)(j:MO knd s.heap a ks)
  (d:∀q∈ks,(tupleKind knd).is s.heap q.1 q.2) (k:(tupleKind knd).is s.heap b c) (e:∀q∈ks,q.1≠b) (n:ks.length+1<=300)
  (h:∀h',Heap.SameBut a s.heap h'->MO knd h' a (ks ++ [(b,c)])->Q .none { s with heap:=h',toks:=s.toks +(tupleKind knd).draws b }) :
  wpAny (model prog w) A (call (.builtin "set.add") [.ref a,.ref c]) Q E s:=by
 refine DQ F.slot_set_add j.typeIs F.entry_set_add ?_ (F.args_set_add_2 _ _);unfold Builtin.«set.add» Builtin.Frozenset.oneOther;simp only[List.isEmpty_nil,bind_assoc];unfold Builtin.Frozenset.addrOf setAdd;refine AA (AG ?_)
 try dsimp only
 refine AA (AG ?_)
 try dsimp only
 refine AA ?_;refine BX ?_;refine AA ((tupleKind knd).pyHash ?hroom k ?_)
 case hroom=>exact i
 refine Np (s:={ s with toks:=s.toks +(tupleKind knd).draws b }) ?hroom l m j d k e n λh' f g=>?_
 case hroom=>exact i
 show wpAny _ _ (ret Value.none) _ _ _;exact AG ⟨_,rfl,h h' f g⟩
end
def Ly:Manifest.owners.lookup (String.ofList ['r','o','t','a','r','e','t','i','_','t','e','s'].reverse)=some Manifest.sig_set_iterator:=by kernel_rfl
def JK:Slot "set_iterator" "__next__" "set_iterator.__next__" :=
 .of (owner := "set_iterator") (n := "__next__") (by rw[typeLookup_type,builtinLookup_eq_fast];kernel_rfl) (by decide +kernel) (by decide +kernel) (by decide +kernel) (by first | exact .inl (by decide +kernel) | exact .inr (by decide +kernel)) (by rw[isSubtype_type];kernel_rfl)
def Y3:entryFor table "set_iterator.__next__" = some Builtin.«set_iterator.__next__»:=entryFor_of_tree (by kernel_rfl)
def o9(a:A2):argsOk "set_iterator.__next__" ⟨[a],[]⟩:=by
 unfold argsOk;rw[signature?_of (id := "set_iterator.__next__") (n:=['_','_','t','x','e','n','_','_']) (o:=['r','o','t','a','r','e','t','i','_','t','e','s']) (by kernel_rfl) Ly];kernel_rfl
def p9:Slot "set_iterator" "__iter__" "set_iterator.__iter__" :=
 .of (owner := "set_iterator") (n := "__iter__") (by rw[typeLookup_type,builtinLookup_eq_fast];kernel_rfl) (by decide +kernel) (by decide +kernel) (by decide +kernel) (by first | exact .inl (by decide +kernel) | exact .inr (by decide +kernel)) (by rw[isSubtype_type];kernel_rfl)
def Hn(a:A2):argsOk "set_iterator.__iter__" ⟨[a],[]⟩:=by
 unfold argsOk;rw[signature?_of (id := "set_iterator.__iter__") (n:=['_','_','r','e','t','i','_','_']) (o:=['r','o','t','a','r','e','t','i','_','t','e','s']) (by kernel_rfl) Ly];kernel_rfl
def El:entryFor table "set_iterator.__iter__" = some Builtin.«dict_keyiterator.__iter__» :=
 entryFor_alias (id' := "dict_keyiterator.__iter__") (by kernel_rfl) (by first | rfl | decide +kernel | (unfold String.splitOn;simp +decide [String.splitOnAux])) (by decide +kernel) (by kernel_rfl)
def Gi:entryFor table "set.__iter__" = some Builtin.«frozenset.__iter__» :=
 entryFor_alias (id' := "frozenset.__iter__") (by kernel_rfl) rfl (by decide +kernel) (by kernel_rfl)
def zEi:typeLookup (.type "set") "__len__" = pure (some (.builtin "set.__len__")):=by rw[typeLookup_type,builtinLookup_eq_fast];kernel_rfl
section
variable{prog:CM}{w:F8}{A:IC}{E:A2->A4->Prop}{s:A4}
theorem Sf{n:Nat}{Q:Nat->A4->Prop}(a:n≠0)(h:∀i d,i<n->Q i { s with drawn:=d }):wpAny (model prog w) A (choose .order n) Q E s:=λΓ p hΓ=>by
 unfold choose;rw[Sem.wp_choose];exact⟨a,h _ _ (Nat.mod_lt _ (Nat.pos_of_ne_zero a))⟩
theorem JS{α:Type}:∀{l:A1 α} {i:Nat} {x:α},l[i]?=some x->(x::l.eraseIdx i).Perm l
 | [],i,x,h=>by simp at h
 | y::l,0,x,h=>by
  have:y=x:=by simpa using h
  subst this;exact .refl _
 | y::l,i+1,x,h=>by
  have a:l[i]?=some x:=by simpa using h
  exact(List.Perm.swap y x _).trans ((JS a).cons y)
theorem Gv{α:Type}{l:A1 α}{i:Nat}{x:α}(h:l[i]?=some x):(l.eraseIdx i).length+1=l.length:=(JS h).length_eq
theorem Rb{α:Type}:∀(n:Nat) (l:A1 α) (s:A4) (Q:A1 α->A4->Prop),l.length=n->(∀b d,b.Perm l->Q b { s with drawn:=d })->wpAny (model prog w) A (drawOrder n l) Q E s
 | 0,l,s,Q,a,h=>by
  unfold drawOrder;obtain rfl:=FZ.mp a;exact AG (h [] s.drawn (.refl _))
 | n+1,[],s,Q,a,h=>by simp at a
 | n+1,x::f,s,Q,a,h=>by
  unfold drawOrder;refine AA (Sf (by simp) λi d g=>?_);have e:(x::f)[i]?=some ((x::f)[i]):=AC g;rw[e];dsimp only;have j:=JS e;refine AA (Rb n _ _ _ (by have:=Gv e;omega) λb k c=>?_);exact AG (h _ k ((c.cons _).trans j))
theorem Ou{α:Type}(nx:Nat->Nat):∀(f k:Nat) (left:A1 α) (out:F1 α),left.length=f->(pickOrder.go nx f k left out).toList.Perm (out.toList++left)
 | 0,k,left,out,h=>by
  obtain rfl:=FZ.mp h;unfold pickOrder.go;simp
 | f+1,k,left,out,h=>by
  have a:nx k % left.length<left.length:=Nat.mod_lt _ (by omega);have e:left[nx k % left.length]?=some left[nx k % left.length]:=AC a;unfold pickOrder.go;rw[e];dsimp only;have b:=JS e;refine(Ou nx f (k+1) _ _ (by have:=Gv e;omega)).trans ?_;rw[DC,BG];exact b.append_left _
theorem Bj{α:Type}(nx:Nat->Nat)(xs:F1 α):(pickOrder nx xs).toList.Perm xs.toList:=by
 unfold pickOrder;have:=Ou nx xs.size 0 xs.toList #[] (AR ..);simpa using this
structure RD(w:F8)(h:IA)(a:A3)(o:Obj)(es:F1 (Int×A2))(ep:Nat)(t:IK):Prop where
 ho:h.get? a=some o
 ex:o.ExactSet
 hd:o.data = .set es ep t
 ft:t.fits es.size=true
 led:t.led=!(w.params.followText "set-order")
 pln:t.plain=true->es.size=0
 few:es.size<4096
def RG(first:A2)(i n ep:Nat)(a:A3):Obj:={ cls:=.type "set_iterator",data:=.fields #[first,rawInt i,.ref a,rawInt n,rawInt ep] }
theorem R0{Q:Bool->A4->Prop}(h:Q (w.params.followText "set-order") s):wpAny (model prog w) A setsByText Q E s:=by
 unfold setsByText;exact AA (GO (AG h))
variable{a it:A3}{o:Obj}{es:F1 (Int×A2)}{ep:Nat}{t:IK}
theorem y6{i g:Nat}{r:A5 (A2×Nat)}{Q:A5 A2->A4->Prop}(h:A.handled=none)(S:RD w s.heap a o es ep t)(n:it≠a)(hi:s.heap.get? it=some (RG (rawInt g) i es.size ep a))
  (c:∀(j:A5 (A2×Nat)->A4->Prop) (q:IC) (u:A2->A4->Prop),j r s->wpAny (model prog w) q (setNext a g i ep) j u s)
  (d:∀x nx h',r=some (x,nx)->h'.get? it=some (RG (rawInt nx) (i+1) es.size ep a)->Heap.SameBut it s.heap h'->Q (some x) { s with heap:=h' })
  (f:r=none->∀h',Heap.ExtBut it s.heap h'->Q none { s with heap:=h' }):wpAny (model prog w) A (pyNext (.ref it)) Q E s:=by
 have k:s.TypeIs (.ref it) "set_iterator":=⟨_,hi,rfl⟩;unfold pyNext;refine AA (HU (E_ (name:=Str.ofString "__next__") k JK (DQ JK k Y3 ?_ (o9 _))));unfold Builtin.«set_iterator.__next__»;refine AA (FS (a:=(Value.ref it,[])) rfl ?_);dsimp only;refine AA (wpAny_fieldsOf hi rfl ?_);dsimp only[rawInt];refine AA (wpAny_setEntries_of S.ho S.hd S.ft ?_);rw[AI (by simp)];simp only[CC];refine AA (c _ _ _ ?_);cases r with
 | some p =>
  obtain⟨x,nx⟩:=p;dsimp only;refine AA (F_ hi rfl (by simp) ?_);have l:=CZ (Obj.mapFields (·.setIfInBounds 0 (rawInt (nx:Nat)))) hi rfl;refine AA (F_ l rfl (by simp) ?_);have v:=CZ (Obj.mapFields (·.setIfInBounds 1 (rawInt ((i:Int)+1)))) l rfl;refine AG ⟨x,rfl,AG (d x nx _ rfl ?_ ((DW ..).trans (DW ..)))⟩;exact v
 | none =>
  dsimp only;refine AA (F_ hi rfl (by simp) ?_);refine AA ?_;simp only[newExc,newTuple];refine AA (DL ?_ (by size_fits));refine AA (m:=firstArgMember _ _) (FS (a:=Value.none) (by first | rfl | (simp only[firstArgMember];rfl)) ?_);refine DL ?_ (by size_fits);simp only[raiseNew];refine AA (wpAny_handled ?_)
  first | rw[show A.in1.handled=none from h] | rw[h]
  refine AA (AG (wpAny_throw ?_));refine AA (HP (T := "StopIteration") (b:=true) ⟨_,AN _ rfl,rfl⟩ isSubtype_stop ?_);exact AG (f rfl _ ((HQ (HQ (λb o y e=>(CG _ _ (Ne.symm y)).trans e) _)) _))
end
def SV(a:A1 Nat):Obj:={ cls:=.type "tuple",data:=.seq (a.map λ(i:Nat)=>rawInt i).toArray }
section
variable{prog:CM}{w:F8}{A:IC}{E:A2->A4->Prop}{s:A4}{a it T:A3}{o:Obj}{es:F1 (Int×A2)}{ep:Nat}{t:IK}
theorem Kv{i:Nat}{c:A1 Nat}{Q:A5 A2->A4->Prop}(n:A.handled=none)(S:RD w s.heap a o es ep t)(hi:s.heap.get? it=some (RG (.ref T) i es.size ep a))(q:s.heap.get? T=some (SV c))
  (g:∀p x h',c[i]?=some p->es[p]?=some x->h'.get? it=some (RG (.ref T) (i+1) es.size ep a)->Heap.SameBut it s.heap h'->Q (some x.2) { s with heap:=h' }) (h:∀p∈c,p<es.size)
  (j:c.length<=i->∀h',Heap.ExtBut it s.heap h'->Q none { s with heap:=h' }):wpAny (model prog w) A (pyNext (.ref it)) Q E s:=by
 have f:s.TypeIs (.ref it) "set_iterator":=⟨_,hi,rfl⟩;unfold pyNext;refine AA (HU (E_ (name:=Str.ofString "__next__") f JK (DQ JK f Y3 ?_ (o9 _))));unfold Builtin.«set_iterator.__next__»;refine AA (FS (a:=(Value.ref it,[])) rfl ?_);dsimp only;refine AA (wpAny_fieldsOf hi rfl ?_);dsimp only[rawInt];refine AA (wpAny_setEntries_of S.ho S.hd S.ft ?_);rw[AI (by simp)];simp only[CC];refine AA (DN q rfl ?_);dsimp only;cases e:c[i]? with
 | some p =>
  have r:(c.map λ(i:Nat)=>Value.int (i:Int) 0).toArray[i]?=some (.int (p:Int) 0):=by
   rw[FM,AH,e];rfl
  have d:(c.map λ(i:Nat)=>rawInt i).toArray[i]?=some (.int (p:Int) 0):=r;rw[d];have u:p<es.size:=h p (AL e);obtain⟨x,k⟩:∃x,es[p]?=some x:=⟨es[p],DA.mpr ⟨u,rfl⟩⟩;dsimp only;simp only[CC];unfold setNextDrawn;refine AA (AA (CD S.ho S.hd S.ft ?_));dsimp only;rw[AI (by simp),k];dsimp only;refine AG ?_;refine AA (F_ hi rfl (by simp) ?_);have v:=CZ (Obj.mapFields (·.setIfInBounds 1 (rawInt ((i:Int)+1)))) hi rfl;exact AG ⟨x.2,rfl,AG (g p x _ e k v (DW ..))⟩
 | none =>
  have d:(c.map λ(i:Nat)=>rawInt i).toArray[i]?=none:=by
   rw[FM,AH,e];rfl
  rw[d];dsimp only;refine AA (F_ hi rfl (by simp) ?_);have y:=CZ (Obj.mapFields (·.setIfInBounds 0 (rawInt 0))) hi rfl;refine AA (F_ y rfl (by simp) ?_);refine AA ?_;simp only[newExc,newTuple];refine AA (DL ?_ (by size_fits));refine AA (m:=firstArgMember _ _) (FS (a:=Value.none) (by first | rfl | (simp only[firstArgMember];rfl)) ?_);refine DL ?_ (by size_fits);simp only[raiseNew];refine AA (wpAny_handled ?_);rw[show A.in1.handled=none from n];refine AA (AG (wpAny_throw ?_));refine AA (HP (T := "StopIteration") (b:=true) ⟨_,AN _ rfl,rfl⟩ isSubtype_stop ?_);refine AG (j (GR.mp e) _ (HQ (HQ (λb B l z=>?_) _) _));exact(CG _ _ (Ne.symm l)).trans ((CG _ _ (Ne.symm l)).trans z)
def zEw(w:F8)(a T:A3)(es:F1 (Int×A2))(ep:Nat)(t:IK)(b:A1 A2)(i:Nat)(h:IA)(first:A2):Prop :=
 (w.params.followText "set-order" = true/\first=rawInt (0:Nat)/\b =(pickOrder (w.params.setOrder a ep) es).toList.map (·.2)) \/
 (w.params.followText "set-order" = false/\∃c:A1 Nat,first = .ref T/\h.get? T=some (SV c)/\c.Perm (List.range es.size)/\b=c.filterMap λp=>es[p]?.map (·.2)) \/
 (w.params.followText "set-order" = false/\es.size<=1/\b=es.toList.map (·.2)/\∃d:Nat,first=rawInt d/\(i=0->d=0)/\(i=1->∃j,t.place = #[j]/\d=j+1))
def SSt(w:F8)(a it T:A3)(o:Obj)(es:F1 (Int×A2))(ep:Nat)(t:IK)(b:A1 A2)(i:Nat)(h:IA):Prop :=
 RD w h a o es ep t/\∃first,h.get? it=some (RG first i es.size ep a)/\zEw w a T es ep t b i h first
theorem RD.at{h h':IA}(S:RD w h a o es ep t)(e:h'.get? a=some o):RD w h' a o es ep t:=⟨e,S.ex,S.hd,S.ft,S.led,S.pln,S.few⟩
theorem zBz(j:Nat):SetTable.below #[j] 0=0:=by simp[SetTable.below,SetTable.below.go]
theorem Zx(j:Nat):SetTable.below #[j] (j+1)=1:=by simp[SetTable.below,SetTable.below.go]
theorem Va(S:RD w s.heap a o es ep t):t.place.size=es.size:=by
 have:=S.ft;unfold SetTable.fits at this;rw[BI]at this;simpa using this.1
theorem Rl(L:A.handled=none){u:A1 A2}(m:it≠a)(hiT:it≠T):Walks prog w A it [it,a,T] [it] es.size (λi v=>u[i]?=some v) (SSt w a it T o es ep t u) where
 sub:=λb M=>by simp at M;simp[M]
 frame:=λi h c ⟨S,first,B,N⟩ k=>by
  refine⟨S.at (k a (by simp) _ S.ho),first,k it (by simp) _ B,?_⟩;rcases N with z | ⟨g,O,W,n,F,G⟩ | z
  .exact .inl z
  .exact .inr (.inl ⟨g,O,W,k T (by simp) _ n,F,G⟩)
  .exact .inr (.inr z)
 item:=λi s Q E hlt ⟨S,first,B,N⟩ I=>by
  have d:∀c,Heap.SameBut it s.heap c->∀b H,b∉[it]->s.heap.get? b=some H->c.get? b=some H:=λc f b H M e=>(f.2 b (by simpa using M)).trans e;rcases N with⟨g,rfl,n⟩ | ⟨g,O,rfl,n,F,G⟩ | ⟨g,W,n,sl,rfl,G,z6⟩
  .have J:=Bj (w.params.setOrder a ep) es;have C:(pickOrder (w.params.setOrder a ep) es).size=es.size:=by rw[<-AR,J.length_eq,AR]
   obtain⟨x,R⟩:∃x,(pickOrder (w.params.setOrder a ep) es)[i]?=some x:=⟨_,DA.mpr ⟨by rw[C];exact hlt,rfl⟩⟩;refine y6 (r:=some (x.2,0)) L S m B (λU A' E' q=>?_) (λy nx c D P f=>?_) (λe=>nomatch e)
   .unfold setNext setWalk;refine AA (CD S.ho S.hd S.ft ?_);dsimp only;refine AA (R0 ?_);rw[g,AK rfl,AI (by simp)];refine AA (AA (CD S.ho S.hd S.ft ?_));dsimp only;refine AA (R0 ?_);rw[g,AK rfl];refine AA (GO (AG (AG ?_)));show U (((pickOrder (w.params.setOrder a ep) es)[i]?).map λe=>(e.2,0)) s;rw[R];exact q
   .cases D;have:=I x.2 c s.toks (by rw[n,AH,BN,R];rfl) ⟨S.at ((f.2 a (Ne.symm m)).trans S.ho),_,P,.inl ⟨g,rfl,n⟩⟩ (d c f);exact this
  .refine Kv L S B n (λp x c D P e3 f=>?_) (λp hp=>BU.mp (F.mem_iff.mp hp)) (λhle=>?_)
   .have V:∀q∈O,(es[q]?.map (·.2)).isSome=true:=λq hq=>by
     have:q<es.size:=BU.mp (F.mem_iff.mp hq);rw[DA.mpr ⟨this,rfl⟩];rfl
    refine I x.2 c s.toks ?_ ⟨S.at ((f.2 a (Ne.symm m)).trans S.ho),_,e3,.inr (.inl ⟨g,O,rfl,(f.2 T (Ne.symm hiT)).trans n,F,G⟩)⟩ (d c f);have gen:∀(l:A1 Nat) (i p:Nat),(∀q∈l,(es[q]?.map (·.2)).isSome=true)->l[i]?=some p->(l.filterMap λp=>es[p]?.map (·.2))[i]?=es[p]?.map (·.2):=by
     intro l
     induction l with
     | nil=>intro i p _ e;simp at e
     | cons q r ih =>
      intro i p X e;obtain⟨v,hv⟩:=DY.mp (X q (BH ..));rw[DV,hv];dsimp only;cases i with
      | zero =>
       have:q=p:=by simpa using e
       subst this;simpa using hv.symm
      | succ i=>simpa using ih i p (λq hq=>X q (AU _ hq)) (by simpa using e)
    rw[G,gen O i p V D,P];rfl
   .have:=F.length_eq;rw[BV]at this;omega
  .have Y:i=0:=by omega
   have h1:es.size=1:=by omega
   obtain⟨j,Z⟩:∃j,t.place = #[j]:=Array.size_eq_one_iff.mp ((Va S).trans h1);obtain⟨x,R⟩:∃x,es = #[x]:=Array.size_eq_one_iff.mp h1;have hs0:=G Y;subst hs0;have hx0:es[0]?=some x:=by rw[R];rfl
   refine y6 (r:=some (x.2,j+1)) L S m B (λU A' E' q=>?_) (λy nx c D P f=>?_) (λe=>nomatch e)
   .unfold setNext;refine AA (CD S.ho S.hd S.ft ?_);dsimp only;refine AA (R0 ?_);rw[g,AI (by decide)];show wpAny _ _ (if(!t.plain&&decide (es.size>1))=true then _ else _) _ _ _;rw[AI (by rw[h1];simp)];show wpAny _ _ (do (if(!t.led&&!es.isEmpty)=true then unsupported "set:maker-not-led" else pure ());_) _ _ _;rw[S.led,g,AI (by simp)];refine AA (AG ?_);rw[Z,zBz,hx0];exact AG q
   .cases D;refine I x.2 c s.toks (by rw[n,Y,R];rfl) ⟨S.at ((f.2 a (Ne.symm m)).trans S.ho),_,P,.inr (.inr ⟨g,W,n,j+1,rfl,λe=>by omega,λ_=>⟨j,Z,rfl⟩⟩)⟩ (d c f)
 done:=λs Q E ⟨S,first,B,N⟩ I=>by
  have d:∀c,Heap.ExtBut it s.heap c->∀b H,b∉[it]->s.heap.get? b=some H->c.get? b=some H:=λc f b H M e=>f b H (by simpa using M) e;rcases N with⟨g,rfl,n⟩ | ⟨g,O,rfl,n,F,G⟩ | ⟨g,W,n,sl,rfl,G,z6⟩
  .have J:=Bj (w.params.setOrder a ep) es;have C:(pickOrder (w.params.setOrder a ep) es).size=es.size:=by rw[<-AR,J.length_eq,AR]
   refine y6 (r:=none) L S m B (λU A' E' q=>?_) (λy nx c D=>nomatch D) (λ_ c f=>I c s.toks (d c f));unfold setNext setWalk;refine AA (CD S.ho S.hd S.ft ?_);dsimp only;refine AA (R0 ?_);rw[g,AK rfl,AI (by simp)];refine AA (AA (CD S.ho S.hd S.ft ?_));dsimp only;refine AA (R0 ?_);rw[g,AK rfl];refine AA (GO (AG (AG ?_)));show U (((pickOrder (w.params.setOrder a ep) es)[es.size]?).map λe=>(e.2,0)) s;rw[FG (by rw[C];exact Nat.le_refl _)];exact q
  .have X:=F.length_eq;rw[BV]at X;refine Kv L S B n (λp x c D P e3 f=>?_) (λp hp=>BU.mp (F.mem_iff.mp hp)) (λ_ c f=>I c s.toks (d c f));have:=(AF.mp D).1;omega
  .refine y6 (r:=none) L S m B (λU A' E' q=>?_) (λy nx c D=>nomatch D) (λ_ c f=>I c s.toks (d c f));unfold setNext;refine AA (CD S.ho S.hd S.ft ?_);dsimp only;refine AA (R0 ?_);rw[g,AI (by decide)];show wpAny _ _ (if(!t.plain&&decide (es.size>1))=true then _ else _) _ _ _;rw[AI (by simp;intro _;omega)];show wpAny _ _ (do (if(!t.led&&!es.isEmpty)=true then unsupported "set:maker-not-led" else pure ());_) _ _ _;rw[S.led,g,AI (by simp)];refine AA (AG ?_);have K:es[SetTable.below t.place sl]?=none:=by
    by_cases Y:es.size=0
    .exact FG (by rw[Y];exact CP _)
    .obtain⟨j,Z,rfl⟩:=z6 (by omega);rw[Z,Zx];exact FG (by omega)
   rw[K];exact AG q
 self:=λi s Q E ⟨S,first,B,N⟩ h=>by
  have hT:s.TypeIs (.ref it) "set_iterator":=⟨_,B,rfl⟩;refine wpAny_pyIter_slot hT p9 (DQ p9 hT El ?_ (Hn _));show wpAny _ _ (ret (.ref it)) _ _ s;exact AG ⟨_,rfl, "set_iterator",_,hT,JK.lookup,h⟩
theorem Tw{Q:A2->A4->Prop}(S:RD w s.heap a o es ep t)
  (h:∀(it T:A3) (c:A1 A2) (h':IA) (d:Drawn),it≠a->it≠T->(T=a\/s.heap.objs.size<=T)->s.heap.objs.size<=it->(∀b g,s.heap.get? b=some g->h'.get? b=some g)->c.Perm (es.toList.map (·.2))->SSt w a it T o es ep t c 0 h'->(∀b∈[it,a,T],b<h'.objs.size) ->
   (∀I:IC,I.handled=none->Walks prog w I it [it,a,T] [it] es.size (λi v=>c[i]?=some v) (SSt w a it T o es ep t c))->Q (.ref it) { s with heap:=h',drawn:=d }):wpAny (model prog w) A (pyIter (.ref a)) Q E s:=by
 have M:s.TypeIs (.ref a) "set":=⟨_,S.ho,S.ex.1⟩;have G:=AJ S.ho;refine wpAny_pyIter_slot M F.slot_set_iter (DQ F.slot_set_iter M Gi ?_ (F.args_set_iter_1 _));unfold Builtin.«frozenset.__iter__» Builtin.Frozenset.slot0 Builtin.Frozenset.sizeOf;refine AA (AA (FS (a:=(Value.ref a,[])) rfl ?_));dsimp only;refine FS (a:=a) rfl ?_;refine AA (AA (wpAny_setEntries_of S.ho S.hd S.ft (AG ?_)));have m:∀(first:A2) (T:A3) (c:A1 A2) (f:IA) (d:Drawn),(∀b g,s.heap.get? b=some g->f.get? b=some g)->s.heap.objs.size<=f.objs.size->c.Perm (es.toList.map (·.2))->T<f.objs.size->(T=a\/s.heap.objs.size<=T) ->
   (∀q:IA,(∀b g,f.get? b=some g->q.get? b=some g)->zEw w a T es ep t c 0 q first) ->
   wpAny (model prog w) A.in1 (do let e <-setEpoch a;let x <-newFields "set_iterator" [first,rawInt 0,.ref a,rawInt (es.size:Nat),rawInt (e:Nat)];ret x) (λr N=>∃v,r=Fin.done (Flow.ret v)/\∃O r,N.TypeIs v O/\typeLookup (Value.type O) (Str.ofString "__next__")=pure (some r)/\Q v N) E { s with heap:=f,drawn:=d }:=by
  intro first T c f d k n l z J P
  refine AA (wpAny_setEpoch_of (s:={ s with heap:=f,drawn:=d }) (k a o S.ho) S.hd S.ft ?_);refine AA (DL ?_);have H:(f.push (RG first 0 es.size ep a)).get? f.objs.size=some (RG first 0 es.size ep a):=AN _ rfl;have B:∀b g,f.get? b=some g->(f.push (RG first 0 es.size ep a)).get? b=some g:=λb g e=>AD _ e;have C:f.objs.size≠a:=λe=>absurd (BJ G n) (by rw[<-e];exact CQ _);have D:f.objs.size≠T:=λe=>absurd z (by rw[<-e];exact CQ _);refine AG ⟨.ref f.objs.size,rfl, "set_iterator",_,⟨_,H,rfl⟩,JK.lookup,?_⟩;refine h f.objs.size T c (f.push (RG first 0 es.size ep a)) d C D J n (λb g e=>B b g (k b g e)) l ⟨S.at (B a o (k a o S.ho)),first,H,P _ B⟩ (λb u=>?_) λI R=>Rl R C D;rw[CU];simp only[AQ,CH,or_false]at u;rcases u with rfl | rfl | rfl
  .exact EB _
  .exact DE (BJ G n)
  .exact DE z
 unfold setDrawn;refine AA (AA (CD S.ho S.hd S.ft ?_));dsimp only;refine AA (R0 (AG ?_));cases u:w.params.followText "set-order" with
 | true =>
  show wpAny _ _ (if(!true &&(!t.plain&&decide (es.size>1)))=true then _ else _) _ _ _;rw[EU,ED,AI (by decide)];refine AA (AG ?_);exact m _ a _ s.heap s.drawn (λ_ _ e=>e) (Nat.le_refl _) ((Bj _ es).map _) G (.inl rfl) λq _=>.inl ⟨u,rfl,rfl⟩
 | false =>
  show wpAny _ _ (if(!false &&(!t.plain&&decide (es.size>1)))=true then _ else _) _ _ _;by_cases j:(!t.plain&&decide (es.size>1))=true
  .rw[HJ,Bool.true_and,AK j];refine AA (Rb es.size (List.range es.size) s _ (BV ..) λy d l=>AA ?_);unfold newTuple;refine DL ?_ ?_
   .have H:(s.heap.push (SV y)).get? s.heap.objs.size=some (SV y):=AN _ rfl;refine m _ s.heap.objs.size (y.filterMap λp=>es[p]?.map (·.2)) (s.heap.push (SV y)) d (λb g e=>AD _ e) (by rw[CU];exact DX _) ?_ (by rw[CU];exact EB _) (.inr (Nat.le_refl _)) λq B=>.inr (.inl ⟨u,y,rfl,B _ _ H,l,rfl⟩);refine(l.filterMap _).trans (List.Perm.of_eq ?_);have:=filterMap_getElem?_range es;rw[<-this,List.map_filterMap]
   .have f:=l.length_eq;have q:=S.few;rw[BV]at f;show(List.map _ y).toArray.size<=sizeLine;rw[AO,AB,sizeLine_eq];omega
  .rw[HJ,Bool.true_and,AI j];refine AA (AG ?_);have K:es.size<=1:=by
    by_cases l:t.plain=true
    .have:=S.pln l;omega
    .have L:t.plain=false:=by simpa using l
     rw[L]at j;simp at j;omega
   exact m _ a _ s.heap s.drawn (λ_ _ e=>e) (Nat.le_refl _) (.refl _) G (.inl rfl) λq _=>.inr (.inr ⟨u,K,rfl,0,rfl,λ_=>rfl,λe=>absurd e (by decide)⟩)
end
section
variable{prog:CM}{w:F8}{A:IC}{E:A2->A4->Prop}{s:A4}{a:A3}{o:Obj}{es:F1 (Int×A2)}{ep:Nat}{t:IK}
theorem Tt{a:A1 A2}{b:F1 A2}(h:ItemsOf (λi v=>a[i]?=some v) b a.length):b.toList=a:=by
 refine FQ λi=>?_;rw[BN];by_cases c:i<b.size
 .have e:b[i]?=some b[i]:=DA.mpr ⟨c,rfl⟩;rw[e,h.2 i _ e]
 .rw[FG (by omega),EQ (by have:=h.1;omega)]
theorem PQ{Q:A1 A2->A4->Prop}(O:A.handled=none)(S:RD w s.heap a o es ep t)
  (U:∀f q,(∀b c,s.heap.get? b=some c->f.heap.get? b=some c)->f.gens=s.gens->f.os=s.os->s.heap.objs.size<f.heap.objs.size->q.Perm (es.toList.map (·.2))->Q q f):wpAny (model prog w) A (collect (.ref a)) Q E s:=by
 have V:=AJ S.ho;unfold collect;refine AA (wpAny_runValue (EK F.entry_proto_collect ?_));rw[Around.under_plainId F.plain_proto_collect _];show wpAny _ A.in1 (newList [] >>= λl=>again (.builtin "list.__iadd__" ⟨[l,.ref a],[]⟩)) _ _ s;refine AA (DL ?_);refine AG ⟨plainId_quiet F.plain_list_iadd _,EK F.entry_list_iadd ?_⟩;rw[Around.under_plainId F.plain_list_iadd _];show wpAny _ A.in1 (Builtin.List.listExtendWith (.ref s.heap.objs.size) (.ref a) (.ref s.heap.objs.size)) _ _ _;unfold Builtin.List.listExtendWith;have h:s.heap.objs.size≠a:=λe=>absurd V (by rw[<-e];exact CQ _);generalize J:s.heap.push { cls:=.type "list",data:=.seq ([]:A1 A2).toArray }=H;have G:∀b c,s.heap.get? b=some c->H.get? b=some c:=λb c e=>by rw[<-J];exact AD _ e
 have i:H.objs.size=s.heap.objs.size+1:=by rw[<-J,CU]
 have X:H.get? s.heap.objs.size=some { cls:=.type "list",data:=.seq ([]:A1 A2).toArray }:=by rw[<-J];exact AN _ rfl
 have Y:Shared.TypeIs { s with heap:=H } (.ref a) "set":=⟨o,G a o S.ho,S.ex.1⟩;refine AA (wpAny_typeOf Y ?_);have Z:Builtin.List.listSameRef (.ref s.heap.objs.size) (.ref a)=false:=by simp[Builtin.List.listSameRef,h]
 have h2:(Value.type "set" == Value.type "list")=false:=by decide
 have h3:(Value.type "set" == Value.type "tuple")=false:=by decide
 simp only[Z,h2,h3,Bool.or_false,AV,CN];refine AA (Tw (s:={ s with heap:=H }) (S.at (G a o S.ho)) λI T j r d hia hiT K u k P st hlt W=>?_);have m:Shared.TypeIs { s with heap:=r,drawn:=d } (.ref a) "set":=⟨o,k a o (G a o S.ho),S.ex.1⟩;refine AA (BX ?_);unfold Builtin.List.listLengthHint;refine AA (wpAny_specialOf m zEi ?_);wp_delta;refine AA (HP m (b:=true) (by rw[isSubtype_type];kernel_rfl) ?_);show wpAny _ A.in1 (typeOf (Value.ref a) >>= _) _ _ _;refine AA (wpAny_typeOf m ?_);refine AG ?_;rw[AK (by decide)];refine AA (EC ?_);have v:r.get? s.heap.objs.size=some { cls:=.type "list",data:=.seq ([]:A1 A2).toArray }:=k _ _ X;refine AA ?_;show wpAny _ A.in1 (updateSeq s.heap.objs.size (·.push .none) >>= λ_=>updateSeq s.heap.objs.size (·.pop)) _ _ _;refine AA (HD v rfl ?_);have x:=CZ (Obj.mapSeq (·.push Value.none)) v rfl;refine HD x rfl ?_;have L:=CZ (Obj.mapSeq (·.pop)) x rfl;have y:∀b c,b≠s.heap.objs.size->r.get? b=some c->((r.update s.heap.objs.size (Obj.mapSeq (·.push Value.none))).update s.heap.objs.size (Obj.mapSeq (·.pop))).get? b=some c :=
  λb c p e=>(CG _ _ (Ne.symm p)).trans ((CG _ _ (Ne.symm p)).trans e)
 have B:s.heap.objs.size∉[I,a,T]:=by
  have e1:s.heap.objs.size≠I:=λe=>absurd u (by
   show ¬H.objs.size<=I;rw[i,<-e];exact Nat.not_succ_le_self _)
  have e2:s.heap.objs.size≠T:=λe=>by
   rcases K with z | z
   .exact h (e.trans z)
   .exact absurd z (by
     show ¬H.objs.size<=T;rw[i,<-e];exact Nat.not_succ_le_self _)
  simp only[AQ,CH,or_false,not_or];exact⟨e1,h,e2⟩
 have M:es.size=j.length:=by
  have:=P.length_eq;rw[AB,AR]at this;exact this.symm
 have R:=S.few;refine AG ⟨plainId_quiet F.plain_extend_loop _,codeAny_extend_loopS (W A.in1 O).toS (by rw[sizeLine_eq];omega) _ B _ es.size 0 _ _ _ rfl (CP _)
  ((W A.in1 O).frame 0 r _ st λb p c e=>y b c (λz=>B (z▸p)) e) L (ItemsOf.nil _) λf C c' N D g=>?_⟩
 show wpAny _ A (load s.heap.objs.size >>= _) _ _ f;refine AA (wpAny_load D ?_);rw[M]at g;refine AG (U f C.toList (λb c e=>N.heap b c (λp=>?_) (y b c (λz=>?_) (k b c (G b c e)))) N.gens N.os (AJ D) (by rw[Tt g];exact P))
 .have n:=AJ e;rcases AQ.mp p with z | z
  .exact absurd n (by rw[z];exact CQ _)
  .rw[AE.mp z]at n;have:H.objs.size<=I:=u;rw[i]at this;exact absurd (BJ n (Nat.le_of_succ_le this)) (CQ _)
 .exact absurd (AJ e) (by rw[z];exact CQ _)
end
end ST
namespace ST
open PySem L2
def zAt(t:IK)(n:Nat):(t.orStandIn n).led=t.led:=by
 unfold SetTable.orStandIn;split<;>rfl
def Yq(t:IK)(a:F1 (Int×A2))(h:Int)(x:A2):(layNew t a h x).2.1.led=t.led:=by
 unfold layNew;split
 .rename_i b c e;show((t.put b).1.orStandIn _).led=_;rw[zAt];rfl
 .rfl
def Nh{t t':IK}{b:F1 Int}{n:Nat}{a:F1 Nat}(h:t.relaid b n=some (t',a)):t'.led=t.led/\t'.plain=t.plain:=by
 unfold SetTable.relaid SetTable.laid at h;cases e:SetTable.layClean (SetTable.sizeAbove n-1) b with
 | none=>rw[e]at h;cases h
 | some c =>
  rw[e]at h;cases h;exact⟨rfl,rfl⟩
def Oq(t:IK)(a:F1 (Int×A2))(n:Nat)(b:t.plain=false):(relayAll t a n).2.1.led=t.led/\(relayAll t a n).2.1.plain=false:=by
 unfold relayAll;split
 .rename_i g c e;obtain⟨d,f⟩:=Nh e;dsimp only;split
  .exact⟨d,f.trans b⟩
  .exact⟨rfl,rfl⟩
 .exact⟨rfl,rfl⟩
def zFu:A2->Str
 | .str x _=>x
 | _=>Str.empty
section
variable{prog:CM}{w:F8}{A:IC}{E:A2->A4->Prop}{s:A4}{a:A3}
structure NS(w:F8)(es:F1 (Int×A2))(ss:A1 Str):Prop where
 el:∀e∈es.toList,∃x tk,e =(hashStr w x,Value.str x tk)
 pm:(es.toList.map λe=>zFu e.2).Perm ss
 nd:ss.Nodup
def WS(w:F8)(h:IA)(a:A3)(c:A1 Str):Prop:=∃o b d t,RD w h a o b d t/\NS w b c
theorem NS.elems{a:F1 (Int×A2)}{b:A1 Str}(h:NS w a b):ElemsOf (C4 prog w) a.toList:=λe c=>by
 obtain⟨x,d,rfl⟩:=h.el e c;exact⟨⟨.inr x,Z8 x d,rfl⟩,rfl⟩
theorem NS.mem{d:F1 (Int×A2)}{f:A1 Str}(h:NS w d f)(x:Str):x∈f↔∃e∈d.toList,(C4 prog w).is (.inr x) e.2=true:=by
 rw[<-h.pm.mem_iff];constructor
 .intro j;obtain⟨e,a,rfl⟩:=BB.mp j;obtain⟨y,b,rfl⟩:=h.el e a;exact⟨_,a,Z8 y b⟩
 .rintro⟨e,a,k⟩;obtain⟨y,b,rfl⟩:=h.el e a;have:y=x:=by
   rcases G8 (show Ed (.inr x) (.str y b)=true from k)with⟨i,t,g,c⟩ | ⟨z,t,g,c⟩
   .cases c
   .cases g;cases c;rfl
  subst this;exact BB.mpr ⟨_,a,rfl⟩
theorem NS.len{a:F1 (Int×A2)}{b:A1 Str}(h:NS w a b):a.size=b.length:=by
 have:=h.pm.length_eq;rw[AB,AR]at this;exact this
theorem RN{n:A1 Str}{x:Str}{m:Tok}{Q:Bool->A4->Prop}(S:WS w s.heap a n)(hl:n.length+1<4096)
  (h:∀h' b,Heap.SameBut a s.heap h'->WS w h' a (if x∈n then n else n ++ [x])->Q b { s with heap:=h' }) :
  wpAny (model prog w) A (setAddHashed a (.str x m) (hashStr w x)) Q E s:=by
 obtain⟨o,p,ep,t,S,T⟩:=id S;have D:(C4 prog w).is (.inr x) (.str x m)=true:=Z8 x m;have hsz:=T.len;unfold setAddHashed setAddHashedIn;refine BX (AA (CD S.ho S.hd S.ft ?_));dsimp only;rw[byScan_of (knd:=C4 prog w) rfl S.few T.elems,AK rfl];unfold setAddByScan;refine AA (AA (EC ?_));refine AA (wpAny_setScan_of D S.ho S.hd S.ft T.elems ?_);cases X:List.findIdx? (λe=>(C4 prog w).is (.inr x) e.2) p.toList with
 | some j =>
  dsimp only;obtain⟨hj,N,_⟩:=List.findIdx?_eq_some_iff_getElem.mp X;have q:x∈n:=(T.mem (prog:=prog) x).mpr ⟨p.toList[j],ET hj,N⟩;refine AG (AG ?_);have:=h s.heap false (Heap.SameBut.refl a s.heap) (by rw[AK q];exact⟨o,p,ep,t,S,T⟩);exact this
 | none =>
  dsimp only;have q:¬x∈n:=λq=>by
   obtain⟨e,O,M⟩:=(T.mem (prog:=prog) x).mp q;have:=List.findIdx?_eq_none_iff.mp X e O;rw[M]at this;exact Bool.noConfusion this
  have F:∀(b:Bool) {P:A4} {R:Unit->A4->Prop},R () P->wpAny (model prog w) A (match b with | true=>rule "set.scan.the-table-gave-way" | false=>pure ()) R E P :=
   λb P R Y=>by cases b<;>first | exact AG Y | exact EC Y
  have d:=layNew_perm t p (hashStr w x) (.str x m);have g:=layNew_fits t p (hashStr w x) (.str x m);have k:=Yq t p (hashStr w x) (.str x m);show wpAny _ _ (match layNew t p (hashStr w x) (.str x m)with | (p,t,f,G)=>_) _ _ _;generalize layNew t p (hashStr w x) (.str x m)=L at d g k⊢;obtain⟨c,t1,f,G⟩:=L;dsimp only at d g k⊢;rw[DC]at d;have u:∀v:F1 (Int×A2),v.toList.Perm c.toList->NS w v (n ++ [x]):=λv H=>by
   refine⟨λe O=>?_,?_,?_⟩
   .rcases BD.mp (d.mem_iff.mp (H.mem_iff.mp O))with z | z
    .exact T.el e z
    .exact⟨x,m,AE.mp z⟩
   .refine((H.trans d).map _).trans ?_;rw[AY];exact T.pm.append (.refl _)
   .rw[FT];refine⟨T.nd,by simp,λy hy z hz=>?_⟩;rw[AE.mp hz];rintro rfl;exact q hy
  have l:c.size=n.length+1:=by
   have:=(u c (.refl _)).len;rw[AZ]at this;exact this
  refine AA (F _ ?_);have I:∀i:IK,i.led=t.led->i.plain=false->i.fits c.size=true->wpAny (model prog w) A (do
    storeSet a c i
    if(!f&&i.tooFull)=true then do
      (match(relayAll i c (SetTable.grown c.size)).2.2 with | true=>rule "set.scan.the-table-gave-way" | false=>pure ())
      storeSet a (relayAll i c (SetTable.grown c.size)).1 (relayAll i c (SetTable.grown c.size)).2.1
      pure (some true)
     else pure (some true)) (λr s'=>wpAny (model prog w) A (match r with | some B=>pure B | none=>setAddHashedIn a (.str x m) (hashStr w x) 99999) Q E s') E s:=by
   intro i Z p2 f2;refine AA (HK S.ho S.hd ?_ (by rw[l,sizeLine_eq];omega));have C:=Es S.ho S.hd c i;have J:=DW s.heap a (Obj.putSet c i);split
   .have M:=relayAll_perm i c (SetTable.grown c.size);have hf:=relayAll_fits i c (SetTable.grown c.size);obtain⟨U,V⟩:=Oq i c (SetTable.grown c.size) p2;have K:(relayAll i c (SetTable.grown c.size)).1.size=c.size:=by rw[<-AR,M.length_eq,AR]
    refine AA (F _ ?_);refine AA (HK C rfl ?_ (by rw[K,l,sizeLine_eq];omega));refine AG (AG (h _ true (J.trans (DW _ a _)) ?_));rw[AI q];exact⟨_,_,_,_,⟨Es C rfl _ _,S.ex,rfl,hf,U.trans (Z.trans S.led),(λz=>by rw[V]at z;cases z),by rw[K,l];omega⟩,u _ M⟩
   .refine AG (AG (h _ true J ?_));rw[AI q];exact⟨_,c,_,i,⟨C,S.ex,rfl,f2,Z.trans S.led,(λz=>by rw[p2]at z;cases z),by rw[l];omega⟩,u _ (.refl _)⟩
  cases W:t1.plain with
  | true =>
   rw[AK rfl,hashByValue_scannable 8 (x:=Value.str x m) rfl];refine AA (AG ?_);exact I { t1 with plain:=false } k rfl (SetTable.fits_plain_off g)
  | false =>
   rw[AI (by decide)];refine AA (AG ?_);exact I t1 k W g
end
end ST
namespace L2
open PySem PySem.Spec PyProof.Rows
def Tg(w:F8)(a:A3)(b:A1 Str):HO:=.ext λh=>ST.WS w h a b
section
variable{X:Cx}{pins:A1 (A3×Obj)}{σ:St}{H:Hp}{s:A4}{a:A3}{ss:A1 Str}
theorem zCx{P:CM}{w:F8}{H:Hp}{h:IA}(z:ST.WS w h a ss):IP P w H h a (Tg w a ss) :=
 ⟨z,let⟨o,_,_,_,S,_⟩:=z;⟨o,S.ho⟩,λd e ⟨o,b,c,t,S,r⟩ k=>⟨o,b,c,t,S.at (k o S.ho),r⟩⟩
theorem Inv.setw(I:Inv X pins σ H s)(e:H a=some (Tg X.w a ss)):ST.WS X.w s.heap a ss:=by
 obtain⟨z,_⟩:=(show IP X.prog X.w H s.heap a (Tg X.w a ss)from I.hok a _ e);exact z
def Zw(l:A1 Str)(x:Str):A1 Str:=if x∈l then l else l ++ [x]
end
def Inv.drawn{X:Cx}{a:A1 (A3×Obj)}{σ:St}{H:Hp}{s:A4}(I:Inv X a σ H s)(d:Drawn):Inv X a σ H { s with drawn:=d } :=
 ⟨I.ok,I.os,I.bare,I.base,I.loc,I.cell,I.free,I.freeC,I.pin,I.hok,I.len⟩
section
variable{X:Cx}
theorem Hz(hc:X.calm=true):J8 X (.builtin "sorted") (λxs H Q=>∃(p:A3) (n:A1 Str),xs = [.ref p]/\H p=some (Tg X.w p n)/\∀(l:A3) (f:A1 Str),H l=none->f.Perm n->f.Pairwise PN->Q (.ref l) (HZ H l (.lst (f.map V.str)))):=by
 intro R s σ H xs m Q I r h;obtain⟨p,n,rfl,hq,q⟩:=h;obtain⟨u,rfl,ru⟩:=U6 r;cases ru;obtain⟨o,es,ep,t,S,T⟩:=I.setw hq;refine TS.MM (ST.PQ (show X.A.in1.handled=none from I.ok.hd hc) S λE d k1 g1 U F g=>?_);have W:∀v∈d,∃x i,v=Value.str x i:=λv z=>by
  obtain⟨e,G,rfl⟩:=BB.mp (g.mem_iff.mp z);obtain⟨x,i,rfl⟩:=T.el e G;exact⟨x,i,rfl⟩
 have B:StrsAre d (d.map strOf):=by
  have:∀l:A1 A2,(∀v∈l,∃x i,v=Value.str x i)->StrsAre l (l.map strOf):=by
   intro l
   induction l with
   | nil=>exact λ_=>.nil
   | cons v r J =>
    intro h;obtain⟨x,i,rfl⟩:=h v (BH ..);exact .cons _ _ (J λu C=>h u (AU _ C))
  exact this d W
 have Y:d.length=es.size:=by rw[g.length_eq,AB,AR]
 have Z:=S.few;have K:(d.map strOf).Perm n:=by
  refine(g.map strOf).trans ?_;rw[CI];refine List.Perm.trans (List.Perm.of_eq ?_) T.pm;refine GT λe G=>?_;obtain⟨x,i,rfl⟩:=T.el e G;rfl
 refine⟨U,by rw[sizeLine_eq];omega,strKind,oneType',λs2 _=>TS.OV B,λc h' e ho k hg=>?_⟩;obtain⟨L,hs⟩:=ho;have M:∀v∈c.toList,∃x t,v = .str x t:=λv z=>W v (L.mem_iff.mp z);have z:II ((c.toList.map strOf).map V.str) c.toList:=by
  have:∀m:A1 A2,(∀v∈m,∃x t,v = .str x t)->II ((m.map strOf).map V.str) m:=by
   intro m
   induction m with
   | nil=>exact λ_=>.nil
   | cons v r J =>
    intro h;obtain⟨x,t,rfl⟩:=h v (BH ..);exact .cons ⟨t,rfl⟩ (J λu C=>h u (AU _ C))
  exact this _ M
 have j:(c.toList.map strOf).Perm n:=(L.map strOf).trans K;have N:(c.toList.map strOf).Pairwise PN:=by
  rw[DD];refine(List.Pairwise.and_mem.mp hs).imp fun{u v} ⟨C,O,q⟩=>?_;obtain⟨x,t,rfl⟩:=M u C;obtain⟨y,t',rfl⟩:=M v O;have q':decide (y.cps.toList<x.cps.toList)=false:=q;exact of_decide_eq_false q'
 have k0:∀b o,s.heap.get? b=some o->h'.get? b=some o:=λb o eb=>k b o (k1 b o eb);have D:s.heap.objs.size<=E.heap.objs.size:=DH F;have hn:H E.heap.objs.size=none:=I.hok.fresh D;obtain⟨P,g',d',t',o'⟩:=E;have eo:o'=s.os:=U;have eg:g'=s.gens:=g1;subst eo;subst eg;refine⟨.ref P.objs.size,HZ H P.objs.size (.lst ((c.toList.map strOf).map V.str)),?_,rfl,q _ _ hn j N⟩;exact(I.laid (a:=P.objs.size) (o:=.lst ((c.toList.map strOf).map V.str)) (t':=t') k0 D ⟨by rw[AB,AB,L.length_eq,sizeLine_eq];omega,c.toList,e,z,by simpa using hg⟩).drawn d'
end
def Oc(P:CM)(w:F8)(a:A3)(ks:A1 (A1 IU×A3)):HO:=.ext λh=>ST.MO (C4 P w) h a ks
def Lh(H:Hp)(ks:A1 (A1 IU×A3)):Prop:=∀q∈ks,H q.2=some (.tup (q.1.map kV))
section
variable{X:Cx}{pins:A1 (A3×Obj)}{σ:St}{H:Hp}{s:A4}{a:A3}{ks:A1 (A1 IU×A3)}
theorem Kl(P:CM)(w:F8):ST.Flat (C4 P w):=λv ⟨x,h⟩=>(C4 P w).byValue x v h
theorem Uw(P:CM)(w:F8):ST.RP (C4 P w):=λv ⟨x,h⟩=>by
 rcases G8 (show Ed x v=true from h)with⟨i,t,_,rfl⟩ | ⟨y,t,_,rfl⟩<;>rfl
theorem Vv{P:CM}{w:F8}{H:Hp}{h:IA}(z:ST.MO (C4 P w) h a ks):IP P w H h a (Oc P w a ks) :=
 ⟨z,let⟨o,_,_,_,e,_⟩:=z;⟨o,e⟩,λd f ⟨o,b,c,t,e,r⟩ k=>⟨o,b,c,t,k o e,r⟩⟩
theorem Inv.sett(I:Inv X pins σ H s)(e:H a=some (Oc X.prog X.w a ks)):ST.MO (C4 X.prog X.w) s.heap a ks:=by
 obtain⟨z,_⟩:=(show IP X.prog X.w H s.heap a (Oc X.prog X.w a ks)from I.hok a _ e);exact z
theorem Nx:J8 X (.type "set") (λxs H Q=>xs = []/\∀p,H p=none->Q (.ref p) (HZ H p (Oc X.prog X.w p []))):=by
 intro pins s σ H xs c Q I r h;obtain⟨rfl,q⟩:=h;cases r;refine call_set_0 λa=>⟨.ref s.heap.objs.size,_,I.laid (t':=s.toks) (λb o e=>AD _ e) (Nat.le_refl _) (Vv ?_),rfl,q _ (I.hok.fresh (Nat.le_refl _))⟩;exact⟨_,#[],0,_,AN _ rfl,⟨rfl,rfl,rfl⟩,rfl,.refl _,⟨rfl,rfl,.inl rfl,by show 0*5<7*3;decide⟩⟩
def zFa(P:CM)(w:F8):R2:=λx y H Q=>∃a p ks k,y = .ref a/\x = .ref p/\H a=some (Oc P w a ks)/\H p=some (.tup (k.map kV))/\Lh H ks/\(∀q∈ks,q.1≠k)/\Q (.bl false) H
theorem My(b:X.A.units+1<cLine):KQ X (compareOp .In) (zFa X.prog X.w):=by
 intro pins s σ H x y v u Q I c d h;obtain⟨a,p,ks,k,rfl,rfl,e,f,g,i,q⟩:=h;cases d;cases c;exact ST.RL (neg:=false) b (Kl _ _) (I.sett e) (λz j=>q9 I.hok (g z j)) (q9 I.hok f) i ⟨.bl false,H,I.tok _,rfl,q⟩
def zCh(P:CM)(w:F8):V->A1 V->Hp->VK->Prop:=λx b H Q=>∃a p ks k,x = .ref a/\b = [.ref p]/\H a=some (Oc P w a ks)/\H p=some (.tup (k.map kV))/\Lh H ks/\(∀q∈ks,q.1≠k)/\ks.length+1<=300/\Q .non (HZ H a (Oc P w a (ks ++ [(k,p)])))
theorem Ys(d:X.A.units+1<cLine):QI X "set.add" (zCh X.prog X.w):=by
 intro pins s σ H x B v C Q I f g h;obtain⟨a,p,ks,k,rfl,rfl,c,i,j,l,m,q⟩:=h;cases f;obtain⟨u,rfl,n⟩:=g.one;cases n;refine ST.QY d (Kl _ _) (Uw _ _) (I.sett c) (λz r=>q9 I.hok (j z r)) (q9 I.hok i) l m λD t z=>?_;exact⟨.non,_,I.write (x:=a) (e:=a) (by rw[c];exact True.intro) (.inl rfl) (λb q y e=>(t.2 b y).trans e) (let⟨o,_,_,_,e,_⟩:=z;⟨o,e⟩) (Vv z),rfl,q⟩
end
section
variable{X:Cx}{tg:IE}
def zFe(K:PySem.W.Frag)(d:TE):TI:=λσ H R=>d σ H λx b=>∃a,x = .ref a/\(((∃c,IG K b a c)/\R (TL K a) b)\/((∃c,IW K b a c)/\R (Itt K a) b))
theorem zAk{l:IE}{n:TE}(r:PE X l n):PI X tg l (zFe X.K n):=by
 intro d s σ H R I h;refine IY (r d s σ H _ I h) λv c ⟨x,j,f,t,k⟩=>?_;obtain⟨a,e,k⟩:=k;subst e;cases t;have g:∀b,b∈[c.heap.objs.size]->Di X d j b:=λb u=>by
  have e:b=c.heap.objs.size:=by simpa using u
  subst e;exact f.fpOk (Nat.le_refl _) (f.hok.fresh (Nat.le_refl _))
 rcases k with⟨⟨w,m⟩,q⟩ | ⟨⟨w,m⟩,q⟩
 .obtain⟨i,y,p,z⟩:=f.list m;refine EZ p.isList ?_;exact⟨c.heap.objs.size,[c.heap.objs.size],_,_,j,rfl,f.kept (t':=c.toks) λb o e=>AD _ e,Hb a _,⟨_,AN _ rfl,rfl,rfl⟩,g,q⟩
 .obtain⟨i,y,p,z⟩:=f.tuple m;refine wpAny_pyIter_tuple (show c.heap.IsTuple a i.toArray from p) ?_;exact⟨c.heap.objs.size,[c.heap.objs.size],_,_,j,rfl,f.kept (t':=c.toks) λb o e=>AD _ e,Nl a _,⟨_,AN _ rfl,rfl,rfl⟩,g,q⟩
end
section
variable{X:Cx}
theorem Sd:J8 X (.builtin "isinstance") (λxs H Q=>∃x n t b,xs = [x,.ty n]/\MZ X.K H x t/\PySem.W.kitOne X.K t (.type n)=some b/\Q (.bl b) H):=by
 intro a s σ H xs g Q I r h;obtain⟨x,n,t,b,rfl,c,d,q⟩:=h;obtain⟨u,v,rfl,e,f⟩:=r.two;cases f;exact Ol I e c d λi=>⟨.bl b,H,I.tok _,rfl,q⟩
end
mutual
def Rp(K:PySem.W.Frag)(H:Hp):PyData->V->Prop
 | .none,v=>v = .non
 | .bool b,v=>v = .bl b
 | .int i,v=>v = .int i
 | .str x,v=>v = .str x
 | .list d,v=>∃a c,v = .ref a/\IG K H a c/\PD K H d c
 | .tuple d,v=>∃a c,v = .ref a/\IW K H a c/\PD K H d c
 | .dict _,_=>False
def PD(K:PySem.W.Frag)(H:Hp):A1 PyData->A1 V->Prop
 | [],a=>a = []
 | d::b,a=>∃v r,a=v::r/\Rp K H d v/\PD K H b r
end
section
variable{X:Cx}{pins:A1 (A3×Obj)}{σ:St}{H:Hp}{s:A4}
mutual
theorem Inv.reads(I:Inv X pins σ H s):∀(d:PyData) (v:V) (u:A2),Rp X.K H d v->RelV v u->∃as,Reads s.heap u d as
 | .none,v,u,h,r=>by
  cases(show v = .non by simpa [Rp] using h);cases r;exact⟨_,.none⟩
 | .bool b,v,u,h,r=>by
  cases(show v = .bl b by simpa [Rp] using h);cases r;exact⟨_,.bool b⟩
 | .int i,v,u,h,r=>by
  cases(show v = .int i by simpa [Rp] using h);obtain⟨t,rfl⟩:=r;exact⟨_,.int i t⟩
 | .str x,v,u,h,r=>by
  cases(show v = .str x by simpa [Rp] using h);obtain⟨t,rfl⟩:=r;exact⟨_,.str x t⟩
 | .list j,v,u,h,r=>by
  obtain⟨a,c,e,k,l⟩:=(show ∃a c,v=V.ref a/\IG X.K H a c/\PD X.K H j c by simpa [Rp] using h);subst e;cases r;obtain⟨f,m,⟨o,n,e,p,q,g⟩,_⟩:=I.list k;obtain⟨as,z⟩:=I.readsAll j c f l m;exact⟨_,.list e p g (by simpa using z)⟩
 | .tuple j,v,u,h,r=>by
  obtain⟨a,c,e,k,l⟩:=(show ∃a c,v=V.ref a/\IW X.K H a c/\PD X.K H j c by simpa [Rp] using h);subst e;cases r;obtain⟨f,m,⟨o,e,p,n,g⟩,_⟩:=I.tuple k;obtain⟨as,z⟩:=I.readsAll j c f l m;exact⟨_,.tuple e p g (by simpa using z)⟩
 | .dict _,v,u,h,r=>by simp[Rp]at h
theorem Inv.readsAll(I:Inv X pins σ H s):∀(a:A1 PyData) (vs:A1 V) (us:A1 A2),PD X.K H a vs->II vs us->∃as,ReadsAll s.heap us a as
 | [],vs,us,h,r=>by
  cases(show vs = [] by simpa [PD] using h);cases r;exact⟨_,.nil⟩
 | d::a,vs,us,h,r=>by
  obtain⟨v,b,e,c,f⟩:=(show ∃v r,vs=v::r/\Rp X.K H d v/\PD X.K H a r by simpa [PD] using h);subst e;cases r with
  | cons g i =>
   obtain⟨as,z⟩:=I.reads d v _ c g;obtain⟨k,j⟩:=I.readsAll a b _ f i;exact⟨_,.cons z j⟩
end
def Pl(d:PyData):Prop:=d.canLay0=true/\d.depth<=50
def zDi(K:PySem.W.Frag):R2:=λx y H Q=>∃d e,Rp K H d x/\Rp K H e y/\Pl d/\Pl e/\Q (.bl (!PyData.eqv d e)) H
def zBr(m:X.A.units+64<cLine):KQ X (compareOp .NotEq) (zDi X.K):=by
 intro a s σ H x y v u Q I f g h;obtain⟨d,e,i,j,b,c,q⟩:=h;obtain⟨n,k⟩:=I.reads d x v i f;obtain⟨o,l⟩:=I.reads e y u j g;exact PySem.SeqAt.compareNe_reads k l b.1 c.1 (by have:=b.2;have:=c.2;omega) ⟨.bl (!PyData.eqv d e),H,I,rfl,q⟩
def Zv(K:PySem.W.Frag)(neg:Bool):R2:=λx y H Q=>∃d a,Rp K H d x/\(Rp K H (.list a) y\/Rp K H (.tuple a) y)/\Pl d/\PyData.canLayAll0 a=true/\Q (.bl (if neg then !(a.any λz=>PyData.eqv z d)else a.any λz=>PyData.eqv z d)) H
def zCe(n:X.A.units+64<cLine):KQ X (compareOp .In) (Zv X.K false):=by
 intro f s σ H x y v u Q I k g h;obtain⟨d,b,l,h2,c,i,q⟩:=h;obtain⟨o,j⟩:=I.reads d x v l k;have a:X.A.units+1+min (PyData.depthAll b) d.depth<cLine:=by have:=c.2;omega
 rcases h2 with h2 | h2
 .obtain⟨m,e⟩:=I.reads (.list b) y u h2 g;exact PySem.SeqAt.in_list_reads e j i c.1 a ⟨.bl _,H,I,rfl,q⟩
 .obtain⟨m,e⟩:=I.reads (.tuple b) y u h2 g;exact PySem.SeqAt.in_tuple_reads e j i c.1 a ⟨.bl _,H,I,rfl,q⟩
def Qh(n:X.A.units+64<cLine):KQ X (compareOp .NotIn) (Zv X.K true):=by
 intro f s σ H x y v u Q I k g h;obtain⟨d,b,l,h2,c,i,q⟩:=h;obtain⟨o,j⟩:=I.reads d x v l k;have a:X.A.units+1+min (PyData.depthAll b) d.depth<cLine:=by have:=c.2;omega
 rcases h2 with h2 | h2
 .obtain⟨m,e⟩:=I.reads (.list b) y u h2 g;exact PySem.SeqAt.notIn_list_reads e j i c.1 a ⟨.bl _,H,I,rfl,q⟩
 .obtain⟨m,e⟩:=I.reads (.tuple b) y u h2 g;exact PySem.SeqAt.notIn_tuple_reads e j i c.1 a ⟨.bl _,H,I,rfl,q⟩
end
section
variable{X:Cx}
theorem II.insert{xs:A1 V}{us:A1 A2}{x:V}{u:A2}(h:II xs us)(r:RelV x u)(k:Nat):II (xs.take k++x::xs.drop k) (us.take k++u::us.drop k):=(h.take k).append (.cons r (h.drop k))
def Xm:V->A1 V->Hp->VK->Prop:=λx b H Q=>∃l a i k y,x = .ref l/\b = [.int i,y]/\i =((k:Nat):Int)/\H l=some (.lst a)/\k<=a.length/\a.length<sizeLine/\Q .non (HZ H l (.lst (a.take k++y::a.drop k)))
theorem zEg{k:Nat}{i:Int}(e:i =(k:Int))(h:k<=sizeLine):¬(!Builtin.List.listFitsIndex i)=true:=by
 rw[sizeLine_eq]at h;have a:-(2^63:Int)<=i:=by omega
 have b:i<2^63:=by omega
 have:=fitsIndex_both a b;simpa using this
theorem Qg:QI X "list.insert" Xm:=by
 intro c s σ H x E v G Q I m o h;obtain⟨l,J,i,k,y,rfl,rfl,d,f,K,L,q⟩:=h;cases m;obtain⟨M,g,rfl,⟨t,rfl⟩,p⟩:=o.two;obtain⟨z,a,n,r,N,e⟩:=I.lstM f;have u:k<=sizeLine:=by omega
 have w:=zEg d u;have A:a.toArray.size<=sizeLine:=by rw[AO];omega
 have B:=@PySem.AutoListH.list_insert_list_int_val_1 l a.toArray n i t g w A;refine call_meets F.slot_list_insert ⟨_,e,rfl⟩ F.entry_list_insert (F.args_list_insert_3 _ _ _) B ⟨e,?_⟩;refine⟨.non,_,I.lset (its':=a.take k++g::a.drop k) f e ?_ (r.insert p k) ?_,rfl,q⟩
 .have b:min k a.length=k:=by omega
  have C:¬((k:Int)<0):=by omega
  subst d;have j:¬((k:Int)+0<0):=by omega
  have D:List.take (a.length-k) (List.drop k a)=List.drop k a:=CK (by simp);simp[b,C,D]
 .rw[AZ,BM,AX,CY];omega
def Qw(K:PySem.W.Frag):V->A1 V->Hp->VK->Prop:=λx b H Q=>∃(l:A3) (a:A1 Str) (y:Str) (j:Nat),x = .ref l/\b = [.str y]/\IG K H l (a.map V.str)/\a[j]?=some y/\(∀m,m<j->a[m]?≠some y)/\Q (.int (j:Nat)) H
theorem U9{a:A1 Str}{us:A1 A2}(h:II (a.map V.str) us){i:Nat}(hi:i<us.length):∃x t,a[i]?=some x/\us[i] = .str x t:=by
 have c:=h.length;rw[AB]at c;obtain⟨x,b⟩:∃x,a[i]?=some x:=⟨a[i]'(by omega),AC (by omega)⟩;obtain⟨u,d,t,rfl⟩:=h.get (i:=i) (x:=.str x) (by rw[AH,b];rfl);refine⟨x,t,b,?_⟩;have:=AC hi;rw[d]at this;exact(BE this).symm
theorem Pj:QI X "list.index" (Qw X.K):=by
 intro B s σ H x W v Y Q I L M h;obtain⟨l,Z,y,j,rfl,rfl,N,C,k,q⟩:=h;cases L;obtain⟨u,rfl,⟨D,rfl⟩⟩:=M.one;obtain⟨a,r,⟨o,n,e,E,O,c⟩,G⟩:=I.list N;have d:=r.length;rw[AB]at d G;have b:j<a.length:=by
  have:=(AF.mp C).1;omega
 obtain⟨P,R,J,S⟩:=o;simp only at E O c;subst E c
 let p:A2->Bool:=λv=>match v with | .str x _=>x == y | _=>false
 have T:=PySem.SeqAt.list_indexAt l a.toArray n R S (.str y D) p j (by simpa using b) (by rw[sizeLine_eq]at G;omega) ?_ ?_
 .refine call_meets F.slot_list_index ⟨_,e,rfl⟩ F.entry_list_index (F.args_list_index_2 _ _) T ⟨e,?_,?_⟩
  .intro v U;have w:v∈a:=by simpa using U
   obtain⟨i,V,rfl⟩:=List.getElem_of_mem w;obtain⟨x,t,_,f⟩:=U9 r V;rw[f];exact PySem.SeqAt.EqAt.str_str x t y D
  .exact⟨.int (j:Nat),H,I.tok _,⟨_,rfl⟩,q⟩
 .obtain⟨x,t,g,f⟩:=U9 r b;rw[C]at g;cases g;show p (a.toArray[j]'(by simpa using b))=true;rw[show a.toArray[j]'(by simpa using b)=a[j]from by simp,f];exact beq_self_eq_true y
 .intro m hm z;have A:m<a.length:=by simpa using hm
  obtain⟨x,t,g,f⟩:=U9 r A;show p (a.toArray[m]'hm)=false;rw[show a.toArray[m]'hm=a[m]from by simp,f];show(x == y)=false;rw[beq_eq_false_iff_ne];rintro rfl;exact k m z g
def Wx:V->A1 V->Hp->VK->Prop:=λx b H Q=>∃z y a,x = .str z/\b = [.str y]/\(decide (z.length<y.length)||decide (Builtin.Str.strKind z<Builtin.Str.strKind y))=false/\(y.length == 0)=false /\
 (Builtin.Str.occurrences z y 0 z.length (z.length+1)).isEmpty=false/\z.length<=4000/\Builtin.Str.partsBetween z (Builtin.Str.occurrences z y 0 z.length (z.length+1)) y.length=a/\a.length<=4000/\∀l,H l=none->Q (.ref l) (HZ H l (.lst (a.map V.str)))
theorem Fk:∀(b:A1 Str) (a:Nat),II (b.map V.str) (strsFrom a b)
 | [],_=>.nil
 | _::r,a=>.cons ⟨a,rfl⟩ (Fk r (a+1))
theorem Uq:QI X "str.split" Wx:=by
 intro a s σ H x k v l Q I c d h;obtain⟨z,y,m,rfl,rfl,e,f,g,n,rfl,o,q⟩:=h;obtain⟨t,rfl⟩:=c;obtain⟨u,rfl,⟨i,rfl⟩⟩:=d.one;have j:z.length<=sizeLine:=by rw[sizeLine_eq];omega
 have b:(Builtin.Str.partsBetween z (Builtin.Str.occurrences z y 0 z.length (z.length+1)) y.length).length<=sizeLine:=by rw[sizeLine_eq];omega
 refine call_meets F.slot_str_split (typeIs_str _ _ _) F.entry_str_split (F.args_str_split_2 _ _) (PySem.meets_str_split_sep z y t i e f g j b) ?_;exact⟨.ref s.heap.objs.size,_,I.lnew (Fk _ _) (by rw[AB];exact b),rfl,q _ I.fresh⟩
end
end L2
namespace L2
open PySem PySem.Spec PyProof.Rows
set_option genInjectivity false in
structure Fn(K:PySem.W.Frag)(mg:Str->A5 A2)(x:Str)(st:IL)(ps:A1 Str) where
 f:A3
 fd:IS
 F:PF K x x st f fd
 b:Binds K fd ps []
 m:mg x=some (.ref f)
set_option genInjectivity false in
structure Mt(K:PySem.W.Frag)(C:A3)(m qual:Str)(st:IL)(ps:A1 Str) where
 f:A3
 fd:IS
 F:PF K m qual st f fd
 b:Binds K fd ps []
 m:RQ K C m f
section
variable{X:Cx}
theorem D6{x:Str}{st:IL}{g:A1 Str}{k:Nat}{sp:Sp}{e:IE}{a:A1 IE}{t:TA}{p pos:Pos}(D:Fn X.K X.mg x st g)(G:IJ X.prog X.w X.K X.mg X.base IZ k D.f D.fd g sp)(h:JD k X.A)(i:PA X (e::a) t)
  (j:Gl X x:=by rfl) (c:(x ==("__debug__":Str))=false:=by decide) (l:starEach (e::a) X.env =(false,eval e X.env)::starEach a X.env:=by rfl) (d:(backTo pos (starEach a X.env)).any (·.1)=false:=by rfl) :
  PE X (.Call (.Name x p) (e::a) [] pos) (Xv sp [] E0 t):=Xr G h j D.m D.F.kp D.b .nil K0 i c l d
def Sb(P:CM)(w:F8)(x:V)(H:Hp):Prop:=∃p,x = .ref p/\((∃l,H p=some (Ob P w p l))\/(∃l,H p=some (Tg w p l))\/∃a,H p=some (Oc P w p a))
theorem zAi{c:A1 (A3×Obj)}{σ:St}{H:Hp}{s:A4}{x:V}{v:A2}(I:Inv X c σ H s)(r:RelV x v)(ty:Sb X.prog X.w x H):s.TypeIs v "set"/\∀a,v = .ref a->∃d,s.heap.get? a=some d/\d.dict=none:=by
 obtain⟨p,rfl,h⟩:=ty;cases r;have z:∃o,s.heap.get? p=some o/\o.ExactSet:=by
  rcases h with⟨l,h⟩ | ⟨l,h⟩ | ⟨l,h⟩
  .obtain⟨o,_,_,_,e,b,_⟩:=I.set h;exact⟨o,e,b⟩
  .obtain⟨o,_,_,_,S,_⟩:=I.setw h;exact⟨o,S.ho,S.ex⟩
  .obtain⟨o,_,_,_,e,b,_⟩:=I.sett h;exact⟨o,e,b⟩
 obtain⟨o,e,b⟩:=z;refine⟨⟨o,e,b.1⟩,λa f=>?_⟩;cases f;exact⟨o,e,b.2.1⟩
def zFm(P:CM)(w:F8)(r:V->A1 V->Hp->VK->Prop)(b:TE)(t:TA):TE:=λσ H Q=>b σ H λx a=>Sb P w x a/\t σ a λc d=>r x c d Q
theorem Zd{o e:IE}{i:TE}{t:TA}{c a:Pos}{r:V->A1 V->Hp->VK->Prop}(m:QI X "set.add" r)(n:PE X o i)(p:PA X [e] t)
  (d:attributeBase o "add" X.env (eval o X.env)=eval o X.env:=by rfl)
  (g:((backTo a (starEach [e] X.env)).all (λx=>!x.1) &&(backToKw a (keywordEach [] X.env)).all (λx=>x.1.isSome)
   && decide ([e].length +([]:A1 Keyword).length +(if([]:A1 Keyword).isEmpty then 0 else 1)<30))=true:=by rfl)
  (f:(c.endLine == a.line)=true:=by rfl) (q:starEach [e] X.env = [(false,eval e X.env)]:=by rfl) :
  PE X (.Call (.Attribute o "add" c) [e] [] a) (zFm X.prog X.w r i t):=by
 intro b s σ H Q I h;refine wpAny_Call_method_late d g f rfl (IY (n b s σ H _ I h) λv u ⟨x,y,j,k,ty,z⟩=>?_);obtain⟨A,B⟩:=zAi j k ty;refine⟨"set", "set.add",F.plainAttrs_set,F.slot_set_add,F.type_set_add,A,B,?_⟩;have l:=p a b u σ y _ j z;rw[q]at l⊢;refine Calls.callWith_builtin rfl (Calls.evalArgs_plain ?_);exact IY l λC D ⟨E,G,J,K,L⟩=>m b D σ G x E v C Q J k K L
theorem zEd{x:Str}{i:Int}{pos:Pos}(h:∃t,X.mg x=some (.int i t))(a:Gl X x:=by rfl)(b:(x ==("__debug__":Str))=false:=by decide):PE X (.Name x pos) (tC (.int i)):=by
 obtain⟨t,e⟩:=h;exact Jd a e ⟨t,rfl⟩ b
theorem zDt{x y:Str}{pos:Pos}(h:∃t,X.mg x=some (.str y t))(a:Gl X x:=by rfl)(b:(x ==("__debug__":Str))=false:=by decide):PE X (.Name x pos) (tC (.str y)):=by
 obtain⟨t,e⟩:=h;exact Jd a e ⟨t,rfl⟩ b
theorem Nw{x:Str}{n:String}{pos:Pos}(a:X.mg x=none)(b:bootBuiltins x=some (.type n))(c:Gl X x:=by rfl)(d:x≠ "__name__":=by decide)(e:(x ==("__debug__":Str))=false:=by decide):PE X (.Name x pos) (tC (.ty n)) :=
 Zm c a b rfl d e
theorem E8{x:Str}{id:String}{r:A1 V->Hp->VK->Prop}{e:IE}{a:A1 IE}{t:TA}{p pos:Pos}(d:J8 X (.builtin id) r)(f:X.mg x=none)(g:bootBuiltins x=some (.builtin id))(h:PA X (e::a) t)(i:Gl X x:=by rfl)(j:x≠ "__name__":=by decide)(b:(x ==("__debug__":Str))=false:=by decide)
  (k:starEach (e::a) X.env =(false,eval e X.env)::starEach a X.env:=by rfl) (c:(backTo pos (starEach a X.env)).any (·.1)=false:=by rfl):PE X (.Call (.Name x p) (e::a) [] pos) (SX r t):=Vp d i f g h j b k c
theorem Eu{x:Str}{T:String}{r:A1 V->Hp->VK->Prop}{e:IE}{a:A1 IE}{t:TA}{p pos:Pos}(d:J8 X (.type T) r)(f:X.mg x=none)(g:bootBuiltins x=some (.type T))(h:PA X (e::a) t)(i:Gl X x:=by rfl)(j:x≠ "__name__":=by decide)(b:(x ==("__debug__":Str))=false:=by decide)
  (k:starEach (e::a) X.env =(false,eval e X.env)::starEach a X.env:=by rfl) (c:(backTo pos (starEach a X.env)).any (·.1)=false:=by rfl):PE X (.Call (.Name x p) (e::a) [] pos) (SX r t):=Rg d i f g h j b k c
theorem Q3{a:JB}{cl:A1 (Str×A3)}{N':A1 Str}{cap:A1 (A5 Nat)}(c:NZ X a cl N' cap)(e:QR X cl)(d:closureFor a X.env=pure cl:=by rfl)(kind:a.kind = .function:=by rfl)(b:∀y∈a.names,y.2≠ .cell:=by decide +kernel)
  (f:∀y∈a.names,y.2 = .local->a.names.lookup y.1=some .local:=by decide +kernel) (g:((relabel a X.env).names.all λy=>!(y.2 == .cell||y.2 == .free)||(cl.lookup y.1).isSome)=true:=by rfl):MQ X a cl N' cap:=⟨kind,b,f,d,e,g,c⟩
theorem NC{a:JB}{cl:A1 (Str×A3)}{N':A1 Str}{b:A1 (A3×Obj)}{c:A1 A3}{d:A4}{e:Hp}{x:Str}{pos:Pos}(i:Nat)(f:N'.Nodup:=by decide +kernel)(hi:N'[i]?=some x:=by rfl)(g:Loc (MC X a cl N' b c d e).env.scope x:=by exact Or.inl rfl)
  (h:(MC X a cl N' b c d e).env.scope.names.lookup x=some .local:=by rfl):PG (MC X a cl N' b c d e) (.Name x pos) (l4 i):=D8 (X:=MC X a cl N' b c d e) f hi g (.inr h)
end
def K1:bootBuiltins "len" = some (.builtin "len"):=by decide +kernel
def Hv:bootBuiltins "enumerate" = some (.type "enumerate"):=by decide +kernel
def Pn:bootBuiltins "min" = some (.builtin "min"):=by decide +kernel
def Wv:bootBuiltins "max" = some (.builtin "max"):=by decide +kernel
def Wr:bootBuiltins "abs" = some (.builtin "abs"):=by decide +kernel
def V2:bootBuiltins "sorted" = some (.builtin "sorted"):=by decide +kernel
def Oy:bootBuiltins "int" = some (.type "int"):=by decide +kernel
def zAw:bootBuiltins "str" = some (.type "str"):=by decide +kernel
def Az:bootBuiltins "list" = some (.type "list"):=by decide +kernel
def Y1:bootBuiltins "tuple" = some (.type "tuple"):=by decide +kernel
def Td:bootBuiltins "set" = some (.type "set"):=by decide +kernel
def K5:bootBuiltins "isinstance" = some (.builtin "isinstance"):=by decide +kernel
def Lm:bootBuiltins "all" = some (.builtin "all"):=by decide +kernel
def JY(a:A3)(b H:Hp):Prop:=∀o,b a=some o->H a=some o
def Sm(D:A1 A3)(H H':Hp):Prop:=∀b o,H b=some o->b∉D->H' b=some o
def HY.at{b H:Hp}(h:HY b H)(a:A3):JY a b H:=λo e=>h a o e
def HY.new{H:Hp}{p:A3}{o:HO}(h:H p=none):HY H (HZ H p o):=λb u e=>by rw[B6 (B2 e h)];exact e
def HY.upd{a H:Hp}{p:A3}{o:HO}(s:HY a H)(h:a p=none):HY a (HZ H p o):=λb u e=>by rw[B6 (B2 e h)];exact s b u e
def HY.sm{D:A1 A3}{H H':Hp}(h:HY H H'):Sm D H H':=λb o e _=>h b o e
def Sm.refl(D:A1 A3)(H:Hp):Sm D H H:=λ_ _ e _=>e
def Sm.trans{D:A1 A3}{H d e:Hp}(a:Sm D H d)(b:Sm D d e):Sm D H e:=λc o h n=>b c o (a c o h n) n
def Sm.new{D:A1 A3}{H c:Hp}{p:A3}{o:HO}(a:Sm D H c)(h:c p=none):Sm D H (L2.HZ c p o):=λb u e n=>by
 have:=a b u e n;rw[B6 (B2 this h)];exact this
def Sm.upd{D:A1 A3}{H c:Hp}{p:A3}{o:HO}(a:Sm D H c)(h:p∈D):Sm D H (L2.HZ c p o):=λb u e n=>by
 rw[B6 (show b≠p from λz=>n (by rw[z];exact h))];exact a b u e n
def Sm.updN{D:A1 A3}{H c:Hp}{p:A3}{o:HO}(a:Sm D H c)(h:H p=none):Sm D H (L2.HZ c p o):=λb u e n=>by rw[B6 (B2 e h)];exact a b u e n
def Sm.at{D:A1 A3}{H H':Hp}(h:Sm D H H'){a:A3}(n:a∉D):JY a H H':=λo e=>h a o e n
def Sm.none{D:A1 A3}{H H':Hp}(h:Sm D H H'){a:A3}(n:a∉D)(e:H' a=Option.none):H a=Option.none:=by
 cases q:H a with
 | none=>rfl
 | some o=>rw[h a o q n]at e;cases e
def JY.seqL{K:PySem.W.Frag}{H H':Hp}{a:A3}{xs:A1 V}(e:JY a H H')(h:IG K H a xs):IG K H' a xs:=by
 rcases h with(h | ⟨o,h⟩) | h
 .exact .inl (.inl (e _ h))
 .exact .inl (.inr ⟨o,e _ h⟩)
 .exact .inr h
def JY.seqT{K:PySem.W.Frag}{H H':Hp}{a:A3}{xs:A1 V}(e:JY a H H')(h:IW K H a xs):IW K H' a xs:=by
 rcases h with(h | ⟨o,h⟩) | h
 .exact .inl (.inl (e _ h))
 .exact .inl (.inr ⟨o,e _ h⟩)
 .exact .inr h
def SD(K:PySem.W.Frag)(H:Hp)(a:A3)(xs:A1 V):Prop:=IG K H a xs\/IW K H a xs
def JY.seq{K:PySem.W.Frag}{H H':Hp}{a:A3}{xs:A1 V}(e:JY a H H')(h:SD K H a xs):SD K H' a xs:=h.imp e.seqL e.seqT
structure Le(J:It)(xs:A1 V)(a:A3)(H0:Hp):Prop where
 go:∀H i,JY a H0 H->i<xs.length->J.go i H
 stop:∀H,JY a H0 H->J.stop xs.length H
 yld:∀H i x H',JY a H0 H->i<xs.length->J.yld i H x H'->H'=H/\xs[i]?=some x
def NR{K:PySem.W.Frag}{b:Hp}{a:A3}{xs:A1 V}(h:IG K b a xs):Le (TL K a) xs a b :=
 ⟨λH i k c=>⟨xs,xs[i],k.seqL h,AC c⟩,λH k=>⟨xs,k.seqL h,Nat.le_refl _⟩,λH i x d k c ⟨e,y⟩=>⟨e,y xs (k.seqL h)⟩⟩
def asT{K:PySem.W.Frag}{b:Hp}{a:A3}{xs:A1 V}(h:IW K b a xs):Le (Itt K a) xs a b :=
 ⟨λH i k c=>⟨xs,xs[i],k.seqT h,AC c⟩,λH k=>⟨xs,k.seqT h,Nat.le_refl _⟩,λH i x d k c ⟨e,y⟩=>⟨e,y xs (k.seqT h)⟩⟩
def Ye{J:It}{n:Nat}{g:TG}{f:TS}{D:Ends}{σ:St}{H:Hp}(Pv:Nat->St->Hp->Prop)(j:Pv 0 σ H)(b:∀i σ H,i<n->Pv i σ H->J.go i H)(c:∀σ H,Pv n σ H->J.stop n H)
  (k:∀i σ H x H',i<n->Pv i σ H->J.yld i H x H'->g x σ H' λσ2 d=>f { D with nx:=Pv (i+1),ct:=Pv (i+1),bk:=D.nx } σ2 d) (l:∀σ H,Pv n σ H->D.nx σ H) :
  ∃W:Nat->Nat->St->Hp->Prop,(∃m,W 0 m σ H)/\∀i m σ H,W i m σ H ->
   (J.stop i H/\D.nx σ H)\/(J.go i H/\∃N:St->Hp->Prop,(∀σ' H',N σ' H'->∃h,h < m/\W (i+1) h σ' H')/\∀x H',J.yld i H x H'->g x σ H' λσ2 d=>f { D with nx:=N,ct:=N,bk:=D.nx } σ2 d):=by
 refine⟨λi m σ H=>m=n-i/\i<=n/\Pv i σ H,⟨n,by simp,CP _,j⟩,?_⟩;rintro i m σ H ⟨rfl,q,p⟩;by_cases a:i<n
 .exact .inr ⟨b i σ H a p,Pv (i+1),λσ' H' o=>⟨n-(i+1),by omega,rfl,a,o⟩,λx H' y=>k i σ H x H' a p y⟩
 .have e:i=n:=by omega
  subst e;exact .inl ⟨c σ H p,l σ H p⟩
def zBp{J:It}{xs:A1 V}{a:A3}{f:Hp}(as:Le J xs a f){g:TG}{h:TS}{D:Ends}{σ:St}{H:Hp}(Pv:Nat->St->Hp->Prop)(k:Pv 0 σ H)(c:∀i σ H,i<=xs.length->Pv i σ H->JY a f H)
  (l:∀i σ H x,xs[i]?=some x->Pv i σ H->g x σ H λσ2 d=>h { D with nx:=Pv (i+1),ct:=Pv (i+1),bk:=D.nx } σ2 d) (o:∀σ H,Pv xs.length σ H->D.nx σ H) :
  ∃W:Nat->Nat->St->Hp->Prop,(∃m,W 0 m σ H)/\∀i m σ H,W i m σ H ->
   (J.stop i H/\D.nx σ H)\/(J.go i H/\∃N:St->Hp->Prop,(∀σ' H',N σ' H'->∃j,j < m/\W (i+1) j σ' H')/\∀x H',J.yld i H x H'->g x σ H' λσ2 d=>h { D with nx:=N,ct:=N,bk:=D.nx } σ2 d) :=
 Ye (n:=xs.length) Pv k (λi σ H b p=>as.go H i (c i σ H (DH b) p) b) (λσ H p=>as.stop H (c _ σ H (Nat.le_refl _) p)) (λi σ H x H' b p y=>by
  obtain⟨rfl,e⟩:=as.yld H i x H' (c i σ H (DH b) p) b y;exact l i σ _ x e p) o
def Ak{J:It}{n:Nat}{g:TG}{f:TT}{h:QZ}{σ:St}{H:Hp}{Q:St->Hp->Prop}(Pv:Nat->St->Hp->Prop)(k:Pv 0 σ H)(c:∀i σ H,i<n->Pv i σ H->J.go i H)(d:∀σ H,Pv n σ H->J.stop n H)
  (l:∀i σ H x H' (N:St->Hp->Prop),i<n->Pv i σ H->J.yld i H x H'->(∀σ' H',Pv (i+1) σ' H'->N σ' H')->g x σ H' λσ2 o=>f σ2 o λb j=>if b=true then h σ2 j N else N σ2 j)
  (q:∀σ H,Pv n σ H->Q σ H):Lr g f h J σ H Q:=by
 refine⟨λi m σ H=>m=n-i/\i<=n/\Pv i σ H,⟨n,by simp,CP _,k⟩,?_⟩;rintro i m σ H ⟨rfl,s,p⟩;by_cases a:i<n
 .exact .inr ⟨c i σ H a p,λx H' y=>l i σ H x H' _ a p y λσ3 t r=>⟨n-(i+1),by omega,rfl,a,r⟩⟩
 .have e:i=n:=by omega
  subst e;exact .inl ⟨d σ H p,q σ H p⟩
def X8{J:It}{xs:A1 V}{a:A3}{f:Hp}(as:Le J xs a f){g:TG}{h:TT}{j:QZ}{σ:St}{H:Hp}{Q:St->Hp->Prop}(Pv:Nat->St->Hp->Prop)(l:Pv 0 σ H)(d:∀i σ H,i<=xs.length->Pv i σ H->JY a f H)
  (m:∀i σ H x (N:St->Hp->Prop),xs[i]?=some x->Pv i σ H->(∀σ' H',Pv (i+1) σ' H'->N σ' H')->g x σ H λσ2 o=>h σ2 o λb k=>if b=true then j σ2 k N else N σ2 k)
  (q:∀σ H,Pv xs.length σ H->Q σ H):Lr g h j J σ H Q :=
 Ak (n:=xs.length) Pv l (λi σ H c p=>as.go H i (d i σ H (DH c) p) c) (λσ H p=>as.stop H (d _ σ H (Nat.le_refl _) p)) (λi σ H x H' N c p y r=>by
  obtain⟨rfl,e⟩:=as.yld H i x H' (d i σ H (DH c) p) c y;exact m i σ _ x N e p r) q
def Ft{a:QZ}{N:St->Hp->Prop}{σ:St}{H:Hp}{i:Nat}{x:V}(h:a (σ.set i (some x)) H N):l4 i x σ H λσ2 d=>Gr σ2 d λb c=>if b=true then a σ2 c N else N σ2 c:=by
 show if true=true then a (σ.set i (some x)) H N else N (σ.set i (some x)) H
 rw[AK rfl];exact h
def Rz{a:QZ}{N:St->Hp->Prop}{σ:St}{H:Hp}(h:a σ H N):Gr σ H λb c=>if b=true then a σ c N else N σ c:=by
 show if true=true then a σ H N else N σ H
 rw[AK rfl];exact h
section
variable{X:Cx}(K:PySem.W.Frag)(P:CM)(w:F8){tg:IE}
theorem NV{l:IE}{a:TE}(b:PE X l a)(c:X.K=K:=by rfl):PI X tg l (zBb K a):=by subst c;exact Yl b
theorem piS{l:IE}{a:TE}(b:PE X l a)(c:X.K=K:=by rfl):PI X tg l (zFe K a):=by subst c;exact zAk b
theorem piE{b:A1 IE}{kk:Nat}{d:Pos}{a:IE}{c:TA}{p pos:Pos}(e:X.mg "enumerate" = none)(f:PA X [a] c)(g:Gl X "enumerate":=by rfl)(h:starEach [a] X.env = [(false,eval a X.env)]:=by rfl)(i:X.K=K:=by rfl) :
  PI X (.Tuple b kk d) (.Call (.Name "enumerate" p) [a] [] pos) (zAh K c):=by subst i;exact Yi g e Hv f h
theorem Zu{a:IE}{b:TA}{p pos:Pos}(c:X.mg "range" = none)(d:PA X [a] b)(e:Gl X "range":=by rfl)(f:starEach [a] X.env = [(false,eval a X.env)]:=by rfl):PI X tg (.Call (.Name "range" p) [a] [] pos) (zDa b):=Oi e c d f
theorem RB{a:A1 IE}{k:Nat}{t:RX}{n:Nat}{pos:Pos}(h:TH X a t)(c:X.calm=true:=by rfl)(d:(assignEach a X.env).length=n:=by rfl)(b:(assignEach a X.env).findIdx? (·.1)=none:=by rfl)(e:X.K=K:=by rfl):PG X (.Tuple a k pos) (zFp K n t):=by subst e;exact zDe c h d b
theorem OK{e:IE}{a:TE}{f:Str}{pos:Pos}(b:PE X e a)(c:attributeBase e f X.env (eval e X.env)=eval e X.env:=by rfl)(d:X.K=K:=by rfl):PE X (.Attribute e f pos) (zDj K a f):=by subst d;exact zBm b c
theorem RA{o a:IE}{c d:TE}{f:Str}{pos b:Pos}(e:PE X o c)(g:PE X a d)(h:swapsWith a (some (.Attribute o f b)) pos.line X.env=pure false:=by rfl)(i:X.K=K:=by rfl):PS X (.Assign [.Attribute o f b] a pos) (zFh K c d f):=by subst i;exact zAx e g h
theorem K7(a:X.K=K:=by rfl):J8 X (.builtin "len") (λxs H Q=>∃p ys,xs = [.ref p]/\(IG K H p ys\/IW K H p ys)/\Q (.int ys.length) H):=by subst a;exact Fh
theorem Dq(a:X.K=K:=by rfl):J8 X (.type "list") (λxs H Q=>∃p ys,xs = [.ref p]/\(IG K H p ys\/IW K H p ys)/\∀l,H l=none->Q (.ref l) (HZ H l (.lst ys))):=by subst a;exact Go
theorem Uk(a:X.K=K:=by rfl):J8 X (.type "tuple") (λxs H Q=>∃p ys,xs = [.ref p]/\((IG K H p ys/\∀l,H l=none->Q (.ref l) (HZ H l (.tup ys)))\/(IW K H p ys/\Q (.ref p) H))):=by subst a;exact Dk
theorem Ls(a:X.calm=true:=by rfl)(b:X.K=K:=by rfl):J8 X (.builtin "all") (λxs H Q=>∃(p:A3) (bs:A1 Bool),xs = [.ref p]/\IG K H p (bs.map V.bl)/\Q (.bl (bs.all id)) H):=by subst b;exact Tz a
theorem Dw(c:X.K=K:=by rfl):J8 X (.builtin "sorted") (λxs H Q=>∃(p:A3) (b:A1 Str),xs = [.ref p]/\IG K H p (b.map V.str)/\∀(l:A3) (a:A1 Str),H l=none->a.Perm b->a.Pairwise PN->Q (.ref l) (HZ H l (.lst (a.map V.str)))):=by subst c;exact Hd
theorem Vg(c:X.K=K:=by rfl):J8 X (.builtin "sorted") (λxs H Q=>∃(p:A3) (b:A1 JF),xs = [.ref p]/\IG K H p (b.map λq=>V.ref q.1)/\(∀q∈b,E4 H q)/\∀(l:A3) (a:A1 JF),H l=none->a.Perm b->a.Pairwise S_->Q (.ref l) (HZ H l (.lst (a.map λq=>V.ref q.1)))):=by subst c;exact Fz
theorem Ve(c:X.calm=true:=by rfl)(hw:X.w=w:=by rfl):J8 X (.builtin "sorted") (λxs H Q=>∃(p:A3) (b:A1 Str),xs = [.ref p]/\H p=some (Tg w p b)/\∀(l:A3) (a:A1 Str),H l=none->a.Perm b->a.Pairwise PN->Q (.ref l) (HZ H l (.lst (a.map V.str)))):=by subst hw;exact Hz c
theorem j0(a:X.K=K:=by rfl):J8 X (.builtin "isinstance") (λxs H Q=>∃x n t b,xs = [x,.ty n]/\MZ K H x t/\PySem.W.kitOne K t (.type n)=some b/\Q (.bl b) H):=by subst a;exact Sd
theorem Xe(a:X.prog=P:=by rfl)(hw:X.w=w:=by rfl):J8 X (.type "set") (λxs H Q=>xs = []/\∀p,H p=none->Q (.ref p) (HZ H p (Ob P w p []))):=by subst a;subst hw;exact Pa
theorem Vj(a:X.prog=P:=by rfl)(hw:X.w=w:=by rfl):J8 X (.type "set") (λxs H Q=>xs = []/\∀p,H p=none->Q (.ref p) (HZ H p (Oc P w p []))):=by subst a;subst hw;exact Nx
theorem Xj(a:X.A.units+64<cLine)(b:X.K=K:=by rfl):KQ X (compareOp .In) (Zv K false):=by subst b;exact zCe a
theorem w8(a:X.A.units+64<cLine)(b:X.K=K:=by rfl):KQ X (compareOp .NotIn) (Zv K true):=by subst b;exact Qh a
theorem Xi(a:X.A.units+64<cLine)(b:X.K=K:=by rfl):KQ X (compareOp .NotEq) (zDi K):=by subst b;exact zBr a
theorem Nj(a:X.K=K:=by rfl):KQ X (compareOp .In) (SH K false):=by subst a;exact Ot
theorem V9(a:X.K=K:=by rfl):KQ X (compareOp .NotIn) (SH K true):=by subst a;exact Fx
theorem zDy(a:X.prog=P:=by rfl)(hw:X.w=w:=by rfl):KQ X (compareOp .In) (zFd P w false):=by subst a;subst hw;exact Tb
theorem zEs(a:X.A.units+1<cLine)(b:X.prog=P:=by rfl)(hw:X.w=w:=by rfl):KQ X (compareOp .In) (zFa P w):=by subst b;subst hw;exact My a
theorem zBw(a:X.prog=P:=by rfl)(hw:X.w=w:=by rfl):QI X "set.add" (zBi P w):=by subst a;subst hw;exact zAo
theorem zBg(a:X.A.units+1<cLine)(b:X.prog=P:=by rfl)(hw:X.w=w:=by rfl):QI X "set.add" (zCh P w):=by subst b;subst hw;exact Ys a
theorem Wk{o e:IE}{g:TE}{t:TA}{b a:Pos}{r:V->A1 V->Hp->VK->Prop}(h:QI X "set.add" r)(i:PE X o g)(j:PA X [e] t)
  (c:attributeBase o "add" X.env (eval o X.env)=eval o X.env:=by rfl)
  (f:((backTo a (starEach [e] X.env)).all (λx=>!x.1) &&(backToKw a (keywordEach [] X.env)).all (λx=>x.1.isSome)
   && decide ([e].length +([]:A1 Keyword).length +(if([]:A1 Keyword).isEmpty then 0 else 1)<30))=true:=by rfl)
  (d:(b.endLine == a.line)=true:=by rfl) (k:starEach [e] X.env = [(false,eval e X.env)]:=by rfl) (l:X.prog=P:=by rfl) (hw:X.w=w:=by rfl) :
  PE X (.Call (.Attribute o "add" b) [e] [] a) (zFm P w r g t):=by subst l;subst hw;exact Zd h i j c f d k
theorem NW(a:X.K=K:=by rfl):TK X (zEx K):=by subst a;exact Xd
theorem OM(a:X.K=K:=by rfl):TK X (zFq K):=by subst a;exact zBn
theorem slL(a:X.K=K:=by rfl):SlR X (zFl K):=by subst a;exact Zf
theorem Dm(a:X.K=K:=by rfl):QI X "list.index" (Qw K):=by subst a;exact Pj
theorem SY{a:IE}{c:TE}(d:PE X a c)(e:∀b,isTrue a X.env b =(do let v <-b;standAt a.pos;holding [v] (truthy v)):=by intro _;rfl)(f:X.K=K:=by rfl):PT X a (λσ H Q=>c σ H λx H'=>∃k,zDz K x H' k/\Q k H'):=by subst f;exact Ud d e
theorem Nt{T id:String}{name:Str}{o e:IE}{d:A1 IE}{k:TE}{t:TA}{c a:Pos}{r:V->A1 V->Hp->VK->Prop}(l:PlainAttrs T)(h:Slot T name id)(j:typeOf (.builtin id)=pure (.type "method_descriptor"))(m:QI X id r)(n:PE X o k)(p:PA X (e::d) t)
  (f:attributeBase o name X.env (eval o X.env)=eval o X.env:=by rfl)
  (i:((backTo a (starEach (e::d) X.env)).all (λx=>!x.1) &&(backToKw a (keywordEach [] X.env)).all (λx=>x.1.isSome)
   && decide ((e::d).length +([]:A1 Keyword).length +(if([]:A1 Keyword).isEmpty then 0 else 1)<30))=true:=by rfl)
  (g:(c.endLine == a.line)=true:=by rfl) (q:starEach (e::d) X.env =(false,eval e X.env)::starEach d X.env:=by rfl) (b:(backTo a (starEach d X.env)).any (·.1)=false:=by rfl) (s:X.K=K:=by rfl) :
  PE X (.Call (.Attribute o name c) (e::d) [] a) (tBM K T r k t):=by subst s;exact zDm l h j m n p f i g q b
theorem zDv{T id:String}{name:Str}{o:IE}{g:TE}{a b:Pos}{r:V->A1 V->Hp->VK->Prop}(h:PlainAttrs T)(e:Slot T name id)(f:typeOf (.builtin id)=pure (.type "method_descriptor"))(i:QI X id r)(j:PE X o g)
  (c:attributeBase o name X.env (eval o X.env)=eval o X.env:=by rfl) (d:(a.endLine == b.line)=true:=by rfl) (k:X.K=K:=by rfl):PE X (.Call (.Attribute o name a) [] [] b) (zEy K T r g):=by subst k;exact zAn h e f i j c d
end
section
variable{prog:CM}{w:F8}{A:IC}{E:A2->A4->Prop}{s:A4}{it l:A3}{i:Nat}{items:F1 A2}{x:A2}{Q:A2->A4->Prop}
theorem Bp(a:s.heap.IsTupleIter it l i)(g:s.heap.IsTuple l items)(h:items[i]?=some x)
  (j:∀h',h'.IsTupleIter it l (i+1)->Heap.SameBut it s.heap h'->Q x { s with heap:=h' }):wpAny (model prog w) A (Builtin.SmallTypes.nextOf (.ref it)) Q E s:=by
 obtain⟨o,d,k,b⟩:=id a;obtain⟨m,e,_,n,f⟩:=g;refine AA (E_ a.typeIs F.slot_tuple_iterator_next (DQ F.slot_tuple_iterator_next a.typeIs F.entry_tuple_iterator_next ?_ (F.args_tuple_iterator_next_1 _)));refine AA (AG (AA (FU d b rfl ?_)));refine EL (c:=(Value.ref l == Value.none)=true) rfl ?_;refine AA (FU d b rfl (AA (DN e f ?_)));dsimp only;rw[show items[(i:Int).toNat]?=some x from h];refine AA (F_ d b (EB 1) (AG ⟨x,rfl,AG (j _ ⟨_,CZ _ d (Obj.isFreed_of_fields (Obj.data_mapFields b _)),(Obj.cls_mapFields o _).trans k,(Obj.data_mapFields b _).trans ?_⟩ (DW _ _ _))⟩));rfl
theorem Sg{M:Model}{α β:Type}{a b:α}{i u v:β}{f:α->β->Sem (ForInStep β)}{Q:β->A4->Prop}(h:wpAny M A (f a i) (λr c=>r = .yield u/\wpAny M A (f b u) (λr c=>r = .yield v/\Q v c) E c) E s):wpAny M A (forIn [a,b] i f) Q E s:=by
 rw[HC];refine AA (CF h (λr c z=>?_) λe c z=>z);obtain⟨rfl,z⟩:=z;show wpAny M A (forIn [b] u f) Q E c;rw[HC];refine AA (CF z (λr c z=>?_) λe c z=>z);obtain⟨rfl,z⟩:=z;exact AG z
theorem Lq{z TI TO:A3}{a:A2}(b:IsZip s.heap z TI TO a):s.TypeIs (.ref z) "zip":=⟨_,b,rfl⟩
end
section
variable{prog:CM}{w:F8}{A:IC}{E:A2->A4->Prop}{s:A4}
theorem Hq{M:Model}{T:String}{vs:A1 A2}{Q:A2->A4->Prop}(h:Q (.ref s.heap.objs.size) { s with heap:=s.heap.push { cls:=.type T,data:=.fields vs.toArray } })(a:sizeOk (.fields vs.toArray)):wpAny M A (Builtin.SmallTypes.newRecord (.type T) vs) Q E s:=DL h a
end
section
variable{X:Cx}{elts:A1 IE}{kk:Nat}{tp:Pos}
theorem Zp:bootBuiltins "zip" = some (.type "zip"):=by decide +kernel
variable(K:PySem.W.Frag)
end
section
variable{X:Cx}{tg iter elt:IE}{ifs:A1 IE}{scope:JB}{cl:A1 (Str×A3)}{N':A1 Str}{cap:A1 (A5 Nat)}{wi:TI}{pos:Pos}
theorem Pc{e:IE}{gs:A1 Comprehension}{newAcc:Sem A2}{p2:Pos}{use:A5 (A2->Sem Unit)}{Qv:A2->A4->Prop}(q:clausesOf e =⟨tg,iter,ifs,0⟩::gs)(o:A3->HO)(hs:∀x,foldedSetIterable iter X.env x=pure x)(S:MQ X scope cl N' cap)(hc:X.calm=true)(hi:PI X tg iter wi)
  {lp:A3->It->St->Hp->(St->Hp->Prop)->Prop}
  (r:∀(a:A1 (A3×Obj)) (s:A4) (σ:St) (H:Hp) (Q:A2->A4->Prop) (E:A2->A4->Prop),Inv X a σ H s->(∀g,Inv X a σ (HZ H s.heap.objs.size (o s.heap.objs.size)) g->(∀b f,s.heap.get? b=some f->g.heap.get? b=some f)->Q (.ref s.heap.objs.size) g)->wpAny (model X.prog X.w) X.A newAcc Q E s)
  (L:∀(a:A1 (A3×Obj)) (M:A1 A3) (s3:A4) (N:Hp) (D l:A3) (fp:A1 A3) (t:Nat->IA->Prop) (J:It) (σ:St) (s:A4) (H:Hp) (Q:St->Hp->Prop) (R:Result->A4->Prop),
   MD X.prog X.w X.K tg J fp l t->Inv (MC X scope cl N' a M s3 N) [] σ H s->t 0 s.heap->(∀b∈fp,Di (MC X scope cl N' a M s3 N) [] H b)->lp D J σ H Q ->
   (∀g σ' H',Inv (MC X scope cl N' a M s3 N) [] σ' H' g->Q σ' H'->R (.ok .next) g) ->
   codeAny (model X.prog X.w) X.A (.compLoop e 0 (.ref l) (.ref D) (compEnvC scope cl s3.heap.objs.size X.env)) R s)
  (O:∀l D i,X.A.under (.compStart e 0 (.ref l) (.ref D) i)=X.A) (u:∀l D i,(model X.prog X.w).den (.compStart e 0 (.ref l) (.ref D) i) =(compStart e 0 (.ref l) (.ref D) i).onRaise (λx=>do noteFrame x i;standAt theWindowsPlace))
  {a:A1 (A3×Obj)} {s:A4} {σ:St} {H:Hp} {Q:V->Hp->Prop} (I:Inv X a σ H s) (h:Ss wi o cap lp σ H Q)
  (B:∀(D:A3) (fp:A1 A3) (k:Hp) (s3 g:A4) (σ':St) (H':Hp),Inv X a σ k s3->(∀b∈fp,Di X a k b)->Inv (MC X scope cl N' a fp s3 k) [] σ' H' g->Q (.ref D) H'->compPost (model X.prog X.w) X.A X.xe use Qv (.ref D) s3.heap.objs.size (.ok .next) g) :
  wpAny (model X.prog X.w) X.A (comprehension e scope X.env p2 newAcc false (eval iter X.env) use) Qv X.xe s:=by
 refine wpAny_comprehension_free q hs S.clos S.kind S.loc (IY (hi a s σ H _ I h) λv s1 C=>IY C λitv j h2=>?_);obtain⟨l,fp,t,J,k,P,I2,T,F,f2,R2⟩:=h2;subst P;refine r a j σ k _ _ I2 λs3 U k3=>?_;have hD:k j.heap.objs.size=none:=I2.hok.fresh (Nat.le_refl _);have n:∀b∈fp,Di X a (HZ k j.heap.objs.size (o j.heap.objs.size)) b/\∃f,s3.heap.get? b=some f:=λb m=>by
  obtain⟨f,e,_⟩:=T.obj _ _ F b m;obtain⟨W,fr⟩:=f2 b m;exact⟨⟨by rw[B6 (A_ (AJ e))];exact W,fr⟩,f,k3 b f e⟩
 refine wpAny_newFunctionEnv S.nocell (by intro y hy;simp at hy) (λC Y Z=>?_) S.kind;have hk:∀b f,s3.heap.get? b=some f->C.get? b=some f:=λb f e=>(Z.2 b (A_ (AJ e))).trans (AD _ e);have I4:Inv (MC X scope cl N' a fp s3 (HZ k j.heap.objs.size (o j.heap.objs.size))) [] (Wf cap σ) (HZ k j.heap.objs.size (o j.heap.objs.size)) { s3 with heap:=C,toks:=s3.toks +([]:A1 (Str×A2)).length } :=
  U.block S hc n Y hk
 have G:t 0 C:=T.keep 0 _ _ F λb m f e=>hk b f (k3 b f e);refine Cs (X:=MC X scope cl N' a fp s3 (HZ k j.heap.objs.size (o j.heap.objs.size))) (gs:=⟨tg,iter,ifs,0⟩::gs) (e:=e) (d:=0) (tg:=tg) (iter:=iter) (ifs:=ifs) (O _ _ _) (u _ _ _) q rfl T G ?_;refine L a fp s3 _ j.heap.objs.size l fp t J (Wf cap σ) _ _ _ _ T I4 G (λb m=>?_) (R2 _ hD) λg σ' H' I' q'=>?_
 .obtain⟨⟨W,f1,f2',f3,f4,f5⟩,f,eo⟩:=n b m;refine⟨W,A_ (AJ eo),λhf=>?_,.inl m,λx c e=>f4 x c (S.cin.get e),λp hp=>f5 p (by simpa [MC] using hp)⟩;rcases AQ.mp (U.stkSub b hf)with z | z
  .exact f1 z
  .exact f2' z
 .exact B _ fp _ s3 g σ' H' U (λb m=>(n b m).1) I' q'
theorem Tr{i:Nat}{x:Str}{o j:Pos}{g:TG}{V:TT}{W:TE}(hN:X.N.Nodup)(hi:X.N[i]?=some x)(hx:Loc X.env.scope x)(S:MQ X scope cl N' cap)(p:X.calm=true)(hI:PI X tg iter wi)
  (t:∀(d:A1 (A3×Obj)) (y:A1 A3) (l:A4) (A:Hp),PG (MC X scope cl N' d y l A) tg g/\SN (MC X scope cl N' d y l A) ifs V/\PE (MC X scope cl N' d y l A) elt W)
  (hs:∀x,foldedSetIterable iter X.env x=pure x:=by intro _;rfl)
  (F:swapsWith (.ListComp elt [⟨tg,iter,ifs,0⟩] scope j) (some (.Name x o)) pos.line X.env=pure true:=by rfl)
  (G:X.fn x=true\/X.env.scope.names.lookup x=some .local:=by first | exact .inl rfl | exact .inr rfl | assumption) :
  PS X (.Assign [.Name x o] (.ListComp elt [⟨tg,iter,ifs,0⟩] scope j) pos) (zEf (Ss wi (λ_=>.lst []) cap λD J σ H Q=>Lr g V (Gp D W) J σ H Q) (l4 i)):=by
 intro d s σ H D I h;rw[exec_Assign];refine AA (GH (AA (FS F (wpAny_ite_true rfl (AA (AA ?_))))));refine Pc (newAcc:=newList []) (p2:=firstIterPos [⟨tg,iter,ifs,0⟩] j) rfl (λ_=>.lst []) hs S p hI (λd s σ H Q E I h=>?_) (λd y l A D it fp tn J σ s H Q R T I st G h hR=>?_) (λ_ _ _=>rfl) (λ_ _ _=>rfl) I h λE fp H2 l s' σ' H' Y K L q=>?_
 .refine HV ?_;exact h _ (I.lnew (t':=s.toks) (its:=[]) .nil (CP _)) λb f e=>AD _ e
 .obtain⟨b1,b2,b3⟩:=t d y l A;exact Ag (X:=MC X scope cl N' d y l A) rfl rfl p rfl (Ce elt tg iter ifs scope j _ _ _) b1 b2 (Lb rfl b3) T I st G h hR
 .have IX:Inv X d σ H' s':=Y.unblock K L ⟨rfl,λ_ _=>rfl⟩;have w:Di X d H' l.heap.objs.size:=Y.fpOk (Nat.le_refl _) L.free;obtain⟨m,hn,_⟩:=L.loc;show wpAny _ _ (assign (.Name x o) X.env (.ref E)) _ _ _;refine wpAny_assign_Name (Hi (v:=.ref E) IX hN hi hx rfl (λC M ⟨a,O,ha⟩=>?_) G);have nC:l.heap.objs.size≠a:=by
   rcases ha with rfl | ha
   .exact w.2.1
   .exact(w.2.2.2.2.1 _ _ ha).symm
  refine⟨m,?_,λh' B=>AG (AG ?_)⟩
  .obtain⟨f,P,U,e1,r⟩:=hn;exact⟨f,P,U,(O.2 _ nC).trans e1,r⟩
  refine⟨_,H',?_,q⟩;have k:∀b f,b∉[l.heap.objs.size]->C.heap.get? b=some f->h'.get? b=some f:=λb f t e=>(B.2 b λz=>t (AE.mpr z)).trans e;refine M.step (h':=h') (H':=H') (t':=C.toks) (g':=C.gens) (d':=C.drawn) (ch:=[l.heap.objs.size]) (λb t=>by rw[AE.mp t];exact⟨w.2.2.2.1,w.2.1,w.2.2.2.2⟩) (λb f _ _ p e _=>k b f p e) (λb f _ _ p e _=>⟨f.slots,k b f p e⟩) (λ_ _ _ _ n=>n)
   (λb f p e=>⟨f,k b f p e⟩) (λ_ _ e=>e) (λ_ _ _ e=>e) (λb ps e=>⟨#[],by rw[e];simp⟩) (λm hm=>?_) (λb u Z=>?_) M.bare
  .obtain⟨f,P,U,ho,r⟩:=hm;exact⟨f,P,U,k _ f (λt=>w.2.1 (AE.mp t).symm) ho,r⟩
  .have nf:∀b u,H' b=some u->b∉[l.heap.objs.size]:=λb u e t=>by rw[AE.mp t,w.1]at e;cases e
   refine(M.hok b u Z).stay (λc v p q=>k c v ?_ q) (λ_ q=>q) λ_ _ q=>q;rcases p with z | z
   .rw[z];exact nf b u Z
   .exact nf c _ z
end
section
variable{X:Cx}
theorem zDx{x:Str}{C:A3}{pos:Pos}(h:X.mg x=some (.ref C))(a:Gl X x:=by rfl)(b:(x ==("__debug__":Str))=false:=by decide):PE X (.Name x pos) (tC (.ref C)):=Jd a h rfl b
end
def At(l xs:A1 Str):A1 Str:=xs.foldl Zw l
def Ul(l:A1 Str)(x:Str):(Zw l x).length<=l.length+1:=by
 unfold Zw;split
 .omega
 .rw[AZ];exact Nat.le_refl _
def zCd{w:F8}{h h':IA}{a:A3}{b:A1 Str}(z:ST.WS w h a b)(k:∀o,h.get? a=some o->h'.get? a=some o):ST.WS w h' a b:=by
 obtain⟨o,c,d,t,S,r⟩:=z;exact⟨o,c,d,t,S.at (k o S.ho),r⟩
section
variable{prog:CM}{w:F8}{A:IC}{R:Result->A4->Prop}{I:A3}{fp wr:A1 A3}{G:F1 GenState->F1 GenState->Prop}{n:Nat}{P:Nat->A2->Prop}{St:Nat->A4->Prop}
theorem Py(W:WalksS prog w A.in1 I fp wr G n P St)(S:A3)(f:S∉fp)(xs:A1 Str)(H:xs.length=n)(g:∀i v,P i v->∃x t,xs[i]?=some x/\v = .str x t) :
  ∀(k i:Nat) (s:A4) (c:A1 Str),n-i=k->i<=n->St i s->ST.WS w s.heap S c->c.length+k<4096 ->
   (∀s',Moved (S::wr) G s s'->ST.WS w s'.heap S (At c (xs.drop i))->R (.ok (.ret .none)) s') ->
   codeAny (model prog w) A (.builtin "set.update.loop" ⟨[.ref S,.ref I],[]⟩) R s:=by
 have j:S∉wr:=λh=>f (W.sub _ h);have a:∀b∈wr,b∈S::wr:=λb l=>AU _ l;intro k
 induction k with
 | zero =>
  intro i s c J K d z _ B;have C:i=n:=by omega
  subst C;refine EK F.entry_set_update_loop ?_;rw[Around.under_plainId F.plain_set_update_loop _];refine AA (W.done s _ _ d λs' m=>?_);have q:=B s' (m.mono a);rw[<-H,List.drop_length]at q;exact AG (q (zCd z λo=>m.heap S o j))
 | succ k L =>
  intro i s c J K d z U B;refine EK F.entry_set_update_loop ?_;rw[Around.under_plainId F.plain_set_update_loop _];refine AA (W.item i s _ _ (by omega) d λv s' M p m=>?_);obtain⟨x,t,N,rfl⟩:=g i v M;show wpAny _ A.in1 (holding [Value.str x t] (setAdd S (.str x t)) >>= _) _ _ s';refine AA (BX ?_);unfold setAdd;refine BX (AA (wpAny_pyHash_str ?_));refine ST.RN (s:={ s' with toks:=s'.toks+1 }) (zCd z λo=>m.heap S o j) (by omega) λV b r O=>?_;refine AG ⟨plainId_quiet F.plain_set_update_loop _,L (i+1) _ (Zw c x) (by omega) (by omega) (W.frame _ s' _ _ p (DX _) λb l o e=>?_) O (by have:=Ul c x;omega) λD u y=>?_⟩
  .rw[r.2 b (λh:b=S=>f (by rw[<-h];exact l))];exact e
  .refine B D (Moved.trans W.gtrans ((m.mono a).then_heap (DX _) λb o l e=>?_) u) ?_
   .rw[r.2 b (λh:b=S=>l (by rw[h];exact BH))];exact e
   .have Q:xs.drop i=x::xs.drop (i+1):=by
     obtain⟨E,T⟩:=AF.mp N;rw[<-T];exact EN E
    rw[Q];exact y
end
section
variable{prog:CM}{w:F8}{A:IC}{E:A2->A4->Prop}{s:A4}
abbrev LB(w:F8):Obj:={ cls:=.type "set",dict:=none,data:=.set #[] 0 (.fresh 0 0 (!(w.params.followText "set-order"))) }
theorem Vi{h:IA}{a:A3}(e:h.get? a=some (LB w)):ST.WS w h a [] :=
 ⟨_,#[],0,_,⟨e,⟨rfl,rfl,rfl⟩,rfl,by rfl,rfl,λ_=>rfl,by decide⟩,⟨λe b=>by simp at b,by simp,List.nodup_nil⟩⟩
theorem Uo(a:A2){Q₁:A2->A4->Prop}(h:Q₁ (.ref s.heap.objs.size) { s with heap:=s.heap.push (LB w) }) :
  codeAny (model prog w) A (.call (.builtin "set.__new__") ⟨[.type "set",a],[]⟩) (wants Q₁ E) s:=by
 refine codeAny_of_tree ?_;show wpAny _ A.in1 (do checkBuiltinCall "set.__new__" ⟨[.type "set",a],[]⟩;again (.builtin "set.__new__" ⟨[.type "set",a],[]⟩)) _ _ s;refine AA (FS (F.newCall_set_1 a) (AG ⟨plainId_quiet F.plain_set_new _,EK F.entry_set_new ?_⟩));rw[Around.under_plainId F.plain_set_new _];unfold Builtin.«set.__new__» Builtin.Frozenset.newClass;have b:=sub_set_self;obtain⟨c,g,d,e,os⟩:=s;dsimp only;wp_walk;refine GO (AG ?_);dsimp only;simp only[newObj];refine AA (wpAny_alloc (AG ?_));exact AG h
set_option maxHeartbeats 3200000 in
theorem Cp{l:A3}{g H:Obj}{z:String}{xs:A1 Str}{n:Nat}{P:Nat->A2->Prop}{St:A3->Nat->IA->Prop}{Q:A2->A4->Prop}(hh:A.handled=none)(j:s.heap.get? l=some g)(k:g.cls = .type z)
  (hs1:isSubtype (.type z) (.type "set")=pure false) (hs2:isSubtype (.type z) (.type "frozenset")=pure false) (hne:(Value.type z == Value.type "dict")=false)
  (J:∀{A:IC} {E:A2->A4->Prop} {Q:A2->A4->Prop} (s1:A4),s1.heap.get? l=some g->Q (.ref s1.heap.objs.size) { s1 with heap:=s1.heap.push H }->wpAny (model prog w) A (pyIter (.ref l)) Q E s1)
  (hW:∀(A:IC) (I:A3),A.handled=none->l≠I->Walks prog w A I [I,l] [I] n P (St I)) (K:∀(h:IA) (I:A3),h.get? I=some H->h.get? l=some g->St I 0 h) (m:H.isFreed=false)
  (hn:xs.length=n) (p:∀i v,P i v->∃x t,xs[i]?=some x/\v = .str x t) (B:n<4096)
  (h:∀(h':IA) (C:Nat),ST.WS w h' s.heap.objs.size (At [] xs)->(∀b o,s.heap.get? b=some o->h'.get? b=some o)->Q (.ref s.heap.objs.size) { s with heap:=h',toks:=C }) :
  wpAny (model prog w) A (call (.type "set") [.ref l]) Q E s:=by
 obtain⟨c,tl,hmro⟩:=F.called_set.mro;have L:=F.called_set.made;have hsub:=F.called_set.sub;refine wpAny_call (codeAny_of_tree ?_);show wpAny _ _ (callAny (.type "set") _) _ _ _;refine AG ⟨Code.quiet_builtin _ (by decide +kernel),EK F.entry_type_call ?_⟩;rw[Around.under_plain (weight_type_call_type "set" [.ref l] []) rfl];have h1:=F.called_set.notType;have h2:=F.called_set.canCreate;have hct:=F.typeCall_set_1 (.ref l)
 repeat (any_goals (first | assumption | wp_step))
 refine GM (Uo (.ref l) (E:=E) (Q₁:=λq s₁=>q = .ref s.heap.objs.size/\s₁ ={ s with heap:=s.heap.push (LB w) }) ⟨rfl,rfl⟩) λr s₁ d=>?_;cases r with
 | error e=>exact d
 | ok M =>
  cases M with
  | ret q =>
   obtain⟨rfl,rfl⟩:=d;have hS:(s.heap.push (LB w)).get? s.heap.objs.size=some (LB w):=AN _ rfl;have hT:Shared.TypeIs { s with heap:=s.heap.push (LB w) } (.ref s.heap.objs.size) "set":=⟨_,hS,rfl⟩;have hli:=F.called_set.init.lookup;have hbi:=F.called_set.init.bind (.ref s.heap.objs.size)
   repeat (any_goals (first | assumption | wp_step))
   refine GM (codeAny_call_builtin (R:=wants (λr s₂=>r = .none/\∃h' C,s₂ ={ s with heap:=h',toks:=C }/\ST.WS w h' s.heap.objs.size (At [] xs) /\
     (∀b o,s.heap.get? b=some o->h'.get? b=some o)) E) F.called_set.init.plain F.entry_set_init (check_set_init_1 hT ?_)) λr₂ s₂ d₂=>?_
   .have a:(s.heap.push (LB w)).get? l=some g:=AD _ j;obtain⟨ocls,N,O,D⟩:=g;simp only at k;subst k;unfold Builtin.«set.__init__» noKeywords Builtin.Frozenset.updateFrom;generalize S:pyIter=PI;wp_walk;subst S;refine J _ a ?_;refine AA (wpAny_runValue ?_);have u:l<s.heap.objs.size:=AJ j;have T:A.in1.in1.in1.handled=none:=by simp[hh]
    have y:l≠(s.heap.push (LB w)).objs.size:=by
     rw[CU];exact A_ (DE u)
    have U:s.heap.objs.size∉[(s.heap.push (LB w)).objs.size,l]:=by
     rw[CU];simp only[AQ,CH,or_false,not_or];exact⟨A_ (EB _),Nat.ne_of_gt u⟩
    refine Py ((hW _ _ T y).toS) s.heap.objs.size U xs hn p (n-0) 0 _ [] rfl (CP _) (K _ _ (AN _ m) (AD _ a)) (Vi (AD _ hS)) (by simpa using B) λs' G f=>?_;obtain⟨h',g',d',V,W⟩:=s';have eg:g'=s.gens:=G.gens;have ed:d'=s.drawn:=G.drawn;have eo:W=s.os:=G.os;subst eg;subst ed;subst eo;show wpAny _ _ _ _ _ _;refine AG ?_;show wpAny _ _ (ret Value.none) _ _ _;refine AG ⟨rfl,h',V,rfl,f,λb o e=>?_⟩;have B:=AJ e;have X:b≠s.heap.objs.size:=A_ B;have Y:b≠(s.heap.push (LB w)).objs.size:=by
     rw[CU];exact A_ (DE B)
    exact G.heap b o (by simp only[AQ,CH,or_false,not_or];exact⟨X,Y⟩) (AD _ (AD _ e))
   .cases r₂ with
    | error e=>exact d₂
    | ok M₂ =>
     cases M₂ with
     | ret r =>
      obtain⟨rfl,h',C,rfl,f,Z⟩:=d₂
      repeat (any_goals (first | assumption | wp_step))
      exact h _ _ f Z
     | _=>exact d₂.elim
  | _=>exact d.elim
end
def Dr:isSubtype (.type "tuple") (.type "set")=pure false:=by rw[isSubtype_type];kernel_rfl
def X9:isSubtype (.type "tuple") (.type "frozenset")=pure false:=by rw[isSubtype_type];kernel_rfl
def Hu:∀{xs l:A1 Str},xs.Nodup->(∀x∈xs,x∉l)->At l xs=l++xs
 | [],l,_,_=>(CT l).symm
 | x::xs,l,c,a=>by
  obtain⟨d,f⟩:=D_.mp c;show At (Zw l x) xs=_;have e:Zw l x=l ++ [x]:=AI (a x (BH ..));rw[e,Hu f λy b hm=>?_,BG]
  .rfl
  .rcases BD.mp hm with hm | hm
   .exact a y (AU _ b) hm
   .exact d (AE.mp hm▸b)
def Sn{a:A1 Str}{its:A1 A2}(r:II (a.map V.str) its)(i:Nat)(v:A2)(e:its.toArray[i]?=some v):∃x t,a[i]?=some x/\v = .str x t:=by
 rw[FM]at e;cases h:a[i]? with
 | none =>
  have:=r.none_of (i:=i) (by rw[AH,h];rfl);rw[this]at e;cases e
 | some x =>
  obtain⟨u,b,t,c⟩:=r.get (i:=i) (x:=.str x) (by rw[AH,h];rfl);rw[b]at e;cases e;exact⟨x,t,rfl,c⟩
section
variable{X:Cx}
theorem Yx(K:PySem.W.Frag)(w:F8)(G:X.calm=true:=by rfl)(L:X.K=K:=by rfl)(hw:X.w=w:=by rfl):J8 X (.type "set") (λxs H Q=>∃(p:A3) (d:A1 Str),xs = [.ref p]/\(IG K H p (d.map V.str)\/IW K H p (d.map V.str))/\d.Nodup/\d.length<4096/\∀l,H l=none->Q (.ref l) (HZ H l (Tg w l d))):=by
 subst L;subst hw;intro i s σ H xs S Q I r h;obtain⟨p,d,rfl,hq,M,J,q⟩:=h;obtain⟨u,rfl,N⟩:=U6 r;cases N;have O:At [] d=d:=Hu M λ_ _ h=>nomatch h
 have j:∀(v:IA) (x:Nat),ST.WS X.w v s.heap.objs.size (At [] d)->(∀b o,s.heap.get? b=some o->v.get? b=some o)->EP X i σ Q (.ref s.heap.objs.size) { s with heap:=v,toks:=x }:=λv x z k=>by
  rw[O]at z;exact⟨.ref s.heap.objs.size,_,I.laid (t':=x) k (Nat.le_refl _) (zCx z),rfl,q _ (I.hok.fresh (Nat.le_refl _))⟩
 rcases hq with hq | hq
 .obtain⟨f,m,y,P⟩:=I.list hq;have a:=m.length;rw[AB]at a;obtain⟨o,B,c,n,t⟩:=y.isList;exact Cp (I.ok.hd G) B c F.sub_list_set F.sub_list_frozenset (by decide) (λR e q=>EZ ⟨_,e,c,n,t⟩ q) (λA I C g=>Walks.list C I p g f.toArray) (λh I D E=>⟨⟨_,D,rfl,rfl⟩,⟨_,E,c,n,t⟩⟩) rfl (by simp[a]) (Sn m) (by simpa [<-a] using J) j
 .obtain⟨f,m,y,P⟩:=I.tuple hq;have a:=m.length;rw[AB]at a;obtain⟨o,B,c,n,t⟩:=y;exact Cp (I.ok.hd G) B c Dr X9 (by decide) (λR e q=>wpAny_pyIter_tuple ⟨_,e,c,n,t⟩ q) (λA I C g=>Walks.tuple C I p g f.toArray) (λh I D E=>⟨⟨_,D,rfl,rfl⟩,⟨_,E,c,n,t⟩⟩) rfl (by simp[a]) (Sn m) (by simpa [<-a] using J) j
theorem Uc(E:X.calm=true):J8 X (.builtin "any") (λxs H Q=>∃(p:A3) (bs:A1 Bool),xs = [.ref p]/\IG X.K H p (bs.map V.bl)/\Q (.bl (bs.any id)) H):=by
 intro B s σ H xs M Q I r h;obtain⟨p,bs,rfl,F,q⟩:=h;obtain⟨u,rfl,t⟩:=U6 r;cases t;obtain⟨a,w,x,N⟩:=I.list F;refine call_any_walk (EZ x.isList ?_);have y:p≠s.heap.objs.size:=by
  obtain⟨o,n,e,_⟩:=x;exact A_ (AJ e)
 refine⟨s.heap.objs.size,_,_,_,_,_,λi=>bs.getD i false,rfl,Walks.list (A:=X.A.in1) (show X.A.in1.handled=none from I.ok.hd E) _ p y a.toArray,⟨⟨_,AN _ rfl,rfl,rfl⟩,?_⟩,λi v O P R G J=>?_,λS T k=>?_⟩
 .obtain⟨o,n,e,c,d,L⟩:=x;exact⟨o,AD _ e,c,n,L⟩
 .have f:(bs.map V.bl)[i]?=some (V.bl (bs.getD i false))/\RelV (V.bl (bs.getD i false)) v:=by
   have g:a[i]?=some v:=by simpa using G
   have j:i<a.length:=(AF.mp g).1;have m:=w.length;rw[AB]at m;have e:(bs.map V.bl)[i]?=some (V.bl (bs.getD i false)):=by
    rw[AH,AC (by omega)];simp[AM,AC (show i<bs.length by omega)]
   obtain⟨u,C,t⟩:=w.get e;rw[g]at C;cases C;exact⟨e,t⟩
  cases f.2;exact DF J
 .have m:=w.length;rw[AB]at m;have e:(List.range a.toArray.size).any (λi=>bs.getD i false)=bs.any id:=by
   rw[AO,<-m,BR,HR,HR];constructor
   .rintro⟨i,j,z⟩;have l:=BU.mp j;refine⟨bs[i],ET l,?_⟩;simpa [AM,AC l] using z
   .rintro⟨b,f,z⟩;obtain⟨i,j,rfl⟩:=FO.mp f;refine⟨i,BU.mpr j,?_⟩;simpa [AM,AC j] using z
  rw[e];exact⟨.bl (bs.any id),H,I.kept λb o D=>k b o (by
   intro f;have:b=s.heap.objs.size:=by simpa using f
   exact absurd (AJ D) (by rw[this];exact CQ _)) (AD _ D),rfl,q⟩
theorem Wi:bootBuiltins "any" = some (.builtin "any"):=by decide +kernel
variable(K:PySem.W.Frag)
theorem Wu(a:X.calm=true:=by rfl)(b:X.K=K:=by rfl):J8 X (.builtin "any") (λxs H Q=>∃(p:A3) (bs:A1 Bool),xs = [.ref p]/\IG K H p (bs.map V.bl)/\Q (.bl (bs.any id)) H):=by subst b;exact Uc a
end
def Fo:bootBuiltins "sum" = some (.builtin "sum"):=by decide +kernel
section
variable{X:Cx}
theorem Pm(f:X.calm=true):J8 X (.builtin "sum") (λxs H Q=>∃(p:A3) (ns:A1 Int),xs = [.ref p]/\IG X.K H p (ns.map V.int)/\Q (.int ns.sum) H):=by
 intro b s σ H xs o Q I r h;obtain⟨p,ns,rfl,g,q⟩:=h;obtain⟨u,rfl,i⟩:=U6 r;cases i;obtain⟨a,j,l,t⟩:=I.list g;have c:=i8 j;obtain⟨xs,d⟩:=c.allInts.items;refine sum_intListG (xs:=xs) (I.ok.hd f) (by rw[<-d];exact l.isList) λv w m k=>⟨.int ns.sum,H,I.kept k,⟨m,?_⟩,q⟩;have e:numsOf a=ns:=c.numsOf;have n:numsOf (intItems xs).toList=numsOf a:=by rw[<-d]
 rw[preSum_eq,CK (by simp),<-nums_intItems,n,e]
theorem Kx(K:PySem.W.Frag)(a:X.K=K:=by rfl)(b:X.calm=true:=by rfl):J8 X (.builtin "sum") (λxs H Q=>∃(p:A3) (ns:A1 Int),xs = [.ref p]/\IG K H p (ns.map V.int)/\Q (.int ns.sum) H):=by subst a;exact Pm b
end
def Itd(d:A3)(o:Obj)(a:A1 (IU×V)):It :=
 ⟨λi H=>H d=some (.frz o (.dK a))/\i<a.length,λi H x b=>b=H/\∃k v,a[i]?=some (k,v)/\x=kV k,λi H=>H d=some (.frz o (.dK a))/\a.length<=i⟩
def KV.at{c:A1 (IU×V)}{vs:A1 (IU×A2)}(h:KV c vs):∀{i:Nat} {k:IU} {v:V},c[i]?=some (k,v)->∃u,vs[i]?=some (k,u):=by
 induction h with
 | nil=>intro i k v e;rw[List.getElem?_nil]at e;cases e
 | cons r _ d =>
  intro i k v e;cases i with
  | zero =>
   rw[List.getElem?_cons_zero]at e⊢;cases e;obtain⟨a,b⟩:=r;exact⟨_,by rw[show k=_ from a]⟩
  | succ i=>exact d e
def Xl{k:IU}{u:A2}(h:Ed k u=true):RelV (kV k) u:=by
 cases k with
 | inl i=>obtain⟨t,rfl⟩:=Value.isInt_shape h;exact⟨t,rfl⟩
 | inr x=>obtain⟨t,rfl⟩:=Value.isStrOf_shape h;exact⟨t,rfl⟩
section
variable{X:Cx}{tg:IE}
theorem Qc{P:CM}{w:F8}{K:PySem.W.Frag}{d g:A3}{o:Obj}{a:A1 (IU×V)}{C:F1 DictEntry}{ep:Nat}(t:o.data = .dict C ep):MD P w K tg (Itd d o a) [g] g (λi h=>h.IsKeyIter g d i a.length ep) where
 mem:=by simp
 obj:=λi h st b j=>by
  have e:b=g:=by simpa using j
  subst e;obtain⟨o,e,c,d⟩:=st;exact⟨o,e,λv z=>by rw[d]at z;cases z⟩
 keep:=λi h x st k=>by
  obtain⟨o,e,r⟩:=st;exact⟨o,k g (by simp) o e,r⟩
 item:=by
  intro X D F G hc i f s σ H E I y st J;subst D F G;obtain⟨L,A⟩:=J;obtain⟨M,N,f2,O,Q,R⟩:=y g (by simp);obtain⟨m,hz,hS,S,r,ob,T,U,n,Y,p,Z⟩:=(show IP X.prog X.w H s.heap d (.frz o (.dK a))from I.hok d _ L);rw[m]at n;cases n;rw[t]at p;cases p;have hx:a[i]?=some (a[i].1,a[i].2):=AC A;obtain⟨u,hu⟩:=r.at hx;have B:a.length=S.length:=r.length;rw[B]at st;refine wpAny_pyNext_dict_item (knd:=C4 X.prog X.w) st ⟨o,C,m,Y,t,Z⟩ hu λkey x q l sb=>?_;have I1:Inv X f σ H { s with heap:=x }:=I.turned (t':=s.toks) (λb o j e=>(sb.2 b j).trans e) M N O Q R;obtain⟨oi,ei,ci,di⟩:=id l;rw[<-B]at l;exact⟨key,rfl,Mp (s:={ s with heap:=x }) ei ci di (by decide) ⟨kV a[i].1,H,I1,Xl q,⟨rfl,_,_,hx,rfl⟩,l,λb j=>(y b j).1⟩⟩
 done:=by
  intro X D F G hc i f s σ H E I y st J;subst D F G;obtain⟨L,A⟩:=J;obtain⟨M,N,f2,O,Q,R⟩:=y g (by simp);obtain⟨m,hz,hS,S,r,ob,T,U,n,Y,p,Z⟩:=(show IP X.prog X.w H s.heap d (.frz o (.dK a))from I.hok d _ L);rw[m]at n;cases n;rw[t]at p;cases p;have B:a.length=S.length:=r.length;rw[B]at st A;exact wpAny_pyNext_dict_end (knd:=C4 X.prog X.w) (I.ok.hd hc) st ⟨o,C,m,Y,t,Z⟩ (EQ A) λx eb=>⟨rfl,I.turned (t':=s.toks) (λb o j e=>eb b o j e) M N O Q R⟩
 self:=λ_ _ _ _ _ st h=>wpAny_pyIter_keyiter st h
end
section
variable{prog:CM}{w:F8}{A:IC}{E:A2->A4->Prop}{s:A4}
theorem Vf{t b:A3}{vs g:A1 A2}{Q:A2->A4->Prop}(o:IsTup s.heap t vs.toArray)(p:IsTup s.heap b g.toArray)(q:vs = [])(h:Q (.ref b) s):wpAny (model prog w) A (binaryOp .Add (.ref t) (.ref b)) Q E s:=by
 obtain⟨⟨r,u,i,v⟩,j,k,n,l⟩:=id o;obtain⟨⟨m,e,data2,f⟩,a,c,x,d⟩:=id p;simp only at k l c d;subst k l c d;exact concat_meets ⟨_,j,rfl⟩ ⟨_,a,rfl⟩ noFill_tuple_add seq_tuple_add PySem.F.slot_tuple_add PySem.F.entry_tuple_add (PySem.F.args_tuple_add_2 _ _)
  (tuple_addW0 t b vs.toArray g.toArray n x u e v f (by simp[q])) ⟨j,a,h⟩
end
section
variable{X:Cx}(K:PySem.W.Frag)
def zDp:R2:=λx y H Q=>∃a b c d,x = .ref a/\y = .ref b/\IW K H a c/\IW K H b d/\d≠[]/\c.length+d.length<=sizeLine /\
 (c = []->Q (.ref b) H)/\(c≠[]->∀p,H p=none->Q (.ref p) (HZ H p (.tup (c++d))))
theorem Xs(n:X.K=K:=by rfl):KQ X (binaryOp .Add) (zDp K):=by
 subst n;intro d s σ H x y v u Q I e f h;obtain⟨a,b,g,o,i,j,k,l,p,q,r,t⟩:=h;by_cases c:g = []
 .subst i j c;cases e;cases f;obtain⟨w,A,B,_⟩:=I.tuple k;obtain⟨m,D,C,_⟩:=I.tuple l;exact Vf B C (A.nil_iff.mpr rfl) ⟨.ref b,H,I,rfl,r rfl⟩
 .exact Yc _ _ _ _ _ _ _ _ _ I e f ⟨a,b,g,o,i,j,k,l,c,q,λz=>absurd z p,λ_=>t c⟩
end
section
variable{prog:CM}{w:F8}{A:IC}{E:A2->A4->Prop}{s:A4}{it l:A3}{i:Nat}{items:F1 A2}{x:A2}{Q:A2->A4->Prop}
theorem Bz{z TI TO d f n l2:A3}{t B:Nat}{xs ys:F1 A2}{x y a b:A2}(D:ZipApart z TI TO d f n l2)(g:IsZip s.heap z TI TO .none)(C:IsPair s.heap TI (.ref d) (.ref f))(F:IsPair s.heap TO a b)
  (h1:s.heap.IsListIter d n t) (h2:s.heap.IsTupleIter f l2 B) (T:s.heap.IsList n xs) (U:s.heap.IsTuple l2 ys) (V:xs[t]?=some x) (W:ys[B]?=some y)
  (X:∀h',IsZip h' z TI TO (rawInt s.heap.objs.size)->IsPair h' TO x y->h'.IsListIter d n (t+1)->h'.IsTupleIter f l2 (B+1)->IsPair h' s.heap.objs.size x y->h'.objs.size=s.heap.objs.size+1->(∀c o,c≠z->c≠TO->c≠d->c≠f->s.heap.get? c=some o->h'.get? c=some o)->Q (.ref s.heap.objs.size) { s with heap:=h' }) :
  wpAny (model prog w) A (Builtin.«zip.__next__» ⟨[.ref z],[]⟩) (λfin Y=>∃v,fin = .done (.ret v)/\Q v Y) E s:=by
 obtain⟨G,gg,dd,tt,oo⟩:=s;refine AA (AG (AA (FU g rfl rfl (AA (FU g rfl rfl (AA (DN C rfl ?_)))))));refine EL rfl (AA (AA (FU g rfl rfl (AG (wpAny_ite_true rfl ?_)))));refine AA (EC (AA (FU g rfl rfl (AA (GE g (GQ 4) λh3 Z h=>?_)))));have a3:=h1.extBut h.extBut D.i1z;have b3:=h2.extBut h.extBut D.i2z;have c3:=T.extBut h.extBut D.l1z;have d3:=U.extBut h.extBut D.l2z;have e3:=(h.2 TO D.TOz).trans F;refine AA ?_;rw[show(#[Value.ref d,Value.ref f].toList.zipIdx) = [(Value.ref d,0),(Value.ref f,1)]from rfl];refine Sg (u:=(none,())) (v:=(none,())) ?_;refine AA (wpAny_onRaise (EL rfl (AA (wpAny_nextOf_list_item a3 c3 V λh4 a4 i=>AG ?_))));have L:=(i.2 TO D.TOi1).trans e3;refine AA (DN L rfl (AA (wpAny_updateSeq_pair L λh5 e5 j=>AA (HW (AG ⟨rfl,?_⟩)))));have b5:=(b3.extBut i.extBut D.i12.symm).extBut j.extBut D.TOi2.symm;have d5:=(d3.extBut i.extBut D.l2i1).extBut j.extBut D.l2TO;refine AA (wpAny_onRaise (EL rfl (AA (Bp b5 d5 W λh6 b6 k=>AG ?_))));have M:=(k.2 TO D.TOi2).trans e5;refine AA (DN M rfl (AA (wpAny_updateSeq_pair M λp N l=>AA (HW (AG ⟨rfl,?_⟩)))));have z7:=(l.2 z D.TOz.symm).trans ((k.2 z D.i2z.symm).trans ((j.2 z D.TOz.symm).trans ((i.2 z D.i1z.symm).trans Z)));have H:p.objs.size=G.objs.size:=l.1.trans (k.1.trans (j.1.trans (i.1.trans h.1)));have O:∀{c:A3} {o:Obj},G.get? c=some o->c≠p.objs.size:=λe=>by rw[H];exact A_ (AJ e)
 refine AA (DN N rfl (AA (wpAny_newTuple (AA (AA (GE (AD _ z7) (GQ 4) λh8 z8 I=>GE z8 (Nat.succ_lt_succ (GQ 3)) λq P J=>AG ⟨_,rfl,?_⟩))) (by show 2<=sizeLine;decide))));have r:∀{c:A3} {o:Obj},c≠z->p.get? c=some o->q.get? c=some o:=λm e=>(J.2 _ m).trans ((I.2 _ m).trans (AD _ e));have K:q.objs.size=G.objs.size+1:=J.1.trans (I.1.trans ((CU ..).trans (congrArg (· + 1) H)));have R:q.get? p.objs.size=some ⟨.type "tuple",none,.seq #[x,y],#[]⟩:=(J.2 _ (O g).symm).trans ((I.2 _ (O g).symm).trans (AN _ rfl));rw[H]at P R⊢;refine X q P (r D.TOz N) (a4.at λo e=>?_) (b6.at λo e=>?_) R K λc o m S n1 n2 e=>r m ?_
 .exact r D.i1z ((l.2 _ D.TOi1.symm).trans ((k.2 _ D.i12).trans ((j.2 _ D.TOi1.symm).trans e)))
 .exact r D.i2z ((l.2 _ D.TOi2.symm).trans e)
 .exact(l.2 _ S).trans ((k.2 _ n2).trans ((j.2 _ S).trans ((i.2 _ n1).trans ((h.2 _ m).trans e))))
theorem Dj{z TI TO a b g l2:A3}{k:Nat}{xs:F1 A2}{Q:PySem.Fin->A4->Prop}(r:A.handled=none)(D:ZipApart z TI TO a b g l2)(d:IsZip s.heap z TI TO .none)(h:IsPair s.heap TI (.ref a) (.ref b))
  (h1:s.heap.IsListIter a g k) (t:s.heap.IsList g xs) (u:xs[k]?=none)
  (v:∀h' e,(∀c o,c≠z->c≠TO->c≠a->c≠b->s.heap.get? c=some o->h'.get? c=some o)->(∃o,h'.get? e=some o/\o.cls = .type "StopIteration")->E (.ref e) { s with heap:=h' }) :
  wpAny (model prog w) A (Builtin.«zip.__next__» ⟨[.ref z],[]⟩) Q E s:=by
 obtain⟨C,F,G,tt,H⟩:=s;refine AA (AG (AA (FU d rfl rfl (AA (FU d rfl rfl (AA (DN h rfl ?_)))))));refine EL rfl (AA (AA (FU d rfl rfl (AG (wpAny_ite_true rfl ?_)))));refine AA (EC (AA (FU d rfl rfl (AA (GE d (GQ 4) λI l i=>?_)))));refine AA ?_;rw[show(#[Value.ref a,Value.ref b].toList.zipIdx) = [(Value.ref a,0),(Value.ref b,1)]from rfl,HC];refine AA (AA (wpAny_onRaise (EL rfl (AA (wpAny_nextOf_list_end r (h1.extBut i.extBut D.i1z) (t.extBut i.extBut D.l1z) u λJ e j f=>?_)))));refine GE (j z _ D.i1z.symm l) (GQ 4) λx K m=>v x e (λc o n _ y _ e=>(m.2 _ n).trans (j c o y ((i.2 _ n).trans e))) ?_;obtain⟨o,f,p⟩:=f;have B:e≠z:=λq=>by
  subst q;rw[j e _ D.i1z.symm l]at f;cases f;exact absurd (show Value.type "zip" = .type "StopIteration" from p) (by decide)
 exact⟨o,(m.2 _ B).trans f,p⟩
theorem Yu(N:A.handled=none)(z TI TO f g j l2:A3)(D:ZipApart z TI TO f g j l2)(xs ys:F1 A2)(O:xs.size<=ys.size) :
  WalksT prog w A z [z,TI,TO,f,g,j,l2] [z,TO,f,g] xs.size (λi B=>∃x y,xs[i]?=some x/\ys[i]?=some y/\B = #[x,y])
   (λi h=>IsZip h z TI TO .none/\IsPair h TI (.ref f) (.ref g)/\(∃a b,IsPair h TO a b)/\h.IsListIter f j i/\h.IsTupleIter g l2 i/\h.IsList j xs/\h.IsTuple l2 ys)
   (λi T h=>IsZip h z TI TO (rawInt T)/\IsPair h TI (.ref f) (.ref g)/\(∃a b,IsPair h TO a b)/\h.IsListIter f j (i+1)/\h.IsTupleIter g l2 (i+1)/\h.IsList j xs/\h.IsTuple l2 ys/\T≠z/\T≠TO/\T≠f/\T≠g) where
 sub:=by simp
 frame:=λi h v ⟨c,l,⟨a,b,p⟩,m,r,n,t⟩ k=>⟨k z (by simp) _ c,k TI (by simp) _ l,⟨a,b,k TO (by simp) _ p⟩,m.at (k f (by simp)),r.at (k g (by simp)),n.at (k j (by simp)),t.at (k l2 (by simp))⟩
 item:=λi s Q E J ⟨c,l,⟨a,b,p⟩,m,r,n,t⟩ C=>by
  have G:xs[i]?=some xs[i]:=Array.getElem?_eq_getElem J;have K:ys[i]?=some (ys[i]'(BJ J O)):=Array.getElem?_eq_getElem _;refine AA (HU (E_ (Lq c) F.slot_zip_next (DQ F.slot_zip_next (Lq c) F.entry_zip_next (Bz D c l p m r n t G K λv H P R S U sz k=>AG ?_) (F.args_zip_next_1 _))));refine C _ _ v s.toks ⟨_,_,G,K,rfl⟩ (Nat.le_refl _) ⟨_,U,rfl,_,rfl⟩ ⟨H,k TI _ D.TIz D.TITO D.TIi1 D.TIi2 l,⟨_,_,P⟩,R,S,n.at λo e=>k j o D.l1z D.l1TO D.l1i1 D.l1i2 e,t.at λo e=>k l2 o D.l2z D.l2TO D.l2i1 D.l2i2 e,?_,?_,?_,?_⟩ λb o d e=>?_
  .exact(A_ (AJ c)).symm
  .exact(A_ (AJ p)).symm
  .obtain⟨o,e,_⟩:=m;exact(A_ (AJ e)).symm
  .obtain⟨o,e,_⟩:=r;exact(A_ (AJ e)).symm
  .simp only[AQ,CH,or_false,not_or]at d;exact k b o d.1 d.2.1 d.2.2.1 d.2.2.2 e
 go:=λL k V i T s Q E ⟨c,l,⟨a,b,p⟩,m,r,n,t,_⟩ C=>wpAny_letOwnedTupleGo_zip c λv H u=>C v ⟨H,(u.2 _ D.TIz).trans l,⟨a,b,(u.2 _ D.TOz).trans p⟩,m.extBut u.extBut D.i1z,r.extBut u.extBut D.i2z,n.extBut u.extBut D.l1z,t.extBut u.extBut D.l2z⟩ λb o d e=>(u.2 b λq=>d (by rw[q];exact BH ..)).trans e
 apart:=λi T h ⟨_,_,_,_,_,_,_,W,X,Y,Z⟩ M=>by
  simp only[AQ,CH,or_false]at M;rcases M with e | e | e | e
  .exact W e
  .exact X e
  .exact Y e
  .exact Z e
 done:=λs Q E ⟨c,l,⟨a,b,p⟩,m,r,n,t⟩ C=>by
  have G:xs[xs.size]?=none:=FG (Nat.le_refl _);refine AA (HU (E_ (Lq c) F.slot_zip_next (DQ F.slot_zip_next (Lq c) F.entry_zip_next (Dj N D c l m n G λv e k I=>?_) (F.args_zip_next_1 _))));obtain⟨o,I,hc⟩:=I;refine AA (HP ⟨o,I,hc⟩ isSubtype_stop (AG (C v s.toks λb o d e=>?_)));simp only[AQ,CH,or_false,not_or]at d;exact k b o d.1 d.2.1 d.2.2.1 d.2.2.2 e
 self:=λi s Q E ⟨c,_⟩ q=>HS c q
end
section
variable{prog:CM}{w:F8}{A:IC}{E:A2->A4->Prop}{s:A4}
theorem Rq{d l2:A3}{xs ys:F1 A2}{Q:A2->A4->Prop}(x:s.heap.IsList d xs)(y:s.heap.IsTuple l2 ys)
  (z:∀h',IsZip h' (s.heap.objs.size+4) (s.heap.objs.size+2) (s.heap.objs.size+3) .none->IsPair h' (s.heap.objs.size+2) (.ref s.heap.objs.size) (.ref (s.heap.objs.size+1))->IsPair h' (s.heap.objs.size+3) .none .none ->
   h'.IsListIter s.heap.objs.size d 0->h'.IsTupleIter (s.heap.objs.size+1) l2 0->(∀c o,s.heap.get? c=some o->h'.get? c=some o)->Q (.ref (s.heap.objs.size+4)) { s with heap:=h' }) :
  wpAny (model prog w) A (call (.type "zip") [.ref d,.ref l2]) Q E s:=by
 refine callType_new (S:=λA R j=>j=s/\∀h',IsZip h' (s.heap.objs.size+4) (s.heap.objs.size+2) (s.heap.objs.size+3) .none->IsPair h' (s.heap.objs.size+2) (.ref s.heap.objs.size) (.ref (s.heap.objs.size+1))->IsPair h' (s.heap.objs.size+3) .none .none ->
   h'.IsListIter s.heap.objs.size d 0->h'.IsTupleIter (s.heap.objs.size+1) l2 0->(∀c o,s.heap.get? c=some o->h'.get? c=some o)->R (.ok (.ret (.ref (s.heap.objs.size+4)))) { s with heap:=h' }) F.called_zip rfl (F.typeCall_zip_2 _ _) (F.newCall_zip_2 _ _) (λ_=>F.args_object_init_3 _ _ _) F.entry_zip_new (.of_wp λprog w A R j l=>?_) ⟨rfl,λh' n B C D G k=>⟨⟨_,n,rfl⟩,z h' n B C D G k⟩⟩
 obtain⟨rfl,l⟩:=l;obtain⟨a,H,I,tt,J⟩:=j;refine AA (AA (AG (EL rfl (AA (FS sub_zip (EL rfl (AG ?_)))))))
 let b:=a.push { cls:=.type "list_iterator",data:=.fields #[.ref d,.int 0 0] }
 let f:=b.push { cls:=.type "tuple_iterator",data:=.fields #[.ref l2,.int 0 0] }
 let g:=f.push { cls:=.type "tuple",data:=.seq #[.ref a.objs.size,.ref b.objs.size] }
 let i:=g.push { cls:=.type "tuple",data:=.seq #[.none,.none] }
 have p:b.objs.size=a.objs.size+1:=CU ..;have r:f.objs.size=a.objs.size+2:=(CU ..).trans (congrArg (· + 1) p);have t:g.objs.size=a.objs.size+3:=(CU ..).trans (congrArg (· + 1) r);have K:i.objs.size=a.objs.size+4:=(CU ..).trans (congrArg (· + 1) t);have m:b.IsTuple l2 ys:=y.at λo e=>AD _ e;have L:b.get? a.objs.size=some { cls:=.type "list_iterator",data:=.fields #[.ref d,.int 0 0] }:=AN _ rfl;have M:f.get? b.objs.size=some { cls:=.type "tuple_iterator",data:=.fields #[.ref l2,.int 0 0] }:=AN _ rfl;have N:g.get? f.objs.size=some { cls:=.type "tuple",data:=.seq #[.ref a.objs.size,.ref b.objs.size] }:=AN _ rfl;have O:i.get? g.objs.size=some { cls:=.type "tuple",data:=.seq #[.none,.none] }:=AN _ rfl;have u:∀{h:IA} {o:Obj} {c:A3} {q:Obj},h.get? c=some q->(h.push o).get? c=some q:=λe=>AD _ e;refine EL rfl (AA (AA (Sg (u:=#[.ref a.objs.size]) (v:=#[.ref a.objs.size,.ref b.objs.size]) (AA (BX (EZ x (AG ⟨rfl,AA (BX (wpAny_pyIter_tuple m (AG ⟨rfl,AG ?_⟩)))⟩)))))));refine AA (wpAny_newTuple (AA (wpAny_newTuple (AA (Hq (AG ⟨_,rfl,?_⟩) ?_)) (by show 2<=sizeLine;decide))) (by show 2<=sizeLine;decide))
 .have P:=AN i (o:={ cls:=.type "zip",data:=.fields #[.none,.bool false,.bool false,.ref f.objs.size,.ref g.objs.size] }) rfl;have q:=l (i.push { cls:=.type "zip",data:=.fields #[.none,.bool false,.bool false,.ref f.objs.size,.ref g.objs.size] });rw[show(Shared.mk a H I tt J).heap.objs.size=a.objs.size from rfl,<-p,<-r,<-t,<-K]at q;exact q P (u (u N)) (u O) ⟨_,u (u (u (u L))),rfl,rfl⟩ ⟨_,u (u (u M)),rfl,rfl⟩ λc o e=>u (u (u (u (u e))))
 .show 5<=sizeLine+2;decide
end
def Zt(e f:Hp->A3->A1 V->Prop)(a b:A3):It :=
  ⟨λi H=>∃c d x y,e H a c/\f H b d/\c.length<=d.length/\c[i]?=some x/\d[i]?=some y,λi H v g=>∃T x y,v = .ref T/\H T=none/\g=HZ H T (.tup [x,y])/\(∀c,e H a c->c[i]?=some x)/\∀d,f H b d->d[i]?=some y,
   λi H=>∃c d,e H a c/\f H b d/\c.length<=d.length/\c.length=i⟩
def Ow(c d:IA->A3->A3->Nat->Prop)(z TI TO e f a b:A3)(i:Nat)(h:IA):Prop:=IsZip h z TI TO .none/\IsPair h TI (.ref e) (.ref f)/\(∃u v,IsPair h TO u v)/\c h e a i/\d h f b i
section
variable{P:CM}{w:F8}{K:PySem.W.Frag}{elts:A1 IE}{kk:Nat}{tp:Pos}{isIt isJt:IA->A3->A3->Nat->Prop}{isq isr:IA->A3->F1 A2->Prop}{sq sr:Hp->A3->A1 V->Prop}
theorem Fg(oI:∀h c l i,isIt h c l i->∃o,h.get? c=some o/\∀v,o.data≠ .cell v)(kI:∀h h' c l i,isIt h c l i->(∀o,h.get? c=some o->h'.get? c=some o)->isIt h' c l i)(oJ:∀h c l i,isJt h c l i->∃o,h.get? c=some o/\∀v,o.data≠ .cell v)(kJ:∀h h' c l i,isJt h c l i->(∀o,h.get? c=some o->h'.get? c=some o)->isJt h' c l i)
  (gI:∀(X:Cx) d σ H s c xs,X.K=K->Inv X d σ H s->sq H c xs->∃its,II xs its/\isq s.heap c its.toArray) (uI:∀(X:Cx) d σ H s c xs ys,X.K=K->Inv X d σ H s->sq H c xs->sq H c ys->xs=ys) (gJ:∀(X:Cx) d σ H s c xs,X.K=K->Inv X d σ H s->sr H c xs->∃its,II xs its/\isr s.heap c its.toArray) (uJ:∀(X:Cx) d σ H s c xs ys,X.K=K->Inv X d σ H s->sr H c xs->sr H c ys->xs=ys)
  (z TI TO g j a b:A3) (WI:∀(A:IC),A.handled=none->∀xs ys:F1 A2,xs.size<=ys.size->WalksT P w A z [z,TI,TO,g,j,a,b] [z,TO,g,j] xs.size (λi F=>∃x y,xs[i]?=some x/\ys[i]?=some y/\F = #[x,y])
   (λi h=>IsZip h z TI TO .none/\IsPair h TI (.ref g) (.ref j)/\(∃a b,IsPair h TO a b)/\isIt h g a i/\isJt h j b i/\isq h a xs/\isr h b ys)
   (λi T h=>IsZip h z TI TO (rawInt T)/\IsPair h TI (.ref g) (.ref j)/\(∃a b,IsPair h TO a b)/\isIt h g a (i+1)/\isJt h j b (i+1)/\isq h a xs/\isr h b ys/\T≠z/\T≠TO/\T≠g/\T≠j)) :
  MD P w K (.Tuple elts kk tp) (Zt sq sr a b) [z,TI,TO,g,j] z (Ow isIt isJt z TI TO g j a b) where
 mem:=BH ..
 obj:=λi h st c t=>by
  obtain⟨h1,O,⟨u,v,S⟩,U,V⟩:=st;simp only[AQ,CH,or_false]at t;rcases t with rfl | rfl | rfl | rfl | rfl
  .exact⟨_,h1,λv z=>by cases z⟩
  .exact⟨_,O,λv z=>by cases z⟩
  .exact⟨_,S,λv z=>by cases z⟩
  .exact oI _ _ _ _ U
  .exact oJ _ _ _ _ V
 keep:=λi h h' st k=>by
  obtain⟨h1,O,⟨u,v,S⟩,U,V⟩:=st;exact⟨k z (by simp) _ h1,k TI (by simp) _ O,⟨u,v,k TO (by simp) _ S⟩,kI _ _ _ _ _ U (k g (by simp)),kJ _ _ _ _ _ V (k j (by simp))⟩
 item:=by
  intro X hP hw J t i d s σ H E I R st hg;subst hP hw;obtain⟨xs,ys,x,y,hq,hr,L,hx,hy⟩:=hg;obtain⟨its,rv,p⟩:=gI _ _ _ _ _ _ _ J I hq;obtain⟨M,D,p'⟩:=gJ _ _ _ _ _ _ _ J I hr;obtain⟨u,hu,ru⟩:=rv.get hx;obtain⟨v,hv,rv'⟩:=D.get hy;have hl:=rv.length;have N:=D.length;have W:=WI X.A (I.ok.hd t) its.toArray M.toArray (by rw[AO,AO,<-hl,<-N];exact L);have hi:i<its.toArray.size:=by rw[AO];exact(AF.mp hu).1
  obtain⟨s1,s2,s3,Y,Z⟩:=id st;refine W.item i s _ _ hi ⟨s1,s2,s3,Y,Z,p,p'⟩ λT F h' tk hvs hT ht hm k=>?_;obtain⟨x',y',hx',hy',rfl⟩:=hvs;have ex:x'=u:=BE (hx'.symm.trans ((FM ..).trans hu));have ey:y'=v:=BE (hy'.symm.trans ((FM ..).trans hv));subst ex ey;refine⟨.ref T,rfl,W.go elts kk tp i T _ _ _ hm λO C k2=>?_⟩;have kk2:∀b o,b∉[z,TI,TO,g,j]->s.heap.get? b=some o->O.get? b=some o:=λc o f ec=>by
   have n4:c∉[z,TO,g,j]:=λm=>f (by
    simp only[AQ,CH,or_false]at m⊢;exact m.imp_right .inr)
   exact k2 c o n4 (k c o n4 ec)
  have hT2:O.IsTuple T #[x',y']:=ht.at λo e=>k2 T o (W.apart i T h' hm) e;have G:∀c∈[z,TI,TO,g,j],∃B,s.heap.get? c=some B:=λc f=>by
   obtain⟨u3,v3,S⟩:=s3;obtain⟨o4,U,_⟩:=oI _ _ _ _ Y;obtain⟨o5,V,_⟩:=oJ _ _ _ _ Z;simp only[AQ,CH,or_false]at f;rcases f with rfl | rfl | rfl | rfl | rfl
   .exact⟨_,s1⟩
   .exact⟨_,s2⟩
   .exact⟨_,S⟩
   .exact⟨_,U⟩
   .exact⟨_,V⟩
  refine⟨.ref T,HZ H T (.tup [x,y]),I.turnLaid (fp:=[z,TI,TO,g,j]) kk2 R G hT ⟨?_,[x',y'],.cons ru (.cons rv' .nil),hT2⟩,rfl,⟨T,x,y,rfl,I.hok.fresh hT,rfl,λzs hz=>by rw[uI _ _ _ _ _ _ _ _ J I hz hq];exact hx,λzs hz=>by rw[uJ _ _ _ _ _ _ _ _ J I hz hr];exact hy⟩,⟨C.1,C.2.1,C.2.2.1,C.2.2.2.1,C.2.2.2.2.1⟩,λc f=>?_⟩
  .show 2<=sizeLine;decide
  .obtain⟨B,eb⟩:=G c f;rw[B6 (A_ (BJ (AJ eb) hT))];exact(R c f).1
 done:=by
  intro X hP hw J t i d s σ H E I R st hg;subst hP hw;obtain⟨xs,ys,hq,hr,L,hx⟩:=hg;obtain⟨its,rv,p⟩:=gI _ _ _ _ _ _ _ J I hq;obtain⟨M,D,p'⟩:=gJ _ _ _ _ _ _ _ J I hr;have hl:=rv.length;have N:=D.length;have W:=WI X.A (I.ok.hd t) its.toArray M.toArray (by rw[AO,AO,<-hl,<-N];exact L);have hi:i=its.toArray.size:=by rw[AO,<-hl,hx]
  obtain⟨s1,s2,s3,Y,Z⟩:=id st;rw[hi]at Y Z;refine W.done s _ _ ⟨s1,s2,s3,Y,Z,p,p'⟩ λh' tk k=>⟨rfl,?_⟩;have nf:∀b u,H b=some u->b∉[z,TI,TO,g,j]:=λb u e hb=>by rw[(R b hb).1]at e;cases e
  have k':∀c o,c∉[z,TI,TO,g,j]->s.heap.get? c=some o->h'.get? c=some o:=λc o f ec=>k c o (λm=>f (by
    simp only[AQ,CH,or_false]at m⊢;exact m.imp_right .inr)) ec
  refine I.step (h':=h') (H':=H) (t':=tk) (g':=s.gens) (d':=s.drawn) (ch:=[z,TI,TO,g,j]) (λb hb=>let⟨_,f1,_,f3,f4,f5⟩:=R b hb;⟨f3,f1,f4,f5⟩) (λb B _ _ t e _=>k' b B t e) (λb B _ _ t e _=>⟨B.slots,k' b B t e⟩) (λ_ _ _ _ n=>n)
   (λb B t e=>⟨B,k' b B t e⟩) (λ_ _ e=>e) (λ_ _ _ e=>e) (λb ps e=>⟨#[],by rw[e];simp⟩) (λm hm=>?_) (λb u eb=>?_) I.bare
  .obtain⟨B,es,ep,ho,r⟩:=hm;exact⟨B,es,ep,k' _ B (λhb=>(R _ hb).2.1 rfl) ho,r⟩
  .refine(I.hok b u eb).stay (λc v t q=>k' c v ?_ q) (λ_ q=>q) λ_ _ q=>q;rcases t with z | z
   .rw[z];exact nf b u eb
   .exact nf c _ z
 self:=λA i s Q E st h=>HS st.1 h
theorem Nu(z TI TO n q a b:A3)(D:ZipApart z TI TO n q a b):MD P w K (.Tuple elts kk tp) (Zt (IG K) (IG K) a b) [z,TI,TO,n,q] z (Ow Heap.IsListIter Heap.IsListIter z TI TO n q a b) :=
 Fg (isq:=Heap.IsList) (isr:=Heap.IsList) (λh c l i ⟨o,e,_,d⟩=>⟨o,e,λv z=>by rw[d]at z;cases z⟩) (λh y c l i z k=>z.at k) (λh c l i ⟨o,e,_,d⟩=>⟨o,e,λv z=>by rw[d]at z;cases z⟩) (λh y c l i z k=>z.at k)
  (λX f σ H s c r g I j=>by subst g;obtain⟨m,t,p,_⟩:=I.list j;exact⟨m,t,p.isList⟩) (λX f σ H s c r u g I j x=>by subst g;exact I.list_inj j x) (λX f σ H s c r g I j=>by subst g;obtain⟨m,t,p,_⟩:=I.list j;exact⟨m,t,p.isList⟩) (λX f σ H s c r u g I j x=>by subst g;exact I.list_inj j x)
  z TI TO n q a b λA B r u C=>by
   have W:=WalksT.zip2 (prog:=P) (w:=w) B z TI TO n q a b D r u
   rwa [FA C]at W
theorem Qo(z TI TO n q a b:A3)(D:ZipApart z TI TO n q a b):MD P w K (.Tuple elts kk tp) (Zt (IG K) (IW K) a b) [z,TI,TO,n,q] z (Ow Heap.IsListIter Heap.IsTupleIter z TI TO n q a b) :=
 Fg (isq:=Heap.IsList) (isr:=Heap.IsTuple) (λh c l i ⟨o,e,_,d⟩=>⟨o,e,λv z=>by rw[d]at z;cases z⟩) (λh y c l i z k=>z.at k) (λh c l i ⟨o,e,_,d⟩=>⟨o,e,λv z=>by rw[d]at z;cases z⟩) (λh y c l i z k=>z.at k)
  (λX f σ H s c r g I j=>by subst g;obtain⟨m,t,p,_⟩:=I.list j;exact⟨m,t,p.isList⟩) (λX f σ H s c r u g I j x=>by subst g;exact I.list_inj j x) (λX f σ H s c r g I j=>by subst g;obtain⟨m,t,p,_⟩:=I.tuple j;exact⟨m,t,p⟩) (λX f σ H s c r u g I j x=>by subst g;exact I.tuple_inj j x)
  z TI TO n q a b λA B r u C=>Yu B z TI TO n q a b D r u C
end
section
variable{X:Cx}{elts:A1 IE}{kk:Nat}{tp:Pos}
def zEp(K:PySem.W.Frag)(R:It->Hp->Prop)(a b:A3)(xs ys:A1 V)(H:Hp):Prop:=IG K H a xs/\IG K H b ys/\R (Zt (IG K) (IG K) a b) H\/IG K H a xs/\IW K H b ys/\R (Zt (IG K) (IW K) a b) H
def zCl(K:PySem.W.Frag)(c:TA):TI:=λσ H R=>c σ H λd e=>∃a b f g,d = [.ref a,.ref b]/\zEp K R a b f g e
theorem Xz{a b:IE}{L:TA}{p pos:Pos}(N:Gl X "zip")(O:X.mg "zip" = none)(P:PA X [a,b] L)(Q:starEach [a,b] X.env =(false,eval a X.env)::starEach [b] X.env:=by rfl)(t:(backTo pos (starEach [b] X.env)).any (·.1)=false:=by rfl):PI X (.Tuple elts kk tp) (.Call (.Name "zip" p) [a,b] [] pos) (zCl X.K L):=by
 intro f s σ H R I h;refine Call_ (q0 I N O Zp (PyProof.Rows.callWith_type1 (IY (P pos f s σ H _ I h) λus d ⟨vs,w,g,S,T⟩=>?_) Q t));obtain⟨l,m,xs,ys,e,q⟩:=T;subst e;obtain⟨u,v,rfl,U,V⟩:=S.two;cases U;cases V;have i:∀c∈[d.heap.objs.size+4,d.heap.objs.size+2,d.heap.objs.size+3,d.heap.objs.size,d.heap.objs.size+1],Di X f w c:=λc M=>by
  have j:d.heap.objs.size<=c:=by
   simp only[AQ,CH,or_false]at M;rcases M with rfl | rfl | rfl | rfl | rfl
   .exact ER ..
   .exact ER ..
   .exact ER ..
   .exact Nat.le_refl _
   .exact ER ..
  exact g.fpOk j (g.hok.fresh j)
 rcases q with⟨x,y,q⟩ | ⟨x,y,q⟩
 .obtain⟨z,W,n,Y⟩:=g.list x;obtain⟨A,Z,o,B⟩:=g.list y;have C:l<d.heap.objs.size:=by obtain⟨_,e,_⟩:=n.isList;exact AJ e
  have D:m<d.heap.objs.size:=by obtain⟨_,e,_⟩:=o.isList;exact AJ e
  refine call_zip_2 n.isList o.isList λh' r E F G J hsz k=>HS r ?_;exact⟨d.heap.objs.size+4,_,_,_,w,rfl,g.kept (t':=d.toks) k,Nu _ _ _ _ _ l m (zipApart_new C D),⟨r,E,⟨_,_,F⟩,G,J⟩,i,q⟩
 .obtain⟨z,W,n,Y⟩:=g.list x;obtain⟨A,Z,o,B⟩:=g.tuple y;have C:l<d.heap.objs.size:=by obtain⟨_,e,_⟩:=n.isList;exact AJ e
  have D:m<d.heap.objs.size:=by obtain⟨_,e,_⟩:=id o;exact AJ e
  refine Rq n.isList o λh' r E F G J k=>HS r ?_;exact⟨d.heap.objs.size+4,_,_,_,w,rfl,g.kept (t':=d.toks) k,Qo _ _ _ _ _ l m (zipApart_new C D),⟨r,E,⟨_,_,F⟩,G,J⟩,i,q⟩
variable(K:PySem.W.Frag)
theorem zGl{a b:IE}{d:TA}{p pos:Pos}(e:X.mg "zip" = none)(f:PA X [a,b] d)(g:Gl X "zip":=by rfl)(h:starEach [a,b] X.env =(false,eval a X.env)::starEach [b] X.env:=by rfl)(c:(backTo pos (starEach [b] X.env)).any (·.1)=false:=by rfl)(i:X.K=K:=by rfl):PI X (.Tuple elts kk tp) (.Call (.Name "zip" p) [a,b] [] pos) (zCl K d):=by subst i;exact Xz g e f h c
end
def zBq(i:Nat)(f:A3)(sp:Sp)(E:XK)(t:TA):TE:=λσ H Q=>σ[i]?=some (some (.ref f))/\Xv sp [] E t σ H Q
section
variable{X:Cx}{CX:RF}{k:Nat}{f:A3}{fd:IS}{ps:A1 Str}{sp:Sp}{x:Str}{e:IE}{es:A1 IE}{t:TA}{p pos:Pos}{E:XK}{ds:A1 A2}
theorem Uz{i:Nat}(F:IJ X.prog X.w X.K X.mg X.base CX k f fd ps sp)(l:JD k X.A)(m:PySem.W.keepIn X.K (.ref f)=true)(n:Binds X.K fd ps [])(o:o8 CX X E)
  (y:PA X (e::es) t) (z:X.N[i]?=some x:=by rfl) (B:TD X.env.scope x:=by first | exact Or.inl rfl | exact Or.inr (Or.inl rfl) | exact Or.inr (Or.inr rfl)) (b:(x ==("__debug__":Str))=false:=by decide) (c:(x ==("__classdict__":Str))=false:=by decide)
  (C:starEach (e::es) X.env =(false,eval e X.env)::starEach es X.env:=by rfl) (d:(backTo pos (starEach es X.env)).any (·.1)=false:=by rfl) :
  PE X (.Call (.Name x p) (e::es) [] pos) (zBq i f sp E t):=by
 intro a s σ H Q I h;obtain⟨D,h⟩:=h;refine ES (IY (Wt (i:=i) (pos:=p) z B b c a s σ H (λv G=>v = .ref f/\G=H) I ⟨_,D,rfl,rfl⟩) λu J ⟨v,L,g,M,O,P⟩=>?_);subst O P;cases M;refine PySem.W.callWith_K (h₀:=X.base) g.ok.mod.kin m (IY (y pos a J σ L _ g h) λR S ⟨T,U,j,r,q⟩=>⟨j.kIn,?_⟩) C d;exact Lj F l n .nil o j r q
end
def Kt(v d:A3):HO:=.ext λh=>h.IsValuesView v d
def Itv(d:A3)(o:Obj)(a:A1 (IU×V)):It :=
 ⟨λi H=>H d=some (.frz o (.dK a))/\i<a.length,λi H x b=>b=H/\∃k,a[i]?=some (k,x),λi H=>H d=some (.frz o (.dK a))/\a.length<=i⟩
def KV.atV{c:A1 (IU×V)}{vs:A1 (IU×A2)}(h:KV c vs):∀{i:Nat} {k:IU} {v:V},c[i]?=some (k,v)->∃u,vs[i]?=some (k,u)/\RelV v u:=by
 induction h with
 | nil=>intro i k v e;rw[List.getElem?_nil]at e;cases e
 | cons r _ d =>
  intro i k v e;cases i with
  | zero =>
   rw[List.getElem?_cons_zero]at e⊢;cases e;obtain⟨a,b⟩:=r;exact⟨_,by rw[show k=_ from a],b⟩
  | succ i=>exact d e
section
variable{X:Cx}{tg:IE}
def zEu(d:TE):TE:=λσ H Q=>d σ H λx b=>∃a c,x = .ref a/\b a=some (.dK c)/\∀v,b v=none->Q (.ref v) (HZ b v (Kt v a))
theorem Oe{o:IE}{c d:Pos}{m:TE}(t:PE X o m)(f:attributeBase o "values" X.env (eval o X.env)=eval o X.env:=by rfl)(g:(c.endLine == d.line)=true:=by rfl):PE X (.Call (.Attribute o "values" c) [] [] d) (zEu m):=by
 intro i s σ H Q I h;refine wpAny_Call_method0_late f g (IY (t i s σ H _ I h) λv n ⟨x,u,j,y,a,l,A,p,B⟩=>?_);subst A;obtain rfl:v=Value.ref a:=y;obtain⟨z,C,D,E,q⟩:=Yb j.hok p;obtain⟨G,J,_⟩:=Zy j (.inl ⟨l,.inl p⟩);refine⟨"dict", "dict.values",PySem.F.plainAttrs_dict,PySem.F.slot_dict_values,PySem.F.type_dict_values,G,J,Calls.callWith_builtin rfl (PySem.evalArgs_none ?_)⟩;refine call_meetsIn PySem.F.slot_dict_values q.typeIs PySem.F.entry_dict_values (PySem.F.args_dict_values_1 _) (meets_dict_values (C4 X.prog X.w) a C) ⟨⟨D,q⟩,?_⟩;exact⟨.ref n.heap.objs.size,HZ u _ (Kt _ a),j.laid (t':=n.toks) (λb o K=>AD _ K) (Nat.le_refl _) ⟨⟨_,AN _ rfl,rfl,rfl⟩,⟨_,AN _ rfl⟩,λL M ⟨o,e,r⟩ k=>⟨o,k o e,r⟩⟩,rfl,B _ j.fresh⟩
theorem Rj{P:CM}{w:F8}{K:PySem.W.Frag}{d g:A3}{o:Obj}{a:A1 (IU×V)}{B:F1 DictEntry}{ep:Nat}(q:o.data = .dict B ep):MD P w K tg (Itv d o a) [g] g (λi h=>h.IsValIter g d i a.length ep) where
 mem:=by simp
 obj:=λi h st b j=>by
  have e:b=g:=by simpa using j
  subst e;obtain⟨o,e,c,d⟩:=st;exact⟨o,e,λv z=>by rw[d]at z;cases z⟩
 keep:=λi h t st k=>by
  obtain⟨o,e,r⟩:=st;exact⟨o,k g (by simp) o e,r⟩
 item:=by
  intro X C D F Z i f s σ H E I x st G;subst C D F;obtain⟨J,y⟩:=G;obtain⟨L,M,f2,N,O,Q⟩:=x g (by simp);obtain⟨m,hz,hS,R,r,ob,S,T,n,U,p,Y⟩:=(show IP X.prog X.w H s.heap d (.frz o (.dK a))from I.hok d _ J);rw[m]at n;cases n;rw[q]at p;cases p;have hx:a[i]?=some (a[i].1,a[i].2):=AC y;obtain⟨u,hu,ru⟩:=r.atV hx;have A:a.length=R.length:=r.length;rw[A]at st;refine wpAny_pyNext_values_item (knd:=C4 X.prog X.w) st ⟨o,B,m,U,q,Y⟩ hu λt l sb=>?_;have I1:Inv X f σ H { s with heap:=t }:=I.turned (t':=s.toks) (λb o j e=>(sb.2 b j).trans e) L M N O Q;obtain⟨oi,ei,ci,di⟩:=id l;rw[<-A]at l;exact⟨u,rfl,Mp (s:={ s with heap:=t }) ei ci di (by decide) ⟨a[i].2,H,I1,ru,⟨rfl,_,hx⟩,l,λb j=>(x b j).1⟩⟩
 done:=by
  intro X C D F Z i f s σ H E I x st G;subst C D F;obtain⟨J,y⟩:=G;obtain⟨L,M,f2,N,O,Q⟩:=x g (by simp);obtain⟨m,hz,hS,R,r,ob,S,T,n,U,p,Y⟩:=(show IP X.prog X.w H s.heap d (.frz o (.dK a))from I.hok d _ J);rw[m]at n;cases n;rw[q]at p;cases p;have A:a.length=R.length:=r.length;rw[A]at st y;exact wpAny_pyNext_values_end (knd:=C4 X.prog X.w) (I.ok.hd Z) st ⟨o,B,m,U,q,Y⟩ (EQ y) λt eb=>⟨rfl,I.turned (t':=s.toks) (λb o j e=>eb b o j e) L M N O Q⟩
 self:=λ_ _ _ _ _ st h=>wpAny_pyIter_valiter st h
def zFs(c:TE):TI:=λσ H R=>c σ H λx b=>∃v d a,x = .ref v/\b v=some (Kt v d)/\b d=some (.dK a)/\∀o,R (Itv d o a) (HZ b d (.frz o (.dK a)))
theorem zCb{l:IE}{t:TE}(j:PE X l t):PI X tg l (zFs t):=by
 intro c s σ H R I h;refine IY (j c s σ H _ I h) λv s1 ⟨x,g,k,D,E⟩=>?_;obtain⟨m,d,a,e,F,y,q⟩:=E;subst e;cases D;obtain⟨f,_⟩:=(show IP X.prog X.w g s1.heap m (Kt m d)from k.hok m _ F);obtain⟨G,J,z,r,o,A,ep,i,B,n,C⟩:=(show IP X.prog X.w g s1.heap d (.dK a)from k.hok d _ y);have p:Inv X c σ (HZ g d (.frz o (.dK a))) { s1 with heap:=s1.heap,toks:=s1.toks }:=k.write (t':=s1.toks) (by rw[y];trivial) (.inl rfl) (λb u _ e=>e) ⟨_,i⟩ ⟨i,G,J,z,r,o,A,ep,i,B,n,C⟩;have j:a.length=z.length:=r.length;refine wpAny_pyIter_values (knd:=C4 X.prog X.w) (ep:=ep) f ⟨o,A,i,B,n,C⟩ ?_;refine⟨s1.heap.objs.size,[s1.heap.objs.size],_,_,HZ g d (.frz o (.dK a)),rfl,p.kept (t':=s1.toks) λb o e=>AD _ e,Rj n,?_,λb K=>?_,q o⟩
 .rw[j];exact⟨_,AN _ rfl,rfl,rfl⟩
 have e:b=s1.heap.objs.size:=by simpa using K
 subst e;exact p.fpOk (Nat.le_refl _) (p.hok.fresh (Nat.le_refl _))
theorem Af(ns:A1 Int):∀{n:Nat},n<=ns.length->preSum (λi=>ns.getD i 0) n =(ns.take n).sum
 | 0,_=>rfl
 | n+1,h=>by
  have e:ns[n]?=some ns[n]:=AC (by omega);show preSum (λi=>ns.getD i 0) n+ns.getD n 0=_;rw[Af ns (by omega),List.take_succ,List.sum_append,AM,e];simp
def zEn:A1 V->Hp->VK->Prop:=λc H Q=>∃(v d:A3) (a:A1 (IU×V)) (b:A1 Int),c = [.ref v]/\H v=some (Kt v d)/\H d=some (.dK a)/\(a.map λq=>q.2)=b.map V.int/\Q (.int b.sum) H
theorem Zi(F:X.calm=true:=by rfl):J8 X (.builtin "sum") zEn:=by
 intro p s σ H N O Q I r h;obtain⟨v,d,a,c,rfl,G,J,x,q⟩:=h;obtain⟨u,rfl,j⟩:=U6 r;cases j;obtain⟨f,_⟩:=(show IP X.prog X.w H s.heap v (Kt v d)from I.hok v _ G);obtain⟨P,R,g,r,o,y,ep,m,z,A,B⟩:=(show IP X.prog X.w H s.heap d (.dK a)from I.hok d _ J);have S:a.length=g.length:=r.length;have K:a.length=c.length:=by have:=congrArg List.length x;rw[AB,AB]at this;exact this
 refine call_sum_walkG (wpAny_pyIter_values (knd:=C4 X.prog X.w) (ep:=ep) f ⟨o,y,m,z,A,B⟩ ?_);have n:d≠s.heap.objs.size:=A_ (AJ m);refine⟨s.heap.objs.size,_,_,g.length,_,_,λi=>c.getD i 0,rfl,Walks.dictValues (knd:=C4 X.prog X.w) (by simp only[Around.in1_handled];exact I.ok.hd F) s.heap.objs.size d n g ep,⟨⟨_,AN _ rfl,rfl,rfl⟩,o,y,AD _ m,z,A,B⟩,λb hb=>?_,λi u ⟨k,C⟩=>?_,λT L t' M=>⟨.int c.sum,H,I.kept (t':=L) λb o e=>M b o (by simpa using A_ (AJ e)) (AD _ e),⟨t',?_⟩,q⟩⟩
 .rw[CU];rcases AQ.mp hb with rfl | hb
  .exact EB _
  .rw[AE.mp hb];exact DE (AJ m)
 .have U:i<g.length:=(AF.mp C).1;have D:a[i]?=some (a[i].1,a[i].2):=AC (by omega);obtain⟨W,E,j⟩:=r.atV D;rw[C]at E;cases E;have e:=congrArg (λl=>l[i]?) x;rw[AH,AH,D,AC (by omega:i<c.length)]at e;have e:a[i].2=V.int c[i]:=BE e;rw[e]at j;obtain⟨t,rfl⟩:=j;exact⟨t,by show Value.int c[i] t=Value.int (c.getD i 0) t;rw[AM,AC (by omega:i<c.length)];rfl⟩
 .have:preSum (λi=>c.getD i 0) g.length=c.sum:=by
   rw[Af _ (by omega),CK (by omega)]
  rw[this]
end
section
variable{X:Cx}
theorem zEj:PIp X .BitOr (ipI λi j=>Builtin.bitOr i j):=by
 intro a s σ H x y v u Q I b c h;obtain⟨i,j,d,e,q⟩:=h;subst d;subst e;obtain⟨t,rfl⟩:=b;obtain⟨f,rfl⟩:=c;exact ior_int ⟨.int _,H,I.tok _,⟨_,rfl⟩,q⟩
end
section
variable{X:Cx}{tg:IE}
def zEb(c:TE):TI:=λσ H R=>c σ H λx b=>∃d a,x = .ref d/\Rd b d (.dK a)/\∀o,R (Itd d o a) (HZ b d (.frz o (.dK a)))
theorem Tv{H:Hp}{d:A3}{o:HO}(h:H d=some o):HZ H d o=H:=funext λb=>by
 by_cases e:b=d
 .subst e;rw[A9,h]
 .rw[B6 e]
theorem Xo{l:IE}{D:TE}(B:PE X l D):PI X tg l (zEb D):=by
 intro i s σ H R I h;refine IY (B i s σ H _ I h) λv s1 ⟨x,z,A,E,F⟩=>?_;obtain⟨d,a,e,j,q⟩:=F;subst e;cases E;obtain⟨o,C,t,m,c,r,f,ep,g,n,k,p⟩:∃o,Inv X i σ (HZ z d (.frz o (.dK a))) { s1 with heap:=s1.heap,toks:=s1.toks }/\a.length<=sizeLine/\(d == sysModules)=false/\∃c,KV a c/\∃f ep,s1.heap.get? d=some o/\o.ExactDict/\o.data = .dict f ep/\(PySem.KeysOf (C4 X.prog X.w) f/\Pairs (C4 X.prog X.w) f.toList c/\(c.map (·.1)).Nodup):=by
  rcases j with j | ⟨o,j⟩
  .obtain⟨t,m,c,r,o,f,ep,g,n,k,p⟩:=(show IP X.prog X.w z s1.heap d (.dK a)from A.hok d _ j);exact⟨o,A.write (t':=s1.toks) (by rw[j];trivial) (.inl rfl) (λb u _ e=>e) ⟨_,g⟩ ⟨g,t,m,c,r,o,f,ep,g,n,k,p⟩,t,m,c,r,f,ep,g,n,k,p⟩
  .obtain⟨g,t,m,c,r,J,f,ep,y,n,k,p⟩:=(show IP X.prog X.w z s1.heap d (.frz o (.dK a))from A.hok d _ j);rw[g]at y;cases y;exact⟨o,by rw[Tv j];exact A,t,m,c,r,f,ep,g,n,k,p⟩
 have B:a.length=c.length:=r.length;refine wpAny_pyIter_dict (knd:=C4 X.prog X.w) (ep:=ep) m ⟨o,f,g,n,k,p⟩ ?_;refine⟨s1.heap.objs.size,[s1.heap.objs.size],_,_,HZ z d (.frz o (.dK a)),rfl,C.kept (t':=s1.toks) λb o e=>AD _ e,Qc k,?_,λb G=>?_,q o⟩
 .rw[B];exact⟨_,AN _ rfl,rfl,rfl⟩
 have e:b=s1.heap.objs.size:=by simpa using G
 subst e;exact C.fpOk (Nat.le_refl _) (C.hok.fresh (Nat.le_refl _))
end
def j9{a b:A3}{n:Nat}(h1:a<n)(h2:n<=b):b≠a:=λz=>by subst z;exact absurd h2 (Nat.not_le_of_lt h1)
section
variable{fs ex:A1 A3}{H:Hp}{h h':IA}{a:A3}
theorem LT.table{P:CM}{w:F8}{f g:F1 A2}(i:LT P w H h)(j:H a=some (.tbl f))(k:∀b u,b≠a->h.get? b=some u->h'.get? b=some u)(l:h'.get? a=some { cls:=.none,data:=.fields g }):LT P w (HZ H a (.tbl g)) h':=λb u q=>by
 by_cases d:b=a
 .subst d;rw[A9]at q;cases q;exact l
 .rw[B6 d]at q;have n:∀c o,H c=some o->o≠ .tbl f->c≠a:=λc o e m z=>by rw[z,j]at e;cases e;exact m rfl
  refine(i b u q).stay (λc v hc r=>k c v ?_ r) (λc r=>by rw[B6 (n c _ r (by intro z;cases z))];exact r) λc p r=>by rw[B6 (n c _ r (by intro z;cases z))];exact r
  rcases hc with rfl | hc
  .exact d
  .exact n c _ hc (by intro z;cases z)
end
section
variable{P:CM}{w:F8}{fs ex:A1 A3}{H H':Hp}{h h':IA}{a:A3}{o:HO}
theorem Un.more{p:A3}{g more:F1 A2}(c:H p=some (.tbl g))(d:H' p=some (.tbl (g++more)))(a:∀b o,H b=some o->b≠p->H' b=some o)(f:∀b,b<h.objs.size->H b=none->H' b=none)
  (k:∀b u,b≠p->h.get? b=some u->h'.get? b=some u) (j:∃u,h'.get? p=some u):Un fs ex H H' h h':=by
 have i:∀b,H b=none->b≠p:=λb n e=>by rw[e,c]at n;cases n
 refine⟨λb u q n _ _=>k b u (i b n) q,λb u q n _ _=>⟨u.slots,k b u (i b n) q⟩,λb u q n _=>f b (AJ q) n,λb u q _=>?_,λb l q=>a b _ q λe=>?_,λb o u q=>a b _ q λe=>?_,λb m q=>?_⟩
 .by_cases e:b=p
  .subst e;exact j
  .exact⟨u,k b u e q⟩
 .rw[e,c]at q;cases q
 .rw[e,c]at q;cases q
 .by_cases e:b=p
  .subst e;rw[c]at q;cases q;exact⟨more,d⟩
  .exact⟨#[],by rw[a b _ q e];simp⟩
theorem LT.track(x:LT P w H h)(f:H a=none)(d:IP P w (HZ H a o) h a o):LT P w (HZ H a o) h:=λb u e=>by
 by_cases g:b=a
 .subst g;rw[A9]at e;cases e;exact d
 .rw[B6 g]at e;exact(x b u e).stay (λc v _ q=>q) (λc q=>by rw[B6 (B2 q f)];exact q) λc i q=>by rw[B6 (B2 q f)];exact q
end
def KZ(c:A3)(q:Str):HO:=.ext λh=>h.CodeRec (.ref c) q
def NE(f c:A3)(q:Str)(a:Arguments)(b:IE)(d:JB)(cl:A1 (Str×A3)):HO:=.ext λh=>∃e g,h.get? f=some (PySem.W.kla_obj "<lambda>" q a b d cl e c g)
def KZ.ok{P:CM}{w:F8}{H:Hp}{h:IA}{c:A3}{q:Str}(r:h.CodeRec (.ref c) q):IP P w H h c (KZ c q):=by
 have g:=r;obtain⟨i,o,b,t,e,a,d,f⟩:=r;cases e;refine⟨g,⟨o,a⟩,λl m j k=>?_⟩;obtain⟨i,o,b,t,e,a,d,f⟩:=j;cases e;exact⟨c,o,b,t,rfl,k o a,d,f⟩
def NE.ok{P:CM}{w:F8}{H:Hp}{h:IA}{f c:A3}{q:Str}{d:Arguments}{b:IE}{g:JB}{cl:A1 (Str×A3)}{a ct:A2}(r:h.get? f=some (PySem.W.kla_obj "<lambda>" q d b g cl a c ct)):IP P w H h f (NE f c q d b g cl) :=
 ⟨⟨a,ct,r⟩,⟨_,r⟩,λi j ⟨a,ct,e⟩ k=>⟨a,ct,k _ e⟩⟩
def P0(cells:A1 (Str×A3)):A1 (Str×JT)->A1 (Str×A3)->A1 (Str×A3)
 | [],a=>a
 | (n,k)::r,a=>P0 cells r (if(k == NameKind.free)=true then(n,(cells.lookup n).getD 0)::a else a)
def g7{b:JB}{a:P_}(h:∀x∈b.names,x.2 = .free->(a.cells.lookup x.1).isSome=true):closureFor b a=pure (P0 a.cells b.names []):=by
 have g:∀(l:A1 (Str×JT)) (f:A1 (Str×A3)),(∀x∈l,x.2 = .free->(a.cells.lookup x.1).isSome=true) ->
   (forIn (m:=Sem) l f λx i=>match x with
    | (name,j)=>if(j == NameKind.free)=true then do
      let d <-cellOf a name
      pure (ForInStep.yield ((name,d)::i))
     else pure (ForInStep.yield i))=pure (P0 a.cells l f):=by
  intro l
  induction l with
  | nil=>intro f _;rfl
  | cons x r s =>
   obtain⟨n,k⟩:=x;intro f o;rw[HC];by_cases e:(k == NameKind.free)=true
   .have u:k = .free:=eq_of_beq e;obtain⟨c,t⟩:=DY.mp (o (n,k) (BH ..) u);have p:cellOf a n=pure c:=by
     unfold cellOf;rw[show List.lookup n a.cells=some c from t]
    simp only[e,FD,p,pure_bind];rw[s _ λy q=>o y (AU _ q)];show _=pure (P0 a.cells r (if(k == NameKind.free)=true then(n,(a.cells.lookup n).getD 0)::f else f));rw[AK e,show List.lookup n a.cells=some c from t];rfl
   .simp only[e,AV,CN,pure_bind];rw[s _ λy q=>o y (AU _ q)];show _=pure (P0 a.cells r (if(k == NameKind.free)=true then(n,(a.cells.lookup n).getD 0)::f else f));rw[AI e]
 unfold closureFor;simp only[g b.names [] h,pure_bind]
def Bm{pos q:Pos}{c:A2}:∀(l:A1 A2),TriplesOk l->¬(pos.line=q.line/\pos.col=q.col)->codeAmong q (l ++ [rawInt pos.line,rawInt pos.col,c])=codeAmong q l
 | [],_,n=>by
  show(if((pos.line:Int) ==(q.line:Int) &&(pos.col:Int) ==(q.col:Int))=true then some c else none)=none;rw[AI];intro z;rw[BI,beq_iff_eq,beq_iff_eq]at z;exact n ⟨by omega,by omega⟩
 | .int a _ :: .int b _::x::r,h,n=>by
  show(if(a ==(q.line:Int)&&b ==(q.col:Int))=true then some x else codeAmong q (r ++ [rawInt pos.line,rawInt pos.col,c]))=if(a ==(q.line:Int)&&b ==(q.col:Int))=true then some x else codeAmong q r
  rw[Bm r h n]
def G7(H:Hp)(P:A3)(ls:A1 (Pos×Str)):Prop:=∃a,H P=some (.tbl a)/\TriplesOk a.toList/\∀l∈ls,codeAmong l.1 a.toList=none\/∃c,codeAmong l.1 a.toList=some (.ref c)/\H c=some (KZ c l.2)
structure TabAt(K:PySem.W.Frag)(mg:Str->A5 A2)(c P:A3):Prop where
 hd:∀h:IA,K.In h->PySem.W.CodeHd h c P
 ne:mainGlobals≠P
def zGh(P:A3)(ls:A1 (Pos×Str))(cl:A1 (Str×A3))(q:Str)(e:Arguments)(b:IE)(g:JB):TE:=λ_ H Q=>G7 H P ls/\∀f c d,H f=none->G7 d P ls->d c=some (KZ c q)->d f=some (NE f c q e b g cl)->f≠P->(∀a o,H a=some o->a≠P->d a=some o)->Q (.ref f) d
section
variable{X:Cx}
theorem zBa{args:Arguments}{f:IE}{a:JB}{pos:Pos}{c P:A3}{ls:A1 (Pos×Str)}(T:TabAt X.K X.mg c P)(U:X.base.BuiltinsAt X.mg P)(V:X.env.code = .ref c)(hd1:args.defaults = [])(hd2:args.kw_defaults = [])
  (r:∀x∈a.names,x.2 = .free->X.env.scope.names.lookup x.1=some .cell) (hl:(pos,X.env.qual ++ "<lambda>")∈ls) (hu:∀l∈ls,∀l'∈ls,l.1.line=l'.1.line->l.1.col=l'.1.col->l=l') :
  PE X (.Lambda args f a pos) (zGh P ls (P0 X.env.cells a.names []) (X.env.qual ++ "<lambda>") args f a):=by
 intro pins s σ H Q I h;obtain⟨⟨A,C,D,B⟩,q⟩:=h;have E:defaultsOf args X.env =([],[]):=by
  cases args;cases hd1;cases hd2;rfl
 rw[arm_eval_Lambda,E];refine AA (AG (AA (BX (AG ?_))));have v:s.heap.get? P=some (PySem.W.tabObj A):=I.hok P _ C;have r:∀x∈a.names,x.2 = .free->(X.env.cells.lookup x.1).isSome=true:=λx hx e=>by
  obtain⟨c,V⟩:=I.ok.has x.1 (.inl (r x hx e));rw[V];rfl
 have F:s.heap.Ns mainGlobals X.mg:=I.mod.glob.keeps I.bk;have U:s.heap.BuiltinsAt X.mg P:=let⟨bm,o,h1,Y,h3,h4,h5,h6⟩:=U;⟨bm,o,h1,Y,h3,h4,I.bk _ _ h5,h6⟩;rcases B _ hl with e | ⟨d,e,hc'⟩
 .refine PySem.W.kla_makeFunction (g7 r) I.ok.glob F V (T.hd _ I.kIn) v D e T.ne U λd m g tk xb le Z cr eP=>?_;have w:P<s.heap.objs.size:=AJ v;have G:d≠P:=j9 w le;have p:g.objs.size≠P:=j9 w (Nat.le_trans le (DH Z));have J:g.objs.size≠d:=j9 Z (Nat.le_refl _);have L:H d=none:=I.hok.fresh le;have j:H g.objs.size=none:=I.hok.fresh (Nat.le_trans le (DH Z));have eO:(g.push (PySem.W.kla_obj "<lambda>" (X.env.qual ++ "<lambda>") args f a (P0 X.env.cells a.names []) ((X.mg "__name__").getD .none) d m)).get? g.objs.size=some (PySem.W.kla_obj "<lambda>" (X.env.qual ++ "<lambda>") args f a (P0 X.env.cells a.names []) ((X.mg "__name__").getD .none) d m):=AN _ rfl;have kk:∀b u,g.get? b=some u->(g.push (PySem.W.kla_obj "<lambda>" (X.env.qual ++ "<lambda>") args f a (P0 X.env.cells a.names []) ((X.mg "__name__").getD .none) d m)).get? b=some u:=λb u e=>AD _ e;generalize g.push (PySem.W.kla_obj "<lambda>" (X.env.qual ++ "<lambda>") args f a (P0 X.env.cells a.names []) ((X.mg "__name__").getD .none) d m)=Y at eO kk⊢;have k:∀b u,b≠P->s.heap.get? b=some u->Y.get? b=some u:=λb u n e=>kk b u (xb b u n e);have cr2:Y.CodeRec (.ref d) (X.env.qual ++ "<lambda>"):=by
   obtain⟨c1,o,vs,t,e1,ho,hd,hv⟩:=cr;exact⟨c1,o,vs,t,e1,kk _ _ ho,hd,hv⟩
  have M:=kk _ _ eP;have u1:HZ H P (.tbl (A ++ #[rawInt pos.line,rawInt pos.col,.ref d])) d=none:=by rw[B6 G];exact L
  have u2:HZ (HZ H P (.tbl (A ++ #[rawInt pos.line,rawInt pos.col,.ref d]))) d (KZ d (X.env.qual ++ "<lambda>")) g.objs.size=none:=by rw[B6 J,B6 p];exact j
  have N:=((I.hok.table C k M).track u1 (KZ.ok cr2)).track u2 (NE.ok eO);have O:HZ (HZ (HZ H P (.tbl (A ++ #[rawInt pos.line,rawInt pos.col,.ref d]))) d (KZ d (X.env.qual ++ "<lambda>"))) g.objs.size (NE g.objs.size d (X.env.qual ++ "<lambda>") args f a (P0 X.env.cells a.names [])) P=some (.tbl (A ++ #[rawInt pos.line,rawInt pos.col,.ref d])):=by rw[B6 p.symm,B6 G.symm,A9]
  have R:HZ (HZ (HZ H P (.tbl (A ++ #[rawInt pos.line,rawInt pos.col,.ref d]))) d (KZ d (X.env.qual ++ "<lambda>"))) g.objs.size (NE g.objs.size d (X.env.qual ++ "<lambda>") args f a (P0 X.env.cells a.names [])) d=some (KZ d (X.env.qual ++ "<lambda>")):=by rw[B6 J.symm,A9]
  have i:∀b o,H b=some o->b≠P->HZ (HZ (HZ H P (.tbl (A ++ #[rawInt pos.line,rawInt pos.col,.ref d]))) d (KZ d (X.env.qual ++ "<lambda>"))) g.objs.size (NE g.objs.size d (X.env.qual ++ "<lambda>") args f a (P0 X.env.cells a.names [])) b=some o:=λb o e n=>by
   rw[B6 (B2 e j),B6 (B2 e L),B6 n];exact e
  refine⟨.ref g.objs.size,_,I.un (Un.more C O i (λb lb n=>?_) k ⟨_,M⟩) N,rfl,q _ d _ j ⟨_,O,?_,λl ml=>?_⟩ R A9 p i⟩
  .rw[B6 (j9 lb (Nat.le_trans le (DH Z))).symm,B6 (j9 lb le).symm,B6 (by intro z;rw[z,C]at n;cases n)];exact n
  .rw[BO];exact TriplesOk_snoc _ _ _ _ D
  .rw[BO];by_cases el:l =(pos,X.env.qual ++ "<lambda>")
   .subst el;exact .inr ⟨d,codeAmong_snoc _ D e,R⟩
   .have ne:¬(pos.line=l.1.line/\pos.col=l.1.col):=λz=>el (hu l ml _ hl z.1.symm z.2.symm);rw[show(#[rawInt pos.line,rawInt pos.col,Value.ref d]:F1 A2).toList = [rawInt pos.line,rawInt pos.col,Value.ref d]from rfl,Bm _ D ne];rcases B l ml with z | ⟨cc,z,S⟩
    .exact .inl z
    .exact .inr ⟨cc,z,i _ _ S λy=>by rw[y,C]at S;cases S⟩
 .refine PySem.W.kla_makeFunctionHit (g7 r) I.ok.glob F V (T.hd _ I.kIn) v D e U λm g tk k le=>?_;have w:P<s.heap.objs.size:=AJ v;have p:g.objs.size≠P:=j9 w le;have j:H g.objs.size=none:=I.hok.fresh le;have i:∀b o,H b=some o->HZ H g.objs.size (NE g.objs.size d (X.env.qual ++ "<lambda>") args f a (P0 X.env.cells a.names [])) b=some o:=λb o e=>by rw[B6 (B2 e j)];exact e
  refine⟨.ref g.objs.size,_,I.laid (t':=tk) (λb u e=>AD _ (k b u e)) le (NE.ok (AN _ rfl)),rfl,q _ d _ j ⟨A,i _ _ C,D,λl ml=>?_⟩ (i _ _ hc') A9 p λb o e _=>i b o e⟩;rcases B l ml with z | ⟨cc,z,S⟩
  .exact .inl z
  .exact .inr ⟨cc,z,i _ _ S⟩
structure NA(X:Cx)(base':IA)(σ:St):Prop where
 val:∀(i:Nat) (x:Str) (v:V) (c:A3),X.N[i]?=some x->σ[i]?=some (some v)->X.env.scope.names.lookup x=some .cell->X.env.cells.lookup x=some c->∃u,RelV v u/\base'.IsCell c (some u)
 inj:∀x y c,X.env.cells.lookup x=some c->X.env.cells.lookup y=some c->x=y
 has:∀x,X.env.scope.names.lookup x=some .cell->∃c,X.env.cells.lookup x=some c
def Ay(X:Cx)(h:IA):IA:=Te h λb=>open Classical in if(X.base.get? b).isSome=true\/∃x,X.fn x=true/\X.env.cells.lookup x=some b then none else some (.own 0)
theorem Gf{h:IA}{b:A3}{o:Obj}(e:h.get? b=some o)(p:(X.base.get? b).isSome=true\/∃x,X.fn x=true/\X.env.cells.lookup x=some b):(Ay X h).get? b=some o:=y0 e (by rw[AK p])
theorem Kb{h:IA}{b:A3}{o:Obj}(e:(Ay X h).get? b=some o):h.get? b=some o/\((X.base.get? b).isSome=true\/∃x,X.fn x=true/\X.env.cells.lookup x=some b):=by
 obtain⟨c,a⟩:=Qa e;refine⟨c,Classical.byContradiction λz=>?_⟩;rw[AI z]at a;cases a
variable{pins:A1 (A3×Obj)}{σ:St}{H:Hp}{s:A4}
theorem Inv.wbs(I:Inv X pins σ H s){b:A3}{o:Obj}(e:X.base.get? b=some o):(Ay X s.heap).get? b=some o:=Gf (I.bk b o e) (.inl (by rw[e];rfl))
theorem Inv.wmod(I:Inv X pins σ H s):Mod X.K X.mg (Ay X s.heap):=by
 obtain⟨c,a,⟨g,h,d⟩,f⟩:=I.ok.mod;exact⟨c.keeps λb o e=>I.wbs e,a.keeps λb o e=>I.wbs e,⟨g,h.keeps λb o e=>I.wbs e,d⟩,f.keeps λb o e=>I.wbs e⟩
theorem Inv.cell_nofs(I:Inv X pins σ H s){x:Str}{c:A3}(a:X.fn x=true)(e:X.env.cells.lookup x=some c):c∉PP X.stack:=λz=>by
 rcases AQ.mp (I.stkSub c z)with y | y
 .exact I.cne x c e y
 .obtain⟨_,o,b,_⟩:=I.ok.funs.mem y;exact absurd (AJ b) (Nat.not_lt_of_le (I.ok.cab x c a e))
theorem Inv.wfuns(I:Inv X pins σ H s):s.heap.FunFrames (Ay X s.heap) X.stack:=by
 have a:∀l:A1 P_,(∀b∈PP l,b∈PP X.stack)->s.heap.FunFrames X.base l->s.heap.FunFrames (Ay X s.heap) l:=by
  intro l
  induction l with
  | nil=>intro _ _;trivial
  | cons e r f =>
   intro d g;obtain⟨i,⟨L,o,c,j,k,m⟩,n⟩:=g;have p:L∈PP X.stack:=d L (by unfold PP;rw[DV,c];exact BH);refine⟨i,⟨L,o,c,?_,k,m⟩,f (λb t=>d b (by unfold PP;rw[DV,c];exact AU _ t)) n⟩;cases q:(Ay X s.heap).get? L with
   | none=>rfl
   | some u =>
    rcases(Kb q).2 with z | ⟨x,z,y⟩
    .rw[j]at z;cases z
    .exact absurd p (I.cell_nofs z y)
 exact a X.stack (λ_ h=>h) I.stack
theorem Inv.wenv(I:Inv X pins σ H s):O_ X.prog X.w X.K X.mg (Ay X s.heap) X.A X.stack s H:=by
 refine⟨I.ok.frames,I.wmod,λb o e=>?_,Nat.le_of_eq (Gn _ _),I.wfuns,I.stkFree,I.hok,I.bare⟩;obtain⟨a,c⟩:=Kb e;refine⟨a,?_⟩;rcases c with z | ⟨x,_,y⟩
 .obtain⟨u,d⟩:=DY.mp z;exact(I.bs b u d).2
 .exact I.freeC x b y
theorem Inv.wcells(I:Inv X pins σ H s)(e:∀x,X.fn x=true):NA X (Ay X s.heap) σ:=by
 refine⟨λi x v c f g a b=>?_,I.ok.inj,λx h=>I.ok.has x (.inl h)⟩;obtain⟨m,_,h⟩:=I.loc;obtain⟨u,r,l⟩:=h i x v f g (.inr (.inl a));refine⟨u,r,?_⟩;rcases l with⟨z,_⟩ | ⟨_,n,d,o,j,k⟩
 .rw[show X.env.kindOf x=some .cell from a]at z;cases z
 .rw[b]at d;cases d;exact⟨o,Gf j (.inr ⟨x,e x,b⟩),k⟩
end
structure M_(N ps fr:A1 Str)(sc:JB):Prop where
 kind:sc.kind = .function
 co:sc.isCoroutine=false
 gen:sc.isGenerator=false
 eq:N=ps++fr
 nd:N.Nodup
 par:∀x∈ps,sc.names.lookup x=some .local
 fre:∀x∈fr,sc.names.lookup x=some .free
 nocell:∀y∈sc.names,y.2≠ .cell
 has:∀y∈sc.names,y.2 = .free->y.1∈fr
def Nq(P:CM)(w:F8)(K:PySem.W.Frag)(mg:Str->A5 A2)(base:IA)(N:A1 Str)(b:Str)(a:JB)(f:A3)(c:A2)(cl:A1 (Str×A3))(A:IC)(outer:A1 P_)(s:A4)(H:Hp):Cx where
 prog:=P
 w:=w
 K:=K
 mg:=mg
 base:=base
 A:=A.deeper (PySem.W.envX b a s.heap.objs.size f c cl)
 N:=N
 s₀:=s
 H₀:=H
 env:=PySem.W.envX b a s.heap.objs.size f c cl
 outer:=outer
 stack:=PySem.W.envX b a s.heap.objs.size f c cl::outer
 ex:=[]
 calm:=true
 fn:=λ_=>false
 pn:=[]
 xe:=λ_ _=>False
def Cj{us:A1 A2}:∀{a:A1 Str} {us:A1 A2} {i:Nat} {x:Str} {u:A2},a.Nodup->a[i]?=some x->us[i]?=some u->(a.zip us).reverse.lookup x=some u
 | [],_,_,_,_,_,h,_=>by simp at h
 | _::_,[],_,_,_,_,_,h=>by simp at h
 | p::a,w::us,0,x,u,d,b,c=>by
  simp at b c;subst b c;rw[HE,List.reverse_cons,List.lookup_append];have:(a.zip us).reverse.lookup p=none:=by
   rw[List.lookup_eq_none_iff];intro q f;have:=(HA (List.mem_reverse.mp f)).1;simp;intro e;exact(D_.mp d).1 (e▸this)
  rw[this];simp
 | p::a,w::us,i+1,x,u,d,b,c=>by
  rw[HE,List.reverse_cons,List.lookup_append,Cj (us:=us) (D_.mp d).2 (by simpa using b) (by simpa using c)];rfl
section
variable{P:CM}{w:F8}{K:PySem.W.Frag}{mg:Str->A5 A2}{base:IA}{N ps fr:A1 Str}{qual:Str}{scope:JB}{f c:A3}{cl:A1 (Str×A3)}{A:IC}{outer:A1 P_}{s:A4}{H:Hp}
structure P6(base:IA)(cl:A1 (Str×A3))(fr:A1 Str)(gs:A1 V):Prop where
 len:gs.length=fr.length
 val:∀(i:Nat) (x:Str) (v:V),fr[i]?=some x->gs[i]?=some v->∃c u,cl.lookup x=some c/\RelV v u/\base.IsCell c (some u)
 only:∀x c,cl.lookup x=some c->x∈fr
 inj:∀x y c,cl.lookup x=some c->cl.lookup y=some c->x=y
theorem Zg{us:A1 A2}{vs gs:A1 V}{h':IA}{J:Nat}(S:M_ N ps fr scope)(C:P6 base cl fr gs)(g:A.handled=none)(a:O_ P w K mg base A outer s H)(G:vs.length=ps.length)(r:II vs us)
  (ns:h'.Ns s.heap.objs.size λx=>(ps.zip us).reverse.lookup x) (k:∀b o,s.heap.get? b=some o->h'.get? b=some o) :
  Inv (Nq P w K mg base N qual scope f (.ref c) cl A outer s H) [] (vs.map some++gs.map some) H { s with heap:=h',toks:=J }:=by
 have j:∀x d,cl.lookup x=some d->∃u o,base.get? d=some o/\o.data = .cell (some u):=λx d e=>by
  obtain⟨i,q⟩:=DK.mp (C.only x d e);have t:i<gs.length:=by rw[C.len];exact(AF.mp q).1
  obtain⟨I,u,B,_,o,m,g⟩:=C.val i x gs[i] q (AC t);rw[e]at B;cases B;exact⟨u,o,m,g⟩
 have n:∀b:A3,b∉(Nq P w K mg base N qual scope f (.ref c) cl A outer s H).ex:=λb z=>absurd (show b∈([]:A1 A3)from z) (by simp);refine⟨⟨a.mod,S.kind,rfl,rfl,Nat.le_refl _,C.inj,λy hy=>?_,λy d z _=>?_,λ_=>g,Around.frames_deeper a.frames,.inr ⟨rfl,rfl⟩,λb z=>absurd z (n b),a.bs,a.bsz,λb _ _=>n b,λb z=>absurd z (n b),a.funs,a.frf⟩,
  rfl,a.bare,Un.kept k,⟨_,ns,λi y v l D T=>?_⟩,λy d h=>?_,a.hok.fresh (Nat.le_refl _),λy d h=>?_,λp L=>absurd (show p∈([]:A1 (A3×Obj))from L) (by simp),a.hok.kept k,?_⟩
 .have hy:scope.names.lookup y=some .cell\/scope.names.lookup y=some .free:=hy;rcases hy with hy | hy
  .exact absurd rfl (S.nocell _ (PySem.mem_of_lookup hy))
  .obtain⟨i,q⟩:=DK.mp (S.has _ (PySem.mem_of_lookup hy) rfl);have t:i<gs.length:=by rw[C.len];exact(AF.mp q).1
   obtain⟨I,_,B,_⟩:=C.val i y gs[i] q (AC t);exact⟨I,B⟩
 .cases(show false=true from z)
 .have l:(ps++fr)[i]?=some y:=by rw[<-S.eq];exact l
  have M:(ps++fr).Nodup:=by rw[<-S.eq];exact S.nd
  by_cases t:i<vs.length
  .rw[DU (by rw[AB];exact t),AH]at D;rw[DU (by omega)]at l;obtain⟨O,E,e⟩:=BK.mp D;cases e;obtain⟨u,Q,F⟩:=r.get E;exact⟨u,F,.inl ⟨S.par y (AL l),Cj (us:=us) (FT.mp M).1 l Q⟩⟩
  .rw[DM (by rw[AB];omega),AH,AB]at D;rw[DM (by omega)]at l;obtain⟨O,E,e⟩:=BK.mp D;cases e;rw[G]at E;obtain⟨d,u,R,F,o,m,g⟩:=C.val _ y v l E;exact⟨u,F,.inr ⟨.inr (S.fre y (AL l)),d,R,o,k _ _ (a.bs _ _ m).1,g⟩⟩
 .obtain⟨u,o,m,g⟩:=j y d h;exact⟨_,o,k _ _ (a.bs _ _ m).1,g⟩
 .obtain⟨u,o,m,g⟩:=j y d h;exact(a.bs _ _ m).2
 .show _=N.length;rw[S.eq,AZ,AB,AB,AZ,G,C.len]
theorem zBx{args:Arguments}{a:IE}{k:Nat}{gs:A1 V}{sp:Sp}{L ct:A2}(S:M_ N ps fr scope)(C:P6 base cl fr gs)(i:∀vs H Q E,sp vs H Q E->vs.length=ps.length)
  (l:∀vs H Q E,sp vs H Q E->H f=some (NE f c qual args a scope cl)/\H c=some (KZ c qual))
  (d:∀(A:IC) (outer:A1 P_) (s:A4) (H:Hp) (vs:A1 V) (Q:VK) (E:XK),JD k (A.deeper (PySem.W.envX qual scope s.heap.objs.size f (.ref c) cl))->sp vs H Q E ->
   ∃t,PE (Nq P w K mg base N qual scope f (.ref c) cl A outer s H) a t/\t (vs.map some++gs.map some) H Q) :
  IJ P w K mg base IZ (k+1) f (PySem.W.kla_fn "<lambda>" qual args a scope cl L (.ref c) ct) ps sp:=by
 refine⟨i,λA outer s H g m vs Q E p j M r h=>?_⟩;have O:=i _ _ _ _ h;obtain⟨R,T⟩:=l _ _ _ _ h;obtain⟨⟨q,x,U⟩,_⟩:=(show IP P w H s.heap f (NE f c qual args a scope cl)from j.hok f _ R);obtain⟨X,_⟩:=(show IP P w H s.heap c (KZ c qual)from j.hok c _ T);have z:s.heap.NoLimit:=j.mod.nolimit.keeps λb o e=>(j.bs b o e).1;have Y:∀y∈ps.zip m,scope.names.lookup y.1=some .local:=λ⟨n,v⟩ Z=>S.par n (HA Z).1;have B:BindsTo s (PySem.W.kla_fn "<lambda>" qual args a scope cl q (.ref c) x) g (ps.zip m):=M;refine PySem.W.kla_callFunE p.depth U rfl S.co S.gen rfl X (B _ _ _ _ ?_);refine wpAny_newFunctionEnv S.nocell Y (λF ns sb=>?_) S.kind;have G:∀b o,s.heap.get? b=some o->F.get? b=some o:=λb o e=>by
  rw[sb.2 b (A_ (AJ e))];exact AD _ e
 refine⟨z.keeps G,PySem.W.kla_codeExpr ?_⟩;obtain⟨t,ht,hq⟩:=d A outer s H vs Q E (p.deeper _) h;have I:Inv (Nq P w K mg base N qual scope f (.ref c) cl A outer s H) [] (vs.map some++gs.map some) H { s with heap:=F,toks:=s.toks +(ps.zip m).length }:=Zg S C p.hd j O r ns G;refine CF (ht [] _ _ H Q I hq) (λu s' D=>?_) λe s' D=>D.elim;obtain⟨v,H',J,rv,qv⟩:=D;exact⟨v,H',J.os,J.bare,J.base,J.hok,rv,qv⟩
theorem Lu{cells:A1 (Str×A3)}:∀{names:A1 (Str×JT)} {cs:A1 (Str×A3)} {x:Str} {c:A3},(P0 cells names cs).lookup x=some c->((x,NameKind.free)∈names/\c =(cells.lookup x).getD 0)\/cs.lookup x=some c
 | [],_,_,_,h=>.inr h
 | (n,k)::r,cs,x,c,h=>by
  rcases Lu (names:=r) h with⟨z,e⟩ | z
  .exact .inl ⟨AU _ z,e⟩
  .by_cases f:(k == NameKind.free)=true
   .rw[AK f]at z;by_cases e:x=n
    .subst e;rw[List.lookup_cons_self]at z;cases z;exact .inl ⟨by rw[eq_of_beq f];exact BH ..,rfl⟩
    .rw[HN,show(x == n)=false from by simpa using e]at z;exact .inr z
   .rw[AI f]at z;exact .inr z
theorem Kg{cells:A1 (Str×A3)}{x:Str}:∀{names:A1 (Str×JT)} {cs:A1 (Str×A3)},(x,NameKind.free)∈names\/(∃c,cs.lookup x=some c)->∃c,(P0 cells names cs).lookup x=some c
 | [],_,h=>h.resolve_left (by simp)
 | (n,k)::r,cs,h=>by
  refine Kg (names:=r) ?_;by_cases e:x=n
  .by_cases f:(k == NameKind.free)=true
   .subst e;exact .inr ⟨_,by rw[AK f,List.lookup_cons_self]⟩
   .rw[AI f];rcases h with z | z
    .rcases AQ.mp z with y | y
     .cases y;exact absurd rfl f
     .exact .inl y
    .exact .inr z
  .rcases h with z | ⟨c,z⟩
   .rcases AQ.mp z with y | y
    .cases y;exact absurd rfl e
    .exact .inl y
   .refine .inr ⟨c,?_⟩;by_cases f:(k == NameKind.free)=true
    .rw[AK f,HN,show(x == n)=false from by simpa using e];exact z
    .rw[AI f];exact z
theorem NA.clos{X:Cx}{a:IA}{σ:St}{fr:A1 Str}{gs:A1 V}{names:A1 (Str×JT)}(h:NA X a σ)(n:∀y∈names,y.2=NameKind.free->y.1∈fr)(o:∀x∈fr,(x,NameKind.free)∈names)(g:∀x∈fr,X.env.scope.names.lookup x=some .cell)(f:gs.length=fr.length)
  (p:∀(i:Nat) (x:Str) (v:V),fr[i]?=some x->gs[i]?=some v->∃j:Nat,X.N[j]?=some x/\σ[j]?=some (some v)):P6 a (P0 X.env.cells names []) fr gs:=by
 have b:∀{x c},(P0 X.env.cells names []).lookup x=some c->x∈fr/\X.env.cells.lookup x=some c:=fun{x c} e=>by
  rcases Lu e with⟨z,y⟩ | z
  .have m:=n _ z rfl;obtain⟨d,k⟩:=h.has x (g x m);rw[k]at y;rw[k,y];exact⟨m,rfl⟩
  .cases z
 refine⟨f,λi x v l q=>?_,λx c e=>(b e).1,λx y c s t=>h.inj x y c (b s).2 (b t).2⟩;have m:=AL l;obtain⟨c,e⟩:=Kg (cells:=X.env.cells) (cs:=[]) (.inl (o x m));obtain⟨j,w,A⟩:=p i x v l q;obtain⟨u,r,B⟩:=h.val j x v c w A (g x m) (b e).2;exact⟨c,u,e,r,B⟩
end
def PF.okC{P:CM}{w:F8}{K:PySem.W.Frag}{mg:Str->A5 A2}{base:IA}{x b:Str}{st:IL}{f:A3}{e:IS}{N g:A1 Str}{k:Nat}{sp:Sp}(F:PF K x b st f e)(S:H_ N g (B5 st))(i:∀vs H Q E,sp vs H Q E->vs.length=g.length)
  (d:∀(c:A2) (A:IC) (a:A1 P_) (s:A4) (H:Hp) (vs:A1 V) (Q:VK) (E:XK),e.code=c->JD k (A.deeper (envOfC b (B5 st) s.heap.objs.size f c))->sp vs H Q E ->
   ∃t,QG (Uf IZ P w K mg base N b (B5 st) f c A a s H E).nox (O2 st) t/\t { nx:=λ_ H'=>Q .non H',rt:=Q } (y7 N vs) H):IJ P w K mg base IZ (k+1) f e g sp:=by
 obtain⟨p,r,kV,m,u,v,c,y,n,rfl,lk,j⟩:=F.ex;refine zCf lk j S i λA a s H vs Q E o l=>?_;obtain⟨t,h,q⟩:=d c A a s H vs Q E rfl o l;exact⟨t,h.nox,q⟩
def Ov{P:CM}{w:F8}{K:PySem.W.Frag}{mg N:Str->A5 A2}{k:Nat}{fa a:A3}{fd:IS}{x:Str}{sp:Sp}{s₁:A4}{vs:A1 A2}{ns:A1 Int}{ts:A1 A3}
  (f:∀p∈ts,s₁.heap.get? p=some (PySem.W.tabObj #[])) (O:∀p∈ts,isCodeTable s₁.heap p) (Q:∀p∈ts,s₁.heap.BuiltinsAt mg p) (t:∀p∈ts,K.lookup p=none)
  (KX:K.In s₁.heap) (y:s₁.heap.Ns mainGlobals mg) (R:s₁.heap.Ns builtinsNs N) (S:∀x:Str,x≠ "__name__"->N x=bootBuiltins x) (A:s₁.heap.NoLimit) (hg:s₁.gens = #[])
  (l:s₁.heap.get? a=some { cls:=.type "list",data:=.seq vs.toArray }) (hi:IntsAre vs ns) (hl:ns.length<=sizeLine) (hr:JD k callerA)
  (F:∀base:IA,K.In base->base.Ns mainGlobals mg->(∀p∈ts,base.BuiltinsAt mg p)->IJ P w K mg base IZ k fa fd [x] sp) (j:∀(s:A4) (u:A2),BindsTo s fd ⟨[u],[]⟩ [(x,u)])
  (T:∀H:Hp,(∀p∈ts,H p=some (.tbl #[]))->IG K H a (ns.map V.int)->sp [.ref a] H (λv _=>v = .bl true) λ_ _ _=>False) :
  codeAny (model P w) callerA (.call (.ref fa) ⟨[.ref a],[]⟩) (λr B=>r = .ok (.ret (.bool true))/\OldK s₁.heap B.heap/\B.os=s₁.os/\AllBare B.gens) s₁:=by
 have rv:=Gd hi;have U:a∉ts:=λz=>by
  have:=f a z;rw[l]at this;cases this
 obtain⟨H,hT,hS,X,ok,hK⟩:∃H:Hp,(∀p∈ts,H p=some (.tbl #[]))/\IG K H a (ns.map V.int)/\(∀b o,H b=some o->(b∈ts/\o = .tbl #[])\/(b=a/\∃Y xs,o = .frz Y (.lst xs)))/\LT P w H s₁.heap/\∀b,H b≠none->K.lookup b=none:=by
  cases Z:K.lookup a with
  | some o =>
   have e:=KX a o Z;rw[l]at e;cases e;refine⟨λb=>if b∈ts then some (.tbl #[])else none,λp n=>AK n,.inr ⟨_,vs.toArray,_,Z,rfl,rfl,rfl,by rw[AO,hi.length];exact hl,by simpa using rv⟩,λb o e=>?_,λb o e=>?_,λb e=>?_⟩
   .dsimp only at e;by_cases c:b∈ts
    .rw[AK c]at e;cases e;exact .inl ⟨c,rfl⟩
    .rw[AI c]at e;cases e
   .dsimp only at e;by_cases c:b∈ts
    .rw[AK c]at e;cases e;exact f b c
    .rw[AI c]at e;cases e
   .by_cases c:b∈ts
    .exact t b c
    .exact absurd (AI c) e
  | none =>
   refine⟨λb=>if b=a then some (.frz { cls:=.type "list",data:=.seq vs.toArray } (.lst (ns.map V.int)))else if b∈ts then some (.tbl #[])else none,λp n=>?_,.inl (.inr ⟨{ cls:=.type "list",data:=.seq vs.toArray },AK rfl⟩),λb o e=>?_,λb o e=>?_,λb e=>?_⟩
   .show(if p=a then _ else if p∈ts then _ else _)=_;have np:p≠a:=λz=>U (z▸n);rw[AI np,AK n]
   .dsimp only at e;by_cases d:b=a
    .rw[AK d]at e;cases e;exact .inr ⟨d,_,_,rfl⟩
    .rw[AI d]at e;by_cases c:b∈ts
     .rw[AK c]at e;cases e;exact .inl ⟨c,rfl⟩
     .rw[AI c]at e;cases e
   .dsimp only at e;by_cases d:b=a
    .rw[AK d]at e;cases e;subst d;exact⟨l,by rw[AB];exact hl,vs,_,rv,l⟩
    .rw[AI d]at e;by_cases c:b∈ts
     .rw[AK c]at e;cases e;exact f b c
     .rw[AI c]at e;cases e
   .by_cases d:b=a
    .rw[d];exact Z
    .by_cases c:b∈ts
     .exact t b c
     .exact absurd ((AI d).trans (AI c)) e
 have nod:∀{b:A3} {o:Obj} {I:F1 DictEntry} {J:Nat},s₁.heap.get? b=some o->o.data = .dict I J->H b=none:=fun{b o I J} e d=>by
  cases q:H b with
  | none=>rfl
  | some u =>
   rcases X b u q with⟨z,_⟩ | ⟨z,_⟩
   .rw[f b z]at e;cases e;cases d
   .rw[z,l]at e;cases e;cases d
 have g:∀{b:A3} {m:Str->A5 A2},s₁.heap.Ns b m->(Te s₁.heap H).Ns b m:=fun{b m} ⟨o,I,J,e,d,r⟩=>⟨o,I,J,y0 e (nod e d),d,r⟩;have hBb:∀p∈ts,(Te s₁.heap H).BuiltinsAt mg p:=λp n=>by
  obtain⟨L,o,h1,h2,h3,h4,C,h6,h7,h8⟩:=Q p n;refine⟨L,o,h1,h2,h3,h4,y0 C ?_,h6,h7,h8⟩;cases q:H L with
  | none=>rfl
  | some u =>
   rcases X L u q with⟨z,_⟩ | ⟨z,_⟩
   .rw[f L z]at C;cases C;cases h8
   .rw[z,l]at C;cases C;cases h8
 have D:K.In (Te s₁.heap H):=λb o e=>y0 (KX b o e) (by
  cases q:H b with
  | none=>rfl
  | some u=>rw[hK b (by rw[q];simp)]at e;cases e)
 have hM:Mod K mg (Te s₁.heap H):=⟨D,g y,⟨N,g R,S⟩,let⟨mc,h1,h2⟩:=A;⟨mc,g h1,h2⟩⟩;have e0:O_ P w K mg (Te s₁.heap H) callerA [] s₁ H:=⟨rfl,hM,λb o e=>Qa e,Nat.le_of_eq (Gn _ _),trivial,λb R=>absurd (show b∈([]:A1 A3)from R) (by simp),ok,.of_eq hg⟩;refine GM ((F _ D (g y) hBb).run callerA [] s₁ H ⟨[.ref a],[]⟩ [.ref a] [.ref a] _ _ hr e0 (j s₁ (.ref a)) (.cons rfl .nil) (T H hT hS)) λr B h=>?_;cases r with
 | error e=>exact h.elim
 | ok fl =>
  cases fl with
  | next=>exact False.elim h
  | brk=>exact False.elim h
  | cont=>exact False.elim h
  | ret u =>
   obtain⟨v,H',os,E,M,G,r',q⟩:=h;have q':v = .bl true:=q;subst q';obtain rfl:u=Value.bool true:=r';refine⟨rfl,⟨λb o e=>?_,λb o e=>M.there b o e (by simp)⟩,os,E⟩;cases q:H b with
   | none=>exact .inl (M.keep b o e q (λz=>absurd (show b∈([]:A1 A3)from z) (by simp)) (by simp))
   | some u =>
    rcases X b u q with⟨z,rfl⟩ | ⟨_,Y,xs,rfl⟩
    .obtain⟨i,em⟩:=M.tbls b _ q;have e2:B.heap.get? b=some { cls:=.none,data:=.fields (#[]++i) }:=G b _ em;rw[f b z]at e;cases e;exact .inr (.inl ⟨O b z,rfl,#[],i,rfl,e2⟩)
    .obtain⟨e1,_⟩:=ok b _ q;obtain⟨e2,_⟩:=G b _ (M.frzs b Y _ q);rw[e]at e1;cases e1;exact .inl e2
def QT{l:PySem.W.OpenLaw}{n k:Nat}{q:CM}{e:A1 Str}{O:(Str->A5 A2)->IA->Prop}{t:F8->IA->Prop}{d:DefRec}{K:Params->PySem.W.Frag}{sp:F8->Sp}{x:Str}{ts:A1 A3}
  (P:l.most=some n) (y:n<=sizeLine) (A:d.params.defaults = []) (Q:JD k callerA) (R:∀(w:F8) (h:IA),t w h->(K w.params).In h) (j:∀(w:F8) (h:IA),t w h->∀p∈ts,h.get? p=some (PySem.W.tabObj #[]))
  (F:∀(w:F8) (mg:Str->A5 A2) (r:A3) (h:IA),(K w.params).In h->h.Ns mainGlobals mg->mg d.name=some (.ref r) ->
   (∀p∈ts,isCodeTable h p)/\(∀p∈ts,(K w.params).lookup p=none)/\∃B:IS,(∀(s:A4) (u:A2),BindsTo s B ⟨[u],[]⟩ [(x,u)]) /\
    ∀base:IA,(K w.params).In base->base.Ns mainGlobals mg->(∀p∈ts,base.BuiltinsAt mg p)->IJ l.prog w (K w.params) mg base IZ k r B [x] (sp w))
  (C:∀(w:F8) (H:Hp) (a:A3) (ns:A1 Int),ns.length<=n->(∀p∈ts,H p=some (.tbl #[]))->IG (K w.params) H a (ns.map V.int)->sp w [.ref a] H (λv _=>v = .bl true) λ_ _ _=>False) :
  PySem.W.WalkO q e O t l.row.toRowW d [] (λf vs=>PySem.call f vs):=by
 refine Att.PR P A λw s₀ s₁ mg mb r o pm cd S a vs ns G Y ho hd U D m i c X=>?_;have L:=R w _ Y;obtain⟨Z,h2,B,hb,hF⟩:=F w mg r _ L G.T.g D;have E:∀p∈ts,s₁.heap.BuiltinsAt mg p:=λp hp=>by
  obtain⟨bm,o,b1,b2,I,b4,b5,J⟩:=G.T.bmain;refine⟨bm,o,b1,b2,λz=>?_,λz=>?_,I,b4,b5,J⟩
  .obtain⟨o',es,ep,M,N,_⟩:=G.T.g;rw[<-z,I]at M;cases M;rw[J]at N;cases N
  .have:=j w _ Y p hp;rw[<-z,I]at this;cases this;cases J
 exact Ov (j w _ Y) Z E h2 L G.T.g G.T.b G.T.builtins G.T.nolimit X m i (Nat.le_trans c y) Q hF hb λH hO hS=>C w H a ns c hO hS
section
variable{prog:CM}{w:F8}{A:IC}{s:A4}{I:A3}{fp wr:A1 A3}{n:Nat}{P:Nat->A2->Prop}{St:Nat->IA->Prop}{R:Result->A4->Prop}
theorem Gu{id:String}{b:Builtin}{args:A1 A2}{d:A1 (Str×A2)}{Q E:A2->A4->Prop}(k:builtinKind id=none)(l:plainId id=true)(m:entryFor table id=some b)(n:argsOk id ⟨args,d⟩)
  (i:wpAny (model prog w) A.in1 (b ⟨args,d⟩) (λfin a=>match fin with
   | .done f=>(match(Except.ok f:Result)with | .ok (.ret v)=>Q v a | .ok _=>False | .error e=>E e a)
   | .again j=>j.quiet=true/\codeAny (model prog w) A j (λr a=>match r with | .ok (.ret v)=>Q v a | .ok _=>False | .error e=>E e a) a) E s) :
  wpAny (model prog w) A (call (.builtin id) args d) Q E s:=by
 refine wpAny_call (codeAny_call_builtin l m ?_);simp only[checkBuiltinCall,k];cases c:Manifest.signature? id with
 | none=>exact AG i
 | some g =>
  have h:Bind.checkArgs id g ⟨args,d⟩=pure ():=by simpa only[argsOk,c] using n
  simp only[h];exact AG i
end
def Cx.i1(X:Cx):Cx:={ X with A:=X.A.in1,xe:=λ_ _=>False }
section
variable{X:Cx}{pins:A1 (A3×Obj)}{σ:St}{H:Hp}{s:A4}
theorem Cx.Ok.i1(a:X.Ok):X.i1.Ok :=
 ⟨a.mod,a.kind,a.glob,a.blt,a.above,a.inj,a.has,a.cab,a.hd,a.frames,a.stk,a.exf,a.bs,a.bsz,a.noex,a.exfs,a.funs,a.frf⟩
theorem Cx.Ok.o1(a:X.i1.Ok):X.Ok :=
 ⟨a.mod,a.kind,a.glob,a.blt,a.above,a.inj,a.has,a.cab,a.hd,a.frames,a.stk,a.exf,a.bs,a.bsz,a.noex,a.exfs,a.funs,a.frf⟩
theorem Inv.i1(I:Inv X pins σ H s):Inv X.i1 pins σ H s:=⟨I.ok.i1,I.os,I.bare,I.base,I.loc,I.cell,I.free,I.freeC,I.pin,I.hok,I.len⟩
theorem Inv.o1(I:Inv X.i1 pins σ H s):Inv X pins σ H s:=⟨I.ok.o1,I.os,I.bare,I.base,I.loc,I.cell,I.free,I.freeC,I.pin,I.hok,I.len⟩
def NX(X:Cx)(pins:A1 (A3×Obj))(b:A3):Prop:=(b∈X.ex\/X.s₀.heap.objs.size<=b)/\(∀x c,X.env.cells.lookup x=some c->c≠b)/\∀p∈X.pn++pins,p.1≠b
theorem NX.turned{t':Nat}{a:A3}{h':IA}(o:NX X pins a)(I:Inv X pins σ H s)(c:H a=none)(d:a≠X.env.locals)(k:∀b o,b≠a->s.heap.get? b=some o->h'.get? b=some o):Inv X pins σ H { s with heap:=h',toks:=t' } :=
 I.turned k c d o.1 o.2.1 o.2.2
end
def Ia(a:Nat->A1 Int):Nat->Nat
 | 0=>0
 | n+1=>if HT.lexLt (a (n+1)) (a (Ia a n))=true then n+1 else Ia a n
def Pg(a:Nat->A1 Int):∀n,Ia a n<=n
 | 0=>Nat.le_refl _
 | n+1=>by
  unfold Ia;split
  .exact Nat.le_refl _
  .exact Nat.le_succ_of_le (Pg a n)
section
variable{X:Cx}{pins:A1 (A3×Obj)}{σ:St}{l I S f:A3}{cs:A1 A3}{xs:A1 V}{kf:Nat->A1 Int}{G:Hp->Prop}{R:Result->A4->Prop}
def zEv(X:Cx)(cs:A1 A3)(σ:St)(f:A3)(xs:A1 V)(kf:Nat->A1 Int)(G:Hp->Prop):Prop:=∀(j:Nat) (x:V) (u:A2) (pins:A1 (A3×Obj)) (s:A4) (H:Hp),xs[j]?=some x->RelV x u->Inv X pins σ H s->G H ->
 wpAny (model X.prog X.w) X.A (call (.ref f) [u]) (EP X pins σ λv b=>∃a,v = .ref a/\a∉cs/\Sm cs H b/\G b/\IW X.K b a ((kf j).map V.int)) X.xe s
theorem w6{X:Cx}{pins:A1 (A3×Obj)}{σ:St}{H:Hp}{s:A4}{S I:A3}{a oI:Obj}(J:Inv X ((S,a) ::(I,oI)::pins) σ H s) :
  (s.heap.get? S=some a/\H S=none/\S≠X.env.locals/\S∉X.fs/\∀v,a.data≠ .cell v)/\(s.heap.get? I=some oI/\H I=none/\I≠X.env.locals/\I∉X.fs/\∀v,oI.data≠ .cell v)/\Inv X pins σ H s :=
 ⟨J.pin (S,a) (BP _ (.head _)),J.pin (I,oI) (BP _ (.tail _ (.head _))),J.pins_of λp b=>J.pin p (BP _ (.tail _ (.tail _ b)))⟩
theorem Tl{X:Cx}{pins:A1 (A3×Obj)}{σ:St}{H:Hp}{s:A4}{S I:A3}{a oI:Obj}(J:Inv X pins σ H s)(b:s.heap.get? S=some a/\H S=none/\S≠X.env.locals/\S∉X.fs/\∀v,a.data≠ .cell v)
  (c:s.heap.get? I=some oI/\H I=none/\I≠X.env.locals/\I∉X.fs/\∀v,oI.data≠ .cell v):Inv X ((S,a) ::(I,oI)::pins) σ H s:=J.pins_of λp hp=>by
 rcases AQ.mp hp with rfl | hp
 .exact b
 rcases AQ.mp hp with rfl | hp
 .exact c
 exact J.pin p (BP _ hp)
theorem Pr(hc:X.calm=true)(hu:X.A.units+1<cLine)(turn:zEv X.i1 cs σ f xs kf G)(hG:∀H,G H->IG X.K H l xs)(oI:NX X pins I)(oS:NX X pins S)(y:S≠I)(U:l≠I) :
  ∀(r j:Nat) (s:A4) (H:Hp) (P:A2) (b:A3) (c:Nat) (ob:Obj),xs.length-(j+1)=r->j+1<=xs.length->Inv X.i1 ((S,seqObj "list" #[P,.ref b] c) ::(I,ob)::pins) σ H s->s.heap.IsListIter I l (j+1) ->
   RelV (xs.getD (Ia kf j) .non) P->b∉cs->IW X.K H b ((kf (Ia kf j)).map V.int)->G H ->
   (∀u Q H',Inv X pins σ H' Q->RelV (xs.getD (Ia kf (xs.length-1)) .non) u->Sm cs H H'->G H'->R (.ok (.ret u)) Q) ->
   codeAny (model X.prog X.w) X.A (.builtin "min.loop" ⟨[.ref I,.ref f,.ref S],[]⟩) R s:=by
 have n:(toString "min" ++ toString ".loop":String) = "min.loop":=by decide
 intro r
 induction r with
 | zero =>
  intro j s H P b c ob hr hj J L rb nb x g hR;have ej:j=xs.length-1:=by omega
  obtain⟨D,E,Y⟩:=w6 J;obtain⟨m,rv,pl,hz⟩:=J.list (hG H g);have p:m.toArray.size=xs.length:=by rw[AO];exact rv.length.symm
  have W:=Walks.list (prog:=X.prog) (w:=X.w) (A:=X.A.in1) (show X.A.in1.handled=none from Y.o1.ok.hd hc) I l U m.toArray;refine EK PySem.F.entry_min_loop ?_;rw[Around.under_plainId PySem.F.plain_min_loop _];show wpAny _ X.A.in1 (seqItems? (.ref S) >>= _) _ _ _;refine AA (DN D.1 rfl ?_);show wpAny _ X.A.in1 (tryCatch (pyNext (.ref I)) _ >>= _) _ _ _;refine AA (FY (W.done _ _ _ ⟨by rw[p,show xs.length=j+1 by omega];exact L,pl.isList⟩ λh' M q=>?_));have J1:Inv X.i1 pins σ H { s with heap:=h',toks:=M }:=NX.turned (X:=X.i1) oI Y E.2.1 E.2.2.1 λb o x e=>q b o (by simpa using x) e;have hS':=q S _ (by simpa using y) D.1;show wpAny _ X.A.in1 (updateSeq S (λ_=>#[]) >>= _) _ _ _;refine AA ?_;refine HD hS' rfl (AA (HW (AG ?_)));refine hR P _ H (NX.turned (X:=X.i1) oS J1 D.2.1 D.2.2.1 λb o x e=>(CG _ _ (Ne.symm x)).trans e).o1 (by rw[<-ej];exact rb) (Sm.refl _ _) g
 | succ r ih =>
  intro j s H P b c ob hr hj J L rb nb x g hR;have B:j+1<xs.length:=by omega
  obtain⟨D,E,Y⟩:=w6 J;obtain⟨m,rv,pl,hz⟩:=J.list (hG H g);have p:m.toArray.size=xs.length:=by rw[AO];exact rv.length.symm
  have W:=Walks.list (prog:=X.prog) (w:=X.w) (A:=X.A.in1) (show X.A.in1.handled=none from Y.o1.ok.hd hc) I l U m.toArray;refine EK PySem.F.entry_min_loop ?_;rw[Around.under_plainId PySem.F.plain_min_loop _];show wpAny _ X.A.in1 (seqItems? (.ref S) >>= _) _ _ _;refine AA (DN D.1 rfl ?_);show wpAny _ X.A.in1 (tryCatch (pyNext (.ref I)) _ >>= _) _ _ _;refine AA (FY (W.item (j+1) _ _ _ (by rw[p];exact B) ⟨L,pl.isList⟩ λv h' M hP Z q=>?_));have hv:m[j+1]?=some v:=by simpa using hP
  have ex:xs[j+1]?=some xs[j+1]:=AC B;obtain⟨v',hv',rx⟩:=rv.get ex;rw[hv]at hv';cases hv';obtain⟨t,hob',hoc,N⟩:=id Z.1;have J1:Inv X.i1 pins σ H { s with heap:=h',toks:=M }:=NX.turned (X:=X.i1) oI Y E.2.1 E.2.2.1 λb o x e=>q b o (by simpa using x) e;have J2:=Tl J1 (S:=S) (I:=I) (oI:=t) ⟨q S _ (by simpa using y) D.1,D.2⟩ ⟨hob',E.2.1,E.2.2.1,E.2.2.2.1,λv z=>by rw[N]at z;cases z⟩;show wpAny _ X.A.in1 (tryCatch (holding [v] (call (.ref f) [v])) _ >>= _) _ _ _;refine AA (FY (BX (CF (turn (j+1) _ v _ _ _ ex rx J2 g) (λu2 s2 he=>?_) λ_ _ hF=>False.elim hF)));obtain⟨v2,H2,J3,r2,a,rfl,na,sm,g2,ha⟩:=he;cases r2;have hb2:IW X.K H2 b ((kf (Ia kf j)).map V.int):=x.imp (λh=>h.imp (λe=>sm _ _ e nb) λ⟨o,e⟩=>⟨o,sm _ _ e nb⟩) id;show wpAny _ X.A.in1 (tryCatch (holding [v,.ref a] (richCompare .Lt (.ref a) (.ref b) >>= _)) _ >>= _) _ _ _;refine AA (FY (BX (AA (CF (zDd (X:=X.i1) hu _ s2 σ H2 (.ref a) (.ref b) (.ref a) (.ref b) (λv H'=>v = .bl (HT.lexLt (kf (j+1)) (kf (Ia kf j)))/\H'=H2) J3 rfl rfl ⟨a,b,_,_,rfl,rfl,ha,hb2,rfl,rfl⟩) (λu3 s3 he=>?_) λ_ _ hF=>False.elim hF))));obtain⟨v3,H3,J4,r3,rfl,rfl⟩:=he;cases r3;refine AA (BX (DF ?_));refine AA (HW (AG ?_));obtain⟨d,C,J5⟩:=w6 J4;have T:Ia kf (j+1)=if HT.lexLt (kf (j+1)) (kf (Ia kf j))=true then j+1 else Ia kf j:=rfl
  cases hb':HT.lexLt (kf (j+1)) (kf (Ia kf j))with
  | true =>
   rw[hb',AK rfl]at T;simp only[FD];refine AA ?_;refine HD d.1 rfl (AA (HW ?_));rw[n];have k:∀b o,b≠S->s3.heap.get? b=some o->(s3.heap.update S (Obj.mapSeq λ_=>#[v,.ref a])).get? b=some o:=λb o x e=>(CG _ _ (Ne.symm x)).trans e;have J6:=NX.turned (X:=X.i1) (t':=s3.toks) oS J5 d.2.1 d.2.2.1 k;obtain⟨c2,hc2⟩:∃c2,(s3.heap.update S (Obj.mapSeq λ_=>#[v,.ref a])).get? S=some (seqObj "list" #[v,.ref a] c2):=⟨_,get?_update_seq d.1 λ_=>#[v,.ref a]⟩;refine AG ⟨plainId_quiet PySem.F.plain_min_loop _,ih (j+1) _ H3 v a c2 t (by omega) B (Tl J6 ⟨hc2,d.2.1,d.2.2.1,d.2.2.2.1,λv z=>by cases z⟩ ⟨k _ _ (Ne.symm y) C.1,C.2⟩) ⟨t,k _ _ (Ne.symm y) C.1,hoc,N⟩ ?_ na ?_ g2 λu Q H' i r' O g'=>hR u Q H' i r' (sm.trans O) g'⟩
   .rw[T,AM,ex];exact rx
   .rw[T];exact ha
  | false =>
   rw[hb',AI (by simp)]at T;simp only[AV,CN];refine AA (HW ?_);rw[n];refine AG ⟨plainId_quiet PySem.F.plain_min_loop _,ih (j+1) _ H3 P b c t (by omega) B J4 ⟨t,C.1,hoc,N⟩ ?_ nb ?_ g2 λu Q H' i r' O g'=>hR u Q H' i r' (sm.trans O) g'⟩
   .rw[T];exact rb
   .rw[T];exact hb2
theorem Rt(a v:A2):argsOk "min" ⟨[a],[("key",v)]⟩:=by unfold argsOk;kernel_rfl
theorem Se{H:Hp}{s:A4}{Q:VK}(hc:X.calm=true)(hu:X.A.units+1<cLine)(turn:zEv X.i1 cs σ f xs kf G)(hG:∀H,G H->IG X.K H l xs)(J:Inv X pins σ H s)(g:G H)(hx:xs≠[])
  (h:∀H',Sm cs H H'->G H'->Q (xs.getD (Ia kf (xs.length-1)) .non) H'):wpAny (model X.prog X.w) X.A (call (.builtin "min") [.ref l] [("key",.ref f)]) (EP X pins σ Q) X.xe s:=by
 have j:(toString "min" ++ toString ".loop":String) = "min.loop":=by decide
 obtain⟨n,rv,pl,hz⟩:=J.list (hG H g);have t:=pl.isList;obtain⟨ol,U,_⟩:=id t;have V:l<s.heap.objs.size:=AJ U;have E:n.toArray.size=xs.length:=by rw[AO];exact rv.length.symm
 have m:0<xs.length:=List.length_pos_iff.mpr hx;refine Gu PySem.F.kind_min PySem.F.plain_min PySem.F.entry_min (Rt _ _) ?_;show wpAny _ X.A.in1 (Builtin.Builtins.bindParams "min" ["key", "default"] 0 ⟨[],[("key",.ref f)]⟩ >>= _) _ _ s;refine AA (FS (show Builtin.Builtins.bindParams "min" ["key", "default"] 0 ⟨[],[("key",.ref f)]⟩=pure [some (.ref f),none]from rfl) ?_);refine AA (AG ?_);refine AA (EZ t ?_);refine AA (HV ?_ (CP _));rw[j];have hS:(s.heap.push { cls:=.type "list_iterator",data:=.fields #[.ref l,.int 0 0] }).objs.size=s.heap.objs.size+1:=CU ..;have d:(s.heap.push { cls:=.type "list_iterator",data:=.fields #[.ref l,.int 0 0] }).objs.size≠s.heap.objs.size:=by omega
 have x:l≠s.heap.objs.size:=A_ V;have y:s.heap.objs.size<=(s.heap.push { cls:=.type "list_iterator",data:=.fields #[.ref l,.int 0 0] }).objs.size:=by omega
 have hle0:s.heap.objs.size<=s.heap.objs.size:=Nat.le_refl _;generalize Y:(s.heap.push { cls:=.type "list_iterator",data:=.fields #[.ref l,.int 0 0] }).objs.size=S at d y⊢;obtain⟨I,Z⟩:∃I,s.heap.objs.size=I:=⟨_,rfl⟩;rw[Z]at d x;have p:s.heap.objs.size<=I:=by omega
 rw[show(Value.ref s.heap.objs.size)=Value.ref I by rw[Z]];refine AG ⟨plainId_quiet PySem.F.plain_min_loop _,?_⟩;have kk:∀b o,s.heap.get? b=some o->((s.heap.push { cls:=.type "list_iterator",data:=.fields #[.ref l,.int 0 0] }).push (seqObj "list" #[] 0)).get? b=some o:=λb o e=>AD _ (AD _ e);have gI:((s.heap.push { cls:=.type "list_iterator",data:=.fields #[.ref l,.int 0 0] }).push (seqObj "list" #[] 0)).get? I=some { cls:=.type "list_iterator",data:=.fields #[.ref l,.int 0 0] } :=
  Z▸AD _ (AN _ rfl)
 have gS:((s.heap.push { cls:=.type "list_iterator",data:=.fields #[.ref l,.int 0 0] }).push (seqObj "list" #[] 0)).get? S=some (seqObj "list" #[] 0):=Y▸AN _ rfl;have q:=J.fpOk (H':=H) (b:=I) p (J.hok.fresh p);have D:=J.fpOk (H':=H) (b:=S) y (J.hok.fresh y);have oI:NX X pins I:=⟨q.2.2.2.1,q.2.2.2.2.1,q.2.2.2.2.2⟩;have oS:NX X pins S:=⟨D.2.2.2.1,D.2.2.2.2.1,D.2.2.2.2.2⟩;have W:=Walks.list (prog:=X.prog) (w:=X.w) (A:=X.A.in1) (show X.A.in1.handled=none from J.ok.hd hc) I l x n.toArray;have J0:=(J.kept (t':=s.toks) kk).i1;have L:((s.heap.push { cls:=.type "list_iterator",data:=.fields #[.ref l,.int 0 0] }).push (seqObj "list" #[] 0)).IsList l n.toArray:=by
  obtain⟨o,e,r⟩:=t;exact⟨o,kk _ _ e,r⟩
 refine EK PySem.F.entry_min_loop ?_;rw[Around.under_plainId PySem.F.plain_min_loop _];show wpAny _ X.A.in1 (seqItems? (.ref S) >>= _) _ _ _;refine AA (DN gS rfl ?_);show wpAny _ X.A.in1 (tryCatch (pyNext (.ref I)) _ >>= _) _ _ _;refine AA (FY (W.item 0 _ _ _ (by rw[E];exact m) ⟨⟨_,gI,rfl,rfl⟩,L⟩ λv h' tk' hP M N=>?_));have hv:n[0]?=some v:=by simpa using hP
 have ex:xs[0]?=some xs[0]:=AC m;obtain⟨v',O,rx⟩:=rv.get ex;rw[hv]at O;cases O;obtain⟨B,P,hoc,R⟩:=id M.1;have J1:=NX.turned (X:=X.i1) (h':=h') (t':=tk') oI J0 q.1 q.2.1 λb o hb e=>N b o (by simpa using hb) e;have J2:=Tl J1 (S:=S) (I:=I) (oI:=B) ⟨N S _ (by simpa using d) gS,D.1,D.2.1,D.2.2.1,λv z=>by cases z⟩ ⟨P,q.1,q.2.1,q.2.2.1,λv z=>by rw[R]at z;cases z⟩;show wpAny _ X.A.in1 (tryCatch (holding [v] (call (.ref f) [v])) _ >>= _) _ _ _;refine AA (FY (BX (CF (turn 0 _ v _ _ _ ex rx J2 g) (λu2 T he=>?_) λ_ _ hF=>False.elim hF)));obtain⟨v2,H2,J3,r2,a,rfl,na,sm,g2,ha⟩:=he;cases r2;obtain⟨c,C,J5⟩:=w6 J3;show wpAny _ X.A.in1 (updateSeq S (λ_=>#[v,.ref a]) >>= _) _ _ _;refine AA ?_;refine HD c.1 rfl ?_;rw[j];have k:∀b o,b≠S->T.heap.get? b=some o->(T.heap.update S (Obj.mapSeq λ_=>#[v,.ref a])).get? b=some o:=λb o hb e=>(CG _ _ (Ne.symm hb)).trans e;have J6:=NX.turned (X:=X.i1) (t':=T.toks) oS J5 c.2.1 c.2.2.1 k;obtain⟨c2,hc2⟩:∃c2,(T.heap.update S (Obj.mapSeq λ_=>#[v,.ref a])).get? S=some (seqObj "list" #[v,.ref a] c2):=⟨_,get?_update_seq c.1 λ_=>#[v,.ref a]⟩;refine AG ⟨plainId_quiet PySem.F.plain_min_loop _,Pr hc hu turn hG oI oS d x _ 0 _ H2 v a c2 B rfl m (Tl J6 ⟨hc2,c.2.1,c.2.2.1,c.2.2.2.1,λv z=>by cases z⟩ ⟨k _ _ (Ne.symm d) C.1,C.2⟩) ⟨B,k _ _ (Ne.symm d) C.1,hoc,R⟩ ?_ na ha g2 λu s' H' i r' sm' g'=>⟨_,H',i,r',h H' (sm.trans sm') g'⟩⟩;show RelV (xs.getD 0 .non) v;rw[AM,ex];exact rx
end
def SE(X:Cx)(k:Nat)(cs:A1 A3)(σ:St)(f:A3)(xs:A1 V)(h:Nat->A1 Int)(G:Hp->Prop):Prop:=∀b:IA,NA X b σ->X.K.In b->∃(d:IS) (e:A1 Str) (g:Sp),IJ X.prog X.w X.K X.mg b IZ k f d e g/\Binds X.K d e [] /\
 ∀(j:Nat) (x:V) (H:Hp),xs[j]?=some x->G H->g [x] H (λv c=>∃a,v = .ref a/\a∉cs/\Sm cs H c/\G c/\IW X.K c a ((h j).map V.int)) E0
def zDr(X:Cx)(k:Nat)(h:TA)(i:TE):TE:=λσ H Q=>h σ H λj m=>i σ m λd c=>∃(l f:A3) (e:A1 A3) (a:A1 V) (g:Nat->A1 Int) (G:Hp->Prop),j = [.ref l]/\d = .ref f/\a≠[]/\G c/\(∀H,G H->IG X.K H l a)/\SE X k e σ f a g G /\
 ∀b,Sm e c b->G b->Q (a.getD (Ia g (a.length-1)) .non) b
section
variable{X:Cx}{k:Nat}{e ed:IE}{ta:TA}{td:TE}{p kp pos:Pos}
theorem SE.keyR{cs:A1 A3}{σ:St}{f:A3}{xs:A1 V}{l:Nat->A1 Int}{G:Hp->Prop}(h:SE X k cs σ f xs l G)(n:∀x,X.fn x=true)(d:JD (k+1) X.A):zEv X.i1 cs σ f xs l G:=by
 intro j x u m s H o p I g;have cs:NA X.i1 (Ay X.i1 s.heap) σ:=I.wcells n;obtain⟨y,q,z,F,c,t⟩:=h (Ay X.i1 s.heap) ⟨cs.val,cs.inj,cs.has⟩ I.wmod.kin;have a:=t j x H o g;have r:II [x] [u]:=.cons p .nil;have v:[u].length=q.length:=by rw[<-r.length];exact F.len _ _ _ _ a
 have c:=c s [u] I.kIn (by rw[CT];exact v);rw[CT]at c;have i:JD k X.A.in1:=⟨d.hd,by have:=d.dp;show X.A.depth+3*k+5<_;omega,by have:=d.un;show X.A.units+1+16*k+200<_;omega⟩;refine wpAny_call (GM (F.run X.A.in1 X.stack s H ⟨[u],[]⟩ [u] [x] _ E0 i I.wenv c r a) λr B b=>?_);cases r with
 | error e=>exact b.elim
 | ok w =>
  cases w with
  | ret u=>exact I.after b
  | next=>exact False.elim b
  | brk=>exact False.elim b
  | cont=>exact False.elim b
theorem Yn(d:∀x,X.fn x=true)(b:JD (k+1) X.A)(i:X.mg "min" = none)(j:PA X [e] ta)(m:PE X ed td)(n:X.calm=true:=by rfl)(o:Gl X "min":=by rfl)
  (c:starEach [e] X.env = [(false,eval e X.env)]:=by rfl):PE X (.Call (.Name "min" p) [e] [⟨some "key",ed,kp⟩] pos) (zDr X k ta td):=by
 intro a s σ H Q I h;refine ES (q0 I o i Pn ?_ (by decide) (by decide));refine callWith_kw (IY (j pos a s σ H _ I h) λL q ⟨M,r,t,v,w⟩=>kws_cons (IY (m a q σ r _ t w) λN O ⟨P,R,y,z,l,f,S,T,U,G,B,C,D,g,E,F,J⟩=>kws_nil ?_)) (by rw[c];rfl) (by rw[c];rfl);subst B C;obtain⟨u,rfl,K⟩:=U6 v;cases K;cases z;have:=b.un;exact Se n (by omega) (F.keyR d b) E y g D J
end
section
variable{P:CM}{w:F8}{K:PySem.W.Frag}{mg:Str->A5 A2}{base:IA}
theorem PF.o1{x a:Str}{st:IL}{f:A3}{i:IS}{N e:A1 Str}{k:Nat}{sp:Sp}(F:PF K x a st f i)(S:H_ N e (B5 st))
  (b:∀(d:A2) (A:IC) (c:A1 P_) (s:A4) (H:Hp) (vs:A1 V) (Q:VK) (E:XK),JD k (A.deeper (envOfC a (B5 st) s.heap.objs.size f d))->sp vs H Q E ->
   ∃t,QG (Uf IZ P w K mg base N a (B5 st) f d A c s H E).nox (O2 st) t/\t { nx:=λ_ H'=>Q .non H',rt:=Q } (y7 N vs) H) (g:∀vs H Q E,sp vs H Q E->vs.length=e.length:=by intro _ _ _ _ h;repeat first | (obtain⟨h,_⟩:=h;subst h;rfl) | (obtain⟨_,h⟩:=h)):IJ P w K mg base IZ (k+1) f i e sp:=F.ok S g b
end
def PF.oC{P:CM}{w:F8}{K:PySem.W.Frag}{mg:Str->A5 A2}{base:IA}{x a:Str}{st:IL}{f:A3}{e:IS}{N g:A1 Str}{k:Nat}{sp:Sp}(F:PF K x a st f e)(S:H_ N g (B5 st))
  (b:∀(c:A2) (A:IC) (d:A1 P_) (s:A4) (H:Hp) (vs:A1 V) (Q:VK) (E:XK),e.code=c->JD k (A.deeper (envOfC a (B5 st) s.heap.objs.size f c))->sp vs H Q E ->
   ∃t,QG (Uf IZ P w K mg base N a (B5 st) f c A d s H E).nox (O2 st) t/\t { nx:=λ_ H'=>Q .non H',rt:=Q } (y7 N vs) H) (i:∀vs H Q E,sp vs H Q E->vs.length=g.length:=by intro _ _ _ _ h;repeat first | (obtain⟨h,_⟩:=h;subst h;rfl) | (obtain⟨_,h⟩:=h)):IJ P w K mg base IZ (k+1) f e g sp:=F.okC S i b
end L2
namespace Sw
open PySem L2
def JU(i:Nat):IL:=PySem.Challenge.pw_strikeweave_k51_some_ones_won.main.body.getD i (.Pass ⟨0,0,0,0⟩)
abbrev PK:IL:=JU 8
abbrev NQ:IL:=JU 9
abbrev LK:IL:=JU 11
abbrev LL:IL:=JU 12
abbrev OP:IL:=JU 13
abbrev OH:IL:=JU 14
abbrev KW:IL:=JU 15
abbrev KI:IL:=JU 16
abbrev MS:IL:=JU 17
abbrev MV:IL:=JU 18
abbrev MU:IL:=JU 19
abbrev OU:IL:=JU 21
abbrev QU:IL:=JU 23
abbrev NT:IL:=JU 24
abbrev PJ:IL:=JU 25
abbrev QA:IL:=JU 26
abbrev QK:IL:=JU 27
abbrev QV:IL:=JU 28
abbrev PH:IL:=JU 30
abbrev QB:IL:=JU 31
abbrev OW:IL:=JU 32
abbrev NU:IL:=JU 33
abbrev QC:IL:=JU 34
abbrev OT:IL:=JU 39
abbrev MK:IL:=JU 40
abbrev LO:IL:=JU 41
abbrev NP:IL:=JU 42
abbrev OQ:IL:=JU 44
abbrev OF:IL:=JU 45
abbrev OD:IL:=JU 46
abbrev NL:IL:=JU 47
abbrev OC:IL:=JU 48
abbrev MI:IL:=JU 49
abbrev NM:IL:=JU 50
abbrev MJ:IL:=JU 51
abbrev OS:IL:=JU 52
abbrev OG:IL:=JU 53
abbrev LV:IL:=JU 54
abbrev MT:IL:=JU 55
abbrev KJ:IL:=JU 56
abbrev OB:IL:=JU 57
abbrev NK:IL:=JU 58
abbrev OE:IL:=JU 59
abbrev LN:IL:=JU 60
abbrev NN:IL:=JU 61
abbrev LE:IL:=O0 (JU 7) 0
abbrev LR:IL:=O0 (JU 7) 1
abbrev LD:IL:=O0 (JU 7) 2
abbrev KL:IL:=O0 (JU 7) 3
abbrev LY:IL:=O0 (JU 7) 4
abbrev KY:IL:=O0 (JU 7) 5
abbrev KF:IL:=O0 (JU 7) 6
abbrev KE:IL:=O0 (JU 7) 7
abbrev OX:IL:=O0 (JU 7) 8
abbrev LX:IL:=O0 (JU 38) 0
abbrev LQ:IL:=O0 (JU 38) 1
abbrev MX:IL:=O0 (JU 38) 2
abbrev LW:IL:=O0 (JU 38) 3
abbrev MW:IL:=O0 (JU 38) 4
abbrev LP:IL:=O0 (JU 38) 5
def Gw:Str:=("best_split":Str) ++ ".<locals>." ++ "<lambda>"
def B8:A1 (Pos×Str):=[(⟨94,27,94,74⟩,Gw)]
set_option genInjectivity false in
structure Tx(K:PySem.W.Frag)(mg:Str->A5 A2) where
 ba:Fn K mg "joined" PK ["sets"]
 aX:Fn K mg "first_bit" NQ ["some"]
 au:Fn K mg "standing_with" LK ["web", "some"]
 ak:Fn K mg "standing_from" LL ["marks", "held"]
 av:Fn K mg "tree_at" OP ["marks", "splits_at", "sets", "held", "known"]
 aw:Fn K mg "clash_at" OH ["marks", "held"]
 aj:Fn K mg "standing_splits" KW ["marks", "sets", "held"]
 aq:Fn K mg "best_split" KI ["marks", "held", "splits"]
 bI:A3
 aa:A3
 bd:TabAt K mg bI aa
 bw:aq.fd.code = .ref bI
 aT:Fn K mg "split_cost" MS ["marks", "held", "added"]
 az:Fn K mg "answers_at" MV ["marks", "held"]
 aF:Fn K mg "beyonds_at" MU ["marks", "sets", "held"]
 aR:Fn K mg "in_some" OU ["web", "name"]
 bJ:Fn K mg "rounds" QU ["web"]
 bK:Fn K mg "rounds_beside" NT ["web", "known"]
 bL:Fn K mg "one_round" PJ ["web", "words", "number"]
 bM:Fn K mg "wordless" QA ["web", "words"]
 bN:Fn K mg "all_out" QK ["web", "words", "name"]
 bO:Fn K mg "one_in" QV ["web", "words", "name"]
 aY:Fn K mg "won_by" PH ["web", "name", "kind"]
 bg:Fn K mg "won_firm" QB ["web", "name"]
 bP:Fn K mg "answer_row" OW ["web", "rows", "name", "number"]
 bQ:Fn K mg "first_striker" NU ["web", "name", "order"]
 bR:Fn K mg "doubt_at" QC ["web", "words", "name"]
 bc:Fn K mg "is_name" OT ["thing"]
 aO:Fn K mg "check_names" MK ["names"]
 aM:Fn K mg "check_strikes" LO ["names", "strikes"]
 aZ:Fn K mg "is_strike" NP ["names", "thing"]
 a2:Fn K mg "_law_mix" OQ ["_law_cell", "_law_k"]
 a5:Fn K mg "_law_left" OF ["_law_script", "_law_k"]
 al:Fn K mg "_law_pick" OD ["_law_left_here", "_law_many"]
 a0:Fn K mg "_law_names" NL ["_law_left_here", "_law_many"]
 a6:Fn K mg "_law_size" OC ["_law_left_here"]
 aP:Fn K mg "_law_strikes" MI ["_law_left_here", "_law_names_here"]
 a1:Fn K mg "_law_masks" NM ["_law_names_here", "_law_strikes_here"]
 aJ:Fn K mg "_law_mask_of" MJ ["_law_view", "_law_some"]
 a3:Fn K mg "_law_hit" OS ["_law_view", "_law_mask"]
 a7:Fn K mg "_law_kept" OG ["_law_view", "_law_mask"]
 aG:Fn K mg "_law_is_quiet" LV ["_law_view", "_law_mask"]
 aU:Fn K mg "_law_stands" MT ["_law_view", "_law_mask"]
 aD:Fn K mg "_law_all_standing" KJ ["_law_view"]
 as:Fn K mg "_law_tree" OB ["_law_names_here", "_law_strikes_here", "_law_held", "_law_tree_here"]
 aL:Fn K mg "_law_right" NK ["_law_web", "_law_names_here", "_law_strikes_here", "_law_view", "_law_masks_here", "_law_name"]
 a8:Fn K mg "_law_near" OE ["_law_left_here", "_law_names_here", "_law_strikes_here"]
 ao:Fn K mg "_law_all_right" LN ["_law_web", "_law_names_here", "_law_strikes_here"]
 ab:A3
 ad:QS K ab
 bE:mg "Marks" = some (.ref ab)
 aH:JI K ab "names"
 bj:JI K ab "full"
 aW:JI K ab "bit_of"
 ax:JI K ab "strikers_of"
 a9:JI K ab "struck_of"
 bh:JI K ab "loops"
 bm:A3
 bl:IS
 bn:PF K "__init__" "Marks.__init__" LE bm bl
 bo:Binds K bl ["self", "web"] []
 bF:Mk K ab bm
 ac:Mt K ab "bits_in" "Marks.bits_in" LR ["self", "some"]
 an:Mt K ab "names_in" "Marks.names_in" LD ["self", "some"]
 ag:Mt K ab "first_name" "Marks.first_name" KL ["self", "some"]
 aB:Mt K ab "set_of" "Marks.set_of" LY ["self", "some"]
 ah:Mt K ab "struck_by" "Marks.struck_by" KY ["self", "some"]
 af:Mt K ab "strikers_at" "Marks.strikers_at" KF ["self", "some"]
 ar:Mt K ab "unstruck_by" "Marks.unstruck_by" KE ["self", "some"]
 bS:Mt K ab "kept" "Marks.kept" OX ["self", "some"]
 ae:A3
 ap:QS K ae
 bx:mg "Web" = some (.ref ae)
 aN:JI K ae "names"
 bi:JI K ae "strikes"
 aE:JI K ae "strikers_by_name"
 aI:JI K ae "struck_by_name"
 bt:A3
 bs:IS
 bu:PF K "__init__" "Web.__init__" LX bt bs
 be:Binds K bs ["self", "names", "strikes"] []
 bz:Mk K ae bt
 aA:Mt K ae "all_names" "Web.all_names" LQ ["self"]
 bT:Mt K ae "all_strikes" "Web.all_strikes" MX ["self"]
 aC:Mt K ae "strikers" "Web.strikers" LW ["self", "name"]
 aK:Mt K ae "struck" "Web.struck" MW ["self", "name"]
 ai:Mt K ae "check_has" "Web.check_has" LP ["self", "name"]
 bD:∃t,mg "LETTERS" = some (.str "abcdefghijklmnopqrstuvwxyz" t)
 bv:∃t,mg "LONGEST_NAME" = some (.int 8 t)
 am:mg "len" = none
 aS:mg "range" = none
 aQ:mg "enumerate" = none
 bG:mg "zip" = none
 bp:mg "min" = none
 bA:mg "max" = none
 bf:mg "sum" = none
 bB:mg "abs" = none
 aV:mg "sorted" = none
 bq:mg "int" = none
 bH:mg "str" = none
 bb:mg "list" = none
 a4:mg "tuple" = none
 bU:mg "dict" = none
 br:mg "set" = none
 ay:mg "isinstance" = none
 bk:mg "all" = none
 bC:mg "any" = none
 bV:mg "ValueError" = none
end Sw
namespace L2
open PySem
def KN{N b:A1 Str}{a:JB}(h1:a.kind = .function:=by rfl)(h2:a.isCoroutine=false:=by rfl)(c:a.isGenerator=false:=by rfl)(d:N.Nodup:=by decide +kernel)(e:N.take b.length=b:=by rfl)(f:∀x∈b,a.names.lookup x=some .local\/a.names.lookup x=some .cell:=by decide +kernel)(g:∀y∈a.names,y.2≠ .free:=by decide +kernel):H_ N b a:=⟨h1,h2,c,d,e,f,g⟩
def Rm{j k:Nat}{A:IC}(h:JD k A)(e:j<=k:=by decide):JD j A:=h.mono e
def R9{J:It}{xs:A1 V}{a:A3}{d:Hp}(as:Le J xs a d){g:TG}{e:TS}{D:Ends}{σ:St}{H:Hp}(Pv:Nat->St->Hp->Prop)(h:Pv 0 σ H)(j:∀i σ H,i<=xs.length->Pv i σ H->JY a d H)
  (k:∀i σ H x,xs[i]?=some x->Pv i σ H->∀b:Ends,(∀σ' H',Pv (i+1) σ' H'->b.nx σ' H')->b.rt=D.rt->g x σ H λσ2 c=>e b σ2 c) (l:∀σ H,Pv xs.length σ H->D.nx σ H) :
  ∃W:Nat->Nat->St->Hp->Prop,(∃m,W 0 m σ H)/\∀i m σ H,W i m σ H ->
   (J.stop i H/\D.nx σ H)\/(J.go i H/\∃N:St->Hp->Prop,(∀σ' H',N σ' H'->∃f,f < m/\W (i+1) f σ' H')/\∀x H',J.yld i H x H'->g x σ H' λσ2 c=>e { D with nx:=N,ct:=N,bk:=D.nx } σ2 c) :=
 zBp as Pv h j (λi σ H x n o=>k i σ H x n o _ (λ_ _ z=>z) rfl) l
def Q7{lo:Int}{n:Nat}{g:TG}{c:TS}{D:Ends}{σ:St}{H:Hp}(Pv:Nat->St->Hp->Prop)(e:Pv 0 σ H)
  (f:∀i σ H,i<n->Pv i σ H->∀a:Ends,(∀σ' H',Pv (i+1) σ' H'->a.nx σ' H')->a.rt=D.rt->g (.int (lo+i)) σ H λσ2 b=>c a σ2 b) (h:∀σ H,Pv n σ H->D.nx σ H) :
  ∃W:Nat->Nat->St->Hp->Prop,(∃m,W 0 m σ H)/\∀i m σ H,W i m σ H ->
   ((RS lo n).stop i H/\D.nx σ H)\/((RS lo n).go i H/\∃N:St->Hp->Prop,(∀σ' H',N σ' H'->∃d,d < m/\W (i+1) d σ' H')/\∀x H',(RS lo n).yld i H x H'->g x σ H' λσ2 b=>c { D with nx:=N,ct:=N,bk:=D.nx } σ2 b) :=
 Pb Pv e (λi σ H j k=>f i σ H j k _ (λ_ _ z=>z) rfl) h
def A6{α:Type}{A C:α->Prop}{a:α}(e:A a)(h:C a):∃v,A v/\C v:=⟨a,e,h⟩
def l7{α0 α1 α2:Type}{d e f g h i:α0->α1->α2->Prop}{a:α0}{b:α1}{c:α2}(j:d a b c)(h1:e a b c)(h2:f a b c)(k:g a b c)(l:h a b c)(m:i a b c):∃a b c,d a b c/\e a b c/\f a b c/\g a b c/\h a b c/\i a b c:=⟨a,b,c,j,h1,h2,k,l,m⟩
def Zs{α0 α1 α2 α3 α4 α5 α6:Type}{h i j k:α0->α1->α2->α3->α4->α5->α6->Prop}{a:α0}{b:α1}{c:α2}{d:α3}{e:α4}{f:α5}{g:α6}(l:h a b c d e f g)(h1:i a b c d e f g)(h2:j a b c d e f g)(m:k a b c d e f g):∃a b c d e f g,h a b c d e f g/\i a b c d e f g/\j a b c d e f g/\k a b c d e f g:=⟨a,b,c,d,e,f,g,l,h1,h2,m⟩
def zCz{α0 α1 α2 α3 α4 α5:Type}{g h i j k l m n:α0->α1->α2->α3->α4->α5->Prop}{a:α0}{b:α1}{c:α2}{d:α3}{e:α4}{f:α5}(o:g a b c d e f)(h1:h a b c d e f)(h2:i a b c d e f)(p:j a b c d e f)(q:k a b c d e f)(r:l a b c d e f)(s:m a b c d e f)(t:n a b c d e f):∃a b c d e f,g a b c d e f/\h a b c d e f/\i a b c d e f/\j a b c d e f/\k a b c d e f/\l a b c d e f/\m a b c d e f/\n a b c d e f:=⟨a,b,c,d,e,f,o,h1,h2,p,q,r,s,t⟩
def zEc{α0 α1 α2 α3:Type}{e f g h i j k:α0->α1->α2->α3->Prop}{a:α0}{b:α1}{c:α2}{d:α3}(l:e a b c d)(h1:f a b c d)(h2:g a b c d)(m:h a b c d)(n:i a b c d)(o:j a b c d)(p:k a b c d):∃a b c d,e a b c d/\f a b c d/\g a b c d/\h a b c d/\i a b c d/\j a b c d/\k a b c d:=⟨a,b,c,d,l,h1,h2,m,n,o,p⟩
def B9{α0 α1:Type}{c d e:α0->α1->Prop}{a:α0}{b:α1}(f:c a b)(h1:d a b)(h2:e a b):∃a b,c a b/\d a b/\e a b:=⟨a,b,f,h1,h2⟩
def C0{t u:TS}{D:Ends}{σ:St}{H:Hp}(h:∀N:St->Hp->Prop,(∀σ' H',u D σ' H'->N σ' H')->t { D with nx:=N } σ H):SO t u D σ H:=h _ λ_ _ z=>z
def Uv{i:Nat}{v:V}{t u:TS}{D:Ends}{σ:St}{H:Hp}(h:∀N:St->Hp->Prop,(∀σ' H',u D σ' H'->N σ' H')->t { D with nx:=N } (σ.set i (some v)) H):l4 i v σ H (λσ2 a=>SO t u D σ2 a):=h _ λ_ _ z=>z
end L2
namespace Sw
open PySem L2
section
variable{P:CM}{w:F8}{K:PySem.W.Frag}{mg:Str->A5 A2}{base:IA}
def Xc(c:Nat):Bool:=decide (97<=c)&&decide (c<=122)
def S7(x:Str):Bool:=decide (1<=x.length)&&decide (x.length<=8)&&x.cps.toList.all Xc
theorem Jh:("abcdefghijklmnopqrstuvwxyz":Str).cps.toList=List.range' 97 26:=by decide +kernel
theorem Yf(c:Nat):decide (c∈("abcdefghijklmnopqrstuvwxyz":Str).cps.toList)=Xc c:=by
 rw[Jh];unfold Xc;by_cases a:97<=c
 .by_cases b:c<=122
  .rw[AS (List.mem_range'_1.mpr (by omega)),AS a,AS b];rfl
  .rw[BA (λz=>by have:=List.mem_range'_1.mp z;omega),BA b,HI]
 .rw[BA (λz=>by have:=List.mem_range'_1.mp z;omega),BA a,ED]
theorem Ml:H_ ["thing"] ["thing"] (B5 OT):=KN
def Nf:Sp:=λb H Q _=>∃x,b = [.str x]/\x.length<=1000/\∀a,HY H a->Q (.bl (S7 x)) a
theorem Nb(T:Tx K mg):IJ P w K mg base IZ 1 T.bc.f T.bc.fd ["thing"] Nf:=by
 refine T.bc.F.o1 Ml λr A b s H B Q E C h=>?_
 .obtain⟨x,rfl,G,k⟩:=h;refine⟨_,(B3 (J9 (PW.pt (V3 (P5 (P3 (E8 (j0 K) T.ay K5 (A8 (pv 0) (A8 (Nw T.bH zAw) B1))))) (U4 (P5 (To zCq zCq B7 (E8 Gb T.am K1 (A8 (pv 0) B1)) (zEd T.bv)))))) (B4 (C1 X3)) C5)
   (B4 (C1 (E8 (Ls K) T.bk Lm (A8 (U5 (N':=["letter"]) (cap:=[none]) (cl:=[]) (Q3 trivial trivial) rfl (zBd (pv 0)) (λ_ _ _ _=>by exact⟨(NC 0),K4,(O3 Qi (pv 0) (zDt T.bD) rfl)⟩)) B1))))),?_⟩
  have d:x.length<=sizeLine:=by rw[sizeLine_eq];omega
  have m:x.cps.size=x.length:=rfl;refine A6 rfl ⟨.str x, "str",_,true,rfl,.str x,rfl,A6 rfl ?_⟩;refine Q6 ?_;refine A6 rfl ⟨x,rfl,d,B9 rfl rfl (A6 rfl ?_)⟩;refine W0 (λa=>?_) (λa=>?_)
  .have a:(1:Int)<=(x.length:Int):=CA a;refine B9 rfl rfl (A6 rfl ?_);by_cases o:(x.length:Int)<=8
   .rw[AS o];refine Q6 ?_;refine A6 rfl ⟨x,rfl,λD p=>?_⟩;refine Ak (n:=x.cps.size) (λi σ g=>(∃v,σ = [v])/\HY H g/\g D=some (.lst ((x.cps.toList.take i).map λc=>V.bl (Xc c)))) ⟨⟨_,rfl⟩,HY.new p,A9⟩ (λi _ _ q _=>q) (λ_ _ _=>rfl) ?_ ?_
    .rintro i σ t v g N q ⟨⟨I,rfl⟩,j,l⟩ ⟨rfl,c,u,rfl⟩ y;refine Ft ?_;refine A6 rfl (B9 rfl rfl ⟨_,l,?_,?_⟩)
     .rw[AB,AX,sizeLine_eq];omega
     .rw[PySem.StrLaws.found_one,Yf];refine y _ _ ⟨⟨_,rfl⟩,j.upd p,?_⟩;rw[A9];have:x.cps.toList[i]?=some c:=by rw[BN];exact u
      rw[List.take_add_one,this,AY];rfl
    .rintro σ t ⟨_,j,l⟩;refine⟨D,x.cps.toList.map Xc,rfl,IG.of ?_,?_⟩
     .rw[l,<-AR,CJ,CI];rfl
     .have e:(x.cps.toList.map Xc).all id=S7 x:=by
       unfold S7;rw[AS (show 1<=x.length by omega),AS (show x.length<=8 by omega),List.all_map];rfl
      rw[e];exact k _ j
   .rw[BA o];refine Tf ?_;have e:S7 x=false:=by
     unfold S7;rw[BA (show ¬x.length<=8 by omega),HI,ED]
    have:=k H (HY.refl H);rw[e]at this;exact this
  .have a:¬(1:Int)<=(x.length:Int):=λz=>a (AS z);refine A6 rfl ?_;refine Tf ?_;have e:S7 x=false:=by
    unfold S7;rw[BA (show ¬1<=x.length by omega),ED,ED]
   have:=k H (HY.refl H);rw[e]at this;exact this
theorem IT{α:Type}{l:A1 α}{i:Nat}{x:α}(h:l[i]?=some x):l.take (i+1)=l.take i ++ [x]:=by
 rw[List.take_add_one,h];rfl
theorem Cr{α:Type}{l:A1 α}{i:Nat}{x:α}(a:l.Nodup)(h:l[i]?=some x):x∉l.take i:=by
 intro b;obtain⟨j,c,e⟩:=List.getElem_of_mem b;have d:j<i:=by rw[AX]at c;omega
 rw[List.getElem_take]at e;obtain⟨g,f⟩:=AF.mp h;have:=(List.getElem_inj a).mp (e.trans f.symm);omega
theorem JX:H_ ["names", "seen", "place", "name"] ["names"] (B5 MK):=KN
def S5(a:A1 Str):Prop:=(∀x∈a,S7 x=true)/\a.Nodup/\a.length<=100
def Bv(K:PySem.W.Frag):Sp:=λc H Q _=>∃(p:A3) (a:A1 Str),c = [.ref p]/\IG K H p (a.map V.str)/\S5 a/\∀b,HY H b->Q .non b
theorem Sv{x:Str}(h:S7 x=true):1<=x.length/\x.length<=8:=by
 unfold S7 at h;rw[BI,BI]at h;exact⟨CA h.1.1,CA h.1.2⟩
theorem By(T:Tx K mg):IJ P w K mg base IZ 2 T.aO.f T.aO.fd ["names"] (Bv K):=by
 refine T.aO.F.o1 JX λU A C s H Z Q E J h=>?_
 .obtain⟨a,b,rfl,r,⟨V,W,hL⟩,k⟩:=h;have hu:=i5 J;refine⟨_,(B3 (C7 (i:=1) JX.nd rfl (.inl rfl) (Ct (Xe P w) (by rfl) T.br Td))
   (B4 (P8 PassesOwn.never rfl (piE K T.aQ (A8 (pv 0) B1)) (RB K (n:=2) (E5 (D8 (i:=2) JX.nd rfl (.inl rfl)) (E5 (D8 (i:=3) JX.nd rfl (.inl rfl)) S4)))
   (B3 (J9 (PW.pt (V3 (P5 (P3 (D6 T.bc (Nb T) (Rm J) (A8 (pv 3) B1)))) (U4 (C2 (zDy P w) (pv 3) (pv 1) rfl)))) (B4 Ek) C5)
   (B4 (K3 (Wk P w (zBw P w) (pv 1) (A8 (pv 3) B1)))))))),?_⟩
  refine⟨rfl,λp L=>?_⟩;have M:HY H (HZ H p (Ob P w p [])):=HY.new L;refine A6 rfl ⟨a,A6 rfl ⟨(M.at a).seqL r,Ye (n:=b.length) (λi σ g=>∃l m,σ = [some (.ref a),some (.ref p),l,m]/\HY H g/\g p=some (Ob P w p ((b.take i).map Sum.inr))) ⟨_,_,rfl,M,A9⟩ ?_ ?_ ?_ ?_⟩⟩
  .rintro i σ g u ⟨l,m,rfl,c,o⟩;exact⟨_,_,(c.at a).seqL r,by rw[AH,AC u];rfl⟩
  .rintro σ g ⟨l,m,rfl,c,o⟩;exact⟨_,(c.at a).seqL r,by rw[AB]⟩
  .rintro i σ g v H' u ⟨l,m,rfl,c,o⟩ ⟨t,x,rfl,N,rfl,B⟩;have B:=B _ ((c.at a).seqL r);have j:b[i]?=some b[i]:=AC u;rw[AH,j]at B;cases B;have X:b[i]∈b:=ET u;have q:=V _ X;have O:=Sv q;have D:p≠t:=B2 o N;refine⟨t,A6 rfl ⟨IW.of A9,rfl,_,A6 rfl (B9 rfl rfl ?_)⟩⟩;refine A6 rfl ⟨b[i],rfl,by omega,λR S=>⟨_,rfl,?_⟩⟩;rw[q];refine Q6 ?_;have G:HY H R:=(c.trans (HY.new N)).trans S;have I:R p=some (Ob P w p ((b.take i).map Sum.inr)):=S _ _ (by rw[B6 D];exact o);have d:¬(Sum.inr b[i]:IU)∈(b.take i).map Sum.inr:=λz=>by
    obtain⟨y,Y,e⟩:=BB.mp z;cases e;exact Cr W j Y
   refine A6 rfl (A6 rfl ⟨p,_,Sum.inr b[i],rfl,rfl,I,A6 rfl ?_⟩);rw[AI (by decide),BA d];refine Q6 ?_;refine A6 rfl ⟨⟨p,rfl,.inl ⟨_,I⟩⟩,A6 rfl ⟨p,_,Sum.inr b[i],rfl,rfl,I,?_,?_⟩⟩
   .rw[AB,AX];omega
   .refine⟨_,A6 rfl ⟨G.upd L,?_⟩⟩;rw[A9];unfold zDh;rw[AI d,IT j,AY];rfl
  .rintro σ g ⟨l,m,rfl,c,o⟩;exact k g c
end
def Fa(a:A1 Str):(a.map V.str).all Cb=true:=by
 rw[DR];intro v b;obtain⟨x,_,rfl⟩:=BB.mp b;rfl
def Pd(x:Str)(a:A1 Str):SL (.str x) (a.map V.str)=decide (x∈a):=by
 unfold SL;rw[List.any_map]
 induction a with
 | nil=>rfl
 | cons y r b =>
  rw[FV,b];show((y == x)||decide (x∈r))=decide (x∈y::r);by_cases e:x=y
  .subst e;simp
  .have:(y == x)=false:=by simpa using λz=>e z.symm
   rw[this,Bool.false_or];by_cases h:x∈r
   .rw[AS h,AS (AU _ h)]
   .rw[BA h,BA (λz=>(AQ.mp z).elim e h)]
def j4{K:PySem.W.Frag}{H:Hp}{p:A3}{x:Str}{a:A1 Str}{Q:VK}(h:SD K H p (a.map V.str))(q:Q (.bl (decide (x∈a))) H):SH K false (.str x) (.ref p) H Q :=
 ⟨p,_,rfl,h,rfl,Fa a,by rw[AI (by decide),Pd];exact q⟩
def P1{K:PySem.W.Frag}{H:Hp}{p:A3}{x:Str}{a:A1 Str}{Q:VK}(h:SD K H p (a.map V.str))(q:Q (.bl (!decide (x∈a))) H):SH K true (.str x) (.ref p) H Q :=
 ⟨p,_,rfl,h,rfl,Fa a,by rw[AK rfl,Pd];exact q⟩
section
variable{P:CM}{w:F8}{K:PySem.W.Frag}{mg:Str->A5 A2}{base:IA}
theorem Ga:H_ ["names", "thing"] ["names", "thing"] (B5 NP):=KN
def Hh(K:PySem.W.Frag):Sp:=λb H Q _=>∃(p:A3) (a:A1 Str) (t:A3) (x y:Str),b = [.ref p,.ref t]/\IG K H p (a.map V.str)/\H t=some (.tup [.str x,.str y])/\x∈a/\y∈a/\Q (.bl true) H
theorem Gm(T:Tx K mg):IJ P w K mg base IZ 1 T.aZ.f T.aZ.fd ["names", "thing"] (Hh K):=by
 refine T.aZ.F.o1 Ga λe A c s H j Q E l h=>?_
 .obtain⟨p,m,t,x,y,rfl,d,b,g,i,k⟩:=h;refine⟨_,(B3 (J9 (PW.pt (V3 (P5 (P3 (E8 (j0 K) T.ay K5 (A8 (pv 1) (A8 (Nw T.a4 Y1) B1))))) (U4 (C2 Ij (E8 (K7 K) T.am K1 (A8 (pv 1) B1)) B7 (E6 _))))) (B4 (C1 X3)) C5)
   (B4 (C1 (Hj (O3 (Nj K) (G0 (OM K) (pv 1) B7 (λ_ _=>rfl)) (pv 0) rfl) (Pk (O3 (Nj K) (G0 (OM K) (pv 1) B7 (λ_ _=>rfl)) (pv 0) rfl)))))),?_⟩
  refine A6 rfl ⟨_, "tuple",_,true,rfl,.tup b,rfl,A6 rfl ?_⟩;refine Q6 ?_;refine A6 rfl (B9 (a:=t) rfl (.inr (IW.of b)) ⟨rfl,A6 rfl ?_⟩);refine Q6 ?_;refine A6 rfl ⟨t,_,B9 rfl rfl ⟨IW.of b,rfl,A6 rfl (j4 (.inl d) ⟨_,rfl,?_⟩)⟩⟩;rw[AS g];refine Tf ?_;refine A6 rfl ⟨t,_,B9 rfl rfl ⟨IW.of b,rfl,A6 rfl (j4 (.inl d) ?_)⟩⟩;rw[AS i];exact k
structure KD(ss:A1 Str)(ps:A1 JF):Prop where
 nm:∀q∈ps,q.2.1∈ss/\q.2.2∈ss
 nd:(ps.map λq=>q.2).Nodup
 len:ps.length<=200
def M0(a:A1 JF):A1 V:=a.map λq=>V.ref q.1
def Ie(a:A1 JF):A1 (A1 IU×A3):=a.map λq=>([.inr q.2.1,.inr q.2.2],q.1)
theorem Vl{H:Hp}{a:A1 JF}(h:∀q∈a,E4 H q):Lh H (Ie a):=λk b=>by
 obtain⟨q,c,rfl⟩:=BB.mp b;exact h q c
theorem G9{H H':Hp}{a:A1 JF}(s:HY H H')(h:∀q∈a,E4 H q):∀q∈a,E4 H' q:=λq b=>s _ _ (h q b)
theorem JO:H_ ["names", "strikes", "seen", "place", "strike"] ["names", "strikes"] (B5 LO):=KN
def u0(K:PySem.W.Frag):Sp:=λe H Q _=>∃(p:A3) (c:A1 Str) (a:A3) (b:A1 JF),e = [.ref p,.ref a]/\IG K H p (c.map V.str)/\IG K H a (M0 b)/\(∀q∈b,E4 H q)/\KD c b/\∀d,HY H d->Q .non d
theorem t6(T:Tx K mg):IJ P w K mg base IZ 2 T.aM.f T.aM.fd ["names", "strikes"] (u0 K):=by
 refine T.aM.F.o1 JO λX A D s H vs Q E N h=>?_
 .obtain⟨n,Y,a,b,rfl,Z,y,O,⟨hN,hD,hL⟩,k⟩:=h;have R:=i5 N;refine⟨_,(B3 (C7 (i:=2) JO.nd rfl (.inl rfl) (Ct (Vj P w) (by rfl) T.br Td))
   (B4 (P8 PassesOwn.never rfl (piE K T.aQ (A8 (pv 1) B1)) (RB K (n:=2) (E5 (D8 (i:=3) JO.nd rfl (.inl rfl)) (E5 (D8 (i:=4) JO.nd rfl (.inl rfl)) S4)))
   (B3 (J9 (PW.pt (V3 (P5 (P3 (D6 T.aZ (Gm T) (Rm N) (A8 (pv 0) (A8 (pv 4) B1))))) (U4 (C2 (zEs P w R) (pv 4) (pv 2) rfl)))) (B4 Ek) C5)
   (B4 (K3 (Wk P w (zBg P w R) (pv 2) (A8 (pv 4) B1)))))))),?_⟩
  refine⟨rfl,λp S=>?_⟩;have U:HY H (HZ H p (Oc P w p [])):=HY.new S;refine A6 rfl ⟨a,A6 rfl ⟨(U.at a).seqL y,Ye (n:=b.length) (λi σ c=>∃l v4,σ = [some (.ref n),some (.ref a),some (.ref p),l,v4]/\HY H c/\c p=some (Oc P w p (Ie (b.take i)))) ⟨_,_,rfl,U,A9⟩ ?_ ?_ ?_ ?_⟩⟩
  .rintro i σ c B ⟨G,l,rfl,d,m⟩;exact⟨_,_,(d.at a).seqL y,by unfold M0;rw[AH,AC B];rfl⟩
  .rintro σ c ⟨G,l,rfl,d,m⟩;exact⟨_,(d.at a).seqL y,by unfold M0;rw[AB]⟩
  .rintro i σ c v H' B ⟨G,l,rfl,d,m⟩ ⟨t,x,rfl,V,rfl,o⟩;have o:=o _ ((d.at a).seqL y);have g:b[i]?=some b[i]:=AC B;unfold M0 at o;rw[AH,g]at o;cases o;have W:b[i]∈b:=ET B;obtain⟨I,J⟩:=hN _ W;have L:p≠t:=B2 m V;have C:HY H (HZ c t (.tup [.int i,.ref b[i].1])):=d.trans (HY.new V);have j:=C _ _ (O _ W);refine⟨t,A6 rfl ⟨IW.of A9,rfl,_,A6 rfl (B9 rfl rfl ?_)⟩⟩;refine A6 rfl (A6 rfl ⟨n,Y,b[i].1,b[i].2.1,b[i].2.2,rfl,(C.at n).seqL Z,j,I,J,A6 rfl ?_⟩);refine Q6 ?_;have M:(HZ c t (.tup [.int i,.ref b[i].1])) p=some (Oc P w p (Ie (b.take i))):=by rw[B6 L];exact m
   have r:Lh (HZ c t (.tup [.int i,.ref b[i].1])) (Ie (b.take i)):=Vl (G9 C λq j=>O q (DG j));have u:∀q∈Ie (b.take i),q.1≠[.inr b[i].2.1,.inr b[i].2.2]:=λq j e=>by
    obtain⟨z,hz,rfl⟩:=BB.mp j;have e':z.2=b[i].2:=by
     obtain⟨z1,z2,z3⟩:=z;simp only[List.cons.injEq,Sum.inr.injEq,and_true]at e;exact Prod.ext e.1 e.2
    have h1:(b.map λq=>q.2)[i]?=some b[i].2:=by rw[AH,g];rfl
    refine Cr hD h1 ?_;rw[<-List.map_take,<-e'];exact BB.mpr ⟨z,hz,rfl⟩
   refine A6 rfl (A6 rfl ⟨p,b[i].1,_,[.inr b[i].2.1,.inr b[i].2.2],rfl,rfl,M,j,r,u,A6 rfl ?_⟩);refine Q6 ?_;refine A6 rfl ⟨⟨p,rfl,.inr (.inr ⟨_,M⟩)⟩,A6 rfl ⟨p,b[i].1,_,[.inr b[i].2.1,.inr b[i].2.2],rfl,rfl,M,j,r,u,?_,?_⟩⟩
   .unfold Ie;rw[AB,AX];omega
   .refine⟨_,A6 rfl ⟨C.upd S,?_⟩⟩;rw[A9,IT g];unfold Ie;rw[AY];rfl
  .rintro σ c ⟨G,l,rfl,d,m⟩;exact k c d
end
def la(a:A1 (IU×V))(n:Str):A3:=match T0 a (.inr n)with | some (.ref l)=>l | _=>0
def Oh(a:A1 (IU×V))(n m:Str)(v:V):T0 (Bt a (Sum.inr n:IU) v) (.inr m)=if m=n then some v else T0 a (.inr m):=by
 rw[w9];by_cases e:m=n
 .rw[AK e,AK (by rw[e])]
 .rw[AI e,AI (λz=>e (Sum.inr.inj z))]
def Cm(a:A1 (IU×V))(n m:Str)(p:A3):la (Bt a (.inr n) (.ref p)) m=if m=n then p else la a m:=by
 unfold la;rw[Oh];by_cases e:m=n
 .rw[AK e,AK e]
 .rw[AI e,AI e]
structure DOk(H0:Hp)(kvs:A1 (IU×V))(ns:A1 Str):Prop where
 val:∀n∈ns,T0 kvs (.inr n)=some (.ref (la kvs n))
 inj:∀n∈ns,∀m∈ns,la kvs n=la kvs m->n=m
 fr:∀n∈ns,H0 (la kvs n)=none
def Wy{K:PySem.W.Frag}{J:It}{a:A3}{ns:A1 Str}{H:Hp}{σ:St}{Q:St->Hp->Prop}(as:Le J (ns.map V.str) a H)(hσ:∃v,σ = [v])(I:ns.Nodup)(L:ns.length<=1000){D:A3}(A:H D=none)
  (q:∀σ b H',HY H H'->H' D=some (.dK b)->DOk H b ns->(∀n∈ns,H' (la b n)=some (.lst []))->(∀n∈ns,la b n≠D)->Q σ H') :
  Lr (l4 0) Gr (Ty D (Ux 0) (zFo SU)) J σ (HZ H D (.dK [])) Q:=by
 obtain⟨v,rfl⟩:=hσ;refine X8 as (λi σ f=>(∃v,σ = [v])/\∃b,HY H f/\f D=some (.dK b)/\b.length<=i/\DOk H b (ns.take i)/\(∀n∈ns.take i,f (la b n)=some (.lst []))/\∀n∈ns.take i,la b n≠D)
  ⟨⟨v,rfl⟩,[],HY.new A,A9,CP _,⟨λn h=>by simp at h,λn h=>by simp at h,λn h=>by simp at h⟩,λn h=>by simp at h,λn h=>by simp at h⟩ (λi σ f _ ⟨_,b,l,_⟩=>l.at a) ?_ ?_
 .rintro i σ f x N s ⟨⟨v,rfl⟩,b,l,w,C,t,o,y⟩ E;rw[AH]at s;have F:i<ns.length:=by
   rcases Nat.lt_or_ge i ns.length with z | z
   .exact z
   .rw[EQ z]at s;cases s
  have u:ns[i]?=some ns[i]:=AC F;rw[u]at s;cases s;refine Ft ?_;refine A6 rfl ⟨CP _,λp r=>?_⟩;have g:D≠p:=B2 w r;refine⟨b,.inr ns[i],by rw[B6 g];exact w,rfl,by rw[sizeLine_eq];omega,E _ _ ⟨⟨_,rfl⟩,Bt b (.inr ns[i]) (.ref p),?_,A9,?_,⟨?_,?_,?_⟩,?_,?_⟩⟩
  .exact(l.trans (HY.new r)).upd A
  .have:=U2 b (Sum.inr ns[i]:IU) (.ref p);omega
  all_goals rw[IT u]
  .intro n c;rw[Oh,Cm];by_cases e:n=ns[i]
   .rw[AK e,AK e]
   .rw[AI e,AI e];rcases BD.mp c with z | z
    .exact t.val n z
    .exact absurd (AE.mp z) e
  .intro n c m B;rw[Cm,Cm];have d:∀k∈ns.take i ++ [ns[i]],k≠ns[i]->k∈ns.take i:=λk G e=>(BD.mp G).elim id λz=>absurd (AE.mp z) e;by_cases e:n=ns[i]
   .by_cases j:m=ns[i]
    .exact λ_=>e.trans j.symm
    .rw[AK e,AI j];intro z;have:=o m (d m B j);rw[<-z,r]at this;cases this
   .by_cases j:m=ns[i]
    .rw[AI e,AK j];intro z;have:=o n (d n c e);rw[z,r]at this;cases this
    .rw[AI e,AI j];exact t.inj n (d n c e) m (d m B j)
  .intro n c;rw[Cm];by_cases e:n=ns[i]
   .rw[AK e];exact l.free r
   .rw[AI e];rcases BD.mp c with z | z
    .exact t.fr n z
    .exact absurd (AE.mp z) e
  .intro n c;rw[Cm];by_cases e:n=ns[i]
   .rw[AK e,B6 g.symm,A9]
   .rw[AI e];rcases BD.mp c with z | z
    .rw[B6 (y n z),B6 (B2 (o n z) r)];exact o n z
    .exact absurd (AE.mp z) e
  .intro n c;rw[Cm];by_cases e:n=ns[i]
   .rw[AK e];exact g.symm
   .rw[AI e];rcases BD.mp c with z | z
    .exact y n z
    .exact absurd (AE.mp z) e
 .rintro σ f ⟨_,b,l,w,C,t,o,y⟩;rw[AB]at *;rw[CJ]at *;exact q σ b f l w t o y
def C3(a:A1 JF)(n:Str):A1 Str:=(a.filter λq=>decide (q.2.2=n)).map λq=>q.2.1
def E2(a:A1 JF)(n:Str):A1 Str:=(a.filter λq=>decide (q.2.1=n)).map λq=>q.2.2
def Ai(a:A1 JF)(q:JF)(n:Str):C3 (a ++ [q]) n=C3 a n ++(if q.2.2=n then [q.2.1]else []):=by
 unfold C3;rw[EA,AY];by_cases e:q.2.2=n
 .rw[AK e,DT,AK (AS e)];rfl
 .rw[AI e,DT,AI (by simp[e])];rfl
def Ei(a:A1 JF)(q:JF)(n:Str):E2 (a ++ [q]) n=E2 a n ++(if q.2.1=n then [q.2.2]else []):=by
 unfold E2;rw[EA,AY];by_cases e:q.2.1=n
 .rw[AK e,DT,AK (AS e)];rfl
 .rw[AI e,DT,AI (by simp[e])];rfl
def wf(a b c d:A3):A1 (Str×V):=[("names",.ref a),("strikes",.ref b),("strikers_by_name",.ref c),("struck_by_name",.ref d)]
structure TC(ns:A1 Str)(qs:A1 JF):Prop where
 nd:ns.Nodup
 len:ns.length<=100
 srt:ns.Pairwise PN
 mem:∀q∈qs,q.2.1∈ns/\q.2.2∈ns
 ndq:(qs.map λq=>q.2).Nodup
 lenq:qs.length<=200
 srq:qs.Pairwise S_
structure JR(C:A3)(H:Hp)(x:A3)(ns:A1 Str)(qs:A1 JF):Prop where
 ok:TC ns qs
 ex:∃dx a b c d kc kd,H x=some (.ins C dx (wf a b c d))/\H a=some (.lst (ns.map V.str))/\H b=some (.lst (M0 qs))/\(∀q∈qs,E4 H q)/\H c=some (.dK kc)/\H d=some (.dK kd) /\
  (∀n∈ns,∃l,T0 kc (.inr n)=some (.ref l)/\H l=some (.lst ((C3 qs n).map V.str)))/\∀n∈ns,∃l,T0 kd (.inr n)=some (.ref l)/\H l=some (.lst ((E2 qs n).map V.str))
section
variable{P:CM}{w:F8}{K:PySem.W.Frag}{mg:Str->A5 A2}{base:IA}
theorem KC:H_ ["self", "names", "strikes", "one", "other"] ["self", "names", "strikes"] (B5 LX):=KN
def Ih(K:PySem.W.Frag)(C:A3):Sp:=λg H Q _=>∃(x h n:A3) (b:A1 Str) (a:A3) (c:A1 JF),g = [.ref x,.ref n,.ref a]/\H x=some (.ins C h [])/\H n=some (.lst (b.map V.str))/\S5 b /\
 H a=some (.lst (M0 c))/\(∀q∈c,E4 H q)/\KD b c/\∀d e f,d.Perm b->d.Pairwise PN->e.Perm c->e.Pairwise S_->Sm [x] H f->JR C f x d e->Q .non f
theorem Ae(T:Tx K mg):IJ P w K mg base IZ 3 T.bt T.bs ["self", "names", "strikes"] (Ih K T.ae):=by
 refine T.bu.o1 KC λcdv A outer s H vs Q E hr h=>?_
 .obtain⟨x,g,n,ss,a,ps,rfl,hx,hS,hN,hP,hI,hO,k⟩:=h;have hu:=i5 hr;refine⟨_,(B3 (K3 (D6 T.aO (By T) (Rm hr) (A8 (pv 1) B1)))
   (B3 (K3 (D6 T.aM (t6 T) (Rm hr) (A8 (pv 1) (A8 (pv 2) B1))))
   (B3 (RA K (pv 0) (E8 (Dw K) T.aV V2 (A8 (pv 1) B1)))
   (B3 (RA K (pv 0) (E8 (Vg K) T.aV V2 (A8 (pv 2) B1)))
   (B3 (RA K (pv 0) (Si (N':=["name"]) (cap:=[none]) (cl:=[]) (Q3 trivial trivial) rfl (NV K (OK K (pv 0))) (λ_ _ _ _=>by exact⟨(NC 0),K4,(pv 0),(M7 B1)⟩)))
   (B3 (RA K (pv 0) (Si (N':=["name"]) (cap:=[none]) (cl:=[]) (Q3 trivial trivial) rfl (NV K (OK K (pv 0))) (λ_ _ _ _=>by exact⟨(NC 0),K4,(pv 0),(M7 B1)⟩)))
   (B4 (P8 PassesOwn.never rfl (NV K (OK K (pv 0))) (RB K (n:=2) (E5 (D8 (i:=3) KC.nd rfl (.inl rfl)) (E5 (D8 (i:=4) KC.nd rfl (.inl rfl)) S4)))
   (B3 (K3 (Nt K PySem.F.plainAttrs_list PySem.F.slot_list_append PySem.F.type_list_append P4 (N9 hu (OK K (pv 0)) (pv 4) (λ_ _=>rfl)) (A8 (pv 3) B1)))
   (B4 (K3 (Nt K PySem.F.plainAttrs_list PySem.F.slot_list_append PySem.F.type_list_append P4 (N9 hu (OK K (pv 0)) (pv 3) (λ_ _=>rfl)) (A8 (pv 4) B1))))))))))))),?_⟩
  obtain⟨hN1,hN2,hN3⟩:=id hN;obtain⟨hO1,hO2,hO3⟩:=id hO;refine C0 λZ1 hZ1=>?_;refine A6 rfl ⟨n,ss,rfl,IG.of hS,hN,λH1 s1=>?_⟩;refine hZ1 _ _ (C0 λZ2 hZ2=>?_);refine A6 rfl (A6 rfl ⟨n,ss,a,ps,rfl,IG.of (s1 _ _ hS),IG.of (s1 _ _ hP),G9 s1 hI,hO,λH2 s2=>?_⟩);refine hZ2 _ _ (C0 λZ3 hZ3=>?_);have s12:=s1.trans s2;refine A6 rfl ⟨n,ss,rfl,IG.of (s12 _ _ hS),λj p hl1 p1 w1=>?_⟩;have M:x≠j:=B2 (s12 _ _ hx) hl1;refine A6 rfl ⟨x,T.ae,g,[],rfl,by rw[B6 M];exact s12 _ _ hx,T.ap,T.aN,by decide,?_⟩;have hxa:a≠x:=Q2 hP hx (by intro z;cases z);have k3:Sm [x] H (HZ (HZ H2 j (.lst (p.map V.str))) x (.ins T.ae g (Q4 "names" (.ref j) []))):=(Sm.new s12.sm hl1).upd (by simp);have e3:(HZ (HZ H2 j (.lst (p.map V.str))) x (.ins T.ae g (Q4 "names" (.ref j) []))) j=some (.lst (p.map V.str)):=by rw[B6 M.symm,A9]
  generalize hH3:HZ (HZ H2 j (.lst (p.map V.str))) x (.ins T.ae g (Q4 "names" (.ref j) []))=H3 at k3 e3⊢;refine hZ3 _ _ (C0 λZ4 hZ4=>?_);have x3:H3 x=some (.ins T.ae g [("names",.ref j)]):=by rw[<-hH3,A9];rfl
  have r:∀{b:A3},b≠x->b∉[x]:=λh z=>h (AE.mp z);have U:∀q∈ps,E4 H3 q:=λq D=>k3 _ _ (hI q D) (r (Q2 (hI q D) hx (by intro z;cases z)));refine A6 rfl ⟨a,ps,rfl,IG.of (k3 _ _ hP (r hxa)),U,λt y hl2 p2 w2=>?_⟩;have N:x≠t:=B2 x3 hl2;refine A6 rfl ⟨x,T.ae,g,[("names",.ref j)],rfl,by rw[B6 N];exact x3,T.ap,T.bi,by simp,?_⟩;have k4:Sm [x] H3 (HZ (HZ H3 t (.lst (M0 y))) x (.ins T.ae g (Q4 "strikes" (.ref t) [("names",.ref j)]))):=(Sm.new (Sm.refl _ _) hl2).upd (by simp);have e4:(HZ (HZ H3 t (.lst (M0 y))) x (.ins T.ae g (Q4 "strikes" (.ref t) [("names",.ref j)]))) t=some (.lst (M0 y)):=by rw[B6 N.symm,A9]
  have R:(HZ (HZ H3 t (.lst (M0 y))) x (.ins T.ae g (Q4 "strikes" (.ref t) [("names",.ref j)]))) x=some (.ins T.ae g [("names",.ref j),("strikes",.ref t)]):=by rw[A9];rfl
  refine hZ4 _ _ ?_;show SO _ _ _ _ (HZ (HZ H3 t (.lst (M0 y))) x (.ins T.ae g (Q4 "strikes" (.ref t) [("names",.ref j)])));generalize HZ (HZ H3 t (.lst (M0 y))) x (.ins T.ae g (Q4 "strikes" (.ref t) [("names",.ref j)]))=H4 at k4 e4 R⊢;have f4:H4 j=some (.lst (p.map V.str)):=k4 _ _ e3 (r M.symm);have u:∀q∈y,E4 H4 q:=λq D=>k4 _ _ (U q (p2.mem_iff.mp D)) (r (Q2 (U q (p2.mem_iff.mp D)) x3 (by intro z;cases z)));have ndn:p.Nodup:=p1.nodup_iff.mpr hN2;have lnn:p.length<=1000:=by rw[p1.length_eq];omega
  refine C0 λZ5 hZ5=>?_;refine A6 rfl ⟨x,T.ae,g,_,A6 rfl ⟨R,T.ap,T.aN,rfl,j,rfl,⟨_,IG.of f4⟩,λc hc=>Wy (K:=K) (NR (IG.of f4)) ⟨_,rfl⟩ ndn lnn hc λ_ I H5 s5 e5 D5 c5 n5=>?_⟩⟩;have x5:=s5 _ _ R;refine A6 rfl ⟨x,T.ae,g,A6 rfl ⟨x5,T.ap,T.aE,by simp,?_⟩⟩;have k6:Sm [x] H5 (HZ H5 x (.ins T.ae g (Q4 "strikers_by_name" (.ref c) [("names",.ref j),("strikes",.ref t)]))):=(Sm.refl _ _).upd (by simp);have x6:(HZ H5 x (.ins T.ae g (Q4 "strikers_by_name" (.ref c) [("names",.ref j),("strikes",.ref t)]))) x=some (.ins T.ae g [("names",.ref j),("strikes",.ref t),("strikers_by_name",.ref c)]):=by rw[A9];rfl
  generalize HZ H5 x (.ins T.ae g (Q4 "strikers_by_name" (.ref c) [("names",.ref j),("strikes",.ref t)]))=H6 at k6 x6⊢;refine hZ5 _ _ (C0 λZ6 hZ6=>?_);have W:∀{b:A3} {o:HO},H4 b=some o->b≠x->H6 b=some o:=λe B=>k6 _ _ (s5 _ _ e) (r B);have f6:=W f4 M.symm;have g6:=W e4 N.symm;have c6:H6 c=some (.dK I):=k6 _ _ e5 (r (B2 R hc).symm);have cl6:∀n∈p,H6 (la I n)=some (.lst []):=λn f=>k6 _ _ (c5 n f) (r (B2 R (D5.fr n f)).symm);refine A6 rfl ⟨x,T.ae,g,_,A6 rfl ⟨x6,T.ap,T.aN,rfl,j,rfl,⟨_,IG.of f6⟩,λd hd=>Wy (K:=K) (NR (IG.of f6)) ⟨_,rfl⟩ ndn lnn hd λ_ L H7 s7 e7 D7 c7 n7=>?_⟩⟩;have x7:=s7 _ _ x6;refine A6 rfl ⟨x,T.ae,g,A6 rfl ⟨x7,T.ap,T.aI,by simp,?_⟩⟩;have k8:Sm [x] H7 (HZ H7 x (.ins T.ae g (Q4 "struck_by_name" (.ref d) [("names",.ref j),("strikes",.ref t),("strikers_by_name",.ref c)]))):=(Sm.refl _ _).upd (by simp);have x8:(HZ H7 x (.ins T.ae g (Q4 "struck_by_name" (.ref d) [("names",.ref j),("strikes",.ref t),("strikers_by_name",.ref c)]))) x=some (.ins T.ae g (wf j t c d)):=by rw[A9];rfl
  generalize HZ H7 x (.ins T.ae g (Q4 "struck_by_name" (.ref d) [("names",.ref j),("strikes",.ref t),("strikers_by_name",.ref c)]))=H8 at k8 x8⊢;refine hZ6 _ _ ?_;have O:∀{b:A3} {o:HO},H6 b=some o->b≠x->H8 b=some o:=λe B=>k8 _ _ (s7 _ _ e) (r B);have f8:=O f6 M.symm;have g8:=O g6 N.symm;have c8:=O c6 (B2 R hc).symm;have d8:H8 d=some (.dK L):=k8 _ _ e7 (r (B2 x6 hd).symm);have cl8:∀n∈p,H8 (la I n)=some (.lst []):=λn f=>O (cl6 n f) (B2 R (D5.fr n f)).symm;have dl8:∀n∈p,H8 (la L n)=some (.lst []):=λn f=>k8 _ _ (c7 n f) (r (B2 x6 (D7.fr n f)).symm);have pin8:∀q∈y,E4 H8 q:=λq D=>O (W (u q D) (Q2 (u q D) R (by intro z;cases z))) (Q2 (u q D) R (by intro z;cases z));have dif:∀n∈p,∀m∈p,la I n≠la L m:=λn f m G=>B2 (cl6 n f) (D7.fr m G);have C:∀{b:A3} {o:HO},H4 b=some o->b≠x->(∀n∈p,b≠la I n)/\∀n∈p,b≠la L n:=λe B=>⟨λn f=>B2 e (D5.fr n f),λn f=>B2 (W e B) (D7.fr n f)⟩;have kall:Sm [x] H H8:=λb o e B=>by
   have hb':b≠x:=λz=>B (by simp[z]);exact O (W (k4 _ _ (k3 _ _ e B) B) hb') hb'
  have odif:∀{b:A3} {o:HO},H b=some o->b≠x->(∀n∈p,b≠la I n)/\∀n∈p,b≠la L n:=λe B=>C (k4 _ _ (k3 _ _ e (r B)) (r B)) B;have X:(∀n∈p,x≠la I n)/\∀n∈p,x≠la L n:=⟨λn f=>B2 R (D5.fr n f),λn f=>B2 x6 (D7.fr n f)⟩;have cdif:(∀n∈p,c≠la I n)/\∀n∈p,c≠la L n:=⟨λn f=>(n5 n f).symm,λn f=>B2 c6 (D7.fr n f)⟩;have Y:(∀n∈p,d≠la I n)/\∀n∈p,d≠la L n:=⟨λn f=>(B2 (cl6 n f) hd).symm,λn f=>(n7 n f).symm⟩;refine⟨_,rfl,x,T.ae,g,_,_,rfl,x8,T.ap,T.bi,rfl,t,rfl,⟨_,IG.of g8⟩,R9 (NR (IG.of g8)) (λi σ S=>(∃v3 v4,σ = [some (.ref x),some (.ref n),some (.ref a),v3,v4]) /\
   (∀b o,H8 b=some o->((∀n∈p,b≠la I n)/\∀n∈p,b≠la L n)->S b=some o)/\(∀n∈p,S (la I n)=some (.lst ((C3 (y.take i) n).map V.str)))/\∀n∈p,S (la L n)=some (.lst ((E2 (y.take i) n).map V.str)))
   ⟨⟨_,_,rfl⟩,λb o e _=>e,cl8,dl8⟩ ?_ ?_ ?_⟩
  .rintro i σ S _ ⟨_,J,_⟩ o e;exact J _ _ e (C e4 N.symm)
  .rintro i σ S v hv ⟨⟨v3,v4,rfl⟩,J,h2,h3⟩ D1 hD1 _;unfold M0 at hv;rw[AH]at hv;cases D:y[i]? with
   | none=>rw[D]at hv;cases hv
   | some q =>
    rw[D]at hv;cases hv;have G:q∈y:=AL D;have hq9:E4 S q:=J _ _ (pin8 q G) (C (u q G) (Q2 (u q G) R (by intro z;cases z)));obtain⟨m1,Z⟩:=hO1 q (p2.mem_iff.mp G);have m1:q.2.1∈p:=p1.mem_iff.mpr m1;have Z:q.2.2∈p:=p1.mem_iff.mpr Z;have hlen:∀l:A1 JF,l.length<=200->∀n,(C3 l n).length<=200/\(E2 l n).length<=200:=λl hl n=>by
     unfold C3 E2;rw[AB,AB];exact⟨Nat.le_trans (BZ ..) hl,Nat.le_trans (BZ ..) hl⟩
    have hl200:(y.take i).length<=200:=by
     rw[AX];have:=p2.length_eq;omega
    have x9:S x=some (.ins T.ae g (wf j t c d)):=J _ _ x8 X;refine⟨q.1,A6 rfl ⟨IW.of hq9,rfl,_,A6 rfl (B9 rfl rfl ?_)⟩⟩;refine A6 rfl ⟨x,T.ae,g,_,A6 rfl ⟨x9,T.ap,T.aE,rfl,A6 rfl ⟨c,.ref (la I q.2.2),rfl,by rw[<-D5.val _ Z];exact NY.k (k:=Sum.inr q.2.2) (J _ _ c8 cdif),.inl ⟨rfl,_,IG.of (h2 _ Z)⟩,A6 rfl ⟨_,B9 rfl rfl ⟨h2 _ Z,?_,?_⟩⟩⟩⟩⟩
    .rw[AB,sizeLine_eq];have:=(hlen _ hl200 q.2.2).1;omega
    have x10:(HZ S (la I q.2.2) (.lst ((C3 (y.take i) q.2.2).map V.str ++ [.str q.2.1]))) x=some (.ins T.ae g (wf j t c d)):=by rw[B6 (X.1 _ Z)];exact x9
    have d10:(HZ S (la I q.2.2) (.lst ((C3 (y.take i) q.2.2).map V.str ++ [.str q.2.1]))) d=some (.dK L):=by rw[B6 (Y.1 _ Z)];exact J _ _ d8 Y
    have l10:(HZ S (la I q.2.2) (.lst ((C3 (y.take i) q.2.2).map V.str ++ [.str q.2.1]))) (la L q.2.1)=some (.lst ((E2 (y.take i) q.2.1).map V.str)):=by rw[B6 (dif _ Z _ m1).symm];exact h3 _ m1
    refine A6 rfl ⟨x,T.ae,g,_,A6 rfl ⟨x10,T.ap,T.aI,rfl,A6 rfl ⟨d,.ref (la L q.2.1),rfl,by rw[<-D7.val _ m1];exact NY.k (k:=Sum.inr q.2.1) d10,.inl ⟨rfl,_,IG.of l10⟩,A6 rfl ⟨_,B9 rfl rfl ⟨l10,?_,?_⟩⟩⟩⟩⟩
    .rw[AB,sizeLine_eq];have:=(hlen _ hl200 q.2.1).2;omega
    refine hD1 _ _ ⟨⟨_,_,rfl⟩,λb o e B=>?_,λm G=>?_,λm G=>?_⟩
    .rw[B6 (B.2 _ m1),B6 (B.1 _ Z)];exact J b o e B
    .rw[B6 (dif m G _ m1),IT D,Ai];by_cases e:q.2.2=m
     .rw[<-e,A9,AK rfl,AY];rfl
     .rw[AI e,CT,B6 (λz=>e (D5.inj _ G _ Z z).symm)];exact h2 m G
    .rw[IT D,Ei];by_cases e:q.2.1=m
     .rw[<-e,A9,AK rfl,AY];rfl
     .rw[AI e,CT,B6 (λz=>e (D7.inj _ G _ m1 z).symm),B6 (dif _ Z _ G).symm];exact h3 m G
  .rintro σ S ⟨_,J,h2,h3⟩;have hlq:(M0 y).length=y.length:=by unfold M0;rw[AB]
   rw[hlq,CJ]at h2 h3;refine k p y S p1 w1 p2 w2 (λb o e B=>?_) ⟨⟨ndn,by rw[p1.length_eq];exact hN3,w1,λq D=>⟨p1.mem_iff.mpr (hO1 q (p2.mem_iff.mp D)).1,p1.mem_iff.mpr (hO1 q (p2.mem_iff.mp D)).2⟩,(p2.map _).nodup_iff.mpr hO2,by rw[p2.length_eq];exact hO3,w2⟩,g,j,t,c,d,I,L,J _ _ x8 X,J _ _ f8 (C f4 M.symm),J _ _ g8 (C e4 N.symm),λq G=>J _ _ (pin8 q G) (C (u q G) (Q2 (u q G) R (by intro z;cases z))),J _ _ c8 cdif,J _ _ d8 Y,λn f=>⟨_,D5.val n f,h2 n f⟩,λn f=>⟨_,D7.val n f,h3 n f⟩⟩;have hb':b≠x:=λz=>B (by simp[z]);exact J _ _ (kall b o e B) (odif e hb')
end
def JR.same{C:A3}{H H':Hp}{x:A3}{ns:A1 Str}{g:A1 JF}(h:JR C H x ns g)(s:HY H H'):JR C H' x ns g:=by
 obtain⟨i,j,a,b,c,d,k,m,o,p,q,r,t,u,w,y⟩:=h;exact⟨i,j,a,b,c,d,k,m,s _ _ o,s _ _ p,s _ _ q,G9 s r,s _ _ t,s _ _ u,λn f=>let⟨l,v,e⟩:=w n f;⟨l,v,s _ _ e⟩,λn f=>let⟨l,v,e⟩:=y n f;⟨l,v,s _ _ e⟩⟩
section
variable{P:CM}{w:F8}{K:PySem.W.Frag}{mg:Str->A5 A2}{base:IA}
theorem r9:H_ ["self"] ["self"] (B5 LQ):=KN
def Gj(C:A3):Sp:=λb H Q _=>∃(x:A3) (a:A1 Str) (c:A1 JF),b = [.ref x]/\JR C H x a c/\∀l,H l=none->Q (.ref l) (HZ H l (.lst (a.map V.str)))
theorem t8(T:Tx K mg):IJ P w K mg base IZ 1 T.aA.f T.aA.fd ["self"] (Gj T.ae):=by
 refine T.aA.F.o1 r9 λg A e s H m Q E n h=>?_
 .obtain⟨x,o,p,rfl,⟨q,i,a,b,c,d,r,t,j,l,u,v,y,z,B,C⟩,k⟩:=h;refine⟨_,(B4 (C1 (Eu (Dq K) T.bb Az (A8 (OK K (pv 0)) B1)))),?_⟩;exact⟨_,rfl,x,T.ae,i,_,_,rfl,j,T.ap,T.aN,rfl,a,_,rfl,.inl (IG.of l),k⟩
theorem u8:H_ ["self", "name"] ["self", "name"] (B5 LP):=KN
def Gg(C:A3):Sp:=λb H Q _=>∃(x:A3) (n:Str) (a:A1 Str) (c:A1 JF),b = [.ref x,.str n]/\JR C H x a c/\n∈a/\Q .non H
theorem M8(T:Tx K mg):IJ P w K mg base IZ 1 T.ai.f T.ai.fd ["self", "name"] (Gg T.ae):=by
 refine T.ai.F.o1 u8 λg A e s H o Q E p h=>?_
 .obtain⟨x,n,q,r,rfl,⟨t,i,a,b,c,d,u,v,j,l,y,z,B,C,D,G⟩,m,k⟩:=h;refine⟨_,(B4 (J9 (C2 (V9 K) (pv 1) (OK K (pv 0)) rfl) (B4 Ek) C5)),?_⟩;refine A6 rfl (A6 rfl ⟨x,T.ae,i,_,A6 rfl ⟨j,T.ap,T.aN,rfl,P1 (.inl (IG.of l)) ⟨_,rfl,?_⟩⟩⟩);rw[AS m];exact Q6 k
theorem Eo:H_ ["self", "name"] ["self", "name"] (B5 MW):=KN
def Pw(C:A3):Sp:=λc H Q _=>∃(x:A3) (n:Str) (a:A1 Str) (b:A1 JF),c = [.ref x,.str n]/\JR C H x a b/\n∈a/\∀l,H l=none->Q (.ref l) (HZ H l (.lst ((E2 b n).map V.str)))
theorem Ey(T:Tx K mg):IJ P w K mg base IZ 2 T.aK.f T.aK.fd ["self", "name"] (Pw T.ae):=by
 refine T.aK.F.o1 Eo λr A g s H C Q E i h=>?_
 .obtain⟨x,n,t,u,rfl,j,o,k⟩:=h;have y:=i5 i;obtain⟨D,p,a,b,c,d,G,I,q,J,L,M,N,z,O,B⟩:=id j;refine⟨_,(B3 (K3 (D0 (pv 0) T.ap T.ai.m (M8 T) (Rm i) T.ai.b .nil K0 (A8 (pv 1) B1)))
   (B4 (C1 (Eu (Dq K) T.bb Az (A8 (N9 y (OK K (pv 0)) (pv 1) (λ_ _=>rfl)) B1))))),?_⟩
  refine A6 rfl ⟨x,p,A6 rfl ⟨q,rfl,A6 rfl ⟨x,n,t,u,rfl,j,o,?_⟩⟩⟩;obtain⟨l,v,e⟩:=B n o;exact⟨_,rfl,x,T.ae,p,_,_,rfl,q,T.ap,T.aI,rfl,_,rfl,d,_,rfl,by rw[<-v];exact NY.k (k:=Sum.inr n) z,l,_,rfl,.inl (IG.of e),k⟩
theorem Bb:H_ ["self", "name"] ["self", "name"] (B5 LW):=KN
def Ic(C:A3):Sp:=λc H Q _=>∃(x:A3) (n:Str) (a:A1 Str) (b:A1 JF),c = [.ref x,.str n]/\JR C H x a b/\n∈a/\∀l,H l=none->Q (.ref l) (HZ H l (.lst ((C3 b n).map V.str)))
theorem Ac(T:Tx K mg):IJ P w K mg base IZ 2 T.aC.f T.aC.fd ["self", "name"] (Ic T.ae):=by
 refine T.aC.F.o1 Bb λr A g s H C Q E i h=>?_
 .obtain⟨x,n,t,u,rfl,j,o,k⟩:=h;have y:=i5 i;obtain⟨D,p,a,b,c,d,G,I,q,J,L,M,z,N,B,O⟩:=id j;refine⟨_,(B3 (K3 (D0 (pv 0) T.ap T.ai.m (M8 T) (Rm i) T.ai.b .nil K0 (A8 (pv 1) B1)))
   (B4 (C1 (Eu (Dq K) T.bb Az (A8 (N9 y (OK K (pv 0)) (pv 1) (λ_ _=>rfl)) B1))))),?_⟩
  refine A6 rfl ⟨x,p,A6 rfl ⟨q,rfl,A6 rfl ⟨x,n,t,u,rfl,j,o,?_⟩⟩⟩;obtain⟨l,v,e⟩:=B n o;exact⟨_,rfl,x,T.ae,p,_,_,rfl,q,T.ap,T.aE,rfl,_,rfl,c,_,rfl,by rw[<-v];exact NY.k (k:=Sum.inr n) z,l,_,rfl,.inl (IG.of e),k⟩
theorem OA:H_ ["_law_cell", "_law_k", "_law_m"] ["_law_cell", "_law_k"] (B5 OQ):=KN
def zAf:Sp:=λb H Q _=>∃(a k:Int),b = [.int a,.int k]/\0<=k/\k<=2000000/\∀m:Int,0<=m->m<1999999973->Q (.int m) H
theorem Cd(T:Tx K mg):IJ P w K mg base IZ 1 T.a2.f T.a2.fd ["_law_cell", "_law_k"] zAf:=by
 refine T.a2.F.o1 OA λd A b s H e Q E g h=>?_
 .obtain⟨a,k,rfl,j,l,q⟩:=h;refine⟨_,(B3 (C7 (i:=2) OA.nd rfl (.inl rfl) (C8 Hl (C8 Ch (C8 n9 (C8 n9 (C8 Hl (pv 0) B7) (C8 Ch (C8 Ch (pv 1) (pv 1)) B7)) B7) B7) B7))
   (B4 (C1 (C8 Hl (C8 Ch (pv 2) (pv 2)) B7)))),?_⟩
  refine A6 rfl (B9 rfl rfl ⟨(show(0:Int)<2147483629 by decide),A6 rfl (A6 rfl (B9 rfl rfl ⟨.inl ⟨by omega,by omega⟩,B9 rfl rfl ⟨.inr ⟨by decide,by decide⟩,B9 rfl rfl (B9 rfl rfl (B9 rfl rfl ⟨.inr ⟨by decide,by decide⟩,B9 rfl rfl ⟨(show(0:Int)<2147483647 by decide),?_⟩⟩))⟩⟩))⟩);generalize c:(a % 2147483629+k*k*7919+11)*48271 % 2147483647=m;have n:0<=m:=by rw[<-c];exact GF _ (by decide)
  have o:m<2147483647:=by rw[<-c];exact FJ _ (by decide)
  exact⟨_,rfl,_,rfl,_,_,rfl,rfl,.inl ⟨by omega,by omega⟩,_,_,rfl,rfl,(show(0:Int)<1999999973 by decide),q _ (GF _ (by decide)) (FJ _ (by decide))⟩
def IM(H:Hp)(p:A3)(c:Int):Prop:=∃a b:Int,H p=some (.lst [.int a,.int b,.int c])/\0<=c
theorem IM.isS{H:Hp}{p:A3}{c:Int}(h:IM H p c):(H p).isSome=true:=by
 obtain⟨_,_,e,_⟩:=h;rw[e];rfl
theorem IM.get{H:Hp}{p:A3}{c:Int}(h:IM H p c):H p=some ((H p).get h.isS):=(Option.some_get _).symm
theorem IM.cast{H:Hp}{p:A3}{c a:Int}(h:IM H p c)(e:c=a):IM H p a:=e▸h
theorem IM.upd{H:Hp}{p a:A3}{c:Int}{o:HO}(h:IM H p c)(n:p≠a):IM (L2.HZ H a o) p c:=by
 obtain⟨x,y,e,z⟩:=h;exact⟨x,y,by rw[B6 n];exact e,z⟩
theorem IM.same{H H':Hp}{p:A3}{c:Int}(h:IM H p c)(s:HY H H'):IM H' p c:=by
 obtain⟨x,y,e,z⟩:=h;exact⟨x,y,s _ _ e,z⟩
theorem zFf(c:Bool):-(2^64) <(if c=true then(1:Int)else 0)/\(if c=true then(1:Int)else 0)<2^64:=by cases c<;>exact⟨by decide,by decide⟩
theorem NH:H_ ["_law_script", "_law_k", "_law_cell"] ["_law_script", "_law_k"] (B5 OF):=KN
def Zc(K:PySem.W.Frag):Sp:=λb H Q _=>∃(p:A3) (c:A1 Int) (k:Nat),b = [.ref p,.int (k:Int)]/\IG K H p (c.map V.int)/\k<=1000/\∀l a,H l=none->HY H a->IM a l 0->Q (.ref l) a
theorem Iz(T:Tx K mg):IJ P w K mg base IZ 1 T.a5.f T.a5.fd ["_law_script", "_law_k"] (Zc K):=by
 refine T.a5.F.o1 NH λo A g s H t Q E u h=>?_
 .obtain⟨p,d,k,rfl,n,v,q⟩:=h;refine⟨_,(B3 (C7 (i:=2) NH.nd rfl (.inl rfl) (Tn (C2 zBl (pv 1) (E8 (K7 K) T.am K1 (A8 (pv 0) B1)) (E6 _)) (G0 (NW K) (pv 0) (pv 1) (λ_ _=>rfl)) B7))
   (B4 (C1 (M7 (A8 (C8 Ch (E8 Kh T.bB Wr (A8 (pv 2) B1)) (Eu Ba T.bq Oy (A8 (O3 zDo (E8 Kh T.bB Wr (A8 (pv 2) B1)) (C8 zCp B7 B7) (E6 _)) B1))) (A8 (C8 n9 (pv 2) (C8 Ch B7 (pv 1))) (A8 B7 B1))))))),?_⟩
  refine A6 rfl (A6 rfl (B9 (a:=p) rfl (.inl n) (B9 rfl rfl (A6 rfl ?_))));have j:decide ((k:Int) <((d.map V.int).length:Int))=true->∃c:Int,QO (d.map V.int) (k:Int)=some (.int c):=λb=>by
   have b:(k:Int) <((d.map V.int).length:Int):=CA b;rw[AB]at b;have m:d[k]?=some (d[k]'(by omega)):=AC (by omega);exact⟨_,C6 (by rw[AH,m];rfl)⟩
  refine W0 (λb=>?_) (λb=>?_)
  .obtain⟨c,r⟩:=j b;refine A6 rfl (A6 rfl ⟨p,_,B9 rfl rfl ⟨n,r,?_⟩⟩)
   (repeat first | refine⟨_,rfl,?_⟩ | refine⟨_,_,rfl,rfl,?_⟩)
   refine⟨⟨by decide,by decide,by decide⟩,?_⟩
   (repeat first | refine⟨_,rfl,?_⟩ | refine⟨_,_,rfl,rfl,?_⟩)
   refine .inr ⟨_,rfl,?_⟩
   (repeat first | refine⟨_,rfl,?_⟩ | refine⟨_,_,rfl,rfl,?_⟩)
   refine⟨.inr ?_,?_⟩
   .exact zFf _
   (repeat first | refine⟨_,rfl,?_⟩ | refine⟨_,_,rfl,rfl,?_⟩)
   refine⟨.inl ⟨by decide,by decide⟩,?_⟩
   (repeat first | refine⟨_,rfl,?_⟩ | refine⟨_,_,rfl,rfl,?_⟩)
   exact⟨by show 3<=sizeLine;decide,λl e=>q l _ e (HY.new e) ⟨_,_,A9,by decide⟩⟩
  .skip;(repeat first | refine⟨_,rfl,?_⟩ | refine⟨_,_,rfl,rfl,?_⟩)
   refine⟨⟨by decide,by decide,by decide⟩,?_⟩
   (repeat first | refine⟨_,rfl,?_⟩ | refine⟨_,_,rfl,rfl,?_⟩)
   refine .inr ⟨_,rfl,?_⟩
   (repeat first | refine⟨_,rfl,?_⟩ | refine⟨_,_,rfl,rfl,?_⟩)
   refine⟨.inr ?_,?_⟩
   .exact zFf _
   (repeat first | refine⟨_,rfl,?_⟩ | refine⟨_,_,rfl,rfl,?_⟩)
   refine⟨.inl ⟨by decide,by decide⟩,?_⟩
   (repeat first | refine⟨_,rfl,?_⟩ | refine⟨_,_,rfl,rfl,?_⟩)
   exact⟨by show 3<=sizeLine;decide,λl e=>q l _ e (HY.new e) ⟨_,_,A9,by decide⟩⟩
theorem NG:H_ ["_law_left_here", "_law_many", "_law_digit"] ["_law_left_here", "_law_many"] (B5 OD):=KN
def Zb:Sp:=λe H Q _=>∃(p:A3) (c a:Int),e = [.ref p,.int a]/\IM H p c/\c<=1000000/\0<a/\a<=1000000 /\
 ∀(d:Nat) b,(d:Int)<a->Sm [p] H b->IM b p (c+1)->Q (.int (d:Int)) b
theorem D9(T:Tx K mg):IJ P w K mg base IZ 2 T.al.f T.al.fd ["_law_left_here", "_law_many"] Zb:=by
 refine T.al.F.o1 NG λu A o s H x Q E r h=>?_
 .obtain⟨p,c,j,rfl,⟨a,b,e,y⟩,z,k,B,q⟩:=h;refine⟨_,(B3 (Ad (C8 n9 (G0 (NW K) (pv 0) B7 (λ_ _=>rfl)) B7) (Kj (pv 0) B7 w5))
   (B3 (J9 (C2 Xq (G0 (NW K) (pv 0) B7 (λ_ _=>rfl)) B7 (E6 _)) (B3 (C7 (i:=2) NG.nd rfl (.inl rfl) (C8 Hl (G0 (NW K) (pv 0) B7 (λ_ _=>rfl)) (pv 1)))
   (B3 (Ad (C8 Sk (G0 (NW K) (pv 0) B7 (λ_ _=>rfl)) (pv 1)) (Kj (pv 0) B7 w5))
   (B4 (C1 (pv 2))))) C5)
   (B4 (C1 (C8 Hl (C8 Sk (D6 T.a2 (Cd T) (Rm r) (A8 (D6 T.a2 (Cd T) (Rm r) (A8 (G0 (NW K) (pv 0) B7 (λ_ _=>rfl)) (A8 (G0 (NW K) (pv 0) B7 (λ_ _=>rfl)) B1))) (A8 (C8 n9 (G0 (NW K) (pv 0) B7 (λ_ _=>rfl)) B7) B1))) B7) (pv 1)))))),?_⟩
  have t:∀d:Int,0<=d->d<j->∀l m,Q (.int d) (HZ (HZ H p (.lst [.int a,.int b,.int (c+1)])) p (.lst [.int l,.int m,.int (c+1)]))/\Q (.int d) (HZ H p (.lst [.int l,.int m,.int (c+1)])):=λd v g l m=>by
   obtain⟨n,rfl⟩:=Int.eq_ofNat_of_zero_le v;exact⟨q n _ g (((Sm.refl _ _).upd (by simp)).upd (by simp)) ⟨l,m,A9,by omega⟩,q n _ g ((Sm.refl _ _).upd (by simp)) ⟨l,m,A9,by omega⟩⟩
  refine A6 rfl ⟨p,_,B9 rfl rfl ⟨IG.of e,rfl,B9 rfl rfl (A6 rfl ⟨p,_,_,2,rfl,rfl,e,rfl,?_⟩)⟩⟩;refine A6 rfl ⟨p,_,B9 rfl rfl ⟨IG.of A9,rfl,B9 rfl rfl (A6 rfl ?_)⟩⟩;refine W0 (λg=>?_) (λg=>?_)
  .have g:(0:Int)<a:=CA g;refine A6 rfl ⟨p,_,B9 rfl rfl ⟨IG.of A9,rfl,A6 rfl (B9 rfl rfl ⟨k,?_⟩)⟩⟩;refine A6 rfl ⟨p,_,B9 rfl rfl ⟨IG.of A9,rfl,A6 rfl (B9 rfl rfl ⟨⟨k,by omega⟩,A6 rfl ⟨p,_,_,0,rfl,rfl,A9,rfl,?_⟩⟩)⟩⟩;exact⟨_,rfl,(t _ (GF _ (by omega)) (FJ _ k) _ _).1⟩
  .refine A6 rfl ⟨p,_,B9 rfl rfl ⟨IG.of A9,rfl,A6 rfl ⟨p,_,B9 rfl rfl ⟨IG.of A9,rfl,_,A6 rfl ⟨by omega,by omega,λC D G=>?_⟩⟩⟩⟩⟩;refine A6 rfl ⟨p,_,B9 rfl rfl ⟨IG.of A9,rfl,B9 rfl rfl ⟨_,A6 rfl ⟨by omega,by omega,λI J L=>?_⟩⟩⟩⟩;refine B9 rfl rfl ⟨⟨by decide,by decide⟩,A6 rfl (B9 rfl rfl ⟨k,?_⟩)⟩;exact(t _ (GF _ (by omega)) (FJ _ k) _ _).2
end
def six{d n:Nat}(h:d<n):seqIndex? (d:Int) n=some d:=by
 unfold seqIndex?;simp;omega
def JS{α:Type}{l:A1 α}{i:Nat}{x:α}(h:l[i]?=some x):(x::l.eraseIdx i).Perm l:=ST.JS h
def Fl{α β:Type}(f:α->β):∀(l:A1 α) (i:Nat),(l.map f).eraseIdx i =(l.eraseIdx i).map f
 | [],_=>rfl
 | _::_,0=>rfl
 | a::l,i+1=>by
  show f a ::(l.map f).eraseIdx i=f a ::(l.eraseIdx i).map f;rw[Fl f l i]
def Up{a b c:A1 Str}(d:(b++c).Perm a)(h1:∀x∈a,S7 x=true)(h2:a.Nodup)(f:a.length<=100):S5 c:=by
 refine⟨λx e=>h1 x (d.mem_iff.mp (BP _ e)),?_,?_⟩
 .exact(FT.mp (d.nodup_iff.mpr h2)).2.1
 .have:=d.length_eq;rw[AZ]at this;omega
def Ug{c a b:A1 Str}{d:Nat}{x:Str}(e:(a++b).Perm c)(h:a[d]?=some x):(a.eraseIdx d ++(b ++ [x])).Perm c:=by
 refine List.Perm.trans ?_ e;rw[<-BG];refine CV.trans ?_;rw[<-BG];exact(JS h).append_right b
def KO{p b:A3}{H H':Hp}{o:HO}(h:Sm [p] H H')(e:H b=some o)(n:b≠p):H' b=some o:=h b o e λz=>n (AE.mp z)
section
variable{P:CM}{w:F8}{K:PySem.W.Frag}{mg:Str->A5 A2}{base:IA}
def PV:A1 Str:=["b", "aa", "zebra", "c", "quartzes", "ab", "m", "knows", "d", "mm", "likes", "z", "a", "ba", "abcdefgh", "y", "zz", "e", "x", "f"]
abbrev OO:Str := "b aa zebra c quartzes ab m knows d mm likes z a ba abcdefgh y zz e x f"
theorem Wz:Builtin.Str.partsBetween OO (Builtin.Str.occurrences OO " " 0 OO.length (OO.length+1)) (" ":Str).length=PV:=by decide +kernel
theorem PU:(∀x∈PV,S7 x=true)/\PV.Nodup:=⟨by decide +kernel,by decide +kernel⟩
theorem Ii:∃a:A1 Str,a.length=20/\(∀x∈a,S7 x=true)/\a.Nodup/\∀(Q:VK) (H:Hp),(∀l,H l=none->Q (.ref l) (HZ H l (.lst (a.map V.str))))->Wx (.str OO) [.str " "] H Q :=
 ⟨PV,rfl,PU.1,PU.2,λQ H h=>⟨OO, " ",PV,rfl,rfl,by decide +kernel,by decide +kernel,by decide +kernel,by decide +kernel,Wz,by decide +kernel,h⟩⟩
theorem KH:H_ ["_law_left_here", "_law_many", "_law_some", "_law_names_here", "_law_k"] ["_law_left_here", "_law_many"] (B5 NL):=KN
def Vr:Sp:=λe H Q _=>∃(p:A3) (c:Int) (a:Nat),e = [.ref p,.int (a:Int)]/\IM H p c/\c<=900000/\a<=20 /\
 ∀l (d:A1 Str) b,H l=none->Sm [p] H b->b l=some (.lst (d.map V.str))->d.length=a->S5 d->IM b p (c+a)->Q (.ref l) b
set_option maxHeartbeats 2000000 in
theorem Ha(T:Tx K mg):IJ P w K mg base IZ 3 T.a0.f T.a0.fd ["_law_left_here", "_law_many"] Vr:=by
 refine T.a0.F.o1 KH λX A C s H vs Q E Y h=>?_
 .obtain⟨p,c,o,rfl,R,c1,m1,q⟩:=h;obtain⟨a0,b0,S,c0⟩:=id R;refine⟨_,(B3 (C7 (i:=2) KH.nd rfl (.inl rfl) (Nt K PySem.F.plainAttrs_str PySem.F.slot_str_split PySem.F.type_str_split Uq Q1 (A8 Q1 B1)))
   (B3 (C7 (i:=3) KH.nd rfl (.inl rfl) (M7 B1))
   (B3 (P8 PassesOwn.never rfl (Zu T.aS (A8 (pv 1) B1)) (D8 (i:=4) KH.nd rfl (.inl rfl))
   (B4 (K3 (Nt K PySem.F.plainAttrs_list PySem.F.slot_list_append PySem.F.type_list_append P4 (pv 3) (A8 (Nt K PySem.F.plainAttrs_list PySem.F.slot_list_pop PySem.F.type_list_pop Vt (pv 2) (A8 (D6 T.al (D9 T) (Rm Y) (A8 (pv 0) (A8 (E8 (K7 K) T.am K1 (A8 (pv 2) B1)) B1))) B1)) B1)))))
   (B4 (C1 (pv 3)))))),?_⟩
  obtain⟨r,Z,a1,a2,t⟩:=Ii;refine⟨rfl,?_⟩;dsimp only[zCc,tC,SU];refine t _ _ λa v=>?_;refine⟨CP _,λb D=>?_⟩;have j:H b=none:=(HY.new v).free D;have k:a≠b:=B2 A9 D;have l:p≠a:=B2 S v;have m:p≠b:=B2 S j;refine A6 rfl (A6 rfl ⟨by omega,by omega,?_⟩);rw[CC];refine Q7 (λi σ n=>(∃G,σ = [some (.ref p),some (.int (o:Int)),some (.ref a),some (.ref b),G])/\Sm [p] H n/\IM n p (c+i)/\∃e g:A1 Str,n a=some (.lst (e.map V.str))/\n b=some (.lst (g.map V.str))/\(e++g).Perm r/\g.length=i) ?_ ?_ ?_
  .refine⟨⟨_,rfl⟩,((HY.new v).trans (HY.new D)).sm,((R.cast (by omega)).upd l).upd m,r,[],by rw[B6 k,A9],by rw[A9];rfl,by rw[CT],rfl⟩
  .rintro i σ n hi ⟨⟨G,rfl⟩,I,J,e,g,x,y,z,B⟩ D1 L _;have U:e.length=20-i:=by
    have:=z.length_eq;rw[AZ,B,Z]at this;omega
   refine A6 rfl ⟨.inl ⟨rfl,_,IG.of y⟩,A6 rfl ⟨.inl ⟨rfl,_,IG.of x⟩,A6 rfl (A6 rfl (B9 (a:=a) rfl (.inl (IG.of x)) (l7 (a:=p) (b:=c+i) rfl J (by omega) ?_ ?_ λd H2 hd M L2=>?_)))⟩⟩
   .rw[AB];omega
   .rw[AB];omega
   rw[AB]at hd;have u:d<e.length:=by omega
   have W:e[d]?=some e[d]:=AC u;have N:=KO M x l.symm;have O:=KO M y m.symm;refine⟨a,_,_,d,.str e[d],rfl,rfl,N,by omega,by omega,six (by rw[AB];exact u),by rw[AH,W];rfl,b,B9 rfl rfl ⟨by rw[B6 k.symm];exact O,?_,?_⟩⟩
   .rw[AB,sizeLine_eq];omega
   refine L _ _ ⟨⟨_,rfl⟩,?_,?_,e.eraseIdx d,g ++ [e[d]],?_,?_,Ug z W,by rw[AZ,B];rfl⟩
   .exact((I.trans M).updN v).updN j
   .exact((L2.cast (by omega)).upd l).upd m
   .rw[B6 k,A9,Fl]
   .rw[A9,AY];rfl
  .rintro σ n ⟨⟨G,rfl⟩,I,J,e,g,x,y,z,B⟩;exact⟨_,rfl,q b g n j I y B (Up z a1 a2 (by omega)) J⟩
end
def pd(k:Str×Str):PyData:=.tuple [.str k.1,.str k.2]
def Q5{x:Str}(h:S7 x=true):PySem.PyData.strOk x=true:=by
 unfold S7 at h;rw[BI]at h;unfold PySem.PyData.strOk;rw[<-Array.all_toList,DR];intro c a;have:=(DR.mp h.2) c a;unfold Xc at this;rw[BI]at this;have:=CA this.2;exact AS (by omega)
def Ah{K:PySem.W.Frag}{H:Hp}{t:A3}{k:Str×Str}(h:H t=some (.tup [.str k.1,.str k.2])):Rp K H (pd k) (.ref t):=by
 unfold pd;simp only[Rp,PD];exact⟨t,_,rfl,IW.of h,_,_,rfl,rfl,_,_,rfl,rfl,rfl⟩
def Fw{K:PySem.W.Frag}{H:Hp}:∀{a:A1 JF},(∀q∈a,E4 H q)->PD K H (a.map λq=>pd q.2) (M0 a)
 | [],_=>by simp[PD,M0]
 | q::r,h=>by
  show PD K H (pd q.2::r.map λq=>pd q.2) (V.ref q.1::M0 r);simp only[PD];exact⟨_,_,rfl,Ah (h q (BH ..)),Fw λz b=>h z (AU _ b)⟩
def Ef{K:PySem.W.Frag}{H:Hp}{l:A3}{a:A1 JF}(b:H l=some (.lst (M0 a)))(h:∀q∈a,E4 H q):Rp K H (.list (a.map λq=>pd q.2)) (.ref l):=by
 simp only[Rp];exact⟨l,_,rfl,IG.of b,Fw h⟩
def Ws(a b:Str×Str):PyData.eqv (pd a) (pd b)=decide (a=b):=by
 unfold pd;rw[PyData.eqv,PyData.eqvAll,PyData.eqvAll,PyData.eqvAll,PyData.eqv,PyData.eqv];by_cases c:a.1=b.1
 .by_cases d:a.2=b.2
  .rw[AS (Prod.ext c d),c,d];simp
  .rw[BA λz=>d (congrArg Prod.snd z)];simp[d]
 .rw[BA λz=>c (congrArg Prod.fst z)];simp[c]
def Be(k:Str×Str):∀a:A1 JF,((a.map λq=>pd q.2).any λz=>PyData.eqv z (pd k))=decide (k∈a.map λq=>q.2)
 | []=>rfl
 | q::r=>by
  rw[BC,FV,Be k r,Ws,BC];by_cases e:q.2=k
  .rw[AS e,Bool.true_or,AS (show k∈q.2::_ from by rw[<-e];exact BH ..)]
  .rw[BA e,Bool.false_or];by_cases h:k∈r.map λq=>q.2
   .rw[AS h,AS (AU _ h)]
   .rw[BA h,BA λz=>(AQ.mp z).elim (λz=>e z.symm) h]
def Gk{k:Str×Str}(h1:PySem.PyData.strOk k.1=true)(h2:PySem.PyData.strOk k.2=true):(pd k).canLay0=true:=by
 unfold pd;simp[PyData.canLay0,PyData.canLayAll0,h1,h2]
def Ds:∀{a:A1 JF},(∀q∈a,PySem.PyData.strOk q.2.1=true/\PySem.PyData.strOk q.2.2=true)->PyData.canLayAll0 (a.map λq=>pd q.2)=true
 | [],_=>rfl
 | q::r,h=>by
  rw[BC,PyData.canLayAll0,Gk (h q (BH ..)).1 (h q (BH ..)).2,Ds λz b=>h z (AU _ b)];rfl
def V7{K:PySem.W.Frag}{H:Hp}{t l:A3}{k:Str×Str}{a:A1 JF}{Q:VK}(c:H t=some (.tup [.str k.1,.str k.2]))(d:H l=some (.lst (M0 a)))(e:∀q∈a,E4 H q)
  (b:PySem.PyData.strOk k.1=true/\PySem.PyData.strOk k.2=true) (f:∀q∈a,PySem.PyData.strOk q.2.1=true/\PySem.PyData.strOk q.2.2=true) (q:Q (.bl (!decide (k∈a.map λq=>q.2))) H):Zv K true (.ref t) (.ref l) H Q :=
 ⟨pd k,_,Ah c,.inl (Ef d e),⟨Gk b.1 b.2,by simp[pd,PyData.depth,PyData.depthAll]⟩,Ds f,by rw[AK rfl,Be];exact q⟩
structure FL(H:Hp)(l:A3)(ps:A1 JF)(ss:A1 Str):Prop where
 at_:H l=some (.lst (M0 ps))
 pin:∀q∈ps,E4 H q
 nm:∀q∈ps,q.2.1∈ss/\q.2.2∈ss
 nd:(ps.map λq=>q.2).Nodup
def FL.sm{H H':Hp}{p l:A3}{c:Int}{a:A1 JF}{b:A1 Str}(h:FL H l a b)(L:IM H p c)(n:l≠p)(s:Sm [p] H H'):FL H' l a b:=by
 obtain⟨x,y,e,_⟩:=L;exact⟨KO s h.at_ n,λq d=>KO s (h.pin q d) (Q2 (h.pin q d) e (by intro z;cases z)),h.nm,h.nd⟩
def FL.new{H:Hp}{l t:A3}{o:HO}{a:A1 JF}{b:A1 Str}(h:FL H l a b)(n:H t=none):FL (HZ H t o) l a b :=
 ⟨by rw[B6 (B2 h.at_ n)];exact h.at_,λq c=>by unfold E4;rw[B6 (B2 (h.pin q c) n)];exact h.pin q c,h.nm,h.nd⟩
def FL.put{H:Hp}{l t:A3}{a:A1 JF}{c:A1 Str}{x y:Str}(h:FL H l a c)(k:Nat)(d:H t=some (.tup [.str x,.str y]))(g:x∈c)(i:y∈c)(j:(x,y)∉a.map λq=>q.2) :
  FL (HZ H l (.lst ((M0 a).take k++V.ref t ::(M0 a).drop k))) l (a.take k ++(t,x,y)::a.drop k) c:=by
 have e:(a.take k ++(t,x,y)::a.drop k).Perm ((t,x,y)::a):=by
  refine List.perm_middle.trans (List.Perm.cons _ ?_);rw[BT]
 have f:∀q∈a.take k ++(t,x,y)::a.drop k,q =(t,x,y)\/q∈a:=λq b=>AQ.mp (e.mem_iff.mp b);refine⟨?_,λq b=>?_,λq b=>?_,?_⟩
 .rw[A9];unfold M0;rw[AY,List.map_take,BC,List.map_drop]
 .unfold E4;rcases f q b with rfl | z
  .rw[B6 (Q2 d h.at_ (by intro z;cases z))];exact d
  .rw[B6 (Q2 (h.pin q z) h.at_ (by intro z;cases z))];exact h.pin q z
 .rcases f q b with rfl | z
  .exact⟨g,i⟩
  .exact h.nm q z
 .rw[(e.map _).nodup_iff];show((x,y)::a.map λq=>q.2).Nodup;exact D_.mpr ⟨j,h.nd⟩
def FL.app{H:Hp}{l t:A3}{a:A1 JF}{b:A1 Str}{x y:Str}(h:FL H l a b)(c:H t=some (.tup [.str x,.str y]))(d:x∈b)(f:y∈b)(g:(x,y)∉a.map λq=>q.2) :
  FL (HZ H l (.lst (M0 a ++ [V.ref t]))) l (a ++ [(t,x,y)]) b:=by
 have:=h.put a.length c d f g;have e:(M0 a).length=a.length:=by unfold M0;rw[AB]
 rw[<-e,CJ,List.drop_length,e,CJ,List.drop_length]at this;exact this
def Ku(c:A1 Str):∀tt:A1 Str,(tt.flatMap λa=>c.map λb=>(a,b)).length=tt.length*c.length
 | []=>by simp
 | a::r=>by rw[List.flatMap_cons,AZ,AB,Ku c r,BM,Nat.succ_mul];omega
def FL.len{H:Hp}{l:A3}{d:A1 JF}{c:A1 Str}(h:FL H l d c):d.length<=c.length*c.length:=by
 have:=h.nd.length_le_of_subset (l₂:=c.flatMap λa=>c.map λb=>(a,b)) (λk e=>by
  obtain⟨q,f,rfl⟩:=BB.mp e;obtain⟨g,i⟩:=h.nm q f;exact List.mem_flatMap.mpr ⟨q.2.1,g,BB.mpr ⟨q.2.2,i,rfl⟩⟩)
 rw[Ku,AB]at this;exact this
section
variable{P:CM}{w:F8}{K:PySem.W.Frag}{mg:Str->A5 A2}{base:IA}
theorem Yw(a b d:Nat)(h1:a<3)(h2:b<4)(h:d<8):∃n:Nat,n<=10/\QO [V.int (8 +(a:Int)),V.int b,V.int 4,V.int 5,V.int 6,V.int 7,V.int 5,V.int 6] (d:Int)=some (.int (n:Int)):=by
 suffices ∃n:Nat,n<=10/\[V.int (8 +(a:Int)),V.int b,V.int 4,V.int 5,V.int 6,V.int 7,V.int 5,V.int 6][d]?=some (.int (n:Int)) by
  obtain⟨n,h,e⟩:=this;exact⟨n,h,C6 e⟩
 match d,h with
 | 0,_=>exact⟨8+a,by omega,by show some (V.int _)=_;rw[Int.natCast_add];rfl⟩
 | 1,_=>exact⟨b,by omega,rfl⟩
 | 2,_=>exact⟨4,by omega,rfl⟩
 | 3,_=>exact⟨5,by omega,rfl⟩
 | 4,_=>exact⟨6,by omega,rfl⟩
 | 5,_=>exact⟨7,by omega,rfl⟩
 | 6,_=>exact⟨5,by omega,rfl⟩
 | 7,_=>exact⟨6,by omega,rfl⟩
theorem NF:H_ ["_law_left_here", "_law_way"] ["_law_left_here"] (B5 OC):=KN
def Xp:Sp:=λb H Q _=>∃(p:A3) (c:Int),b = [.ref p]/\IM H p c/\c<=900000 /\
 ∀(n:Nat) a,n<=10->Sm [p] H a->IM a p (c+3)->Q (.int (n:Int)) a
theorem Ib(T:Tx K mg):IJ P w K mg base IZ 3 T.a6.f T.a6.fd ["_law_left_here"] Xp:=by
 refine T.a6.F.o1 NF λm A b s H G Q E g h=>?_
 .obtain⟨p,c,rfl,o,I,q⟩:=h;refine⟨_,(B3 (C7 (i:=1) NF.nd rfl (.inl rfl) (D6 T.al (D9 T) (Rm g) (A8 (pv 0) (A8 B7 B1))))
   (@B4 _ _ _ (@C1 _ _ _ _ (@G0 _ _ _ _ _ _ _ (NW K) (@M7 _ _ _ _ (@A8 _ _ _ _ _ (C8 n9 B7 (D6 T.al (D9 T) (Rm g) (A8 (pv 0) (A8 B7 B1)))) (@A8 _ _ _ _ _ (D6 T.al (D9 T) (Rm g) (A8 (pv 0) (A8 B7 B1))) (@A8 _ _ _ _ _ B7 (@A8 _ _ _ _ _ B7 (@A8 _ _ _ _ _ B7 (@A8 _ _ _ _ _ B7 (@A8 _ _ _ _ _ B7 (@A8 _ _ _ _ _ B7 B1 (by rfl)) (by rfl)) (by rfl)) (by rfl)) (by rfl)) (by rfl)) (by rfl)) (by rfl))) (pv 1) (λ_ _=>rfl))))),?_⟩
  refine A6 rfl (l7 (a:=p) rfl o (by omega) (by decide) (by decide) λd J L r t=>?_);refine A6 rfl (l7 (a:=p) rfl t (by omega) (by decide) (by decide) λu M v x L2=>?_);refine B9 rfl rfl ?_;refine A6 rfl (l7 (a:=p) rfl L2 (by omega) (by decide) (by decide) λy N z B j=>?_);refine⟨by show 8<=sizeLine;decide,λl k=>?_⟩;obtain⟨n,C,e⟩:=Yw u y d (by omega) (by omega) (by omega);have D:=j.get;refine A6 rfl ⟨l,_,B9 rfl rfl ⟨IG.of A9,e,?_⟩⟩;exact q n _ C (((r.trans x).trans B).new k) ((j.cast (by omega)).upd (B2 D k))
theorem IM.ne{H:Hp}{p n:A3}{c:Int}{d:A1 Str}(h:IM H p c)(f:H n=some (.lst (d.map V.str))):n≠p:=by
 rintro rfl;obtain⟨a,b,e,_⟩:=h;rw[f]at e;cases d with
 | nil=>cases e
 | cons x r=>cases e
theorem IM.neP{H:Hp}{p n:A3}{c:Int}{d:A1 JF}(h:IM H p c)(f:H n=some (.lst (M0 d))):n≠p:=by
 rintro rfl;obtain⟨a,b,e,_⟩:=h;rw[f]at e;cases d with
 | nil=>cases e
 | cons x r=>cases e
theorem Uu(d:Nat)(h:d<4):∃n:Nat,0<n/\n<=9/\QO [V.int 4,V.int 6,V.int 9,V.int 3] (d:Int)=some (.int (n:Int)):=by
 suffices ∃n:Nat,0<n/\n<=9/\[V.int 4,V.int 6,V.int 9,V.int 3][d]?=some (.int (n:Int)) by
  obtain⟨n,a,b,e⟩:=this;exact⟨n,a,b,C6 e⟩
 match d,h with
 | 0,_=>exact⟨4,by omega,by omega,rfl⟩
 | 1,_=>exact⟨6,by omega,by omega,rfl⟩
 | 2,_=>exact⟨9,by omega,by omega,rfl⟩
 | 3,_=>exact⟨3,by omega,by omega,rfl⟩
theorem JG:H_ ["_law_left_here", "_law_names_here", "_law_found", "_law_often", "_law_one", "_law_other"] ["_law_left_here", "_law_names_here"] (B5 MI):=KN
def Mj(K:PySem.W.Frag):Sp:=λf H Q _=>∃(p n:A3) (c:Int) (b:A1 Str),f = [.ref p,.ref n]/\IM H p c/\c<=900000/\H n=some (.lst (b.map V.str))/\S5 b/\b.length<=10 /\
 ∀l (d:A1 JF) e a,H l=none->Sm [p] H a->a l=some (.lst (M0 d))->(∀q∈d,E4 a q)->KD b d->e<=c+1000->IM a p e->Q (.ref l) a
def SI(H:Hp)(p f:A3)(d:A1 Str)(b:Int)(a:Hp):Prop:=Sm [p] H a/\(∃c,c<=b/\IM a p c)/\∃e,FL a f e d
set_option maxHeartbeats 4000000 in
theorem Bw(T:Tx K mg):IJ P w K mg base IZ 3 T.aP.f T.aP.fd ["_law_left_here", "_law_names_here"] (Mj K):=by
 refine T.aP.F.o1 JG λcdv A outer s H vs Q E hr h=>?_
 .obtain⟨p,n,c,u,rfl,hL,c1,hn,hN,m,q⟩:=h;obtain⟨a0,b0,e0,c0⟩:=id hL;refine⟨_,(B3 (C7 (i:=2) JG.nd rfl (.inl rfl) (M7 B1))
   (B3 (C7 (i:=3) JG.nd rfl (.inl rfl) (G0 (NW K) (M7 (A8 B7 (A8 B7 (A8 B7 (A8 B7 B1))))) (D6 T.al (D9 T) (Rm hr) (A8 (pv 0) (A8 B7 B1))) (λ_ _=>rfl)))
   (B3 (P8 PassesOwn.never rfl (NV K (pv 1)) (D8 (i:=4) JG.nd rfl (.inl rfl))
   (B3 (P8 PassesOwn.never rfl (NV K (pv 1)) (D8 (i:=5) JG.nd rfl (.inl rfl))
   (B4 (J9 (PW.pt (Hm (C2 Ij (pv 4) (pv 5) (E6 _)) (Hm (C2 Y9 (D6 T.al (D9 T) (Rm hr) (A8 (pv 0) (A8 (pv 3) B1))) B7 (E6 _)) (Ez (C2 (w8 K hr.units) (K8 (A8 (pv 4) (A8 (pv 5) B1))) (pv 2) rfl))))) (B3 (K3 (Nt K PySem.F.plainAttrs_list PySem.F.slot_list_insert PySem.F.type_list_insert Qg (pv 2) (A8 (D6 T.al (D9 T) (Rm hr) (A8 (pv 0) (A8 (C8 n9 (E8 (K7 K) T.am K1 (A8 (pv 2) B1)) B7) B1))) (A8 (K8 (A8 (pv 4) (A8 (pv 5) B1))) B1))))
   (B4 (J9 (PW.pt (Hm (C2 Y9 (D6 T.al (D9 T) (Rm hr) (A8 (pv 0) (A8 B7 B1))) B7 (E6 _)) (Ez (C2 (w8 K hr.units) (K8 (A8 (pv 5) (A8 (pv 4) B1))) (pv 2) rfl)))) (B4 (K3 (Nt K PySem.F.plainAttrs_list PySem.F.slot_list_append PySem.F.type_list_append P4 (pv 2) (A8 (K8 (A8 (pv 5) (A8 (pv 4) B1))) B1)))) C5))) C5)))
   (B4 (J9 (PW.pt (Hm (C2 Y9 (D6 T.al (D9 T) (Rm hr) (A8 (pv 0) (A8 B7 B1))) B7 (E6 _)) (Ez (C2 (w8 K hr.units) (K8 (A8 (pv 4) (A8 (pv 4) B1))) (pv 2) rfl)))) (B4 (K3 (Nt K PySem.F.plainAttrs_list PySem.F.slot_list_append PySem.F.type_list_append P4 (pv 2) (A8 (K8 (A8 (pv 4) (A8 (pv 4) B1))) B1)))) C5))))
   (B4 (C1 (pv 2)))))),?_⟩
  refine⟨CP _,λf hf=>?_⟩;have z:p≠f:=B2 e0 hf;have nnf:n≠f:=B2 hn hf;have nnp:n≠p:=hL.ne hn;have nnD:n∉[p]:=by simpa using nnp
  have N:∀x∈u,PySem.PyData.strOk x=true:=λx L=>Q5 (hN.1 x L);refine⟨by show 4<=sizeLine;decide,λt ht=>?_⟩;have s1:HY H (HZ (HZ H f (.lst [])) t (.lst [.int 4,.int 6,.int 9,.int 3])):=(HY.new hf).trans (HY.new ht);have ef:(HZ (HZ H f (.lst [])) t (.lst [.int 4,.int 6,.int 9,.int 3])) f=some (.lst []):=by rw[B6 (B2 A9 ht),A9]
  refine A6 rfl (l7 (a:=p) (b:=c) rfl (hL.same s1) (by omega) (by decide) (by decide) λd C hd O W=>?_);obtain⟨S,o1,o2,eo⟩:=Uu d (by omega);have hpt:p≠t:=B2 ((HY.new hf) _ _ e0) ht;refine⟨t,_,B9 rfl rfl ⟨IG.of (KO O A9 hpt.symm),eo,?_⟩⟩;have i0:SI H p f u (c+1) C:=⟨s1.sm.trans O,⟨_,Int.le_refl _,W⟩,[],KO O ef z.symm,by simp,by simp,by simp⟩;have hseq:∀{C b},SI H p f u b C->IG K C n (u.map V.str):=λh=>(h.1.at nnD).seqL (IG.of hn);refine A6 rfl ⟨n,rfl,⟨_,hseq i0⟩,?_⟩;refine R9 (NR (K:=K) (IG.of hn)) (λi σ C=>(∃v4 v5,σ = [some (.ref p),some (.ref n),some (.ref f),some (.int (S:Int)),v4,v5])/\SI H p f u (c+1+31*i) C) ?_ ?_ ?_ ?_
  .exact⟨⟨_,_,rfl⟩,by simpa using i0⟩
  .rintro i σ C hi ⟨_,X⟩;exact X.1.at nnD
  .rintro i σ C x L ⟨⟨v4,v5,rfl⟩,X⟩ D1 hD1 _;rw[AH]at L;obtain⟨g,ho,rfl⟩:∃y,u[i]?=some y/\V.str y=x:=by
    cases e:u[i]? with
    | none=>rw[e]at L;cases L
    | some y=>rw[e]at L;exact⟨y,rfl,by injection L⟩
   have r:g∈u:=AL ho;have hi:i<u.length:=(AF.mp ho).1;refine A6 rfl ⟨n,rfl,⟨_,hseq X⟩,?_⟩;refine R9 (NR (K:=K) (IG.of hn)) (λj σ C=>(∃v5,σ = [some (.ref p),some (.ref n),some (.ref f),some (.int (S:Int)),some (.str g),v5])/\SI H p f u (c+1+31*i+3*j) C) ?_ ?_ ?_ ?_
   .exact⟨⟨_,rfl⟩,by simpa using X⟩
   .rintro i σ C hi ⟨_,X⟩;exact X.1.at nnD
   .rintro j σ C x L ⟨⟨v5,rfl⟩,X⟩ D2 M _;rw[AH]at L;obtain⟨l,ho,rfl⟩:∃y,u[j]?=some y/\V.str y=x:=by
     cases e:u[j]? with
     | none=>rw[e]at L;cases L
     | some y=>rw[e]at L;exact⟨y,rfl,by injection L⟩
    have J:l∈u:=AL ho;have hj:j<u.length:=(AF.mp ho).1;obtain⟨O,⟨c',Z,W⟩,v,Y⟩:=X;have done:∀{R c2 D},Sm [p] H R->c2<=c'+3->IM R p c2->FL R f D u->SI H p f u (c+1+31*i+3 *((j+1:Nat):Int)) R:=fun{R c2 D} a b d e=>⟨a,⟨c2,by omega,d⟩,D,e⟩;refine A6 rfl (A6 rfl ⟨rfl,A6 rfl ?_⟩);refine W0 (λX=>?_) (λX=>Q6 (M _ _ ⟨⟨_,rfl⟩,done O (by omega) W Y⟩));refine A6 rfl (A6 rfl (l7 (a:=p) (b:=c') rfl W (by omega) (by omega) (by omega) λd1 R hd1 k2 L2=>⟨rfl,_,rfl,?_⟩));have F2:=Y.sm W z.symm k2;refine W0 (λh2=>?_) (λh2=>Q6 (M _ _ ⟨⟨_,rfl⟩,done (O.trans k2) (by omega) L2 F2⟩));refine A6 rfl (A6 rfl ⟨by show 2<=sizeLine;decide,λt2 ht2=>?_⟩);have F3:=F2.new (o:=.tup [.str g,.str l]) ht2;have e2:=L2.get;have L3:=L2.upd (o:=.tup [.str g,.str l]) (B2 e2 ht2);have k3:=(O.trans k2).new (o:=.tup [.str g,.str l]) ht2;refine A6 rfl (V7 (k:=(g,l)) A9 F3.at_ F3.pin ⟨N _ r,N _ J⟩ (λq hq=>⟨N _ (F3.nm q hq).1,N _ (F3.nm q hq).2⟩) ⟨_,rfl,?_⟩);refine W0 (λh3=>?_) (λh3=>M _ _ ⟨⟨_,rfl⟩,done k3 (by omega) L3 F3⟩);have h3':(g,l)∉v.map λq=>q.2:=by simpa using h3
    have N_:=F3.len;have U:v.length<=100:=Nat.le_trans N_ (Nat.mul_le_mul m m);have rl:(M0 v).length=v.length:=by unfold M0;rw[AB]
    refine A6 rfl ⟨.inl ⟨rfl,_,IG.of F3.at_⟩,A6 rfl (A6 rfl (B9 (a:=f) rfl (.inl (IG.of F3.at_)) (B9 rfl rfl (l7 (a:=p) (b:=c'+1) rfl L3 (by omega) (by omega) (by omega) λd2 H4 hd2 k4 L4=>?_))))⟩;have F4:=F3.sm L3 z.symm k4;refine A6 rfl (A6 rfl ⟨by show 2<=sizeLine;decide,λt3 ht3=>?_⟩);have F5:=F4.new (o:=.tup [.str g,.str l]) ht3;have e4:=L4.get;have L5:=L4.upd (o:=.tup [.str g,.str l]) (B2 e4 ht3);have k5:=(k3.trans k4).new (o:=.tup [.str g,.str l]) ht3;refine⟨f,_,_,d2,A6 rfl ⟨rfl,rfl,F5.at_,by omega,by rw[sizeLine_eq];omega,?_⟩⟩;have F6:=F5.put d2 A9 r J h3';have L6:=L5.upd (o:=.lst ((M0 v).take d2++V.ref t3 ::(M0 v).drop d2)) z;have k6:=k5.updN (o:=.lst ((M0 v).take d2++V.ref t3 ::(M0 v).drop d2)) hf;generalize hps:v.take d2 ++(t3,g,l)::v.drop d2=ps' at F6;refine A6 rfl (l7 (a:=p) rfl L6 (by omega) (by decide) (by decide) λd3 H7 hd3 k7 L7=>⟨rfl,_,rfl,?_⟩);have F7:=F6.sm L6 z.symm k7;refine W0 (λh4=>?_) (λh4=>Q6 (M _ _ ⟨⟨_,rfl⟩,done (k6.trans k7) (by omega) L7 F7⟩));refine A6 rfl (A6 rfl ⟨by show 2<=sizeLine;decide,λt4 G=>?_⟩);have B:=F7.new (o:=.tup [.str l,.str g]) G;have e7:=L7.get;have L8:=L7.upd (o:=.tup [.str l,.str g]) (B2 e7 G);have k8:=(k6.trans k7).new (o:=.tup [.str l,.str g]) G;refine A6 rfl (V7 (k:=(l,g)) A9 B.at_ B.pin ⟨N _ J,N _ r⟩ (λq hq=>⟨N _ (B.nm q hq).1,N _ (B.nm q hq).2⟩) ⟨_,rfl,?_⟩);refine W0 (λh5=>?_) (λh5=>M _ _ ⟨⟨_,rfl⟩,done k8 (by omega) L8 B⟩);have h5':(l,g)∉ps'.map λq=>q.2:=by simpa using h5
    have N_:=B.len;have U:ps'.length<=100:=Nat.le_trans N_ (Nat.mul_le_mul m m);have rl:(M0 ps').length=ps'.length:=by unfold M0;rw[AB]
    refine A6 rfl ⟨.inl ⟨rfl,_,IG.of B.at_⟩,A6 rfl (A6 rfl ⟨by show 2<=sizeLine;decide,λt5 I=>?_⟩)⟩;have F9:=B.new (o:=.tup [.str l,.str g]) I;have e8:=L8.get;have L9:=L8.upd (o:=.tup [.str l,.str g]) (B2 e8 I);have k9:=k8.new (o:=.tup [.str l,.str g]) I;refine⟨f,B9 rfl rfl ⟨F9.at_,by rw[sizeLine_eq];omega,M _ _ ⟨⟨_,rfl⟩,done (k9.updN hf) (by omega) (L9.upd z) (F9.app A9 J r h5')⟩⟩⟩
   .rintro σ C ⟨⟨v5,rfl⟩,O,⟨c',Z,W⟩,v,Y⟩;simp only[AB]at Z;have done:∀{R c2 D},Sm [p] H R->c2<=c'+1->IM R p c2->FL R f D u->SI H p f u (c+1+31 *((i+1:Nat):Int)) R:=fun{R c2 D} a b d e=>⟨a,⟨c2,by omega,d⟩,D,e⟩;refine A6 rfl (l7 (a:=p) (b:=c') rfl W (by omega) (by decide) (by decide) λd3 H7 hd3 k7 L7=>⟨rfl,_,rfl,?_⟩);have F7:=Y.sm W z.symm k7;refine W0 (λh4=>?_) (λh4=>Q6 (hD1 _ _ ⟨⟨_,_,rfl⟩,done (O.trans k7) (by omega) L7 F7⟩));refine A6 rfl (A6 rfl ⟨by show 2<=sizeLine;decide,λt4 G=>?_⟩);have B:=F7.new (o:=.tup [.str g,.str g]) G;have e7:=L7.get;have L8:=L7.upd (o:=.tup [.str g,.str g]) (B2 e7 G);have k8:=(O.trans k7).new (o:=.tup [.str g,.str g]) G;refine A6 rfl (V7 (k:=(g,g)) A9 B.at_ B.pin ⟨N _ r,N _ r⟩ (λq hq=>⟨N _ (B.nm q hq).1,N _ (B.nm q hq).2⟩) ⟨_,rfl,?_⟩);refine W0 (λh5=>?_) (λh5=>hD1 _ _ ⟨⟨_,_,rfl⟩,done k8 (by omega) L8 B⟩);have h5':(g,g)∉v.map λq=>q.2:=by simpa using h5
    have N_:=B.len;have U:v.length<=100:=Nat.le_trans N_ (Nat.mul_le_mul m m);have rl:(M0 v).length=v.length:=by unfold M0;rw[AB]
    refine A6 rfl ⟨.inl ⟨rfl,_,IG.of B.at_⟩,A6 rfl (A6 rfl ⟨by show 2<=sizeLine;decide,λt5 I=>?_⟩)⟩;have F9:=B.new (o:=.tup [.str g,.str g]) I;have e8:=L8.get;have L9:=L8.upd (o:=.tup [.str g,.str g]) (B2 e8 I);have k9:=k8.new (o:=.tup [.str g,.str g]) I;refine⟨f,B9 rfl rfl ⟨F9.at_,by rw[sizeLine_eq];omega,hD1 _ _ ⟨⟨_,_,rfl⟩,done (k9.updN hf) (by omega) (L9.upd z) (F9.app A9 r r h5')⟩⟩⟩
  .rintro σ C ⟨⟨v4,v5,rfl⟩,O,⟨c',Z,W⟩,v,Y⟩;simp only[AB]at Z;have N_:=Y.len;have U:v.length<=100:=Nat.le_trans N_ (Nat.mul_le_mul m m);exact⟨_,rfl,q f v c' C hf O Y.at_ Y.pin ⟨Y.nm,Y.nd,by omega⟩ (by omega) W⟩
end
def QN(x y:Nat):Builtin.bitOr (x:Int) (y:Int) =((x ||| y:Nat):Int):=by
 have b:¬0<=Builtin.bitNot (x:Int):=by unfold Builtin.bitNot;omega
 have c:¬0<=Builtin.bitNot (y:Int):=by unfold Builtin.bitNot;omega
 have a:∀z:Int,Builtin.bitNot (Builtin.bitNot z)=z:=λz=>by unfold Builtin.bitNot;omega
 rw[Builtin.bitOr,PyProof.Rows.bitAnd_nn b c,a,a,a];rfl
def Oa(x y:Nat):Builtin.bitAnd (x:Int) (y:Int) =((x &&& y:Nat):Int):=by simp[Builtin.bitAnd]
def Vy(k:Nat):(1:Int)*2 ^((k:Int).toNat) =((2^k:Nat):Int):=by rw[Int.one_mul,CC,Int.natCast_pow];rfl
def zCw(m k:Nat):decide (V.int (Builtin.bitAnd ((m:Int) / 2 ^((k:Int).toNat)) 1)=V.int 1)=m.testBit k:=by
 have a:(m:Int) / 2 ^((k:Int).toNat) =((m / 2^k:Nat):Int):=by rw[CC,Int.natCast_ediv,Int.natCast_pow];rfl
 have b:Builtin.bitAnd ((m / 2^k:Nat):Int) 1 =((m / 2^k % 2:Nat):Int):=by
  rw[show(1:Int) =((1:Nat):Int)from rfl,Oa,Nat.and_one_is_mod]
 rw[a,b,Nat.testBit_eq_decide_div_mod_eq];refine decide_eq_decide.mpr ⟨λh=>?_,λh=>?_⟩
 .injection h with h;omega
 .rw[h];rfl
def K9(m:Nat):V:=.int (m:Int)
structure MB(ns:A1 Str)(ks:A1 (Str×Str))(B:A1 Nat):Prop where
 len:B.length=ns.length
 bit:∀i j,(B.getD i 0).testBit j=true↔∃k∈ks,ns[i]?=some k.1/\ns[j]?=some k.2
def MB.zero(ns:A1 Str):MB ns [] (List.replicate ns.length 0):=by
 refine⟨GI,λi j=>?_⟩;have e:(List.replicate ns.length 0).getD i 0=0:=by
  rw[AM,List.getElem?_replicate];by_cases h:i<ns.length
  .rw[AK h];rfl
  .rw[AI h];rfl
 rw[e,CB];simp
def M9{α:Type}{l:A1 α}(h:l.Nodup){i j:Nat}{x:α}(hi:l[i]?=some x)(c:l[j]?=some x):i=j:=by
 obtain⟨a,e⟩:=AF.mp hi;obtain⟨b,d⟩:=AF.mp c;exact(List.getElem_inj h).mp (e.trans d.symm)
def MB.step{ns:A1 Str}{ks:A1 (Str×Str)}{B:A1 Nat}(h:MB ns ks B)(l:ns.Nodup){a b:Nat}{x y:Str}(f:ns[a]?=some x)(m:ns[b]?=some y):MB ns (ks ++ [(x,y)]) (B.set a (B.getD a 0 ||| 2^b)):=by
 have g:a<B.length:=by rw[h.len];exact(AF.mp f).1
 refine⟨by rw[List.length_set];exact h.len,λi j=>?_⟩;by_cases e:a=i
 .subst e;have e:(B.set a (B.getD a 0 ||| 2^b)).getD a 0=B.getD a 0 ||| 2^b:=by
   rw[AM,HH g];rfl
  rw[e,EE,EM,h.bit,BW,BF];constructor
  .rintro(⟨k,hk,c,d⟩ | rfl)
   .exact⟨k,FR _ hk,c,d⟩
   .exact⟨(x,y),BP _ (AE.mpr rfl),f,m⟩
  .rintro⟨k,hk,c,d⟩;rcases BD.mp hk with hk | hk
   .exact .inl ⟨k,hk,c,d⟩
   .rw[AE.mp hk]at d;exact .inr (M9 l m d)
 .have n:(B.set a (B.getD a 0 ||| 2^b)).getD i 0=B.getD i 0:=by
   rw[AM,List.getElem?_set_ne e,<-AM]
  rw[n,h.bit];constructor
  .rintro⟨k,hk,c,d⟩;exact⟨k,FR _ hk,c,d⟩
  .rintro⟨k,hk,c,d⟩;rcases BD.mp hk with hk | hk
   .exact⟨k,hk,c,d⟩
   .rw[AE.mp hk]at c;exact absurd (M9 l f c) e
def MB.mono{ns:A1 Str}{ks ks':A1 (Str×Str)}{B:A1 Nat}(h:MB ns ks B)(e:∀k,k∈ks↔k∈ks'):MB ns ks' B :=
 ⟨h.len,λi j=>by rw[h.bit];exact⟨λ⟨k,a,b⟩=>⟨k,(e k).mp a,b⟩,λ⟨k,a,b⟩=>⟨k,(e k).mpr a,b⟩⟩⟩
def zAy{x y:Str}(h:x.cps.toList=y.cps.toList):x=y:=by
 cases x;cases y;exact congrArg Str.mk (Array.toList_inj.mp h)
def Tq{x y:Str}(h1:PN x y)(h2:PN y x):x=y:=zAy (List.le_antisymm (as:=x.cps.toList) (bs:=y.cps.toList) h1 h2)
def i9{a b:A1 Str}(h1:a.Pairwise PN)(h2:b.Pairwise PN)(h:a.Perm b):a=b:=List.Perm.eq_of_pairwise (λ_ _ _ _=>Tq) h1 h2 h
structure JP(H:Hp)(p v:A3)(ns:A1 Str)(ks:A1 (Str×Str))(A B:A1 Nat):Prop where
 ex:∃a s t,H v=some (.lst [.ref a,.ref s,.ref t])/\H a=some (.lst (ns.map V.str))/\H s=some (.lst (A.map K9))/\H t=some (.lst (B.map K9))/\v≠p/\a≠p/\s≠p/\t≠p
 mA:MB ns (ks.map λk=>(k.2,k.1)) A
 mB:MB ns ks B
def JP.sm{H H':Hp}{p v:A3}{ns:A1 Str}{ks:A1 (Str×Str)}{A B:A1 Nat}(h:JP H p v ns ks A B)(s:Sm [p] H H'):JP H' p v ns ks A B:=by
 obtain⟨⟨a,b,c,i,j,k,l,d,e,f,g⟩,m,n⟩:=h;exact⟨⟨a,b,c,KO s i d,KO s j e,KO s k f,KO s l g,d,e,f,g⟩,m,n⟩
def JP.same{H H':Hp}{p v:A3}{ns:A1 Str}{ks:A1 (Str×Str)}{A B:A1 Nat}(h:JP H p v ns ks A B)(s:HY H H'):JP H' p v ns ks A B:=h.sm s.sm
def Re{n j:Nat}(h:j<n):RK n (j:Int)=some j:=by
 unfold RK;rw[AK (by omega),AK (by omega),CC]
def Em{B:A1 Nat}{a:Nat}(h:a<B.length):QO (B.map K9) (a:Int)=some (.int ((B.getD a 0:Nat):Int)):=by
 refine C6 ?_;rw[AH,AC h,AM,AC h];rfl
def Ke(n:Nat):(List.replicate ((n:Int).toNat) [V.int 0]).flatten =(List.replicate n 0).map K9:=by
 rw[CC]
 induction n with
 | zero=>rfl
 | succ n a =>
  rw[EG,GK,a,EG,BC];rfl
def Kq(B:A1 Nat)(a m:Nat):(B.map K9).set a (.int (m:Int)) =(B.set a m).map K9:=by
 rw[List.map_set];rfl
section
variable{P:CM}{w:F8}{K:PySem.W.Frag}{mg:Str->A5 A2}{base:IA}
theorem JN:H_ ["_law_names_here", "_law_strikes_here", "_law_strikers", "_law_struck", "_law_one", "_law_other", "_law_a", "_law_b"] ["_law_names_here", "_law_strikes_here"] (B5 NM):=KN
def Ts:Sp:=λf H Q _=>∃(n a:A3) (b:A1 Str) (c:A1 JF),f = [.ref n,.ref a]/\H n=some (.lst (b.map V.str))/\S5 b/\H a=some (.lst (M0 c))/\(∀q∈c,E4 H q)/\KD b c /\
 ∀v d A B e,H v=none->HY H e->d.Perm b->d.Pairwise PN->(∀p o,H p=some o->JP e p v d (c.map λq=>q.2) A B)->Q (.ref v) e
set_option maxHeartbeats 2000000 in
theorem Hg(T:Tx K mg):IJ P w K mg base IZ 1 T.a1.f T.a1.fd ["_law_names_here", "_law_strikes_here"] Ts:=by
 refine T.a1.F.o1 JN λcdv A outer s H vs Q E hr h=>?_
 .obtain⟨n,a,ss,y,rfl,hn,hN,ha,hP,hO,q⟩:=h;refine⟨_,(B3 (C7 (i:=0) JN.nd rfl (.inl rfl) (E8 (Dw K) T.aV V2 (A8 (pv 0) B1)))
   (B3 (Wj (i:=2) (j:=3) rfl JN.nd rfl rfl (by decide) rfl rfl (A8 (C8 Wg (M7 (A8 B7 B1)) (E8 (K7 K) T.am K1 (A8 (pv 0) B1))) (A8 (C8 Wg (M7 (A8 B7 B1)) (E8 (K7 K) T.am K1 (A8 (pv 0) B1))) B1)) rfl)
   (B3 (P8 PassesOwn.never rfl (NV K (pv 1)) (RB K (n:=2) (E5 (D8 (i:=4) JN.nd rfl (.inl rfl)) (E5 (D8 (i:=5) JN.nd rfl (.inl rfl)) S4)))
   (B3 (Wj (i:=6) (j:=7) rfl JN.nd rfl rfl (by decide) rfl rfl (A8 (Nt K PySem.F.plainAttrs_list PySem.F.slot_list_index PySem.F.type_list_index (Dm K) (pv 0) (A8 (pv 4) B1)) (A8 (Nt K PySem.F.plainAttrs_list PySem.F.slot_list_index PySem.F.type_list_index (Dm K) (pv 0) (A8 (pv 5) B1)) B1)) rfl)
   (B3 (Ad (C8 y8 (G0 (NW K) (pv 2) (pv 7) (λ_ _=>rfl)) (C8 Bh B7 (pv 6))) (Kj (pv 2) (pv 7) w5))
   (B4 (Ad (C8 y8 (G0 (NW K) (pv 3) (pv 6) (λ_ _=>rfl)) (C8 Bh B7 (pv 7))) (Kj (pv 3) (pv 6) w5))))))
   (B4 (C1 (M7 (A8 (pv 0) (A8 (pv 2) (A8 (pv 3) B1))))))))),?_⟩
  refine A6 rfl ⟨n,ss,rfl,IG.of hn,λl b hl G srt=>?_⟩;have S:b.Nodup:=G.nodup_iff.mpr hN.2.1;have U:(b.map V.str).length=b.length:=AB ..;have ln:b.length<=100:=by rw[G.length_eq];exact hN.2.2
  have s1:HY H (HZ H l (.lst (b.map V.str))):=HY.new hl;refine⟨by show 1<=sizeLine;decide,λW d=>?_⟩;have s2:=s1.trans (HY.new (o:=.lst [V.int 0]) d);refine A6 rfl (B9 (a:=l) rfl (.inl (IG.of ((HY.new d) _ _ A9))) ⟨W,B9 rfl rfl ⟨A9,by omega,by omega,by rw[U,CC,sizeLine_eq];show 1*b.length<=_;omega,λs X=>?_⟩⟩);rw[U,Ke];have hs1:HZ H l (.lst (b.map V.str)) s=none:=(HY.new d).free X;have I:H s=none:=s2.free X;have nls:l≠s:=B2 A9 hs1;have s3:=s2.trans (HY.new (o:=.lst ((List.replicate b.length 0).map K9)) X);refine⟨by show 1<=sizeLine;decide,λJ r=>?_⟩;have s4:=s3.trans (HY.new (o:=.lst [V.int 0]) r);have Y:(HZ (HZ (HZ (HZ H l (.lst (b.map V.str))) W (.lst [V.int 0])) s (.lst ((List.replicate b.length 0).map K9))) J (.lst [V.int 0])) l=some (.lst (b.map V.str)) :=
   (HY.new r) _ _ ((HY.new X) _ _ ((HY.new d) _ _ A9))
  have es:(HZ (HZ (HZ (HZ H l (.lst (b.map V.str))) W (.lst [V.int 0])) s (.lst ((List.replicate b.length 0).map K9))) J (.lst [V.int 0])) s=some (.lst ((List.replicate b.length 0).map K9)):=(HY.new r) _ _ A9;generalize hG:HZ (HZ (HZ (HZ H l (.lst (b.map V.str))) W (.lst [V.int 0])) s (.lst ((List.replicate b.length 0).map K9))) J (.lst [V.int 0])=H4 at s4 Y es⊢;have et2:H4 J=some (.lst [V.int 0]):=by rw[<-hG];exact A9
  refine A6 rfl (B9 (a:=l) rfl (.inl (IG.of Y)) ⟨J,B9 rfl rfl ⟨et2,by omega,by omega,by rw[U,CC,sizeLine_eq];show 1*b.length<=_;omega,λt Z=>?_⟩⟩);rw[U,Ke];have L:l≠t:=B2 Y Z;have e:s≠t:=B2 es Z;have s5:=s4.trans (HY.new (o:=.lst ((List.replicate b.length 0).map K9)) Z);have M:H t=none:=s4.free Z;refine⟨_,A6 rfl (A6 rfl ⟨a,rfl,⟨_,IG.of (s5 _ _ ha)⟩,?_⟩)⟩;refine R9 (NR (K:=K) (IG.of ha)) (λi σ u=>(∃v4 v5 v6 v7,σ = [some (.ref l),some (.ref a),some (.ref s),some (.ref t),v4,v5,v6,v7])/\HY H u/\u l=some (.lst (b.map V.str)) /\
   ∃A B:A1 Nat,u s=some (.lst (A.map K9))/\u t=some (.lst (B.map K9))/\MB b ((y.take i).map λq=>(q.2.2,q.2.1)) A/\MB b ((y.take i).map λq=>q.2) B) ?_ ?_ ?_ ?_
  .exact⟨⟨_,_,_,_,rfl⟩,s5,by rw[B6 L];exact Y,_,_,by rw[B6 e];exact es,A9,MB.zero b,MB.zero b⟩
  .rintro i σ u hi ⟨_,g,_⟩;exact g.at a
  .rintro i σ u v c ⟨⟨v4,v5,v6,v7,rfl⟩,g,x,A,B,h3,h4,C,D⟩ D1 hD1 _;unfold M0 at c;rw[AH]at c;cases N:y[i]? with
   | none=>rw[N]at c;cases c
   | some q =>
    rw[N]at c;cases c;have hm:q∈y:=AL N;obtain⟨m1,m2⟩:=hO.nm q hm;have m1:q.2.1∈b:=G.mem_iff.mpr m1;have m2:q.2.2∈b:=G.mem_iff.mpr m2;obtain⟨j,O⟩:=DK.mp m1;obtain⟨k,R⟩:=DK.mp m2;have lj:j<b.length:=(AF.mp O).1;have lk:k<b.length:=(AF.mp R).1;refine⟨q.1,A6 rfl ⟨IW.of (g _ _ (hP q hm)),rfl,_,A6 rfl (B9 rfl rfl ?_)⟩⟩;refine A6 rfl ⟨.inl ⟨rfl,_,IG.of x⟩,A6 rfl ⟨l,b,q.2.1,j,rfl,rfl,IG.of x,O,λm hm z=>by have:=M9 S z O;omega,?_⟩⟩;refine A6 rfl ⟨.inl ⟨rfl,_,IG.of x⟩,A6 rfl ⟨l,b,q.2.2,k,rfl,rfl,IG.of x,R,λm hm z=>by have:=M9 S z R;omega,?_⟩⟩;refine⟨_,A6 rfl ?_⟩;refine A6 rfl (A6 rfl ⟨s,_,B9 rfl rfl ⟨IG.of h3,Em (by rw[C.len];exact lk),A6 rfl (B9 rfl rfl ⟨⟨by omega,by omega,by decide⟩,B9 rfl rfl ?_⟩)⟩⟩);dsimp only;rw[Vy,QN];refine A6 rfl (A6 rfl ⟨s,_,_,k,rfl,rfl,h3,Re (by rw[AB,C.len];exact lk),?_⟩);rw[Kq];refine A6 rfl (A6 rfl ⟨t,_,B9 rfl rfl ⟨IG.of (by rw[B6 e.symm];exact h4),Em (by rw[D.len];exact lj),A6 rfl (B9 rfl rfl ⟨⟨by omega,by omega,by decide⟩,B9 rfl rfl ?_⟩)⟩⟩);dsimp only;rw[Vy,QN];refine A6 rfl (A6 rfl ⟨t,_,_,j,rfl,rfl,by rw[B6 e.symm];exact h4,Re (by rw[AB,D.len];exact lj),?_⟩);rw[Kq];refine hD1 _ _ ⟨⟨_,_,_,_,rfl⟩,(g.upd I).upd M,?_,A.set k (A.getD k 0 ||| 2^j),_,?_,A9,?_,?_⟩
    .rw[B6 L,B6 nls];exact x
    .rw[B6 e,A9]
    .rw[IT N,AY];exact C.step S R O
    .rw[IT N,AY];exact D.step S O R
  .rintro σ u ⟨⟨v4,v5,v6,v7,rfl⟩,g,x,A,B,h3,h4,C,D⟩;have lr:(M0 y).length=y.length:=by unfold M0;rw[AB]
   rw[lr,CJ]at C D;refine A6 rfl (A6 rfl (A6 rfl ⟨by show 3<=sizeLine;decide,λv c=>?_⟩));have s9:=HY.new (o:=.lst [.ref l,.ref s,.ref t]) c;refine q v b A B _ (g.free c) (g.trans s9) G srt λp o hp=>⟨⟨l,s,t,A9,s9 _ _ x,s9 _ _ h3,s9 _ _ h4,(B2 (g _ _ hp) c).symm,(B2 hp hl).symm,(B2 hp I).symm,(B2 hp M).symm⟩,?_,D⟩;rw[CI];exact C
end
def Ar(ns:A1 Str)(m i:Nat):A1 Str:=(List.range i).filterMap λk=>if m.testBit k=true then ns[k]? else none
def IQ(ns:A1 Str)(m:Nat):A1 Str:=Ar ns m ns.length
def P2{ns:A1 Str}{m i:Nat}{x:Str}(h:ns[i]?=some x):Ar ns m (i+1)=Ar ns m i++if m.testBit i=true then [x]else []:=by
 unfold Ar;rw[EJ,List.filterMap_append];congr 1;by_cases e:m.testBit i=true
 .rw[AK e];simp[e,h]
 .rw[AI e];simp[e]
def MA{ns:A1 Str}{m:Nat}{x:Str}:x∈IQ ns m↔∃k,m.testBit k=true/\ns[k]?=some x:=by
 unfold IQ Ar;rw[List.mem_filterMap];constructor
 .rintro⟨k,a,e⟩;by_cases h:m.testBit k=true
  .rw[AK h]at e;exact⟨k,h,e⟩
  .rw[AI h]at e;cases e
 .rintro⟨k,h,e⟩;exact⟨k,BU.mpr (AF.mp e).1,by rw[AK h];exact e⟩
def Ap(ns:A1 Str)(m:Nat):∀i,i<=ns.length->(Ar ns m i).Sublist (ns.take i)
 | 0,_=>by simp[Ar]
 | i+1,h=>by
  have a:ns[i]?=some ns[i]:=AC (by omega);rw[P2 a,IT a];refine(Ap ns m i (by omega)).append ?_;by_cases e:m.testBit i=true
  .rw[AK e];exact List.Sublist.refl _
  .rw[AI e];exact List.nil_sublist _
def d0(ns:A1 Str)(m:Nat):(IQ ns m).Sublist ns:=by
 have:=Ap ns m ns.length (Nat.le_refl _)
 rwa [CJ]at this
def o7(B:A1 Nat)(m j:Nat):Prop:=∃k,m.testBit k=true/\(B.getD k 0).testBit j=true
def Sy(n:Nat)(A B:A1 Nat)(m j:Nat):Prop:=j<n/\∀b,(A.getD j 0).testBit b=true->o7 B m b
def JC(B:A1 Nat)(m:Nat):Prop:=∀i j,m.testBit i=true->m.testBit j=true->¬(B.getD i 0).testBit j=true
def o0(a h:Nat):decide (V.int (Builtin.bitAnd (a:Int) (Builtin.bitNot (h:Int)))=V.int 0)=true↔∀b,a.testBit b=true->h.testBit b=true:=by
 rw[BF,PyProof.Rows.bitAnd_not,Oa];constructor
 .intro e b c;injection e with e;have e:a=a &&& h:=by omega
  rw[e,BS,BI]at c;exact c.2
 .intro k;have e:a &&& h=a:=BL λb=>by
   rw[BS];cases c:a.testBit b with
   | false=>rfl
   | true=>rw[k b c];rfl
  rw[e,Int.sub_self]
def Tm(a m:Nat):decide (V.int (Builtin.bitAnd (a:Int) (m:Int))=V.int 0)=true↔∀b,a.testBit b=true->¬m.testBit b=true:=by
 rw[BF,Oa];constructor
 .intro e b c d;injection e with e;have e:a &&& m=0:=by omega
  have:(a &&& m).testBit b=true:=by rw[BS,c,d];rfl
  rw[e,CB]at this;cases this
 .intro k;have e:a &&& m=0:=BL λb=>by
   rw[BS,CB];cases c:a.testBit b with
   | false=>rfl
   | true =>
    have:=k b c;cases d:m.testBit b with
    | false=>rfl
    | true=>exact absurd d this
  rw[e];rfl
def S6(d k j:Nat):(d ||| 2^k).testBit j=true↔d.testBit j=true\/j=k:=by
 rw[EE,EM,BW,BF];exact⟨λh=>h.imp id Eq.symm,λh=>h.imp id Eq.symm⟩
section
variable{P:CM}{w:F8}{K:PySem.W.Frag}{mg:Str->A5 A2}{base:IA}
theorem LH:H_ ["_law_view", "_law_mask", "_law_hit_here", "_law_k"] ["_law_view", "_law_mask"] (B5 OS):=KN
def zBc:Sp:=λb H Q _=>∃(p v:A3) (m:Nat) (a:A1 Str) (c:A1 (Str×Str)) (A B:A1 Nat),b = [.ref v,.int (m:Int)]/\JP H p v a c A B/\a.length<=100 /\
 ∀h:Nat,(∀j,h.testBit j=true↔o7 B m j)->Q (.int (h:Int)) H
theorem Cv(T:Tx K mg):IJ P w K mg base IZ 1 T.a3.f T.a3.fd ["_law_view", "_law_mask"] zBc:=by
 refine T.a3.F.o1 LH λx A g s H J Q E L h=>?_
 .obtain⟨p,v,m,M,N,A,B,rfl,y,O,q⟩:=h;obtain⟨⟨a,s,t,r,C,R,D,_⟩,S,u⟩:=id y;refine⟨_,(B3 (C7 (i:=2) LH.nd rfl (.inl rfl) B7)
   (B3 (P8 PassesOwn.never rfl (Zu T.aS (A8 (E8 (K7 K) T.am K1 (A8 (G0 (NW K) (pv 0) B7 (λ_ _=>rfl)) B1)) B1)) (D8 (i:=3) LH.nd rfl (.inl rfl))
   (B4 (J9 (C2 Y9 (C8 Q8 (C8 zCn (pv 1) (pv 3)) B7) B7 (E6 _)) (B4 (C7 (i:=2) LH.nd rfl (.inl rfl) (C8 y8 (pv 2) (G0 (NW K) (G0 (NW K) (pv 0) B7 (λ_ _=>rfl)) (pv 3) (λ_ _=>rfl))))) C5)))
   (B4 (C1 (pv 2))))),?_⟩
  refine A6 rfl ⟨v,_,B9 rfl rfl ⟨IG.of r,rfl,B9 (a:=a) rfl (.inl (IG.of C)) (A6 rfl ⟨?_,?_,?_⟩)⟩⟩
  .omega
  .rw[AB];omega
  rw[AB,CC];refine Q7 (λi σ l=>l=H/\∃(h:Nat) (n:A5 V),σ = [some (.ref v),some (.int (m:Int)),some (.int (h:Int)),n]/\∀j,h.testBit j=true↔∃k,k<i/\m.testBit k=true/\(B.getD k 0).testBit j=true) ?_ ?_ ?_
  .exact⟨rfl,0,_,rfl,λj=>by rw[CB];simp⟩
  .rintro i σ l G ⟨rfl,h,n,rfl,d⟩ U c _;rw[Int.zero_add];refine A6 rfl (A6 rfl (B9 rfl rfl ⟨(show(0:Int)<=(i:Int) by omega),B9 rfl rfl ⟨rfl,A6 rfl ?_⟩⟩));dsimp only;rw[zCw];refine W0 (λo=>?_) (λo=>?_)
   .refine A6 rfl (A6 rfl ⟨v,_,B9 rfl rfl ⟨IG.of r,rfl,A6 rfl ⟨t,_,B9 rfl rfl ⟨IG.of D,Em (by rw[u.len];exact G),B9 rfl rfl ?_⟩⟩⟩⟩);dsimp only;rw[QN];refine c _ _ ⟨rfl,_,_,rfl,λj=>?_⟩;rw[EE,EM,d];constructor
    .rintro(⟨k,b,h2⟩ | h2)
     .exact⟨k,by omega,h2⟩
     .exact⟨i,by omega,o,h2⟩
    .rintro⟨k,b,h2⟩;by_cases e:k=i
     .rw[e]at h2;exact .inr h2.2
     .exact .inl ⟨k,by omega,h2⟩
   .refine c _ _ ⟨rfl,h,_,rfl,λj=>?_⟩;rw[d];constructor
    .rintro⟨k,b,h2⟩;exact⟨k,by omega,h2⟩
    .rintro⟨k,b,h2⟩;by_cases e:k=i
     .rw[e]at h2;exact absurd h2.1 o
     .exact⟨k,by omega,h2⟩
  .rintro σ l ⟨rfl,h,n,rfl,d⟩;refine A6 rfl (q h λj=>?_);rw[d];constructor
   .rintro⟨k,b,h2⟩;exact⟨k,h2⟩
   .rintro⟨k,b,h2⟩;refine⟨k,?_,b,h2⟩;obtain⟨z,_,I,_⟩:=(u.bit k j).mp h2;exact(AF.mp I).1
theorem KB:H_ ["_law_view", "_law_mask", "_law_hit_here", "_law_kept_here", "_law_k"] ["_law_view", "_law_mask"] (B5 OG):=KN
def Xb:Sp:=λb H Q _=>∃(p v:A3) (m:Nat) (a:A1 Str) (c:A1 (Str×Str)) (A B:A1 Nat),b = [.ref v,.int (m:Int)]/\JP H p v a c A B/\a.length<=100 /\
 ∀h:Nat,(∀j,h.testBit j=true↔Sy a.length A B m j)->Q (.int (h:Int)) H
theorem Jt(T:Tx K mg):IJ P w K mg base IZ 2 T.a7.f T.a7.fd ["_law_view", "_law_mask"] Xb:=by
 refine T.a7.F.o1 KB λM A x s H Z Q E N h=>?_
 .obtain⟨p,v,m,O,R,A,B,rfl,I,S,q⟩:=h;obtain⟨⟨a,s,t,J,U,W,e4,_⟩,X,mB⟩:=id I;refine⟨_,(B3 (C7 (i:=2) KB.nd rfl (.inl rfl) (D6 T.a3 (Cv T) (Rm N) (A8 (pv 0) (A8 (pv 1) B1))))
   (B3 (C7 (i:=3) KB.nd rfl (.inl rfl) B7)
   (B3 (P8 PassesOwn.never rfl (Zu T.aS (A8 (E8 (K7 K) T.am K1 (A8 (G0 (NW K) (pv 0) B7 (λ_ _=>rfl)) B1)) B1)) (D8 (i:=4) KB.nd rfl (.inl rfl))
   (B4 (J9 (C2 Y9 (C8 Q8 (G0 (NW K) (G0 (NW K) (pv 0) B7 (λ_ _=>rfl)) (pv 4) (λ_ _=>rfl)) (Yv Wl (pv 2))) B7 (E6 _)) (B4 (C7 (i:=3) KB.nd rfl (.inl rfl) (C8 y8 (pv 3) (C8 Bh B7 (pv 4))))) C5)))
   (B4 (C1 (pv 3)))))),?_⟩
  refine A6 rfl (A6 rfl (Zs (a:=p) (b:=v) (c:=m) (d:=O) (e:=R) (f:=A) (g:=B) rfl I S λo k=>?_));refine A6 rfl ⟨v,_,B9 rfl rfl ⟨IG.of J,rfl,B9 (a:=a) rfl (.inl (IG.of U)) (A6 rfl ⟨?_,?_,?_⟩)⟩⟩
  .omega
  .rw[AB];omega
  rw[AB,CC];refine Q7 (λi σ y=>y=H/\∃(h:Nat) (C:A5 V),σ = [some (.ref v),some (.int (m:Int)),some (.int (o:Int)),some (.int (h:Int)),C]/\∀j,h.testBit j=true↔Sy i A B m j) ?_ ?_ ?_
  .exact⟨rfl,0,_,rfl,λj=>by rw[CB];exact⟨λz=>(by cases z),λz=>absurd z.1 (FC _)⟩⟩
  .rintro i σ y Y ⟨rfl,h,C,rfl,u⟩ D1 r _;rw[Int.zero_add];refine A6 rfl ⟨v,_,B9 rfl rfl ⟨IG.of J,rfl,A6 rfl ⟨s,_,B9 rfl rfl ⟨IG.of W,Em (by rw[X.len];exact Y),A6 rfl (A6 rfl (B9 rfl rfl ⟨rfl,A6 rfl ?_⟩))⟩⟩⟩⟩;dsimp only;have L:=o0 (A.getD i 0) o;refine W0 (λD=>?_) (λD=>?_)
   .refine A6 rfl (A6 rfl (B9 rfl rfl ⟨⟨by omega,by omega,by decide⟩,B9 rfl rfl ?_⟩));dsimp only;rw[Vy,QN];refine r _ _ ⟨rfl,_,_,rfl,λj=>?_⟩;rw[S6,u];constructor
    .rintro(⟨G,l⟩ | rfl)
     .exact⟨by omega,l⟩
     .exact⟨by omega,λb n=>(k b).mp (L.mp D b n)⟩
    .rintro⟨G,l⟩;by_cases e:j=i
     .exact .inr e
     .exact .inl ⟨by omega,l⟩
   .refine r _ _ ⟨rfl,h,_,rfl,λj=>?_⟩;rw[u];constructor
    .rintro⟨G,l⟩;exact⟨by omega,l⟩
    .rintro⟨G,l⟩;by_cases e:j=i
     .subst e;exact absurd (L.mpr λb n=>(k b).mpr (l b n)) D
     .exact⟨by omega,l⟩
  .rintro σ y ⟨rfl,h,C,rfl,u⟩;exact⟨_,rfl,q h u⟩
theorem Bs:H_ ["_law_view", "_law_mask"] ["_law_view", "_law_mask"] (B5 LV):=KN
def Qx:Sp:=λc H Q _=>∃(p v:A3) (m:Nat) (a:A1 Str) (d:A1 (Str×Str)) (A B:A1 Nat),c = [.ref v,.int (m:Int)]/\JP H p v a d A B/\a.length<=100 /\
 ∀b:Bool,(b=true↔JC B m)->Q (.bl b) H
theorem U8(T:Tx K mg):IJ P w K mg base IZ 2 T.aG.f T.aG.fd ["_law_view", "_law_mask"] Qx:=by
 refine T.aG.F.o1 Bs λt A l s H I Q E u h=>?_
 .obtain⟨p,v,m,x,y,A,B,rfl,z,C,q⟩:=h;refine⟨_,(B4 (C1 (O3 Y9 (C8 Q8 (D6 T.a3 (Cv T) (Rm u) (A8 (pv 0) (A8 (pv 1) B1))) (pv 1)) B7 (E6 _)))),?_⟩;refine A6 rfl (A6 rfl (Zs (a:=p) (b:=v) (c:=m) (d:=x) (e:=y) (f:=A) (g:=B) rfl z C λD k=>?_));refine A6 rfl (B9 rfl rfl ⟨rfl,?_⟩);refine q _ ?_;dsimp only;rw[Tm];constructor
  .intro h i j n o r;exact h j ((k j).mpr ⟨i,n,r⟩) o
  .intro h j o G;obtain⟨i,n,r⟩:=(k j).mp o;exact h i j n G r
end
def Am{H H':Hp}{p:A3}{c:Int}{q:JF}(h:E4 H q)(L:IM H p c)(s:Sm [p] H H'):E4 H' q:=by
 obtain⟨x,y,e,_⟩:=L;exact KO s h (Q2 h e (by intro z;cases z))
def JR.sm{C:A3}{H H':Hp}{x p:A3}{c:Int}{ns:A1 Str}{g:A1 JF}(h:JR C H x ns g)(L:IM H p c)(s:Sm [p] H H'):JR C H' x ns g:=by
 obtain⟨m,r,a,b,c,d,t,u,w,i,j,A,B,D,E,F⟩:=h;obtain⟨y,z,G,_⟩:=id L;have k:∀{b:A3} {o:HO},H b=some o->o≠ .lst [.int y,.int z,.int _]->H' b=some o:=λe n=>KO s e (Q2 e G n);exact⟨m,r,a,b,c,d,t,u,k w (by intro z;cases z),KO s i (L.ne i),KO s j (L.neP j),λq I=>Am (A q I) L s,k B (by intro z;cases z),k D (by intro z;cases z),λn f=>let⟨l,v,e⟩:=E n f;⟨l,v,KO s e (L.ne e)⟩,λn f=>let⟨l,v,e⟩:=F n f;⟨l,v,KO s e (L.ne e)⟩⟩
def sd(a:A1 Str):PyData:=.list (a.map PyData.str)
def Mh{K:PySem.W.Frag}{H:Hp}:∀a:A1 Str,PD K H (a.map PyData.str) (a.map V.str)
 | []=>by simp[PD]
 | x::r=>by
  simp only[BC,PD,Rp];exact⟨_,_,rfl,rfl,Mh r⟩
def Qp{K:PySem.W.Frag}{H:Hp}{l:A3}{a:A1 Str}(h:IG K H l (a.map V.str)):Rp K H (sd a) (.ref l):=by
 unfold sd;simp only[Rp];exact⟨l,_,rfl,h,Mh a⟩
def Cy:∀a:A1 Str,PyData.depthAll (a.map PyData.str)<=1
 | []=>by simp[PyData.depthAll]
 | x::r=>by
  have:=Cy r;simp only[BC,PyData.depthAll,PyData.depth];omega
def Ax:∀a:A1 JF,PyData.depthAll (a.map λq=>pd q.2)<=3
 | []=>by simp[PyData.depthAll]
 | x::r=>by
  have:=Ax r;have e:(pd x.2).depth<=3:=by simp[pd,PyData.depth,PyData.depthAll]
  rw[BC,PyData.depthAll];omega
def Lx:∀{a:A1 Str},(∀x∈a,PySem.PyData.strOk x=true)->PyData.canLayAll0 (a.map PyData.str)=true
 | [],_=>rfl
 | x::r,h=>by
  rw[BC,PyData.canLayAll0,Lx λz b=>h z (AU _ b)];simp[PyData.canLay0,h x (BH ..)]
def Ze{a:A1 Str}(h:∀x∈a,S7 x=true):Pl (sd a):=by
 refine⟨?_,?_⟩
 .unfold sd;rw[PyData.canLay0];exact Lx λx b=>Q5 (h x b)
 .unfold sd;rw[PyData.depth];have:=Cy a;omega
def Um{a:A1 JF}(h:∀q∈a,S7 q.2.1=true/\S7 q.2.2=true):Pl (.list (a.map λq=>pd q.2)):=by
 refine⟨?_,?_⟩
 .rw[PyData.canLay0];exact Ds λq b=>⟨Q5 (h q b).1,Q5 (h q b).2⟩
 .rw[PyData.depth];have:=Ax a;omega
def Xu{K:PySem.W.Frag}{x y:V}{d:PyData}{H:Hp}{Q:VK}(h1:Rp K H d x)(h2:Rp K H d y)(p:Pl d)(q:Q (.bl false) H):zDi K x y H Q :=
 ⟨d,d,h1,h2,p,p,by rw[PySem.SeqAt.eqv_refl d p.1];exact q⟩
def pB(p:Prop):Bool:=@decide p (Classical.propDecidable p)
def OI{p:Prop}:pB p=true↔p:=@BF p (Classical.propDecidable p)
def zBu{p:Prop}{b:Bool}(h:b=true↔p):b=pB p:=BR.mpr (h.trans OI.symm)
def Sx:∀(j a b:Nat),(∀j,a.testBit j=true->¬b.testBit j=true)->(a+b).testBit j =(a.testBit j||b.testBit j)
 | 0,a,b,h=>by
  have c:=h 0;rw[CS,CS,BF,BF]at c;rw[CS,CS,CS,<-Bool.decide_or];exact decide_eq_decide.mpr ⟨λz=>by omega,λz=>by omega⟩
 | j+1,a,b,h=>by
  have c:=h 0;rw[CS,CS,BF,BF]at c;rw[DB,DB,DB,show(a+b) / 2=a / 2+b / 2 by omega];exact Sx j (a / 2) (b / 2) λi=>by have:=h (i+1);rw[DB,DB]at this;exact this
def y9:∀{l:A1 Nat},l.Nodup->∀j,((l.map λk=>2^k).sum).testBit j=true↔j∈l
 | [],_,j=>by simp
 | k::l,b,j=>by
  obtain⟨c,d⟩:=D_.mp b;have a:=y9 d;rw[BC,GW,Nat.add_comm,Sx j _ _ λi z y=>?_,EM,a,BW,BF,AQ];rotate_left
  .rw[BW,BF]at y;exact c (y▸(a i).mp z)
  exact⟨λh=>h.elim .inr λe=>.inl e.symm,λh=>h.elim (λe=>.inr e.symm) .inl⟩
def Of:∀(s:Nat),0<s->∃k,s.testBit k=true/\s-(s &&&(s-1))=2^k/\∀i,i<k->¬s.testBit i=true:=by
 intro s
 induction s using Nat.strongRecOn with
 | _ s b =>
  intro h;by_cases o:s % 2=1
  .refine⟨0,by rw[CS];exact AS o,?_,λi a=>absurd a (FC _)⟩;have e:s &&&(s-1)=s-1:=BL λi=>by
    rw[BS];cases i with
    | zero=>rw[CS,CS,BA (by omega:¬(s-1) % 2=1),HI]
    | succ i=>rw[DB,DB,show(s-1) / 2=s / 2 by omega,Bool.and_self]
   rw[e];omega
  .obtain⟨k,c,f,d⟩:=b (s / 2) (by omega) (by omega);refine⟨k+1,by rw[DB];exact c,?_,λi a=>by
    cases i with
    | zero=>rw[CS,BF];exact o
    | succ i=>rw[DB];exact d i (by omega)⟩
   have e:s &&&(s-1)=2 *(s / 2 &&&(s / 2-1)):=BL λi=>by
    rw[BS];cases i with
    | zero=>rw[CS,CS,BA o,ED,CS,BA (by omega)]
    | succ i=>rw[DB,DB,DB,Nat.mul_div_cancel_left _ (by decide),BS,show(s-1) / 2=s / 2-1 by omega]
   have:s / 2 &&&(s / 2-1)<=s / 2:=Nat.and_le_left;rw[e,Nat.pow_succ];omega
def LS(n m:Nat):Prop:=∀j,m.testBit j=true->j<n
def LS.or{n m k:Nat}(h:LS n m)(b:k<n):LS n (m ||| 2^k):=λj a=>((S6 m k j).mp a).elim (h j) λe=>by omega
def LS.zero(n:Nat):LS n 0:=λj a=>by rw[CB]at a;cases a
def LS.lt{n m:Nat}(h:LS n m):m<2^n:=Nat.lt_pow_two_of_testBit m λi a=>B_.mpr λz=>by have:=h i z;omega
structure QP(n:Nat)(A B:A1 Nat):Prop where
 tr:∀i j,(A.getD i 0).testBit j=true↔(B.getD j 0).testBit i=true
 lt:∀i j,(B.getD i 0).testBit j=true->i<n/\j<n
def MB.net{ns:A1 Str}{ks:A1 (Str×Str)}{A B:A1 Nat}(a:MB ns (ks.map λk=>(k.2,k.1)) A)(b:MB ns ks B):QP ns.length A B:=by
 refine⟨λi j=>?_,λi j h=>?_⟩
 .rw[a.bit,b.bit];constructor
  .rintro⟨_,e,c,d⟩;obtain⟨k,f,rfl⟩:=BB.mp e;exact⟨k,f,d,c⟩
  .rintro⟨k,e,c,d⟩;exact⟨_,BB.mpr ⟨k,e,rfl⟩,d,c⟩
 .obtain⟨k,_,c,d⟩:=(b.bit i j).mp h;exact⟨(AF.mp c).1,(AF.mp d).1⟩
def Li(n:Nat)(A B:A1 Nat)(m:Nat):Prop:=LS n m/\JC B m/\∀j,m.testBit j=true->Sy n A B m j
def Sub(c a:Nat):Prop:=∀j,c.testBit j=true->a.testBit j=true
def Iq(m i:Nat):((Builtin.bitAnd ((2^i:Nat):Int) (m:Int)) != 0)=m.testBit i:=by
 rw[Oa];have e:(2^i &&& m)=if m.testBit i=true then 2^i else 0:=BL λj=>by
  rw[BS,BW];by_cases h:m.testBit i=true
  .rw[AK h,BW];by_cases c:i=j
   .subst c;rw[h,Bool.and_true]
   .rw[BA c,ED]
  .rw[AI h,CB];by_cases c:i=j
   .subst c;rw[B_.mpr h,HI]
   .rw[BA c,ED]
 rw[e];have p:0<2^i:=Nat.pow_pos (by decide);by_cases h:m.testBit i=true
 .rw[AK h,h,bne_iff_ne];omega
 .rw[AI h,B_.mpr h];rfl
def zGb(x y:Nat)(h:∀j,y.testBit j=true->x.testBit j=true):∃z:Nat,Builtin.bitXor (x:Int) (y:Int) =(z:Int)/\∀j,z.testBit j=true↔x.testBit j=true/\¬y.testBit j=true:=by
 have b:∀j,(x ^^^ y).testBit j=true↔x.testBit j=true/\¬y.testBit j=true:=λj=>by
  rw[Nat.testBit_xor];cases d:x.testBit j<;>cases f:y.testBit j<;>simp;exact absurd (h j f) (by rw[d];decide)
 refine⟨x ^^^ y,?_,b⟩;have e:(x ^^^ y)+y=x:=BL λj=>by
  rw[Sx j _ _ λi z=>((b i).mp z).2,BR,EM,b];exact⟨λz=>z.elim (·.1) (h j),λz=>by by_cases c:y.testBit j=true<;>simp[z,c]⟩
 have a:x &&& y=y:=BL λj=>by
  rw[BS,BR,BI];exact⟨(·.2),λz=>⟨h j z,z⟩⟩
 rw[PyProof.Rows.bitXor_and,Oa,a];omega
def bK(M:A1 Nat)(n:Nat):A1 (IU×V):=(List.range n).map λi=>((Sum.inl ((2^i:Nat):Int):IU),K9 (M.getD i 0))
def Qe{i j:Nat}(h:((2^i:Nat):Int) =((2^j:Nat):Int)):i=j:=(Nat.pow_right_inj (by decide)).mp (Int.ofNat_inj.mp h)
def Ks(M:A1 Nat):∀{n i:Nat},i<n->T0 (bK M n) (.inl ((2^i:Nat):Int))=some (K9 (M.getD i 0))
 | n+1,i,h=>by
  unfold T0 bK;rw[EJ,AY,List.find?_append];by_cases c:i<n
  .have a:=Ks M c;unfold T0 bK at a;cases e:(List.find? (λb:IU×V=>decide (b.1=Sum.inl ((2^i:Nat):Int))) ((List.range n).map λi=>((Sum.inl ((2^i:Nat):Int):IU),K9 (M.getD i 0))))with
   | none=>rw[e]at a;cases a
   | some q=>rw[e]at a;rw[Option.some_or];exact a
  .have e:i=n:=by omega
   subst e;rw[List.find?_eq_none.mpr λq d z=>?_,Option.none_or]
   .rw[BC,FB,AS rfl];rfl
   .obtain⟨k,f,rfl⟩:=BB.mp d;have:=Qe (Sum.inl.inj (CA z));have:=BU.mp f;omega
def mf(a b c d:A3)(n L:Nat):A1 (Str×V):=[("names",.ref a),("full",K9 (2^n-1)),("bit_of",.ref b),("strikers_of",.ref c),("struck_of",.ref d),("loops",K9 L)]
structure IB(C:A3)(H:Hp)(x c:A3)(ns:A1 Str)(A B:A1 Nat)(L:Nat):Prop where
 ex:∃dx a b d kb,H x=some (.ins C dx (mf a b c d ns.length L))/\H a=some (.lst (ns.map V.str))/\Rd H b (.dK kb)/\(∀i n,ns[i]?=some n->T0 kb (.inr n)=some (K9 (2^i)))/\Rd H c (.dK (bK A ns.length))/\H d=some (.dK (bK B ns.length))/\d≠c/\b≠c
 net:QP ns.length A B
 nd:ns.Nodup
 len:ns.length<=100
 loops:∀j,L.testBit j=true↔(A.getD j 0).testBit j=true
def zAj{H:Hp}{a c:A3}{b:A1 (IU×V)}{o:HO}(r:Rd H c (.dK b))(h:H a=some o)(e:∀b,o≠ .dK b)(f:∀d u,o≠ .frz d u):a≠c:=by
 rintro rfl;rcases r with r | ⟨d,r⟩
 .rw[h]at r;exact e _ (BE r)
 .rw[h]at r;exact f _ _ (BE r)
def zDw{H H':Hp}{b c:A3}{u:HO}(r:Rd H b u)(s:Sm [c] H H')(n:b≠c):Rd H' b u:=r.imp (λh=>KO s h n) λ⟨o,h⟩=>⟨o,KO s h n⟩
def IB.fz{C:A3}{H H':Hp}{x c:A3}{ns:A1 Str}{A B:A1 Nat}{L:Nat}(h:IB C H x c ns A B L)(s:Sm [c] H H')(r:Rd H' c (.dK (bK A ns.length))):IB C H' x c ns A B L:=by
 obtain⟨⟨k,a,b,d,l,e,f,m,n,g,o,i,j⟩,p,q,t,u⟩:=h;exact⟨⟨k,a,b,d,l,KO s e (zAj g e (λ_ z=>by cases z) λ_ _ z=>by cases z),KO s f (zAj g f (λ_ z=>by cases z) λ_ _ z=>by cases z),zDw m s j,n,r,KO s o i,i,j⟩,p,q,t,u⟩
def IB.same{C:A3}{H H':Hp}{x c:A3}{ns:A1 Str}{A B:A1 Nat}{L:Nat}(h:IB C H x c ns A B L)(s:HY H H'):IB C H' x c ns A B L :=
 h.fz s.sm (let⟨_,_,_,_,_,_,_,_,_,a,_⟩:=h.ex;a.imp (s _ _) λ⟨o,e⟩=>⟨o,s _ _ e⟩)
def E1(m i:Nat):A1 Nat:=(List.range i).filter λk=>m.testBit k
def Q9(m i:Nat):E1 m (i+1)=E1 m i++if m.testBit i=true then [i]else []:=by
 unfold E1;rw[EJ,EA,DT,GG]
def O1(m i:Nat):(E1 m i).length<=i:=Nat.le_trans (BZ ..) (by rw[BV];exact Nat.le_refl _)
section
variable{P:CM}{w:F8}{K:PySem.W.Frag}{mg:Str->A5 A2}{base:IA}
theorem u9:H_ ["self", "some"] ["self", "some"] (B5 LR):=KN
def m8(C:A3):Sp:=λd H Q _=>∃(x c:A3) (b:A1 Str) (A B:A1 Nat) (L m:Nat),d = [.ref x,.int (m:Int)]/\IB C H x c b A B L/\∀l a,H l=none->Sm [c] H a->IB C a x c b A B L->a l=some (.lst ((E1 m b.length).map λk=>K9 (2^k)))->Q (.ref l) a
theorem E7(T:Tx K mg):IJ P w K mg base IZ 1 T.ac.f T.ac.fd ["self", "some"] (m8 T.ab):=by
 refine T.ac.F.o1 u9 λW A p s H vs Q E hr h=>?_
 .obtain⟨x,c,e,A,B,L,m,rfl,r,q⟩:=h;obtain⟨X,a,b,d,kb,Y,e2,e3,e4,Z,e6,n1,n2⟩:=r.ex;have ln:=r.len;refine⟨_,(B4 (C1 (U5 (N':=["bit", "some"]) (cap:=[none,some 1]) (cl:=[("some",_)]) (Q3 ⟨⟨rfl,rfl,rfl,rfl⟩,trivial⟩ ⟨rfl,trivial⟩) rfl (Xo (OK K (pv 0))) (λ_ _ _ _=>by exact⟨(NC 0),(X6 (SY K (C8 Q8 (pv 0) (pv 1)))),(pv 0)⟩)))),?_⟩;refine A6 rfl ⟨x,T.ab,X,_,A6 rfl ⟨Y,T.ad,T.ax,rfl,c,_,rfl,Z,λo D j=>?_⟩⟩;have t:D≠c:=λz=>by rw[z,A9]at j;cases j
  have u:Sm [c] H (HZ H c (.frz o (.dK (bK A e.length)))):=(Sm.refl _ _).upd (by simp);have O:Rd (HZ H c (.frz o (.dK (bK A e.length)))) c (.dK (bK A e.length)):=.inr ⟨o,A9⟩;have C:(HZ H c (.frz o (.dK (bK A e.length)))) c=some (.frz o (.dK (bK A e.length))):=A9;have I:H D=none:=by rw[B6 t]at j;exact j
  have R:=r.fz u O;generalize HZ H c (.frz o (.dK (bK A e.length)))=H1 at j u O C R⊢;have S:(bK A e.length).length=e.length:=by unfold bK;rw[AB,BV]
  refine Ak (n:=e.length) (λi σ G=>(∃U,σ = [U,some (.int (m:Int))])/\HY H1 G/\G D=some (.lst ((E1 m i).map λk=>K9 (2^k)))) ⟨⟨_,rfl⟩,HY.new j,A9⟩ ?_ ?_ ?_ ?_
  .rintro i σ G J ⟨_,g,_⟩;exact⟨g _ _ C,by rw[S];exact J⟩
  .rintro σ G ⟨_,g,_⟩;exact⟨g _ _ C,by rw[S];exact Nat.le_refl _⟩
  .rintro i σ G y H' N J ⟨⟨U,rfl⟩,g,l⟩ ⟨rfl,k,v,M,rfl⟩ V;unfold bK at M;rw[AH,List.getElem?_range J]at M;obtain⟨rfl,rfl⟩:=Prod.mk.inj (BE M);refine A6 rfl (A6 rfl (B9 rfl rfl ⟨_,rfl,?_⟩));dsimp only;rw[Iq];have hl:=O1 m i;refine W0 (λz=>A6 rfl ⟨_,l,by rw[AB,sizeLine_eq];omega,V _ _ ⟨⟨_,rfl⟩,g.upd j,?_⟩⟩) (λz=>V _ _ ⟨⟨_,rfl⟩,g,?_⟩)
   .rw[A9,Q9,AK z,AY];rfl
   .rw[Q9,AI z,CT];exact l
  .rintro σ G ⟨_,g,l⟩;exact q D G I (u.trans g.sm) (R.same g) l
end
def zDs{α:Type}{J:It}{ys:A1 α}{r:α->V}(f:α->V){a D:A3}{H:Hp}(as:Le J (ys.map r) a H){g:TT}{j:TE}{c:St}{k:A5 V}{Q:St->Hp->Prop}(p:α->Bool)(x:ys.length<=5000)(l:H D=none)
  (z:∀y∈ys,∀G,HY H G->∀M:Bool->Hp->Prop,(∀d,HY G d->M (p y) d)->g (some (r y)::c) G M) (A:∀y∈ys,∀G,HY H G->∀M:VK,(∀d,HY G d->M (f y) d)->j (some (r y)::c) G M)
  (q:∀σ G,HY H G->G D=some (.lst ((ys.filter p).map f))->Q σ G):Lr (l4 0) g (Gp D j) J (k::c) (HZ H D (.lst [])) Q:=by
 refine X8 as (λi σ G=>(∃v,σ=v::c)/\HY H G/\G D=some (.lst (((ys.take i).filter p).map f))) ⟨⟨_,rfl⟩,HY.new l,A9⟩ (λi σ G _ h=>h.2.1.at a) ?_ ?_
 .rintro i σ G v N m ⟨⟨k,rfl⟩,b,e⟩ n;rw[AH]at m;obtain⟨y,o,rfl⟩:=BK.mp m;have s:=AL o;refine z y s G b _ λd t=>?_;have e:=t _ _ e;have b:=b.trans t;have u:(ys.take (i+1)).filter p =(ys.take i).filter p++if p y=true then [y]else []:=by
   rw[IT o,EA,DT,GG]
  have B:=BZ p (ys.take i);rw[AX]at B;refine W0 (λc=>A y s d b _ λC w=>⟨_,w _ _ e,by rw[AB,sizeLine_eq];omega,n _ _ ⟨⟨_,rfl⟩,(b.trans w).upd l,?_⟩⟩) (λc=>n _ _ ⟨⟨_,rfl⟩,b,?_⟩)
  .rw[A9,u,AK c,AY];rfl
  .rw[u,AI c,CT];exact e
 .rintro σ G ⟨_,b,e⟩;rw[AB,CJ]at e;exact q σ G b e
def Df{α:Type}{J:It}{ys:A1 α}{r:α->V}(f:α->V){a D:A3}{H:Hp}(as:Le J (ys.map r) a H){g:TT}{h:TE}{c:St}{j:A5 V}{Q:St->Hp->Prop}(p:α->Bool)(d:ys.length<=5000)(k:H D=none)
  (l:∀y∈ys,∀G,HY H G->∀M:Bool->Hp->Prop,(∀i,HY G i->M (p y) i)->g (some (r y)::c) G M) (m:∀y∈ys,∀G,HY H G->∀M:VK,M (f y) G->h (some (r y)::c) G M)
  (q:∀σ G,HY H G->G D=some (.lst ((ys.filter p).map f))->Q σ G):Lr (l4 0) g (Gp D h) J (j::c) (HZ H D (.lst [])) Q :=
 zDs f as p d k l (λy n G s M t=>m y n G s M (t G λb o e=>e)) q
def JA{m n k:Nat}:k∈E1 m n↔k<n/\m.testBit k=true:=by
 unfold E1;rw[BQ,BU]
def La(n j:Nat):(2^n-1).testBit j=true↔j<n:=by rw[Nat.testBit_two_pow_sub_one,BF]
section
variable{P:CM}{w:F8}{K:PySem.W.Frag}{mg:Str->A5 A2}{base:IA}
theorem l5:H_ ["self", "some"] ["self", "some"] (B5 LD):=KN
def Ir(C:A3):Sp:=λd H Q _=>∃(x c:A3) (b:A1 Str) (A B:A1 Nat) (L m:Nat),d = [.ref x,.int (m:Int)]/\IB C H x c b A B L/\∀l a,H l=none->HY H a->a l=some (.lst ((IQ b m).map V.str))->Q (.ref l) a
theorem S9(T:Tx K mg):IJ P w K mg base IZ 1 T.an.f T.an.fd ["self", "some"] (Ir T.ab):=by
 refine T.an.F.o1 l5 λS A l s H vs Q E U h=>?_
 .obtain⟨x,c,t,A,B,L,m,rfl,u,q⟩:=h;have W:=i5 U;obtain⟨v,a,b,d,C,I,J,X,Y,e5,e6,n1,n2⟩:=u.ex;have ln:=u.len;refine⟨_,(B4 (C1 (U5 (N':=["name", "some", "self"]) (cap:=[none,some 1,some 0]) (cl:=[("some",_),("self",_)]) (Q3 ⟨⟨rfl,rfl,rfl,rfl⟩,⟨⟨rfl,rfl,rfl,rfl⟩,trivial⟩⟩ ⟨rfl,⟨rfl,trivial⟩⟩) rfl (NV K (OK K (pv 0))) (λ_ _ _ _=>by exact⟨(NC 0),(X6 (SY K (C8 Q8 (N9 W (OK K (pv 2)) (pv 0) (λ_ _=>rfl)) (pv 1)))),(pv 0)⟩)))),?_⟩;refine A6 rfl ⟨x,T.ab,v,_,A6 rfl ⟨I,T.ad,T.aH,rfl,a,rfl,⟨_,IG.of J⟩,λD p=>?_⟩⟩;refine X8 (NR (IG.of J)) (λi σ G=>(∃M,σ = [M,some (.int (m:Int)),some (.ref x)])/\HY H G/\G D=some (.lst ((Ar t m i).map V.str))) ⟨⟨_,rfl⟩,HY.new p,A9⟩ (λi σ G _ h=>h.2.1.at a) ?_ ?_
  .rintro i σ G y N O ⟨⟨M,rfl⟩,g,j⟩ R;rw[AH]at O;obtain⟨n,k,rfl⟩:=BK.mp O;have li:=(AF.mp k).1;have Z:Rd G b (.dK C):=X.imp (g _ _) λ⟨o,e⟩=>⟨o,g _ _ e⟩;refine A6 rfl ⟨x,T.ab,v,_,A6 rfl ⟨g _ _ I,T.ad,T.aW,rfl,A6 rfl ⟨b,_,rfl,.inl ⟨C,.inr n,Z,rfl,(Y i n k).symm⟩,A6 rfl (B9 rfl rfl ⟨_,rfl,?_⟩)⟩⟩⟩;dsimp only;rw[Iq];have r:=(Ap t m i (by omega)).length_le;rw[AX]at r;refine W0 (λz=>A6 rfl ⟨_,j,by rw[AB,sizeLine_eq];omega,R _ _ ⟨⟨_,rfl⟩,g.upd p,?_⟩⟩) (λz=>R _ _ ⟨⟨_,rfl⟩,g,?_⟩)
   .rw[A9,P2 k,AK z,AY];rfl
   .rw[P2 k,AI z,CT];exact j
  .rintro σ G ⟨_,g,j⟩;rw[AB]at j;exact q D G p g j
theorem L_:H_ ["sets", "whole", "one"] ["sets"] (B5 PK):=KN
def Sl(K:PySem.W.Frag):Sp:=λb H Q _=>∃(l:A3) (a:A1 Nat),b = [.ref l]/\H l=some (.lst (a.map K9))/\∀r:Nat,(∀j,r.testBit j=true↔∃z∈a,z.testBit j=true)->Q (.int (r:Int)) H
theorem Fp(T:Tx K mg):IJ P w K mg base IZ 1 T.ba.f T.ba.fd ["sets"] (Sl K):=by
 refine T.ba.F.o1 L_ λu A c s H B Q E a h=>?_
 .obtain⟨l,v,rfl,p,q⟩:=h;refine⟨_,(B3 (C7 (i:=1) L_.nd rfl (.inl rfl) B7)
   (B3 (P8 PassesOwn.never rfl (NV K (pv 0)) (D8 (i:=2) L_.nd rfl (.inl rfl))
   (B4 (zCj (i:=1) L_.nd rfl (Or.inl rfl) (pv 2) zEj)))
   (B4 (C1 (pv 1))))),?_⟩
  refine C0 λC d=>?_;refine d _ _ (C0 λD g=>?_);refine A6 rfl ⟨l,rfl,⟨_,IG.of p⟩,?_⟩;refine R9 (NR (K:=K) (IG.of p)) (λi σ G=>G=H/\∃(r:Nat) (k:A5 V),σ = [some (.ref l),some (.int (r:Int)),k]/\∀j,r.testBit j=true↔∃z∈v.take i,z.testBit j=true) ⟨rfl,0,_,rfl,λj=>by simp⟩ (λi σ G _ h=>by rw[h.1];exact λo e=>e) ?_ ?_
  .rintro i σ G y t ⟨rfl,r,k,rfl,a⟩ I m _;rw[AH]at t;obtain⟨z,x,rfl⟩:=BK.mp t;refine A6 rfl (A6 rfl (B9 rfl rfl ?_));dsimp only;rw[QN];refine m _ _ ⟨rfl,_,_,rfl,λj=>?_⟩;rw[EE,EM,a,IT x];constructor
   .rintro(⟨n,h1,b⟩ | h)
    .exact⟨n,FR _ h1,b⟩
    .exact⟨z,BP _ (AE.mpr rfl),h⟩
   .rintro⟨n,h1,b⟩;rcases BD.mp h1 with h1 | h1
    .exact .inl ⟨n,h1,b⟩
    .rw[AE.mp h1]at b;exact .inr b
  .rintro σ G ⟨rfl,r,k,rfl,a⟩;rw[AB,CJ]at a;exact g _ _ (A6 rfl (q r a))
def Qb(C:A3)(f:A1 Nat->A1 Nat->A1 Nat):Sp:=λd H Q _=>∃(x c:A3) (b:A1 Str) (A B:A1 Nat) (L m:Nat),d = [.ref x,.int (m:Int)]/\IB C H x c b A B L/\∀(r:Nat) a,Sm [c] H a->IB C a x c b A B L->(∀j,r.testBit j=true↔o7 (f A B) m j)->Q (.int (r:Int)) a
theorem Su{n m r:Nat}{M:A1 Nat}(b:∀k j,(M.getD k 0).testBit j=true->k<n)(h:∀j,r.testBit j=true↔∃z∈(E1 m n).map (λk=>M.getD k 0),z.testBit j=true)(j:Nat):r.testBit j=true↔o7 M m j:=by
 rw[h];constructor
 .rintro⟨z,c,e⟩;obtain⟨k,a,rfl⟩:=BB.mp c;exact⟨k,(JA.mp a).2,e⟩
 .rintro⟨k,a,e⟩;exact⟨_,BB.mpr ⟨k,JA.mpr ⟨b k j e,a⟩,rfl⟩,e⟩
theorem Y4:H_ ["self", "some"] ["self", "some"] (B5 KY):=KN
theorem J7(T:Tx K mg):IJ P w K mg base IZ 2 T.ah.f T.ah.fd ["self", "some"] (Qb T.ab λ_ B=>B):=by
 refine T.ah.F.o1 Y4 λJ A t s H V Q E n h=>?_
 .obtain⟨x,c,y,A,B,L,m,rfl,g,q⟩:=h;have N:=i5 n;obtain⟨u,a,b,d,O,v,_⟩:=g.ex;have W:=g.len;refine⟨_,(B4 (C1 (D6 T.ba (Fp T) (Rm n) (A8 (U5 (N':=["bit", "self"]) (cap:=[none,some 0]) (cl:=[("self",_)]) (Q3 ⟨⟨rfl,rfl,rfl,rfl⟩,trivial⟩ ⟨rfl,trivial⟩) rfl (NV K (D0 (pv 0) T.ad T.ac.m (E7 T) (Rm n) T.ac.b .nil K0 (A8 (pv 1) B1))) (λ_ _ _ _=>by exact⟨(NC 0),K4,(N9 N (OK K (pv 1)) (pv 0) (λ_ _=>rfl))⟩)) B1)))),?_⟩;refine A6 rfl ⟨x,u,A6 rfl ⟨v,rfl,A6 rfl ⟨x,c,y,A,B,L,m,rfl,g,λl X Y R z C=>?_⟩⟩⟩;obtain⟨u,a,b,d,O,v,Z,e3,e4,e5,S,n1,n2⟩:=z.ex;refine⟨l,rfl,⟨_,IG.of C⟩,λD U=>?_⟩;refine Df (λk=>K9 (B.getD k 0)) (NR (IG.of C)) (λ_=>true) (Nat.le_trans (O1 ..) (by omega)) U (λk I G i M g=>g G λb o e=>e) (λk I G i M g=>?_) λσ' G i p=>?_
  .exact A6 rfl ⟨x,T.ab,u,_,A6 rfl ⟨i _ _ v,T.ad,T.a9,rfl,A6 rfl ⟨d,_,rfl,.inl ⟨_,.inl ((2^k:Nat):Int),.inl (i _ _ S),rfl,(Ks B (JA.mp I).1).symm⟩,g⟩⟩⟩
  rw[EH.mpr λ_ _=>rfl]at p;have p:G D=some (.lst (((E1 m y.length).map λk=>B.getD k 0).map K9)):=by rw[p,CI];rfl
  refine⟨D,_,rfl,p,λr n=>q r G (R.trans i.sm) (z.same i) (Su (λk j e=>(g.net.lt k j e).1) n)⟩
theorem W2:H_ ["self", "some"] ["self", "some"] (B5 KF):=KN
theorem I0(T:Tx K mg):IJ P w K mg base IZ 2 T.af.f T.af.fd ["self", "some"] (Qb T.ab λA _=>A):=by
 refine T.af.F.o1 W2 λJ A t s H V Q E n h=>?_
 .obtain⟨x,c,y,A,B,L,m,rfl,g,q⟩:=h;have N:=i5 n;obtain⟨u,a,b,d,O,v,_⟩:=g.ex;have W:=g.len;refine⟨_,(B4 (C1 (D6 T.ba (Fp T) (Rm n) (A8 (U5 (N':=["bit", "self"]) (cap:=[none,some 0]) (cl:=[("self",_)]) (Q3 ⟨⟨rfl,rfl,rfl,rfl⟩,trivial⟩ ⟨rfl,trivial⟩) rfl (NV K (D0 (pv 0) T.ad T.ac.m (E7 T) (Rm n) T.ac.b .nil K0 (A8 (pv 1) B1))) (λ_ _ _ _=>by exact⟨(NC 0),K4,(N9 N (OK K (pv 1)) (pv 0) (λ_ _=>rfl))⟩)) B1)))),?_⟩;refine A6 rfl ⟨x,u,A6 rfl ⟨v,rfl,A6 rfl ⟨x,c,y,A,B,L,m,rfl,g,λl X Y R z C=>?_⟩⟩⟩;obtain⟨u,a,b,d,O,v,Z,e3,e4,S,e6,n1,n2⟩:=z.ex;refine⟨l,rfl,⟨_,IG.of C⟩,λD U=>?_⟩;refine Df (λk=>K9 (A.getD k 0)) (NR (IG.of C)) (λ_=>true) (Nat.le_trans (O1 ..) (by omega)) U (λk I G i M g=>g G λb o e=>e) (λk I G i M g=>?_) λσ' G i p=>?_
  .exact A6 rfl ⟨x,T.ab,u,_,A6 rfl ⟨i _ _ v,T.ad,T.ax,rfl,A6 rfl ⟨c,_,rfl,.inl ⟨_,.inl ((2^k:Nat):Int),S.imp (i _ _) λ⟨o,e⟩=>⟨o,i _ _ e⟩,rfl,(Ks A (JA.mp I).1).symm⟩,g⟩⟩⟩
  rw[EH.mpr λ_ _=>rfl]at p;have p:G D=some (.lst (((E1 m y.length).map λk=>A.getD k 0).map K9)):=by rw[p,CI];rfl
  refine⟨D,_,rfl,p,λr n=>q r G (R.trans i.sm) (z.same i) (Su (λk j e=>(g.net.lt j k ((g.net.tr k j).mp e)).2) n)⟩
theorem W3:H_ ["self", "some"] ["self", "some"] (B5 KE):=KN
def Jo(C:A3):Sp:=λd H Q _=>∃(x c:A3) (a:A1 Str) (A B:A1 Nat) (L m:Nat),d = [.ref x,.int (m:Int)]/\IB C H x c a A B L/\∀(r:Nat) b,Sm [c] H b->IB C b x c a A B L->(∀j,r.testBit j=true↔j<a.length/\¬o7 B m j)->Q (.int (r:Int)) b
theorem W5(T:Tx K mg):IJ P w K mg base IZ 3 T.ar.f T.ar.fd ["self", "some"] (Jo T.ab):=by
 refine T.ar.F.o1 W3 λt A i s H I Q E g h=>?_
 .obtain⟨x,c,n,A,B,L,m,rfl,l,q⟩:=h;obtain⟨o,a,b,d,J,p,_⟩:=l.ex;refine⟨_,(B4 (C1 (C8 Wm (OK K (pv 0)) (D0 (pv 0) T.ad T.ah.m (J7 T) (Rm g) T.ah.b .nil K0 (A8 (pv 1) B1))))),?_⟩;refine A6 rfl ⟨x,T.ab,o,_,A6 rfl ⟨p,T.ad,T.bj,rfl,A6 rfl ⟨x,o,A6 rfl ⟨p,rfl,A6 rfl ⟨x,c,n,A,B,L,m,rfl,l,λr u v y g=>?_⟩⟩⟩⟩⟩;obtain⟨z,C,D⟩:=zGb (2^n.length-1) r λj G=>by
   obtain⟨k,_,e⟩:=(g j).mp G;exact(La _ _).mpr (l.net.lt k j e).2
  refine⟨_,_,rfl,rfl,?_⟩;dsimp only;rw[C];exact q z u v y λj=>by rw[D,La,g]
theorem Ho:H_ ["some"] ["some"] (B5 NQ):=KN
def Uh:Sp:=λa H Q _=>∃s:Nat,a = [.int (s:Int)]/\0<s/\∀k:Nat,s.testBit k=true->(∀i,i<k->¬s.testBit i=true)->Q (.int ((2^k:Nat):Int)) H
theorem Fv(T:Tx K mg):IJ P w K mg base IZ 1 T.aX.f T.aX.fd ["some"] Uh:=by
 refine T.aX.F.o1 Ho λb A a s H j Q E l h=>?_
 .obtain⟨s,rfl,c,q⟩:=h;refine⟨_,(B4 (C1 (C8 Q8 (pv 0) (Yv Zz (pv 0))))),?_⟩;refine A6 rfl (A6 rfl ⟨_,rfl,B9 rfl rfl ?_⟩);obtain⟨k,d,m,g⟩:=Of s c;have e:-(s:Int)=Builtin.bitNot (((s-1:Nat)):Int):=by unfold Builtin.bitNot;omega
  have:=q k d g;dsimp only;rw[e,PyProof.Rows.bitAnd_not,Oa];have i:(s:Int)-((s &&&(s-1):Nat):Int) =((2^k:Nat):Int):=by
   have:s &&&(s-1)<=s:=Nat.and_le_left;omega
  rw[i];exact this
end
def Jy(κ:Nat->IU)(v:Nat->V){N:Nat}(b:∀i j,i<N->j<N->κ i=κ j->i=j):∀n,n<=N->∀i,i<N->T0 ((List.range n).map λk=>(κ k,v k)) (κ i)=if i<n then some (v i)else none
 | 0,_,i,_=>rfl
 | n+1,h,i,f=>by
  have a:=Jy κ v b n (by omega) i f;unfold T0 at a⊢;rw[EJ,AY,List.find?_append];by_cases c:i<n
  .rw[AK c]at a;rw[AK (by omega)];cases e:(List.find? (λd:IU×V=>decide (d.1=κ i)) ((List.range n).map λk=>(κ k,v k)))with
   | none=>rw[e]at a;cases a
   | some q=>rw[e]at a;rw[Option.some_or];exact a
  .rw[AI c]at a;cases e:(List.find? (λd:IU×V=>decide (d.1=κ i)) ((List.range n).map λk=>(κ k,v k)))with
   | some q=>rw[e]at a;cases a
   | none =>
    rw[Option.none_or,BC,FB];by_cases g:i=n
    .subst g;rw[AS rfl,AK (by omega)];rfl
    .rw[BA λz=>g (b n i (by omega) f z).symm,AI (by omega)];rfl
def Pe(κ:Nat->IU)(v:Nat->V){N:Nat}(a:∀i j,i<N->j<N->κ i=κ j->i=j){n:Nat}(h:n<N):Bt ((List.range n).map λk=>(κ k,v k)) (κ n) (v n) =(List.range (n+1)).map λk=>(κ k,v k):=by
 rw[Ui _ (by rw[Jy κ v a n (by omega) n h,AI (by omega)]),EJ,AY];rfl
def Mf:∀n,(((List.range n).map λk=>((2^k:Nat):Int)).sum) =((2^n-1:Nat):Int)
 | 0=>rfl
 | n+1=>by
  rw[EJ,AY,List.sum_append,Mf n];have:0<2^n:=Nat.pow_pos (by decide);simp only[BC,GN,GW,List.sum_nil,Nat.pow_succ];omega
def Ki(l:A1 Nat):((l.map λk=>((2^k:Nat):Int)).sum) =(((l.map λk=>2^k).sum:Nat):Int):=by
 induction l with
 | nil=>rfl
 | cons a r b=>rw[BC,GW,b,BC,GW];omega
def Fm{ns:A1 Str}{y:Str}(h:y∈ns):ns[ns.idxOf y]?=some y:=by
 rw[AC (List.idxOf_lt_length_of_mem h),List.getElem_idxOf]
def ML(ns:A1 Str)(g:Str->A1 Str):A1 Nat:=ns.map λn=>((g n).map λy=>2^ns.idxOf y).sum
def Yk{ns:A1 Str}{g:Str->A1 Str}{i:Nat}{n:Str}(h:ns[i]?=some n):(ML ns g).getD i 0 =(((g n).map λy=>ns.idxOf y).map λk=>2^k).sum:=by
 unfold ML;rw[AM,AH,h,CI];rfl
def zAm{ns:A1 Str}{g:Str->A1 Str}{ks:A1 (Str×Str)}(p:ns.Nodup)(q:∀n∈ns,(g n).Nodup)(h:∀n∈ns,∀y,y∈g n↔(n,y)∈ks)(c:∀k∈ks,k.1∈ns/\k.2∈ns):MB ns ks (ML ns g):=by
 refine⟨by unfold ML;rw[AB],λi j=>?_⟩;cases l:ns[i]? with
 | none =>
  have e:(ML ns g).getD i 0=0:=by unfold ML;rw[AM,AH,l];rfl
  rw[e,CB];exact⟨λz=>(by cases z),λ⟨k,_,z,_⟩=>(by cases z)⟩
 | some n =>
  have d:=AL l;have r:((g n).map λy=>ns.idxOf y).Nodup:=by
   refine DD.mpr (FW (fun{a b} s t u e=>u ?_) (q n d));have o:=Fm (c _ ((h n d a).mp s)).2;have v:=Fm (c _ ((h n d b).mp t)).2;rw[e,v]at o;exact(BE o).symm
  rw[Yk l,y9 r,BB];constructor
  .rintro⟨y,w,rfl⟩;have f:=(h n d y).mp w;exact⟨_,f,rfl,Fm (c _ f).2⟩
  .rintro⟨k,f,m,x⟩;have m:=BE m;refine⟨k.2,(h n d k.2).mpr (by rw[m];exact f),?_⟩;exact M9 p (Fm (c _ f).2) x
def Mg{J:It}{a D:A3}{ns:A1 Str}{H:Hp}{Q:St->Hp->Prop}(as:Le J (ns.map V.str) a H){j l:TE}{r:St}{m:A5 V}(M:A1 Nat)(t:ns.length<=1000)(o:H D=none)
  (u:∀i n G (R:VK),ns[i]?=some n->HY H G->R (K9 (2^i)) G->j (some (.str n)::r) G R)
  (w:∀i n G (R:VK),ns[i]?=some n->HY H G->(∀f,HY G f->R (K9 (M.getD i 0)) f)->l (some (.str n)::r) G R)
  (q:∀σ G,HY H G->G D=some (.dK (bK M ns.length))->Q σ G):Lr (l4 0) Gr (Ty D j l) J (m::r) (HZ H D (.dK [])) Q:=by
 refine X8 as (λi σ G=>(∃v,σ=v::r)/\HY H G/\G D=some (.dK (bK M i))) ⟨⟨_,rfl⟩,HY.new o,A9⟩ (λi σ G _ h=>h.2.1.at a) ?_ ?_
 .rintro i σ G v N p ⟨⟨m,rfl⟩,c,d⟩ x;rw[AH]at p;obtain⟨n,g,rfl⟩:=BK.mp p;have y:=(AF.mp g).1;refine Ft (u i n G _ g c (w i n G _ g c λf s=>?_));refine⟨bK M i,.inl ((2^i:Nat):Int),s _ _ d,rfl,by unfold bK;rw[AB,BV,sizeLine_eq];omega,x _ _ ⟨⟨_,rfl⟩,(c.trans s).upd o,?_⟩⟩;rw[A9];unfold bK;rw[Pe (λk=>(Sum.inl ((2^k:Nat):Int):IU)) (λk=>K9 (M.getD k 0)) (N:=i+1) (λa b _ _ e=>Qe (Sum.inl.inj e)) (EB i)]
 .rintro σ G ⟨_,c,d⟩;rw[AB]at d;exact q σ G c d
def JR.smx{C M:A3}{H H':Hp}{x w g:A3}{ns:A1 Str}{i:A1 JF}(h:JR C H w ns i)(j:H x=some (.ins M g []))(s:Sm [x] H H'):JR C H' w ns i:=by
 obtain⟨m,p,a,b,c,d,r,t,u,y,A,B,D,E,F,G⟩:=h;have k:∀{b:A3} {o:HO},H b=some o->o≠ .ins M g []->H' b=some o:=λe n=>s _ _ e λz=>n (by rw[AE.mp z,j]at e;exact(BE e).symm);exact⟨m,p,a,b,c,d,r,t,k u (by unfold wf;intro z;cases z),k y (by intro z;cases z),k A (by intro z;cases z),λq I=>k (B q I) (by intro z;cases z),k D (by intro z;cases z),k E (by intro z;cases z),λn f=>let⟨l,v,e⟩:=F n f;⟨l,v,k e (by intro z;cases z)⟩,λn f=>let⟨l,v,e⟩:=G n f;⟨l,v,k e (by intro z;cases z)⟩⟩
def Ff{a:A1 JF}{n y:Str}:y∈C3 a n↔(n,y)∈(a.map λq=>q.2).map λk=>(k.2,k.1):=by
 unfold C3;rw[CI,BB,BB];constructor
 .rintro⟨q,h,rfl⟩;obtain⟨b,c⟩:=BQ.mp h;exact⟨q,b,Prod.ext (CA c) rfl⟩
 .rintro⟨q,h,e⟩;exact⟨q,BQ.mpr ⟨h,AS (congrArg Prod.fst e)⟩,congrArg Prod.snd e⟩
def Iy{a:A1 JF}{n y:Str}:y∈E2 a n↔(n,y)∈a.map λq=>q.2:=by
 unfold E2;rw[BB,BB];constructor
 .rintro⟨q,h,rfl⟩;obtain⟨b,c⟩:=BQ.mp h;exact⟨q,b,Prod.ext (CA c) rfl⟩
 .rintro⟨q,h,e⟩;exact⟨q,BQ.mpr ⟨h,AS (congrArg Prod.fst e)⟩,congrArg Prod.snd e⟩
def Jc{c:A1 JF}(h:(c.map λq=>q.2).Nodup)(n:Str):(C3 c n).Nodup:=by
 unfold C3;refine DD.mpr (FW (fun{a b} d f g e=>g ?_) ((DD.mp h).sublist C_));exact Prod.ext e ((CA (BQ.mp d).2).trans (CA (BQ.mp f).2).symm)
def Qz{c:A1 JF}(h:(c.map λq=>q.2).Nodup)(n:Str):(E2 c n).Nodup:=by
 unfold E2;refine DD.mpr (FW (fun{a b} d f g e=>g ?_) ((DD.mp h).sublist C_));exact Prod.ext ((CA (BQ.mp d).2).trans (CA (BQ.mp f).2).symm) e
def P7(ns:A1 Str)(i:Nat):A1 (IU×V):=(List.range i).map λk=>((Sum.inr (ns.getD k ""):IU),K9 (2^k))
def Ep{ns:A1 Str}{i:Nat}{n:Str}(h:ns[i]?=some n):ns.getD i "" = n:=by rw[AM,h];rfl
def Vw{ns:A1 Str}(c:ns.Nodup):∀i j,i<ns.length->j<ns.length->(Sum.inr (ns.getD i ""):IU)=Sum.inr (ns.getD j "")->i=j:=λi j a b e=>by
 have e:=Sum.inr.inj e;rw[Ep (AC a),Ep (AC b)]at e;exact M9 c (AC a) (by rw[AC b,e])
def Lg{ns:A1 Str}(b:ns.Nodup){i:Nat}{n:Str}(h:ns[i]?=some n):T0 (P7 ns ns.length) (.inr n)=some (K9 (2^i)):=by
 have a:=(AF.mp h).1;have:=Jy (λk=>(Sum.inr (ns.getD k ""):IU)) (λk=>K9 (2^k)) (Vw b) ns.length (Nat.le_refl _) i a;rw[AK a]at this;rw[Ep h]at this;exact this
section
variable{P:CM}{w:F8}{K:PySem.W.Frag}{mg:Str->A5 A2}{base:IA}
theorem Kw{G:Hp}{b l:A3}{ns ys:A1 Str}{R:VK}(m:ns.Nodup)(n:G b=some (.dK (P7 ns ns.length)))(q:G l=some (.lst (ys.map V.str)))(r:∀y∈ys,y∈ns)(s:ys.length<=1000)(t:∀f,HY G f->R (.int ((((ys.map λy=>ns.idxOf y).map λk=>2^k).sum:Nat):Int)) f) :
  ∀D,G D=none->Lr (l4 0) Gr (Gp D (Ub (Ux 1) (Ux 0))) (TL K l) [none,some (.ref b)] (HZ G D (.lst [])) λ_ g=>∃(p:A3) (h:A1 Int),[V.ref D] = [.ref p]/\IG K g p (h.map V.int)/\R (.int h.sum) g:=λD u=>by
 refine Df (λy=>K9 (2^ns.idxOf y)) (NR (IG.of q)) (λ_=>true) (by omega) u (λy i a c M d=>d a λb o e=>e) (λy i a c M d=>?_) λσ a c j=>?_
 .exact A6 rfl (A6 rfl ⟨b,_,rfl,.inl ⟨_,.inr y,.inl (c _ _ n),rfl,(Lg m (Fm (r y i))).symm⟩,d⟩)
 .rw[EH.mpr λ_ _=>rfl]at j;refine⟨D,(ys.map λy=>ns.idxOf y).map λk=>((2^k:Nat):Int),rfl,IG.of (by rw[j,CI,CI];rfl),?_⟩;rw[Ki];exact t a c
theorem KU:H_ ["self", "web", "bits"] ["self", "web"] (B5 LE):=KN
def Ev(e g:A3):Sp:=λh H Q _=>∃(x i f:A3) (a:A1 Str) (b:A1 JF),h = [.ref x,.ref f]/\H x=some (.ins e i [])/\JR g H f a b /\
 ∀(c:A3) (A B:A1 Nat) (L:Nat) d,H c=none->Sm [x] H d->IB e d x c a A B L->MB a ((b.map λq=>q.2).map λk=>(k.2,k.1)) A->MB a (b.map λq=>q.2) B->Q .non d
set_option maxHeartbeats 4000000 in
theorem Et(T:Tx K mg):IJ P w K mg base IZ 3 T.bm T.bl ["self", "web"] (Ev T.ab T.ae):=by
 refine T.bn.o1 KU λcdv A outer s H vs Q E hr h=>?_
 .obtain⟨x,e,wb,ns,r,rfl,hx,hW,q⟩:=h;have hu:=i5 hr;have u:=hW.ok;have ln:=u.len;have U:=u.nd;refine⟨_,(B3 (RA K (pv 0) (Ur (pv 1) T.ap T.aA.m (t8 T) (Rm hr) T.aA.b .nil K0))
   (B3 (C7 (i:=2) KU.nd rfl (.inr rfl) (Si (N':=["place", "name"]) (cap:=[none,none]) (cl:=[]) (Q3 trivial trivial) rfl (piE K T.aQ (A8 (OK K (pv 0)) B1)) (λ_ _ _ _=>by exact⟨(RB K (n:=2) (E5 (NC 0) (E5 (NC 1) S4))),K4,(pv 1),(C8 Bh B7 (pv 0))⟩)))
   (B3 (RA K (pv 0) (E8 Zi T.bf Fo (A8 (Oe (pv 2)) B1)))
   (B3 (RA K (pv 0) (pv 2))
   (B3 (RA K (pv 0) (Si (N':=["name", "bits", "web"]) (cap:=[none,some 2,some 1]) (cl:=[("web",_),("bits",_)]) (Q3 ⟨⟨rfl,rfl,rfl,rfl⟩,⟨⟨rfl,rfl,rfl,rfl⟩,trivial⟩⟩ ⟨rfl,⟨rfl,trivial⟩⟩) rfl (NV K (OK K (pv 0))) (λ_ _ _ _=>by exact⟨(NC 0),K4,(N9 hu (pv 1) (pv 0) (λ_ _=>rfl)),(E8 (Kx K) T.bf Fo (A8 (U5 (N':=["one", "bits"]) (cap:=[none,some 1]) (cl:=[("bits",_)]) (Q3 ⟨⟨rfl,rfl,rfl,rfl⟩,trivial⟩ ⟨rfl,trivial⟩) rfl (NV K (D0 (pv 2) T.ap T.aC.m (Ac T) (Rm hr) T.aC.b .nil K0 (A8 (pv 0) B1))) (λ_ _ _ _=>by exact⟨(NC 0),K4,(N9 hu (pv 1) (pv 0) (λ_ _=>rfl))⟩)) B1))⟩)))
   (B3 (RA K (pv 0) (Si (N':=["name", "bits", "web"]) (cap:=[none,some 2,some 1]) (cl:=[("web",_),("bits",_)]) (Q3 ⟨⟨rfl,rfl,rfl,rfl⟩,⟨⟨rfl,rfl,rfl,rfl⟩,trivial⟩⟩ ⟨rfl,⟨rfl,trivial⟩⟩) rfl (NV K (OK K (pv 0))) (λ_ _ _ _=>by exact⟨(NC 0),K4,(N9 hu (pv 1) (pv 0) (λ_ _=>rfl)),(E8 (Kx K) T.bf Fo (A8 (U5 (N':=["one", "bits"]) (cap:=[none,some 1]) (cl:=[("bits",_)]) (Q3 ⟨⟨rfl,rfl,rfl,rfl⟩,trivial⟩ ⟨rfl,trivial⟩) rfl (NV K (D0 (pv 2) T.ap T.aK.m (Ey T) (Rm hr) T.aK.b .nil K0 (A8 (pv 0) B1))) (λ_ _ _ _=>by exact⟨(NC 0),K4,(N9 hu (pv 1) (pv 0) (λ_ _=>rfl))⟩)) B1))⟩)))
   (B4 (RA K (pv 0) (E8 (Kx K) T.bf Fo (A8 (U5 (N':=["bit", "self"]) (cap:=[none,some 0]) (cl:=[("self",_)]) (Q3 ⟨⟨rfl,rfl,rfl,rfl⟩,trivial⟩ ⟨rfl,trivial⟩) rfl (zCb (Oe (pv 2))) (λ_ _ _ _=>by exact⟨(NC 0),(X6 (SY K (C8 Q8 (pv 0) (N9 hu (OK K (pv 1)) (pv 0) (λ_ _=>rfl))))),(pv 0)⟩)) B1)))))))))),?_⟩
  have f:∀{b:A3},b≠x->b∉[x]:=λh z=>h (AE.mp z);refine C0 λZ1 hZ1=>?_;obtain⟨_,dw,_,_,_,_,_,_,ew,_⟩:=id hW;refine A6 rfl ⟨wb,dw,A6 rfl ⟨ew,rfl,wb,ns,r,rfl,hW,λa hl1=>?_⟩⟩;have C:x≠a:=B2 hx hl1;refine A6 rfl ⟨x,T.ab,e,[],rfl,(B6 C).trans hx,T.ad,T.aH,by decide,?_⟩;have k1:Sm [x] H (HZ (HZ H a (.lst (ns.map V.str))) x (.ins T.ab e (Q4 "names" (.ref a) []))):=(Sm.new (Sm.refl _ _) hl1).upd (by simp);have a1:(HZ (HZ H a (.lst (ns.map V.str))) x (.ins T.ab e (Q4 "names" (.ref a) []))) a=some (.lst (ns.map V.str)):=(B6 C.symm).trans A9;have x1:(HZ (HZ H a (.lst (ns.map V.str))) x (.ins T.ab e (Q4 "names" (.ref a) []))) x=some (.ins T.ab e [("names",.ref a)]):=by rw[A9];rfl
  generalize HZ (HZ H a (.lst (ns.map V.str))) x (.ins T.ab e (Q4 "names" (.ref a) []))=H1 at k1 a1 x1⊢;refine hZ1 _ _ (C0 λZ2 hZ2=>?_);refine A6 rfl ⟨x,T.ab,e,_,A6 rfl ⟨x1,T.ad,T.aH,rfl,a,A6 rfl ⟨IG.of a1,λb hb=>?_⟩⟩⟩;refine Ak (n:=ns.length) (λi σ G=>(∃v0 v1,σ = [v0,v1])/\HY H1 G/\G b=some (.dK (P7 ns i))) ⟨⟨_,_,rfl⟩,HY.new hb,A9⟩ ?_ ?_ ?_ ?_
  .rintro i σ G W ⟨_,p,_⟩;exact⟨_,_,(p.at a).seqL (IG.of a1),by rw[AH,AC W];rfl⟩
  .rintro σ G ⟨_,p,_⟩;exact⟨_,(p.at a).seqL (IG.of a1),by rw[AB]⟩
  .rintro i σ G y H' N W ⟨⟨v0,v1,rfl⟩,p,eG⟩ ⟨t,y,rfl,ht,rfl,O⟩ hN;have O:=O _ ((p.at a).seqL (IG.of a1));have hi':ns[i]?=some ns[i]:=AC W;rw[AH,hi']at O;cases O;refine⟨t,A6 rfl ⟨IW.of A9,rfl,_,A6 rfl (B9 rfl rfl (Rz ?_))⟩⟩;refine A6 rfl (A6 rfl (B9 rfl rfl ⟨⟨by omega,by omega,by decide⟩,?_⟩));dsimp only;rw[Vy];have st:=p.trans (HY.new (o:=.tup [.int i,.str ns[i]]) ht);refine⟨P7 ns i,.inr ns[i],(B6 (B2 eG ht)).trans eG,rfl,by unfold P7;rw[AB,BV,sizeLine_eq];omega,hN _ _ ⟨⟨_,_,rfl⟩,st.upd hb,?_⟩⟩;rw[A9];have:=Pe (λk=>(Sum.inr (ns.getD k ""):IU)) (λk=>K9 (2^k)) (Vw U) W;rw[Ep hi']at this;exact congrArg (λz=>some (HO.dK z)) this
  rintro σ2 H2 ⟨_,s2,b2⟩;have F:x≠b:=B2 x1 hb;have x2:=s2 _ _ x1;have a2:=s2 _ _ a1;have k2:=k1.trans s2.sm;refine hZ2 _ _ (C0 λZ3 hZ3=>?_);refine A6 rfl ⟨b,_,rfl,b2,λv hv=>?_⟩;have I:=HY.new (o:=Kt v b) hv;have fv:(HZ H2 v (Kt v b)) v=some (Kt v b):=A9;generalize HZ H2 v (Kt v b)=X at I fv⊢;refine⟨v,b,P7 ns ns.length,(List.range ns.length).map λk=>((2^k:Nat):Int),rfl,fv,I _ _ b2,by unfold P7;rw[CI,CI];rfl,?_⟩;rw[Mf];have x2:=I _ _ x2;have a2:=I _ _ a2;have b2:=I _ _ b2;have k2:=k2.trans I.sm;refine A6 rfl ⟨x,T.ab,e,_,rfl,x2,T.ad,T.bj,by simp,?_⟩;have k3:Sm [x] X (HZ X x (.ins T.ab e (Q4 "full" (.int ((2^ns.length-1:Nat):Int)) [("names",.ref a)]))):=(Sm.refl _ _).upd (by simp);have x3:(HZ X x (.ins T.ab e (Q4 "full" (.int ((2^ns.length-1:Nat):Int)) [("names",.ref a)]))) x=some (.ins T.ab e [("names",.ref a),("full",K9 (2^ns.length-1))]):=by rw[A9];rfl
  generalize HZ X x (.ins T.ab e (Q4 "full" (.int ((2^ns.length-1:Nat):Int)) [("names",.ref a)]))=H3 at k3 x3⊢;have a3:=k3 _ _ a2 (f C.symm);have b3:=k3 _ _ b2 (f F.symm);have k3:=k2.trans k3;refine hZ3 _ _ (C0 λZ4 hZ4=>?_);refine A6 rfl (A6 rfl ⟨x,T.ab,e,_,rfl,x3,T.ad,T.aW,by simp,?_⟩);have k4:Sm [x] H3 (HZ H3 x (.ins T.ab e (Q4 "bit_of" (.ref b) [("names",.ref a),("full",K9 (2^ns.length-1))]))):=(Sm.refl _ _).upd (by simp);have x4:(HZ H3 x (.ins T.ab e (Q4 "bit_of" (.ref b) [("names",.ref a),("full",K9 (2^ns.length-1))]))) x=some (.ins T.ab e [("names",.ref a),("full",K9 (2^ns.length-1)),("bit_of",.ref b)]):=by rw[A9];rfl
  generalize HZ H3 x (.ins T.ab e (Q4 "bit_of" (.ref b) [("names",.ref a),("full",K9 (2^ns.length-1))]))=H4 at k4 x4⊢;have a4:=k4 _ _ a3 (f C.symm);have b4:=k4 _ _ b3 (f F.symm);have k4:=k3.trans k4;refine hZ4 _ _ (C0 λZ5 hZ5=>?_);have mA:=zAm (ns:=ns) (g:=C3 r) (ks:=(r.map λq=>q.2).map λk=>(k.2,k.1)) U (λn _=>Jc u.ndq n) (λn _ y=>Ff) λk hk=>by
   rw[CI]at hk;obtain⟨q,hq,rfl⟩:=BB.mp hk;exact⟨(u.mem q hq).2,(u.mem q hq).1⟩
  have mB:=zAm (ns:=ns) (g:=E2 r) (ks:=r.map λq=>q.2) U (λn _=>Qz u.ndq n) (λn _ y=>Iy) λk hk=>by
   obtain⟨q,hq,rfl⟩:=BB.mp hk;exact u.mem q hq
  have S:QP ns.length (ML ns (C3 r)) (ML ns (E2 r)):=MB.net mA mB;have W4:=hW.smx hx k4;have ins1:∀{n:Str} (y:Str),y∈C3 r n->y∈ns:=λy O=>by
   obtain⟨q,hq,rfl⟩:=BB.mp O;exact(u.mem q (BQ.mp hq).1).1
  have ins2:∀{n:Str} (y:Str),y∈E2 r n->y∈ns:=λy O=>by
   obtain⟨q,hq,rfl⟩:=BB.mp O;exact(u.mem q (BQ.mp hq).1).2
  have lq:=u.lenq;have QX:∀n,(C3 r n).length<=1000:=λn=>by unfold C3;rw[AB];have:=BZ (λq:JF=>decide (q.2.2=n)) r;omega
  have QL:∀n,(E2 r n).length<=1000:=λn=>by unfold E2;rw[AB];have:=BZ (λq:JF=>decide (q.2.1=n)) r;omega
  refine A6 rfl ⟨x,T.ab,e,_,A6 rfl ⟨x4,T.ad,T.aH,rfl,a,rfl,⟨_,IG.of a4⟩,λc hc=>?_⟩⟩;refine Mg (NR (IG.of a4)) (ML ns (C3 r)) (by omega) hc (λi n G R Y p hR=>?_) (λi n G R Y p hR=>?_) λσ5 H5 s5 c5=>?_
  .exact A6 rfl (A6 rfl ⟨b,_,rfl,.inl ⟨_,.inr n,.inl (p _ _ b4),rfl,(Lg U Y).symm⟩,hR⟩)
  .have WG:=W4.same p;obtain⟨_,dw,_,_,_,_,_,_,ew,_⟩:=id WG;refine A6 rfl ⟨wb,dw,A6 rfl ⟨ew,rfl,A6 rfl ⟨wb,n,ns,r,rfl,WG,AL Y,λl hl=>?_⟩⟩⟩;have ul:=HY.new (o:=.lst ((C3 r n).map V.str)) hl;refine⟨l,rfl,⟨_,IG.of A9⟩,Kw U (ul _ _ (p _ _ b4)) A9 (λy O=>ins1 y O) (QX n) λG' s'=>?_⟩;have:=hR G' (ul.trans s');rw[Yk Y]at this;exact this
  generalize ML ns (C3 r)=A at mA S c5;have hc0:H c=none:=k4.none (f (B2 x4 hc).symm) hc;have nxc:x≠c:=B2 x4 hc;have x5:=s5 _ _ x4;have a5:=s5 _ _ a4;have b5:=s5 _ _ b4;have bc:b≠c:=B2 b4 hc;have k5:=k4.trans s5.sm;refine A6 rfl ⟨x,T.ab,e,_,rfl,x5,T.ad,T.ax,by simp,?_⟩;have k6:Sm [x] H5 (HZ H5 x (.ins T.ab e (Q4 "strikers_of" (.ref c) [("names",.ref a),("full",K9 (2^ns.length-1)),("bit_of",.ref b)]))):=(Sm.refl _ _).upd (by simp);have x6:(HZ H5 x (.ins T.ab e (Q4 "strikers_of" (.ref c) [("names",.ref a),("full",K9 (2^ns.length-1)),("bit_of",.ref b)]))) x=some (.ins T.ab e [("names",.ref a),("full",K9 (2^ns.length-1)),("bit_of",.ref b),("strikers_of",.ref c)]):=by rw[A9];rfl
  generalize HZ H5 x (.ins T.ab e (Q4 "strikers_of" (.ref c) [("names",.ref a),("full",K9 (2^ns.length-1)),("bit_of",.ref b)]))=H6 at k6 x6⊢;have a6:=k6 _ _ a5 (f C.symm);have b6:=k6 _ _ b5 (f F.symm);have c6:=k6 _ _ c5 (f nxc.symm);have k6:=k5.trans k6;have W6:=hW.smx hx k6;refine hZ5 _ _ (C0 λZ6 hZ6=>?_);refine A6 rfl ⟨x,T.ab,e,_,A6 rfl ⟨x6,T.ad,T.aH,rfl,a,rfl,⟨_,IG.of a6⟩,λd hd=>?_⟩⟩;refine Mg (NR (IG.of a6)) (ML ns (E2 r)) (by omega) hd (λi n G R Y p hR=>?_) (λi n G R Y p hR=>?_) λσ7 H7 s7 d7=>?_
  .exact A6 rfl (A6 rfl ⟨b,_,rfl,.inl ⟨_,.inr n,.inl (p _ _ b6),rfl,(Lg U Y).symm⟩,hR⟩)
  .have WG:=W6.same p;obtain⟨_,dw,_,_,_,_,_,_,ew,_⟩:=id WG;refine A6 rfl ⟨wb,dw,A6 rfl ⟨ew,rfl,A6 rfl ⟨wb,n,ns,r,rfl,WG,AL Y,λl hl=>?_⟩⟩⟩;have ul:=HY.new (o:=.lst ((E2 r n).map V.str)) hl;refine⟨l,rfl,⟨_,IG.of A9⟩,Kw U (ul _ _ (p _ _ b6)) A9 (λy O=>ins2 y O) (QL n) λG' s'=>?_⟩;have:=hR G' (ul.trans s');rw[Yk Y]at this;exact this
  generalize ML ns (E2 r)=B at mB S d7;have nxd:x≠d:=B2 x6 hd;have x7:=s7 _ _ x6;have a7:=s7 _ _ a6;have b7:=s7 _ _ b6;have c7:=s7 _ _ c6;have dc:d≠c:=(B2 c6 hd).symm;have k7:=k6.trans s7.sm;refine A6 rfl ⟨x,T.ab,e,_,rfl,x7,T.ad,T.a9,by simp,?_⟩;have k8:Sm [x] H7 (HZ H7 x (.ins T.ab e (Q4 "struck_of" (.ref d) [("names",.ref a),("full",K9 (2^ns.length-1)),("bit_of",.ref b),("strikers_of",.ref c)]))):=(Sm.refl _ _).upd (by simp);have x8:(HZ H7 x (.ins T.ab e (Q4 "struck_of" (.ref d) [("names",.ref a),("full",K9 (2^ns.length-1)),("bit_of",.ref b),("strikers_of",.ref c)]))) x=some (.ins T.ab e [("names",.ref a),("full",K9 (2^ns.length-1)),("bit_of",.ref b),("strikers_of",.ref c),("struck_of",.ref d)]):=by rw[A9];rfl
  generalize HZ H7 x (.ins T.ab e (Q4 "struck_of" (.ref d) [("names",.ref a),("full",K9 (2^ns.length-1)),("bit_of",.ref b),("strikers_of",.ref c)]))=H8 at k8 x8⊢;have a8:=k8 _ _ a7 (f C.symm);have b8:=k8 _ _ b7 (f F.symm);have c8:=k8 _ _ c7 (f nxc.symm);have d8:=k8 _ _ d7 (f nxd.symm);have k8:=k7.trans k8;refine hZ6 _ _ ?_;refine A6 rfl ⟨b,_,rfl,b8,λv hv=>?_⟩;have I:=HY.new (o:=Kt v b) hv;have fv:(HZ H8 v (Kt v b)) v=some (Kt v b):=A9;generalize HZ H8 v (Kt v b)=H9 at I fv⊢;refine⟨v,b,_,rfl,fv,I _ _ b8,λo D hD=>?_⟩;have nDb:D≠b:=λz=>by rw[z,A9]at hD;cases hD
  have kz:Sm [b] H9 (HZ H9 b (.frz o (.dK (P7 ns ns.length)))):=(Sm.refl _ _).upd (by simp);have fz:(HZ H9 b (.frz o (.dK (P7 ns ns.length)))) b=some (.frz o (.dK (P7 ns ns.length))):=A9;have hb0:H b=none:=k1.none (f F.symm) hb;have kx:Sm [x] H (HZ H9 b (.frz o (.dK (P7 ns ns.length)))):=(k8.trans I.sm).updN hb0;have nb:∀{b':A3},b'≠b->b'∉[b]:=λh z=>h (AE.mp z);have nab:a≠b:=B2 a1 hb;have x9:=kz _ _ (I _ _ x8) (nb F);have a9:=kz _ _ (I _ _ a8) (nb nab);have c9:=kz _ _ (I _ _ c8) (nb bc.symm);have nbd:d≠b:=(B2 b6 hd).symm;have d9:=kz _ _ (I _ _ d8) (nb nbd);generalize HZ H9 b (.frz o (.dK (P7 ns ns.length)))=H10 at kz fz kx hD x9 a9 c9 d9⊢;have lb:(P7 ns ns.length).length=ns.length:=by unfold P7;rw[AB,BV]
  refine Ak (n:=ns.length) (λi σ G=>(∃v0,σ = [v0,some (.ref x)])/\HY H10 G/\G D=some (.lst (((List.range i).filter λk=>(A.getD k 0).testBit k).map λk=>K9 (2^k)))) ⟨⟨_,rfl⟩,HY.new hD,A9⟩ ?_ ?_ ?_ ?_
  .rintro i σ G W ⟨_,p,_⟩;exact⟨p _ _ fz,by rw[lb];exact W⟩
  .rintro σ G ⟨_,p,_⟩;exact⟨p _ _ fz,by rw[lb];exact Nat.le_refl _⟩
  .rintro i σ G y H' N W ⟨⟨v0,rfl⟩,p,eG⟩ ⟨rfl,k,hk⟩ hN;unfold P7 at hk;rw[AH,List.getElem?_range W]at hk;obtain⟨_,rfl⟩:=Prod.mk.inj (BE hk);refine A6 rfl (A6 rfl ⟨x,T.ab,e,_,A6 rfl ⟨p _ _ x9,T.ad,T.ax,rfl,A6 rfl ⟨c,_,rfl,.inl ⟨_,.inl ((2^i:Nat):Int),.inl (p _ _ c9),rfl,(Ks A W).symm⟩,B9 rfl rfl ⟨_,rfl,?_⟩⟩⟩⟩);dsimp only;rw[Iq];have hl:=BZ (λk=>(A.getD k 0).testBit k) (List.range i);rw[BV]at hl;refine W0 (λz=>A6 rfl ⟨_,eG,by rw[AB,sizeLine_eq];omega,hN _ _ ⟨⟨_,rfl⟩,p.upd hD,?_⟩⟩) (λz=>hN _ _ ⟨⟨_,rfl⟩,p,?_⟩)
   .rw[A9,EJ,EA,DT,AK z,AY];rfl
   .rw[EJ,EA,DT,AI z,GG,CT];exact eG
  rintro σ11 Z ⟨_,J,e11⟩;generalize hLl:(List.range ns.length).filter (λk=>(A.getD k 0).testBit k)=Ll at e11;refine⟨D,Ll.map λk=>((2^k:Nat):Int),rfl,IG.of (by rw[e11,CI];rfl),?_⟩;rw[Ki];have hL:∀j,((Ll.map λk=>2^k).sum).testBit j=true↔(A.getD j 0).testBit j=true:=λj=>by
   rw[y9 (by rw[<-hLl];exact C_.nodup GP),<-hLl,BQ,BU];exact⟨(·.2),λh=>⟨(S.lt j j ((S.tr j j).mp h)).1,h⟩⟩
  generalize (Ll.map λk=>2^k).sum=L at hL;have x11:=J _ _ x9;refine A6 rfl ⟨x,T.ab,e,_,rfl,x11,T.ad,T.bh,by simp,?_⟩;have M:Sm [x] Z (HZ Z x (.ins T.ab e (Q4 "loops" (.int (L:Int)) [("names",.ref a),("full",K9 (2^ns.length-1)),("bit_of",.ref b),("strikers_of",.ref c),("struck_of",.ref d)]))):=(Sm.refl _ _).upd (by simp);have x12:(HZ Z x (.ins T.ab e (Q4 "loops" (.int (L:Int)) [("names",.ref a),("full",K9 (2^ns.length-1)),("bit_of",.ref b),("strikers_of",.ref c),("struck_of",.ref d)]))) x=some (.ins T.ab e (mf a b c d ns.length L)):=by rw[A9];rfl
  generalize HZ Z x (.ins T.ab e (Q4 "loops" (.int (L:Int)) [("names",.ref a),("full",K9 (2^ns.length-1)),("bit_of",.ref b),("strikers_of",.ref c),("struck_of",.ref d)]))=H12 at M x12⊢;refine q c A B L H12 hc0 ((kx.trans J.sm).trans M) ⟨⟨e,a,b,d,P7 ns ns.length,x12,M _ _ (J _ _ a9) (f C.symm),.inr ⟨o,M _ _ (J _ _ fz) (f F.symm)⟩,λi n h=>Lg U h,.inl (M _ _ (J _ _ c9) (f nxc.symm)),M _ _ (J _ _ d9) (f nxd.symm),dc,bc⟩,S,U,ln,hL⟩ mA mB
end
def S0(ns:A1 Str)(m:Nat):Str:=(IQ ns m).headD ""
def Fy{ns:A1 Str}{m k:Nat}(h:∀i,i<k->¬m.testBit i=true):∀i,i<=k->i<=ns.length->Ar ns m i = []
 | 0,_,_=>rfl
 | i+1,a,b=>by
  rw[P2 (AC (show i<ns.length by omega)),Fy h i (by omega) (by omega),AI (h i (by omega))];rfl
def Fe{ns:A1 Str}{m k:Nat}{x:Str}(a:ns[k]?=some x)(b:m.testBit k=true)(h:∀i,i<k->¬m.testBit i=true):∀i,k<i->i<=ns.length->∃r,Ar ns m i=x::r
 | 0,d,_=>absurd d (FC _)
 | i+1,d,f=>by
  rcases Nat.lt_or_ge k i with c | c
  .obtain⟨r,e⟩:=Fe a b h i c (by omega);rw[P2 (AC (show i<ns.length by omega)),e];exact⟨_,rfl⟩
  .have:i=k:=by omega
   subst this;rw[P2 a,Fy h i (Nat.le_refl _) (by omega),AK b];exact⟨[],rfl⟩
def Pi{ns:A1 Str}{m k:Nat}{x:Str}(a:ns[k]?=some x)(b:m.testBit k=true)(h:∀i,i<k->¬m.testBit i=true):∃r,IQ ns m=x::r:=Fe a b h ns.length (AF.mp a).1 (Nat.le_refl _)
def Au{ns:A1 Str}{m k:Nat}(a:k<ns.length)(b:m.testBit k=true)(h:∀i,i<k->¬m.testBit i=true):ns[k]?=some (S0 ns m):=by
 have e:=AC a;obtain⟨r,er⟩:=Pi e b h;unfold S0;rw[er];exact e
def Wa{m j:Nat}(h:m.testBit j=true):∃k,k<=j/\m.testBit k=true/\∀i,i<k->¬m.testBit i=true:=by
 have b:0<m:=Nat.pos_of_ne_zero λz=>by rw[z,CB]at h;cases h
 obtain⟨k,c,_,a⟩:=Of m b;exact⟨k,Nat.le_of_not_lt λz=>a j z h,c,a⟩
def Nr(n:Nat)(p:Nat->Prop):Nat:=(((List.range n).filter λj=>pB (p j)).map λk=>2^k).sum
def Y8{n:Nat}{p:Nat->Prop}(j:Nat):(Nr n p).testBit j=true↔j<n/\p j:=by
 unfold Nr;rw[y9 (GP.sublist C_),BQ,BU,OI]
def Vs{z n:Nat}{p:Nat->Prop}(h:∀j,z.testBit j=true↔p j)(lo:LS n z):z=Nr n p:=BL λj=>BR.mpr (by
 rw[Y8];exact⟨λy=>⟨lo j y,(h j).mp y⟩,λy=>(h j).mpr y.2⟩)
def zEt(m:Nat):Nat:=((List.range (m+1)).find? λj=>m.testBit j).getD 0
def Pt{m k:Nat}(h:m.testBit k=true)(a:∀i,i<k->¬m.testBit i=true):zEt m=k:=by
 have b:k<m+1:=Nat.lt_succ_of_le (Nat.le_trans (DH Nat.lt_two_pow_self) (Nat.ge_two_pow_of_testBit h));unfold zEt;have e:(List.range (m+1)).find? (λj=>m.testBit j)=some k:=by
  rw[List.find?_range_eq_some];exact⟨h,BU.mpr b,λi c=>by simpa using a i c⟩
 rw[e];rfl
def Tk{ns:A1 Str}{m j:Nat}(a:j<ns.length)(h:m.testBit j=true):IQ ns m≠[]:=λz=>by
 have:ns[j]∈IQ ns m:=MA.mpr ⟨j,h,AC a⟩;rw[z]at this;cases this
def j8{C:A3}{H:Hp}{x c:A3}{ns:A1 Str}{A B:A1 Nat}{L:Nat}(h:IB C H x c ns A B L):H c≠none:=λz=>by
 obtain⟨_,_,_,_,_,_,_,_,_,a,_⟩:=h.ex;rcases a with e | ⟨o,e⟩<;>rw[z]at e<;>cases e
section
variable{P:CM}{w:F8}{K:PySem.W.Frag}{mg:Str->A5 A2}{base:IA}
theorem X4:H_ ["self", "some"] ["self", "some"] (B5 KL):=KN
def Dt(C:A3):Sp:=λd H Q _=>∃(x c:A3) (a:A1 Str) (A B:A1 Nat) (L m j:Nat),d = [.ref x,.int (m:Int)]/\IB C H x c a A B L/\j<a.length/\m.testBit j=true/\∀b,HY H b->Q (.str (S0 a m)) b
theorem I9(T:Tx K mg):IJ P w K mg base IZ 2 T.ag.f T.ag.fd ["self", "some"] (Dt T.ab):=by
 refine T.ag.F.o1 X4 λp A e s H G Q E t h=>?_
 .obtain⟨x,c,i,A,B,L,m,j,rfl,k,u,v,q⟩:=h;obtain⟨y,a,b,d,I,z,_⟩:=k.ex;refine⟨_,(B4 (C1 (G0 (NW K) (D0 (pv 0) T.ad T.an.m (S9 T) (Rm t) T.an.b .nil K0 (A8 (pv 1) B1)) B7 (λ_ _=>rfl)))),?_⟩;refine A6 rfl ⟨x,y,A6 rfl ⟨z,rfl,A6 rfl ⟨x,c,i,A,B,L,m,rfl,k,λl C J D o=>?_⟩⟩⟩;cases g:IQ i m with
  | nil=>exact absurd g (Tk u v)
  | cons n r =>
   rw[g]at o;have q:=q C D;unfold S0 at q;rw[g]at q;exact⟨l,_,B9 rfl rfl ⟨IG.of o,(show QO (V.str n::r.map V.str) ((0:Nat):Int)=_ from C6 rfl),q⟩⟩
end
def Fu(A B:A1 Nat)(n L m ad:Nat):A1 Nat:=(List.range n).filter λj=>ad.testBit j && @decide (L.testBit j=true\/o7 B m j\/o7 A m j) (Classical.propDecidable _)
def Rw{A B:A1 Nat}{n L m ad z:Nat}(h:∀j,z.testBit j=true↔L.testBit j=true\/o7 B m j\/o7 A m j):E1 (ad &&& z) n=Fu A B n L m ad:=by
 unfold E1 Fu;refine List.filter_congr λj _=>?_;rw[BS];congr 1;rw[BR,h];exact⟨λy=>@AS _ (Classical.propDecidable _) y,λy=>@CA _ (Classical.propDecidable _) y⟩
def Io(A B:A1 Nat)(n L m ad:Nat):A1 Int :=
 [((E1 ad n).length:Int)-((Fu A B n L m ad).length:Int),((E1 ad n).length:Int)]
section
variable{P:CM}{w:F8}{K:PySem.W.Frag}{mg:Str->A5 A2}{base:IA}
theorem K_:H_ ["marks", "held", "added", "clashing", "many"] ["marks", "held", "added"] (B5 MS):=KN
def Sr(C:A3):Sp:=λe H Q _=>∃(x c:A3) (d:A1 Str) (A B:A1 Nat) (L m ad:Nat),e = [.ref x,.int (m:Int),.int (ad:Int)]/\IB C H x c d A B L/\∀a b,H a=none->Sm [c] H b->IB C b x c d A B L ->
 b a=some (.tup ((Io A B d.length L m ad).map V.int))->Q (.ref a) b
theorem Du(T:Tx K mg):IJ P w K mg base IZ 3 T.aT.f T.aT.fd ["marks", "held", "added"] (Sr T.ab):=by
 refine T.aT.F.o1 K_ λS A t s H vs Q E r h=>?_
 .obtain⟨x,c,n,A,B,L,m,ad,rfl,I,q⟩:=h;obtain⟨g,a,b,d,u,k,_⟩:=I.ex;refine⟨_,(B3 (C7 (i:=3) K_.nd rfl (.inl rfl) (C8 y8 (C8 y8 (OK K (pv 0)) (D0 (pv 0) T.ad T.ah.m (J7 T) (Rm r) T.ah.b .nil K0 (A8 (pv 1) B1))) (D0 (pv 0) T.ad T.af.m (I0 T) (Rm r) T.af.b .nil K0 (A8 (pv 1) B1))))
   (B3 (C7 (i:=4) K_.nd rfl (.inl rfl) (E8 (K7 K) T.am K1 (A8 (D0 (pv 0) T.ad T.ac.m (E7 T) (Rm r) T.ac.b .nil K0 (A8 (pv 2) B1)) B1)))
   (B4 (C1 (K8 (A8 (C8 zBe (pv 4) (E8 (K7 K) T.am K1 (A8 (D0 (pv 0) T.ad T.ac.m (E7 T) (Rm r) T.ac.b .nil K0 (A8 (C8 Q8 (pv 2) (pv 3)) B1)) B1))) (A8 (pv 4) B1))))))),?_⟩
  refine C0 λN1 v=>?_;refine A6 rfl ⟨x,T.ab,g,_,A6 rfl ⟨k,T.ad,T.bh,rfl,A6 rfl ⟨x,g,A6 rfl ⟨k,rfl,A6 rfl ⟨x,c,n,A,B,L,m,rfl,I,λr1 H1 U J z=>?_⟩⟩⟩⟩⟩;refine B9 rfl rfl ?_;obtain⟨g,a,b,d,u,k,_⟩:=J.ex;refine A6 rfl ⟨x,g,A6 rfl ⟨k,rfl,A6 rfl ⟨x,c,n,A,B,L,m,rfl,J,λr2 H2 V M C=>?_⟩⟩⟩;refine B9 rfl rfl ?_;dsimp only;rw[QN,QN];refine v _ _ (C0 λN2 D=>?_);obtain⟨g,a,b,d,u,k,_⟩:=M.ex;refine A6 rfl ⟨x,g,A6 rfl ⟨k,rfl,A6 rfl ⟨x,c,n,A,B,L,ad,rfl,M,λl H3 hl W N X=>?_⟩⟩⟩;refine⟨l,_,rfl,.inl (IG.of X),?_⟩;rw[AB];refine D _ _ ?_;obtain⟨g,a,b,d,u,k,_⟩:=N.ex;refine A6 rfl (A6 rfl ⟨x,g,A6 rfl ⟨k,rfl,A6 rfl (A6 rfl (B9 rfl rfl ?_))⟩⟩);dsimp only;rw[Oa];refine⟨x,c,n,A,B,L,ad &&&(L ||| r1 ||| r2),rfl,N,λY Z hl2 k4 O G=>?_⟩;refine⟨Y,_,rfl,.inl (IG.of G),?_⟩;rw[AB];refine B9 rfl rfl (A6 rfl ?_);refine⟨by show 2<=sizeLine;decide,λp o=>?_⟩;have R:Sm [c] H Z:=((U.trans V).trans W).trans k4;refine q p _ (R.none (λy=>by rw[AE.mp y]at o;exact j8 O o) o) (R.new o) (O.same (HY.new o)) ?_;rw[A9];have e:E1 (ad &&&(L ||| r1 ||| r2)) n.length=Fu A B n.length L m ad:=Rw λj=>by rw[EE,EE,EM,EM,z,C,or_assoc]
  rw[e];rfl
end
def E3(A B:A1 Nat)(n m:Nat):A1 Nat:=(List.range n).filter λj=>@decide (o7 A m j/\¬o7 B m j) (Classical.propDecidable _)
def KM{A B:A1 Nat}{n m j:Nat}:j∈E3 A B n m↔j<n/\o7 A m j/\¬o7 B m j:=by
 unfold E3;rw[BQ,BU];exact⟨λh=>⟨h.1,@CA _ (Classical.propDecidable _) h.2⟩,λh=>⟨h.1,@AS _ (Classical.propDecidable _) h.2⟩⟩
def Rx{A B:A1 Nat}{n m z:Nat}(h:∀j,z.testBit j=true↔o7 A m j/\j<n/\¬o7 B m j):E1 z n=E3 A B n m:=by
 unfold E1 E3;refine List.filter_congr λj a=>?_;rw[BR,h];exact⟨λy=>@AS _ (Classical.propDecidable _) ⟨y.1,y.2.2⟩,λy=>let h:=@CA _ (Classical.propDecidable _) y;⟨h.1,BU.mp a,h.2⟩⟩
def V0(A B:A1 Nat)(n m:Nat):A1 Nat:=(E3 A B n m).map λj=>A.getD j 0
def U7(A B:A1 Nat)(n L m:Nat)(ads:A1 Nat):Nat:=Ia (λj=>Io A B n L m (ads.getD j 0)) (ads.length-1)
def M6(A B:A1 Nat)(n L m:Nat):Nat:=(V0 A B n m).getD (U7 A B n L m (V0 A B n m)) 0
def P9(B:A1 Nat)(m:Nat):Prop:=∃j,m.testBit j=true/\o7 B m j
def O9(A B:A1 Nat)(n L:Nat):Nat->Nat->A5 Nat
 | 0,_=>none
 | k+1,m=>@ite _ (P9 B m) (Classical.propDecidable _) none (if E3 A B n m = []then some m else(E1 (M6 A B n L m) n).findSome? λj=>O9 A B n L k (m ||| 2^j))
def b9{A B:A1 Nat}{n L m:Nat}{ads:A1 Nat}(h:ads≠[]):U7 A B n L m ads<ads.length:=by
 have:=Pg (λj=>Io A B n L m (ads.getD j 0)) (ads.length-1);have a:=List.length_pos_iff.mpr h;unfold U7;omega
def An{A B:A1 Nat}{n L m:Nat}(h:E3 A B n m≠[]):∃d∈E3 A B n m,M6 A B n L m=A.getD d 0:=by
 have b:V0 A B n m≠[]:=λz=>h (EI.mp z);have a:=b9 (A:=A) (B:=B) (n:=n) (L:=L) (m:=m) b;have c:M6 A B n L m∈V0 A B n m:=by
  unfold M6;rw[AM,AC a];exact ET a
 obtain⟨d,f,e⟩:=BB.mp c;exact⟨d,f,e.symm⟩
def Fs{m j:Nat}(h:¬m.testBit j=true):∀n,(E1 (m ||| 2^j) n).length =(E1 m n).length+if j<n then 1 else 0
 | 0=>rfl
 | n+1=>by
  rw[Q9,Q9,AZ,AZ,Fs h n];by_cases e:n=j
  .subst e;rw[AK ((S6 m n n).mpr (.inr rfl)),AI h,AI (CQ _),AK (EB _)];rfl
  .have a:(m ||| 2^j).testBit n=m.testBit n:=by
    rw[BR,S6];exact⟨λz=>z.resolve_right e,.inl⟩
   rw[a];by_cases l:j<n
   .rw[AK l,AK (DE l)];omega
   .rw[AI l,AI (show ¬j<n+1 by omega)];rfl
def Cq{A B:A1 Nat}{n L:Nat}(a:QP n A B):∀(k m r:Nat),LS n m->O9 A B n L k m=some r->Li n A B r/\∀j,m.testBit j=true->r.testBit j=true
 | 0,m,r,_,h=>by cases h
 | k+1,m,r,lo,h=>by
  unfold O9 at h;by_cases c:P9 B m
  .rw[AK c]at h;cases h
  rw[AI c]at h;by_cases d:E3 A B n m = []
  .rw[AK d]at h;cases h;refine⟨⟨lo,λi j g f z=>c ⟨j,f,i,g,z⟩,λj f=>⟨lo j f,λb o=>?_⟩⟩,λ_ h=>h⟩;have l:b<n:=(a.lt b j ((a.tr j b).mp o)).1;by_cases z:o7 B m b
   .exact z
   .have:b∈E3 A B n m:=KM.mpr ⟨l,⟨j,f,o⟩,z⟩;rw[d]at this;cases this
  rw[AI d]at h;obtain⟨j,f,e⟩:=List.exists_of_findSome?_eq_some h;obtain⟨p,q⟩:=Cq a k _ r (lo.or (JA.mp f).1) e;exact⟨p,λi g=>q i ((S6 m j i).mpr (.inl g))⟩
def Y2{A B:A1 Nat}{n L m j:Nat}(a:QP n A B)(h:E3 A B n m≠[])(b:(M6 A B n L m).testBit j=true):j<n/\¬m.testBit j=true:=by
 obtain⟨d,f,e⟩:=An (L:=L) h;rw[e]at b;have c:=(a.tr d j).mp b;exact⟨(a.lt j d c).1,λz=>(KM.mp f).2.2 ⟨j,z,c⟩⟩
def Co{A B:A1 Nat}{n L S:Nat}(a:QP n A B)(st:Li n A B S):∀(k m:Nat),(∀j,m.testBit j=true->S.testBit j=true)->n<k +(E1 m n).length->O9 A B n L k m≠none
 | 0,m,_,l=>by
  have:=O1 m n;omega
 | k+1,m,sub,l=>by
  unfold O9;have c:¬P9 B m:=λ⟨j,h,i,o,z⟩=>st.2.1 i j (sub i o) (sub j h) z;rw[AI c];by_cases d:E3 A B n m = []
  .rw[AK d];exact λz=>by cases z
  rw[AI d];obtain⟨b,s,e⟩:=An (L:=L) d;obtain⟨t,⟨i,o,p⟩,w⟩:=KM.mp s;obtain⟨j,h,q⟩:=(st.2.2 i (sub i o)).2 b p;have f:(M6 A B n L m).testBit j=true:=by rw[e];exact(a.tr b j).mpr q
  obtain⟨g,r⟩:=Y2 a d f;have u:=Co (L:=L) a st k (m ||| 2^j) (λx v=>((S6 m j x).mp v).elim (sub x) λe=>e▸h) (by rw[Fs r,AK g];omega);intro z;exact u (FK.mp z j (JA.mpr ⟨g,f⟩))
section
variable(ns:A1 Str)(A B:A1 Nat)(L m:Nat)
def Zk:Nat:=Nr ns.length λj=>m.testBit j=true/\o7 B m j
def SA:Str:=S0 ns (A.getD (zEt (Zk ns B m)) 0 &&& m)
def SM:Str:=S0 ns (Zk ns B m)
def TB(j:Nat):Str:=S0 ns (B.getD j 0 &&& m)
def anB(j:Nat):Str:=S0 ns (2^j)
def OL:Nat:=(E3 A B ns.length m).getD (U7 A B ns.length L m (V0 A B ns.length m)) 0
def X1:A1 Nat:=E1 (A.getD (OL ns A B L m) 0) ns.length
end
def I7(ns:A1 Str)(A B:A1 Nat)(L:Nat)(H:Hp):Nat->Nat->A3->Prop
 | 0,_,_=>False
 | k+1,m,r=>(P9 B m/\H r=some (.tup [.str "clash",.str (SA ns A B m),.str (SM ns B m)]))\/(¬P9 B m/\E3 A B ns.length m≠[]/\∃(l:A3) (a:A1 A3),H r=some (.tup [.str "answer",.str (TB ns B m (OL ns A B L m)),.str (anB ns (OL ns A B L m)),.ref l])/\H l=some (.tup (a.map V.ref)) /\
   a.length =(X1 ns A B L m).length/\∀(i j:Nat) b,(X1 ns A B L m)[i]?=some j->a[i]?=some b->I7 ns A B L H k (m ||| 2^j) b)
def I7.keep{ns:A1 Str}{A B:A1 Nat}{L:Nat}{H H':Hp}(kk:∀b xs,H b=some (.tup xs)->H' b=some (.tup xs)):∀{k m:Nat} {r:A3},I7 ns A B L H k m r->I7 ns A B L H' k m r
 | 0,_,_,h=>h
 | k+1,m,r,h=>h.imp (λ⟨c,e⟩=>⟨c,kk _ _ e⟩) λ⟨c,d,l,a,f,g,n,h⟩=>⟨c,d,l,a,kk _ _ f,kk _ _ g,n,λi j o p q=>(h i j o p q).keep kk⟩
def Fd(n m:Nat):Nat:=n+1-(E1 m n).length
section
variable{ns:A1 Str}{A B A' B':A1 Nat}{L m:Nat}
theorem Iv(h:E3 A B ns.length m≠[]):OL ns A B L m∈E3 A B ns.length m/\M6 A B ns.length L m=A.getD (OL ns A B L m) 0:=by
 have c:V0 A B ns.length m≠[]:=λz=>h (EI.mp z);have a:=b9 (A:=A) (B:=B) (n:=ns.length) (L:=L) (m:=m) c;have b:(V0 A B ns.length m).length =(E3 A B ns.length m).length:=AB ..;have e:=AC (b▸a);have d:OL ns A B L m =(E3 A B ns.length m)[U7 A B ns.length L m (V0 A B ns.length m)]'(b▸a):=by
  unfold OL;rw[AM,e];rfl
 rw[d];refine⟨ET _,?_⟩;unfold M6;rw[AM];show((V0 A B ns.length m)[_]?).getD 0=_;unfold V0 at e⊢;rw[AH,e];rfl
theorem Ph(a:QP ns.length A B)(h:E3 A B ns.length m≠[]){j:Nat}(b:j∈X1 ns A B L m):j<ns.length/\¬m.testBit j=true:=by
 unfold X1 at b;refine Y2 (L:=L) a h ?_;rw[(Iv h).2];exact(JA.mp b).2
theorem Vo(a:QP ns.length A B)(lo:LS ns.length m)(h:E3 A B ns.length m≠[]){j:Nat}(b:j∈X1 ns A B L m):Fd ns.length m=Fd ns.length (m ||| 2^j)+1:=by
 obtain⟨c,d⟩:=Ph a h b;have e:=Fs d ns.length;rw[AK c]at e;have f:=O1 (m ||| 2^j) ns.length;unfold Fd;omega
end
def Js{M:A1 Nat}{k j:Nat}:o7 M (2^k) j↔(M.getD k 0).testBit j=true:=by
 constructor
 .rintro⟨i,a,e⟩;rw[BW,BF]at a;rw[a];exact e
 .exact λh=>⟨k,DZ,h⟩
section
variable{P:CM}{w:F8}{K:PySem.W.Frag}{mg:Str->A5 A2}{base:IA}
theorem NJ:H_ ["marks", "held", "hit"] ["marks", "held"] (B5 OH):=KN
def Dg(C:A3):Sp:=λe H Q _=>∃(x c:A3) (b:A1 Str) (A B:A1 Nat) (L m:Nat),e = [.ref x,.int (m:Int)]/\IB C H x c b A B L/\(∀j,m.testBit j=true->j<b.length)/\∀d,Sm [c] H d->IB C d x c b A B L ->
 ((∀j,m.testBit j=true->¬o7 B m j)->Q .non d)/\∀a,P9 B m->H a=none->d a=some (.tup [.str "clash",.str (SA b A B m),.str (SM b B m)])->Q (.ref a) d
theorem Aj(T:Tx K mg):IJ P w K mg base IZ 3 T.aw.f T.aw.fd ["marks", "held"] (Dg T.ab):=by
 refine T.aw.F.o1 NJ λcdv A G s H vs Q E e h=>?_
 .obtain⟨x,c,n,A,B,L,m,rfl,I,J,q⟩:=h;obtain⟨g,a,b,d,W,l,_⟩:=I.ex;refine⟨_,(B3 (C7 (i:=2) NJ.nd rfl (.inl rfl) (C8 Q8 (pv 1) (D0 (pv 0) T.ad T.ah.m (J7 T) (Rm e) T.ah.b .nil K0 (A8 (pv 1) B1))))
   (B3 (J9 (P5 (SY K (pv 2))) (B4 (C1 Bf)) C5)
   (B4 (C1 (K8 (A8 Q1 (A8 (D0 (pv 0) T.ad T.ag.m (I9 T) (Rm e) T.ag.b .nil K0 (A8 (C8 Q8 (D0 (pv 0) T.ad T.af.m (I0 T) (Rm e) T.af.b .nil K0 (A8 (D6 T.aX (Fv T) (Rm e) (A8 (pv 2) B1)) B1)) (pv 1)) B1)) (A8 (D0 (pv 0) T.ad T.ag.m (I9 T) (Rm e) T.ag.b .nil K0 (A8 (pv 2) B1)) B1)))))))),?_⟩
  refine C0 λN1 M=>?_;refine A6 rfl (A6 rfl ⟨x,g,A6 rfl ⟨l,rfl,A6 rfl ⟨x,c,n,A,B,L,m,rfl,I,λr H1 X N e=>?_⟩⟩⟩);refine B9 rfl rfl ?_;dsimp only;rw[Oa];refine M _ _ ?_;have o:∀j,(m &&& r).testBit j=true↔m.testBit j=true/\o7 B m j:=λj=>by rw[BS,BI,e]
  refine C0 λN2 O=>?_;refine A6 rfl ⟨_,rfl,?_⟩;dsimp only;refine W0 (λz=>?_) (λz=>?_)
  .have u:m &&& r=0:=by
    by_cases y:m &&& r=0
    .exact y
    .exact absurd z (by simp;omega)
   exact(q H1 X N).1 λj v C=>by
    have:=(o j).mpr ⟨v,C⟩;rw[u,CB]at this;cases this
  .have u:m &&& r≠0:=λy=>by
    rw[y]at z;exact z rfl
   obtain⟨j,D⟩:=Nat.exists_testBit_of_ne_zero u;obtain⟨v,C⟩:=(o j).mp D;refine O _ _ ?_;obtain⟨g,a,b,d,W,l,_⟩:=N.ex;obtain⟨i,R,Y⟩:=id C;have eh:m &&& r=Zk n B m:=Vs o λj D=>J j ((o j).mp D).1;refine A6 rfl ⟨x,g,A6 rfl ⟨l,rfl,A6 rfl ⟨x,g,A6 rfl ⟨l,rfl,A6 rfl ⟨_,rfl,Nat.pos_of_ne_zero u,λk Z kl=>?_⟩⟩⟩⟩⟩;obtain⟨h3,i,R,Y⟩:=(o k).mp Z;have ek:=Pt Z kl;refine⟨x,c,n,A,B,L,2^k,rfl,N,λr2 H2 k2 M2 S=>?_⟩;have U:r2=A.getD k 0:=BL λi=>BR.mpr ((S i).trans Js);subst U;refine A6 rfl (B9 rfl rfl ?_);dsimp only;rw[Oa];refine⟨x,c,n,A,B,L,A.getD k 0 &&& m,i,rfl,M2,J i R,by rw[BS,BI];exact⟨(I.net.tr k i).mpr Y,R⟩,λH3 s3=>?_⟩;have V:=M2.same s3;obtain⟨g,a,b,d,W,l,_⟩:=V.ex;refine A6 rfl ⟨x,g,A6 rfl ⟨l,rfl,A6 rfl ⟨x,c,n,A,B,L,m &&& r,j,rfl,V,J j v,D,λH4 s4=>?_⟩⟩⟩;refine⟨by show 3<=sizeLine;decide,λp t=>?_⟩;have M4:=V.same s4;have k4:Sm [c] H H4:=(X.trans k2).trans (s3.sm.trans s4.sm);refine(q _ (k4.new t) (M4.same (HY.new t))).2 p ⟨j,v,C⟩ (k4.none (λy=>by rw[AE.mp y]at t;exact j8 M4 t) t) ?_;rw[A9];unfold SA SM;rw[<-eh,ek]
end
def er(H:Hp)(l:A3):Hp:=λb=>if b=l then none else H b
def Mn{H:Hp}{l b:A3}(n:b≠l):er H l b=H b:=AI n
def As(H:Hp)(l:A3):HY (er H l) H:=λb o e=>by
 unfold er at e;by_cases c:b=l
 .rw[AK c]at e;cases e
 .rw[AI c]at e;exact e
def Px(H:Hp)(l:A3)(o:HO):er (HZ H l o) l=er H l:=funext λb=>by
 unfold er;by_cases c:b=l
 .rw[AK c,AK c]
 .rw[AI c,AI c,B6 c]
def IB.er{C:A3}{H H':Hp}{x c l:A3}{ns:A1 Str}{A B:A1 Nat}{L:Nat}(h:IB C (er H l) x c ns A B L)(k:Sm [c] H H')(h':IB C H' x c ns A B L)(n:l≠c):IB C (Sw.er H' l) x c ns A B L:=by
 refine h.fz (λb o e a=>?_) ?_
 .have:b≠l:=λz=>by subst z;unfold Sw.er at e;rw[AK rfl]at e;cases e
  rw[Mn this];exact k b o (As H l b o e) a
 .obtain⟨_,_,_,_,_,_,_,_,_,d,_⟩:=h'.ex;unfold Rd;rw[Mn n.symm];exact d
abbrev RO:=A3×A3×A1 Str×Nat
def JZ(H:Hp)(t:RO):Prop:=H t.1=some (.tup [.ref t.2.1,.int (t.2.2.2:Int)])/\H t.2.1=some (.tup (t.2.2.1.map V.str))/\t.2.2.1.length<=5
def JZ.same{H H':Hp}{t:RO}(h:JZ H t)(s:HY H H'):JZ H' t:=⟨s _ _ h.1,s _ _ h.2.1,h.2.2⟩
def V6{C:A3}{H:Hp}{x c a:A3}{o:HO}{ns:A1 Str}{A B:A1 Nat}{L:Nat}(h:IB C H x c ns A B L)(e:H a=some o)(d:∀k,o≠ .dK k)(f:∀u v,o≠ .frz u v):a≠c:=λz=>by
 obtain⟨_,_,_,_,_,_,_,_,_,g,_⟩:=h.ex;rw[z]at e;rcases g with b | ⟨u,b⟩<;>rw[e]at b<;>cases b
 .exact d _ rfl
 .exact f _ _ rfl
def N8{C:A3}{H:Hp}{x c a:A3}{xs:A1 V}{ns:A1 Str}{A B:A1 Nat}{L:Nat}(h:IB C H x c ns A B L)(e:H a=some (.lst xs)):a≠c:=V6 h e (λ_ y=>by cases y) λ_ _ y=>by cases y
def V8{C:A3}{H:Hp}{x c a:A3}{xs:A1 V}{ns:A1 Str}{A B:A1 Nat}{L:Nat}(h:IB C H x c ns A B L)(e:H a=some (.tup xs)):a≠c:=V6 h e (λ_ y=>by cases y) λ_ _ y=>by cases y
def JZ.sm{C:A3}{H H':Hp}{x c:A3}{ns:A1 Str}{A B:A1 Nat}{L:Nat}{t:RO}(h:JZ H t)(M:IB C H x c ns A B L)(k:Sm [c] H H'):JZ H' t:=⟨KO k h.1 (V8 M h.1),KO k h.2.1 (V8 M h.2.1),h.2.2⟩
def JZ.upd{H:Hp}{l:A3}{o:HO}{xs:A1 V}{t:RO}(h:JZ H t)(e:H l=some (.lst xs)):JZ (HZ H l o) t:=⟨(B6 (Q2 h.1 e (by intro y;cases y))).trans h.1,(B6 (Q2 h.2.1 e (by intro y;cases y))).trans h.2.1,h.2.2⟩
def Hr(ns:A1 Str)(A B:A1 Nat)(m j:Nat):A1 Str×Nat:=([("answer":Str),TB ns B m j,anB ns j],A.getD j 0)
def Br{ns:A1 Str}{A B:A1 Nat}{m:Nat}{ts:A1 RO}(h:(ts.map λt=>t.2.2) =(E3 A B ns.length m).map (Hr ns A B m)):(ts.map λt=>t.2.2.2)=V0 A B ns.length m:=by
 have:=congrArg (List.map λq:A1 Str×Nat=>q.2) h;rw[CI,CI]at this;exact this
section
variable{P:CM}{w:F8}{K:PySem.W.Frag}{mg:Str->A5 A2}{base:IA}
theorem KA:H_ ["marks", "held", "splits", "doubt", "doubted"] ["marks", "held"] (B5 MV):=KN
def Ci(C:A3):Sp:=λe H Q _=>∃(x c:A3) (a:A1 Str) (A B:A1 Nat) (L m:Nat),e = [.ref x,.int (m:Int)]/\IB C H x c a A B L/\(∀j,m.testBit j=true->j<a.length) /\
 ∀l (d:A1 RO) b,H l=none->Sm [c] H b->IB C b x c a A B L->b l=some (.lst (d.map λt=>V.ref t.1))->(∀t∈d,JZ b t)->(d.map λt=>t.2.2) =(E3 A B a.length m).map (Hr a A B m)->Q (.ref l) b
set_option maxHeartbeats 2000000 in
theorem Y7(T:Tx K mg):IJ P w K mg base IZ 4 T.az.f T.az.fd ["marks", "held"] (Ci T.ab):=by
 refine T.az.F.o1 KA λcdv A outer s H vs Q E N h=>?_
 .obtain⟨x,c,g,A,B,L,m,rfl,hM,hm,q⟩:=h;refine⟨_,(B3 (C7 (i:=2) KA.nd rfl (.inl rfl) (M7 B1))
   (B3 (P8 PassesOwn.never rfl (NV K (D0 (pv 0) T.ad T.ac.m (E7 T) (Rm N) T.ac.b .nil K0 (A8 (C8 Q8 (D0 (pv 0) T.ad T.af.m (I0 T) (Rm N) T.af.b .nil K0 (A8 (pv 1) B1)) (D0 (pv 0) T.ad T.ar.m (W5 T) (Rm N) T.ar.b .nil K0 (A8 (pv 1) B1))) B1))) (D8 (i:=3) KA.nd rfl (.inl rfl))
   (B3 (C7 (i:=4) KA.nd rfl (.inl rfl) (D0 (pv 0) T.ad T.ag.m (I9 T) (Rm N) T.ag.b .nil K0 (A8 (C8 Q8 (D0 (pv 0) T.ad T.ah.m (J7 T) (Rm N) T.ah.b .nil K0 (A8 (pv 3) B1)) (pv 1)) B1)))
   (B4 (K3 (Nt K PySem.F.plainAttrs_list PySem.F.slot_list_append PySem.F.type_list_append P4 (pv 2) (A8 (K8 (A8 (K8 (A8 Q1 (A8 (pv 4) (A8 (D0 (pv 0) T.ad T.ag.m (I9 T) (Rm N) T.ag.b .nil K0 (A8 (pv 3) B1)) B1)))) (A8 (D0 (pv 0) T.ad T.af.m (I0 T) (Rm N) T.af.b .nil K0 (A8 (pv 3) B1)) B1))) B1))))))
   (B4 (C1 (pv 2))))),?_⟩
  refine C0 λN1 hN1=>?_;refine⟨CP _,λl hl=>?_⟩;have ul:=HY.new (o:=.lst []) hl;have hMe:IB T.ab (Sw.er (HZ H l (.lst [])) l) x c g A B L:=by
   rw[Px];exact hM.same λb o e=>by rw[Mn (B2 e hl)];exact e
  have Z:=hM.same ul;have el:(HZ H l (.lst [])) l=some (.lst []):=A9;have k1:Sm [c] H (HZ H l (.lst [])):=ul.sm;generalize HZ H l (.lst [])=H1 at Z el k1 hMe⊢;refine hN1 _ _ (C0 λN2 hN2=>?_);obtain⟨u,a,b,d,kb,v,_⟩:=Z.ex;refine A6 rfl ⟨x,u,A6 rfl ⟨v,rfl,A6 rfl ⟨x,u,A6 rfl ⟨v,rfl,A6 rfl ⟨x,c,g,A,B,L,m,rfl,Z,λr1 H2 k2 M2 hr1=>?_⟩⟩⟩⟩⟩;obtain⟨u,a,b,d,kb,v,_⟩:=M2.ex;refine A6 rfl ⟨x,u,A6 rfl ⟨v,rfl,A6 rfl ⟨x,c,g,A,B,L,m,rfl,M2,λr2 H3 k3 M3 hr2=>?_⟩⟩⟩;refine B9 rfl rfl ?_;dsimp only;rw[Oa];refine⟨x,c,g,A,B,L,r1 &&& r2,rfl,M3,λD H4 hD k4 M4 eD=>?_⟩;have eds:E1 (r1 &&& r2) g.length=E3 A B g.length m:=Rx λj=>by rw[BS,BI,hr1,hr2]
  rw[eds]at eD;have O:Sm [c] H1 H4:=(k2.trans k3).trans k4;have el4:=KO O el (N8 Z el);have Me4:=hMe.er O M4 (N8 Z el);have nDl:D≠l:=λz=>by
   have:=KO (k2.trans k3) el (N8 Z el);rw[<-z,hD]at this;cases this
  have k04:Sm [c] H H4:=k1.trans O;have nDc:=N8 M4 eD;have R:=N8 M4 el4;refine⟨D,rfl,⟨_,IG.of eD⟩,R9 (D:={ nx:=N2,rt:=Q }) (NR (IG.of eD)) (λi σ G=>(∃v3 v4,σ = [some (.ref x),some (.int (m:Int)),some (.ref l),v3,v4])/\Sm [c] H G/\Sm [c,l] H4 G/\IB T.ab (Sw.er G l) x c g A B L/\IB T.ab G x c g A B L/\∃I:A1 RO,G l=some (.lst (I.map λt=>V.ref t.1))/\(∀t∈I,JZ G t)/\(I.map λt=>t.2.2) =((E3 A B g.length m).take i).map (Hr g A B m)) ⟨⟨_,_,rfl⟩,k04,Sm.refl _ _,Me4,M4,[],el4,λt ht=>absurd ht CH,rfl⟩ (λi σ G _ h o e=>by rw[eD]at e;cases e;exact h.2.2.1 _ _ eD (by simp[nDl,nDc])) ?_ ?_⟩
  .rintro i σ G y hy ⟨⟨v3,v4,rfl⟩,kG,kG4,MeG,MG,I,eG,aG,mG⟩ D1 hD1 _;rw[AH]at hy;obtain⟨j,hj,rfl⟩:=BK.mp hy;obtain⟨hjn,⟨p,hp,hpj⟩,nh⟩:=KM.mp (AL hj);refine Uv λN3 hN3=>?_;obtain⟨u,a,b,d,kb,v,_⟩:=MG.ex;refine A6 rfl ⟨x,u,A6 rfl ⟨v,rfl,A6 rfl ⟨x,u,A6 rfl ⟨v,rfl,A6 rfl ⟨x,c,g,A,B,L,2^j,rfl,MG,λr3 G1 J S hr3=>?_⟩⟩⟩⟩⟩;have er3:r3=B.getD j 0:=BL λi=>BR.mpr ((hr3 i).trans Js);subst er3;refine A6 rfl (B9 rfl rfl ?_);dsimp only;rw[Oa];refine⟨x,c,g,A,B,L,B.getD j 0 &&& m,p,rfl,S,hm p hp,by rw[BS,BI];exact⟨(hM.net.tr p j).mp hpj,hp⟩,λG2 C=>?_⟩;have k:=S.same C;refine hN3 _ _ ?_;have U:=C _ _ (KO J eG (N8 MG eG));have MeG2:=(MeG.er J S R).er (C.sm (D:=[c])) k R;have aG2:∀t∈I,JZ G2 t:=λt ht=>((aG t ht).sm MG J).same C;have kG2:Sm [c] G G2:=J.trans C.sm;have lts:I.length<=100:=by
    have h1:=congrArg List.length mG;rw[AB,AB,AX]at h1;have h2:(E3 A B g.length m).length<=g.length:=by
     unfold E3;exact Nat.le_trans (BZ ..) (by rw[BV];exact Nat.le_refl _)
    have:=hM.len;omega
   obtain⟨u,a,b,d,kb,v,_⟩:=k.ex;refine A6 rfl ⟨.inl ⟨rfl,_,IG.of U⟩,?_⟩;refine A6 rfl (A6 rfl ⟨x,u,A6 rfl ⟨v,rfl,A6 rfl ⟨x,c,g,A,B,L,2^j,j,rfl,k,hjn,DZ,λG3 sg3=>?_⟩⟩⟩);refine⟨by show 3<=sizeLine;decide,λh hh=>?_⟩;have uh:=HY.new (o:=.tup [.str "answer",.str (S0 g (B.getD j 0 &&& m)),.str (S0 g (2^j))]) hh;have eh:(HZ G3 h (.tup [.str "answer",.str (S0 g (B.getD j 0 &&& m)),.str (S0 g (2^j))])) h=some (.tup ([("answer":Str),S0 g (B.getD j 0 &&& m),S0 g (2^j)].map V.str)):=A9;have W:=sg3.trans uh;generalize HZ G3 h (.tup [.str "answer",.str (S0 g (B.getD j 0 &&& m)),.str (S0 g (2^j))])=G4 at W eh⊢;have X:=k.same W;obtain⟨u,a,b,d,kb,v,_⟩:=X.ex;refine A6 rfl ⟨x,u,A6 rfl ⟨v,rfl,A6 rfl ⟨x,c,g,A,B,L,2^j,rfl,X,λr4 G5 kg5 MG5 hr4=>?_⟩⟩⟩;have er4:r4=A.getD j 0:=BL λi=>BR.mpr ((hr4 i).trans Js);subst er4;refine⟨by show 2<=sizeLine;decide,λt ht=>?_⟩;have ut:=HY.new (o:=.tup [.ref h,.int ((A.getD j 0:Nat):Int)]) ht;have st:JZ (HZ G5 t (.tup [.ref h,.int ((A.getD j 0:Nat):Int)])) (t,h,[("answer":Str),S0 g (B.getD j 0 &&& m),S0 g (2^j)],A.getD j 0):=⟨A9,ut _ _ (KO kg5 eh (V8 X eh)),by show 3<=5;decide⟩;have r:Sm [c] G2 (HZ G5 t (.tup [.ref h,.int ((A.getD j 0:Nat):Int)])):=(W.sm.trans kg5).trans ut.sm;have MG6:=MG5.same ut;generalize HZ G5 t (.tup [.ref h,.int ((A.getD j 0:Nat):Int)])=G6 at ut st r MG6⊢;have Y:=KO r U (N8 k U);have MeG6:=MeG2.er r MG6 R;refine⟨l,_,_,rfl,rfl,Y,by rw[AB,sizeLine_eq];omega,?_⟩;have M:IB T.ab (Sw.er (L2.HZ G6 l (.lst ((I.map λt=>V.ref t.1) ++ [.ref t]))) l) x c g A B L:=by rw[Px];exact MeG6
   refine hD1 _ _ ⟨⟨_,_,rfl⟩,λb o e n=>?_,λb o e n=>?_,M,M.same (As _ _),I ++ [(t,h,[("answer":Str),S0 g (B.getD j 0 &&& m),S0 g (2^j)],A.getD j 0)],?_,λt' ht'=>?_,?_⟩
   .rw[B6 (B2 e hl)];exact(kG.trans (kG2.trans r)) b o e n
   .have n1:b≠c:=λz=>n (by rw[z];exact .head _);have n2:b≠l:=λz=>n (by rw[z];exact .tail _ (.head _));rw[B6 n2];exact(kG2.trans r) b o (kG4 b o e n) (by simpa using n1)
   .rw[A9,AY];rfl
   .rcases BD.mp ht' with z | z
    .exact((aG2 t' z).sm k r).upd Y
    .rw[AE.mp z];exact st.upd Y
   .rw[AY,mG,IT hj,AY];rfl
  .rintro σ G ⟨⟨v3,v4,rfl⟩,kG,kG4,MeG,MG,I,eG,aG,mG⟩;rw[AB,CJ]at mG;exact hN2 _ _ (A6 rfl (q l I G hl kG MG eG aG mG))
end
def Y6{C:A3}{H H':Hp}{x c p:A3}{ns:A1 Str}{A B:A1 Nat}{L:Nat}{ls:A1 (Pos×Str)}(h:G7 H p ls)(M:IB C H x c ns A B L)(k:Sm [c] H H'):G7 H' p ls:=by
 obtain⟨b,e,t,q⟩:=h;exact⟨b,KO k e (V6 M e (λ_ y=>by cases y) λ_ _ y=>by cases y),t,λl f=>(q l f).imp id λ⟨d,e,a⟩=>⟨d,e,KO k a (V6 M a (λ_ y=>by cases y) λ_ _ y=>by cases y)⟩⟩
section
variable{P:CM}{w:F8}{K:PySem.W.Frag}{mg:Str->A5 A2}{base:IA}
def Zq(f c:A3)(q:Str)(b:Arguments)(d:IE)(a:JB)(cl:A1 (Str×A3))(g:V->Hp->VK->Prop):Sp:=λe H Q _=>∃u,e = [u]/\H f=some (NE f c q b d a cl)/\H c=some (KZ c q)/\g u H Q
theorem Sa{f c:A3}{q:Str}{i:Arguments}{e:IE}{b:JB}{cl:A1 (Str×A3)}{fr:A1 Str}{gs:A1 V}{k:Nat}{g:V->Hp->VK->Prop}(S:M_ ("split" :: fr) ["split"] fr b)(C:P6 base cl fr gs)
  (d:∀(A:IC) (a:A1 P_) (s:A4) (H:Hp) (u:V) (Q:VK),JD k (A.deeper (PySem.W.envX q b s.heap.objs.size f (.ref c) cl))->g u H Q ->
   ∃t,PE (Nq P w K mg base ("split" :: fr) q b f (.ref c) cl A a s H) e t/\t (some u::gs.map some) H Q) :
  IJ P w K mg base IZ (k+1) f (PySem.W.kla_fn "<lambda>" q i e b cl .none (.ref c) .none) ["split"] (Zq f c q i e b cl g):=by
 refine zBx S C (λj H Q E h=>?_) (λj H Q E h=>?_) λA a s H j Q E l h=>?_
 .obtain⟨u,rfl,_⟩:=h;rfl
 .obtain⟨u,rfl,m,n,_⟩:=h;exact⟨m,n⟩
 .obtain⟨u,rfl,_,_,h⟩:=h;exact d A a s H u Q l h
theorem Yz{e:Hp}{f c:A3}{q:Str}{j:Arguments}{i:IE}{a:JB}{cl:A1 (Str×A3)}{fr:A1 Str}{gs:A1 V}{k:Nat}{g:V->Hp->VK->Prop}(n:e f=some (NE f c q j i a cl))(o:e c=some (KZ c q))(S:M_ ("split" :: fr) ["split"] fr a)(C:P6 base cl fr gs)
  (p:Binds K (PySem.W.kla_fn "<lambda>" q j i a cl .none (.ref c) .none) ["split"] [])
  (b:∀(A:IC) (d:A1 P_) (s:A4) (H:Hp) (u:V) (Q:VK),JD k (A.deeper (PySem.W.envX q a s.heap.objs.size f (.ref c) cl))->g u H Q ->
   ∃t,PE (Nq P w K mg base ("split" :: fr) q a f (.ref c) cl A d s H) i t/\t (some u::gs.map some) H Q) :
  ∃(l:IS) (m:A1 Str) (sp:Sp),IJ P w K mg base IZ (k+1) f l m sp/\Binds K l m []/\∀u H Q,H f=e f->H c=e c->g u H Q->sp [u] H Q E0 :=
 ⟨_,_,_,Sa S C b,p,λu H Q r v h=>⟨u,rfl,r.trans n,v.trans o,h⟩⟩
theorem Ex:H_ ["marks", "held", "splits"] ["marks", "held", "splits"] (B5 KI):=KN
def Jf(C d:A3):Sp:=λf H Q _=>∃(x c l:A3) (e:A1 Str) (A B:A1 Nat) (L m:Nat) (a:A1 RO),f = [.ref x,.int (m:Int),.ref l]/\IB C H x c e A B L/\H l=some (.lst (a.map λt=>V.ref t.1))/\a≠[]/\(∀t∈a,JZ H t)/\G7 H d B8 /\
 ∀b,Sm [c,d] H b->IB C b x c e A B L->G7 b d B8->(∀t∈a,JZ b t)->Q ((a.map λt=>V.ref t.1).getD (U7 A B e.length L m (a.map λt=>t.2.2.2)) .non) b
set_option maxHeartbeats 2000000 in
theorem Z0(T:Tx K mg)(hB:base.BuiltinsAt mg T.aa):IJ P w K mg base IZ 7 T.aq.f T.aq.fd ["marks", "held", "splits"] (Jf T.ab T.aa):=by
 refine T.aq.F.oC Ex λcdv A N s H vs Q E hcd hr h=>?_
 .obtain⟨x,c,l,ns,A,B,L,m,Y,rfl,hM,hl,hne,hS,hT,q⟩:=h;have hu:=i5 hr;refine⟨_,(B4 (C1 (Yn (k:=5) (λ_=>rfl) (Rm hr) T.bp (A8 (pv 2) B1) (zBa (ls:=B8) T.bd hB (hcd.symm.trans T.bw) rfl rfl (by show ∀x:Str×JT,x∈_->x.2=NameKind.free->(B5 KI).names.lookup x.1=some NameKind.cell;decide +kernel) (by first | exact .head _ | exact .tail _ (.head _) | exact .tail _ (.tail _ (.head _))) (by decide +kernel))))),?_⟩;refine A6 rfl ⟨hT,λf cc Z hf T2 D G nfp I=>?_⟩;have p:∀{z:A3} {o:HO},H z=some o->(∀u,o≠ .tbl u)->z≠T.aa:=fun{z o} e n y=>by
   obtain⟨ps,e',_⟩:=hT;rw[y,e']at e;cases e;exact n _ rfl
  have M2:IB T.ab Z x c ns A B L:=by
   obtain⟨⟨dx,a,b,d,kb,e1,e2,e3,e4,e5,e6,n1,n2⟩,J,h3,h4,h5⟩:=hM;have kR:∀{z:A3} {o:HO},(∀u,o≠ .tbl u)->Rd H z o->Rd Z z o:=fun{z o} n r=>r.imp (λe=>I _ _ e (p e n)) λ⟨u,e⟩=>⟨u,I _ _ e (p e λ_ y=>by cases y)⟩;exact⟨⟨dx,a,b,d,kb,I _ _ e1 (p e1 λ_ y=>by cases y),I _ _ e2 (p e2 λ_ y=>by cases y),kR (λ_ y=>by cases y) e3,e4,kR (λ_ y=>by cases y) e5,I _ _ e6 (p e6 λ_ y=>by cases y),n1,n2⟩,J,h3,h4,h5⟩
  have hl2:=I _ _ hl (p hl λ_ y=>by cases y);have S2:∀t∈Y,JZ Z t:=λt W=>by
   obtain⟨a1,a2,a3⟩:=hS t W;exact⟨I _ _ a1 (p a1 λ_ y=>by cases y),I _ _ a2 (p a2 λ_ y=>by cases y),a3⟩
  refine⟨l,f,[c],_,λj=>Io A B ns.length L m ((Y.map λt=>t.2.2.2).getD j 0),λC=>IB T.ab C x c ns A B L/\C l=some (.lst (Y.map λt=>V.ref t.1))/\(∀t∈Y,JZ C t)/\G7 C T.aa B8/\C f=Z f/\C cc=Z cc,rfl,rfl,by simpa using hne,⟨M2,hl2,S2,T2,rfl,rfl⟩,λC g=>IG.of g.2.1,?K,λC k' g=>?R⟩
  case R =>
   have:=q C (λb o e n=>k' b o (I b o e λz=>n (by rw[z];exact .tail _ (.head _))) λz=>n (by rw[AE.mp z];exact .head _)) g.1 g.2.2.2.1 g.2.2.1;unfold U7 at this;rw[AB]at this⊢;exact this
  case K =>
   intro O S kin;obtain⟨fd,ps,sp,M,J,h3⟩:=Yz (P:=P) (w:=w) (K:=K) (mg:=mg) (base:=O) (k:=4) (fr:=["marks", "held"]) (gs:=[.ref x,.int (m:Int)]) (g:=λv C Q'=>∃ad:Nat,(∃t:A3,v = .ref t/\∃hd:A3,C t=some (.tup [.ref hd,.int (ad:Int)]))/\Sr T.ab [.ref x,.int (m:Int),.int (ad:Int)] C Q' E0) G D ⟨rfl,rfl,rfl,rfl,by decide +kernel,by decide +kernel,by decide +kernel,by decide +kernel,by decide +kernel⟩ (S.clos (by decide +kernel) (by decide +kernel) (by show ∀x∈_,(B5 KI).names.lookup x=some NameKind.cell;decide +kernel) rfl λi x v M J=>by
    match i,M,J with
    | 0,M,J=>cases M;cases J;exact⟨0,rfl,rfl⟩
    | 1,M,J=>cases M;cases J;exact⟨1,rfl,rfl⟩
    | n+2,M,_=>cases M) (Binds.all λus hl=>by match us,hl with | [_],_=>rfl) (λA N s H u Q hr h=>by
    obtain⟨ad,⟨t,rfl,hd,et⟩,h⟩:=h;refine⟨_,D6 T.aT (Du T) (Rm hr) (A8 (pv 1) (A8 (pv 2) (A8 (G0 (OM K) (pv 0) B7 (λ_ _=>rfl)) B1))),?_⟩;exact A6 rfl (A6 rfl (A6 rfl ⟨t,_,B9 rfl rfl ⟨IW.of et,rfl,h⟩⟩)))
   .refine⟨fd,ps,sp,M,J,λj v C ev g=>h3 v C _ g.2.2.2.2.1 g.2.2.2.2.2 ?_⟩;rw[AH]at ev;obtain⟨t,W,rfl⟩:=BK.mp ev;obtain⟨U,gl,gS,gT,gf,gc⟩:=g;refine⟨t.2.2.2,⟨t.1,rfl,t.2.1,(gS t (AL W)).1⟩,x,c,ns,A,B,L,m,t.2.2.2,rfl,U,λa H3 ha X M3 e3=>⟨a,rfl,λz=>?_,X,⟨M3,KO X gl (N8 U gl),λt W=>(gS t W).sm U X,Y6 gT U X,?_,?_⟩,IW.of ?_⟩⟩
    .rw[AE.mp z]at ha;exact j8 U ha
    .exact(KO X (gf.trans G) (V6 U (gf.trans G) (λ_ y=>by cases y) λ_ _ y=>by cases y)).trans G.symm
    .exact(KO X (gc.trans D) (V6 U (gc.trans D) (λ_ y=>by cases y) λ_ _ y=>by cases y)).trans D.symm
    .have:(Y.map λt=>t.2.2.2).getD j 0=t.2.2.2:=by rw[AM,AH,W];rfl
     rw[e3];dsimp only;rw[this]
end
def SR:A5 Nat->V
 | some r=>.int (r:Int)
 | none=>.non
def Xa{α:Type}{f:Nat->A5 α}{l:A1 Nat}{i j:Nat}{r:α}(h:l[i]?=some j)(h1:∀x∈l.take i,f x=none)(h2:f j=some r):l.findSome? f=some r:=by
 have a:=(AF.mp h).1;have e:l=l.take i++j::l.drop (i+1):=by
  conv=>lhs;rw[<-BT i l]
  rw[EN a];congr 2;exact BE ((AC a).symm.trans h)
 rw[e,List.findSome?_append,FK.mpr h1,List.findSome?_cons,h2];rfl
def Aa{H:Hp}{p a:A3}{o:HO}{ls:A1 (Pos×Str)}(h:G7 H p ls)(e:H a=some o)(n:∀u,o≠ .tbl u):a≠p:=λy=>by
 obtain⟨c,b,_⟩:=h;rw[y,b]at e;cases e;exact n _ rfl
section
variable{P:CM}{w:F8}{K:PySem.W.Frag}{mg:Str->A5 A2}{base:IA}
theorem JM:H_ ["marks", "held", "splits", "bit", "found"] ["marks", "held"] (B5 LL):=KN
def y4(C d:A3)(k:Nat):Sp:=λe H Q _=>∃(x c:A3) (a:A1 Str) (A B:A1 Nat) (L m:Nat),e = [.ref x,.int (m:Int)]/\IB C H x c a A B L/\LS a.length m/\G7 H d B8/\a.length<k +(E1 m a.length).length /\
 ∀b,Sm [c,d] H b->IB C b x c a A B L->G7 b d B8->Q (SR (O9 A B a.length L k m)) b
set_option maxHeartbeats 4000000 in
theorem m9(T:Tx K mg)(hB:base.BuiltinsAt mg T.aa){n k:Nat}{S:Sp}(h1:7<=n)(g:IJ P w K mg base IZ n T.ak.f T.ak.fd ["marks", "held"] S)(hS:∀J,k=J+1->S=y4 T.ab T.aa J) :
  IJ P w K mg base IZ (n+1) T.ak.f T.ak.fd ["marks", "held"] (y4 T.ab T.aa k):=by
 have I:IJ P w K mg base IZ n T.aw.f T.aw.fd ["marks", "held"] (Dg T.ab):=(Aj T).mono (by omega);have v:IJ P w K mg base IZ n T.az.f T.az.fd ["marks", "held"] (Ci T.ab):=(Y7 T).mono (by omega);have C:IJ P w K mg base IZ n T.aq.f T.aq.fd ["marks", "held", "splits"] (Jf T.ab T.aa):=(Z0 T hB).mono h1;have p:IJ P w K mg base IZ n T.ac.f T.ac.fd ["self", "some"] (m8 T.ab):=(E7 T).mono (by omega);refine T.ak.F.o1 JM λcdv A outer s H vs Q E Y h=>?_
 .obtain⟨x,c,u,A,B,L,m,rfl,hM,lo,hT,hk,q⟩:=h;refine⟨_,(B3 (J9 (C2 Jb (D6 T.aw I (Y.mono (Nat.le_refl _)) (A8 (pv 0) (A8 (pv 1) B1))) Bf (E6 _)) (B4 (C1 Bf)) C5)
   (B3 (C7 (i:=2) JM.nd rfl (.inl rfl) (D6 T.az v (Y.mono (Nat.le_refl _)) (A8 (pv 0) (A8 (pv 1) B1))))
   (B3 (J9 (P5 (SY K (pv 2))) (B4 (C1 (pv 1))) C5)
   (B3 (P8 PassesOwn.never rfl (NV K (D0 (pv 0) T.ad T.ac.m p (Y.mono (Nat.le_refl _)) T.ac.b .nil K0 (A8 (G0 (OM K) (D6 T.aq C (Y.mono (Nat.le_refl _)) (A8 (pv 0) (A8 (pv 1) (A8 (pv 2) B1)))) B7 (λ_ _=>rfl)) B1))) (D8 (i:=3) JM.nd rfl (.inl rfl))
   (B3 (C7 (i:=4) JM.nd rfl (.inl rfl) (D6 T.ak g (Y.mono (Nat.le_refl _)) (A8 (pv 0) (A8 (C8 y8 (pv 1) (pv 3)) B1))))
   (B4 (J9 (C2 Jb (pv 4) Bf (E6 _)) (B4 (C1 (pv 4))) C5))))
   (B4 (C1 Bf)))))),?_⟩
  obtain⟨J,rfl⟩:∃J,k=J+1:=⟨k-1,by have:=O1 m u.length;omega⟩;have eS:=hS J rfl;subst eS;have up:∀{G G':Hp},Sm [c] G G'->Sm [c,T.aa] G G':=λk b o e n=>k b o e λz=>n (by rw[AE.mp z];exact .head _);refine C0 λN1 hN1=>?_;refine A6 rfl (A6 rfl ⟨x,c,u,A,B,L,m,rfl,hM,lo,λH1 k1 M1=>⟨λnc=>?_,λa cl ha et=>?_⟩⟩);rotate_left
  .refine⟨rfl,_,rfl,W0 (λ_=>?_) λz=>absurd (by simp) z⟩;have e:O9 A B u.length L (J+1) m=none:=by
    unfold O9;rw[AK cl]
   have:=q H1 (up k1) M1 (Y6 hT hM k1);rw[e]at this;exact this
  have Z:¬P9 B m:=λ⟨j,O,hh⟩=>nc j O hh;have T1:=Y6 hT hM k1;refine⟨rfl,_,rfl,W0 (λz=>absurd z (by simp)) λ_=>hN1 _ _ (C0 λN2 hN2=>?_)⟩;refine A6 rfl (A6 rfl ⟨x,c,u,A,B,L,m,rfl,M1,lo,λl R H2 hl k2 M2 el aS mS=>?_⟩);have mS:=Br mS;have T2:=Y6 T1 M1 k2;refine hN2 _ _ (C0 λN3 hN3=>?_);refine A6 rfl ⟨_,.inl ⟨_,IG.of el,rfl⟩,?_⟩;have k02:=up (k1.trans k2);cases N:R with
  | nil =>
   subst N;refine W0 (λ_=>A6 rfl ?_) λz=>absurd rfl z;have e:O9 A B u.length L (J+1) m=some m:=by
    unfold O9;rw[AI Z,AK (EI.mp (show V0 A B u.length m = []from mS.symm))]
   have:=q H2 k02 M2 T2;rw[e]at this;exact this
  | cons t0 ts0 =>
   rw[<-N];have U:R≠[]:=by rw[N];exact List.cons_ne_nil _ _
   have dne:E3 A B u.length m≠[]:=λz=>U (EI.mp (mS.trans (by unfold V0;rw[z];rfl)));have W:O9 A B u.length L (J+1) m =(E1 (M6 A B u.length L m) u.length).findSome? λj=>O9 A B u.length L J (m ||| 2^j):=by
    conv=>lhs;unfold O9
    rw[AI Z,AI dne]
   refine W0 (λz=>absurd z (by rw[N];exact λy=>by cases y)) λ_=>hN3 _ _ (C0 λN4 hN4=>?_);obtain⟨dx,a,b,d,kb,e1,_⟩:=M2.ex;refine A6 rfl ⟨x,dx,A6 rfl ⟨e1,rfl,A6 rfl (A6 rfl (A6 rfl ⟨x,c,l,u,A,B,L,m,R,rfl,M2,el,U,aS,T2,λH3 k3 M3 T3 S3=>?_⟩))⟩⟩;have hb:=b9 (A:=A) (B:=B) (n:=u.length) (L:=L) (m:=m) (ads:=R.map λt=>t.2.2.2) (λz=>U (EI.mp z));rw[AB]at hb;have M:=AC hb;generalize hbi:U7 A B u.length L m (R.map λt=>t.2.2.2)=bi at hb M⊢;generalize hti:R[bi]=t at M;have ead:M6 A B u.length L m=t.2.2.2:=by
    unfold M6;rw[<-mS,hbi,AM,AH,M];rfl
   have ev:(R.map λt=>V.ref t.1).getD bi .non = .ref t.1:=by rw[AM,AH,M];rfl
   rw[ev];refine⟨t.1,_,B9 rfl rfl ⟨IW.of (S3 t (AL M)).1,rfl,?_⟩⟩;refine⟨x,c,u,A,B,L,t.2.2.2,rfl,M3,λD H4 hD k4 M4 X=>?_⟩;have T4:=Y6 T3 M3 k4;have k04:Sm [c,T.aa] H H4:=(k02.trans k3).trans (up k4);have nDc:=N8 M4 X;have nDp:=Aa T4 X λ_ y=>by cases y
   rw[ead]at W;refine⟨D,rfl,⟨_,IG.of X⟩,R9 (D:={ nx:=N4,rt:=Q }) (NR (IG.of X)) (λi σ G=>(∃v3 v4,σ = [some (.ref x),some (.int (m:Int)),some (.ref l),v3,v4])/\Sm [c,T.aa] H4 G/\IB T.ab G x c u A B L/\G7 G T.aa B8/\∀j∈(E1 t.2.2.2 u.length).take i,O9 A B u.length L J (m ||| 2^j)=none) ⟨⟨_,_,rfl⟩,Sm.refl _ _,M4,T4,λj O=>absurd O CH⟩ (λi σ G _ h o e=>by rw[X]at e;cases e;exact h.2.1 _ _ X (by simp[nDc,nDp])) ?_ ?_⟩
   .rintro i σ G y hy ⟨⟨v3,v4,rfl⟩,kG,MG,TG,nG⟩ D1 hD1 hrt;rw[AH]at hy;obtain⟨j,O,rfl⟩:=BK.mp hy;obtain⟨hjn,hjb⟩:=JA.mp (AL O);have hjm:=(Y2 (L:=L) hM.net dne (by rw[ead];exact hjb)).2;refine Uv λN5 hN5=>?_;refine A6 rfl (A6 rfl (A6 rfl (B9 rfl rfl ?_)));dsimp only;rw[QN];refine⟨x,c,u,A,B,L,m ||| 2^j,rfl,MG,lo.or hjn,TG,by rw[Fs hjm,AK hjn];omega,λG1 k1' M1' T1'=>?_⟩;refine hN5 _ _ ?_;cases ho:O9 A B u.length L J (m ||| 2^j)with
    | some r =>
     refine A6 rfl ⟨rfl,_,rfl,W0 (λ_=>A6 rfl ?_) λz=>absurd (by simp[SR]) z⟩;have:=q G1 (k04.trans (kG.trans k1')) M1' T1';rw[W,Xa (f:=λj=>O9 A B u.length L J (m ||| 2^j)) O nG ho]at this;rw[hrt];exact this
    | none =>
     refine A6 rfl ⟨rfl,_,rfl,W0 (λz=>absurd z (by simp[SR])) λ_=>hD1 _ _ ⟨⟨_,_,rfl⟩,kG.trans k1',M1',T1',λj' hj'=>?_⟩⟩;rw[IT O]at hj';rcases BD.mp hj' with z | z
     .exact nG j' z
     .rw[AE.mp z];exact ho
   .rintro σ G ⟨_,kG,MG,TG,nG⟩;rw[AB,CJ]at nG;have:=q G (k04.trans kG) MG TG;rw[W,FK.mpr nG]at this;exact hN4 _ _ this
theorem U3(T:Tx K mg)(a:base.BuiltinsAt mg T.aa):∀k,IJ P w K mg base IZ (8+k) T.ak.f T.ak.fd ["marks", "held"] (y4 T.ab T.aa k)
 | 0=>m9 (n:=7) T a (by decide) (S:=λ_ _ _ _=>False) ⟨λ_ _ _ _ h=>h.elim,λ_ _ _ _ _ _ _ _ _ _ _ _ _ h=>h.elim⟩ λb e=>by omega
 | k+1=>m9 (n:=8+k) T a (by omega) (U3 T a k) λb e=>by cases e;rfl
end
def Ue(l:A1 Nat):((l.map λk=>((2^k:Nat):Int)).sum) =(((l.map λk=>2^k).sum:Nat):Int):=by
 induction l with
 | nil=>rfl
 | cons k l a=>rw[BC,GW,BC,GW,a];omega
def Bg{ns:A1 Str}{y:Str}(h:y∈ns):ns[ns.idxOf y]?=some y:=by
 have l:=GX.mpr h;rw[AC l,List.getElem_idxOf l]
section
variable{P:CM}{w:F8}{K:PySem.W.Frag}{mg:Str->A5 A2}{base:IA}
theorem Bd:H_ ["self", "some"] ["self", "some"] (B5 LY):=KN
def Mm(K:PySem.W.Frag)(C:A3):Sp:=λf H Q _=>∃(x c a:A3) (d:A1 Str) (A B:A1 Nat) (L:Nat) (b:A1 Str),f = [.ref x,.ref a]/\IB C H x c d A B L/\SD K H a (b.map V.str)/\(∀y∈b,y∈d)/\b.Nodup/\b.length<=100/\∀(m:Nat) e,HY H e->LS d.length m->(∀(j:Nat) y,d[j]?=some y->(m.testBit j=true↔y∈b))->Q (.int (m:Int)) e
theorem Ab(T:Tx K mg):IJ P w K mg base IZ 1 T.aB.f T.aB.fd ["self", "some"] (Mm K T.ab):=by
 refine T.aB.F.o1 Bd λcdv A U s H vs Q E hr h=>?_
 .obtain⟨x,c,a,v,A,B,L,C,rfl,t,ha,sub,nd,W,q⟩:=h;have hu:=i5 hr;refine⟨_,(B4 (C1 (E8 (Kx K) T.bf Fo (A8 (U5 (N':=["name", "self"]) (cap:=[none,some 0]) (cl:=[("self",_)]) (Q3 ⟨⟨rfl,rfl,rfl,rfl⟩,trivial⟩ ⟨rfl,trivial⟩) rfl (piS K (pv 1)) (λ_ _ _ _=>by exact⟨(NC 0),K4,(N9 hu (OK K (pv 1)) (pv 0) (λ_ _=>rfl))⟩)) B1)))),?_⟩;obtain⟨dx,a',b,d,kb,e1,e2,e3,e4,e5,e6,n1,n2⟩:=t.ex;have I:∀{J:It} (X:St->Hp->Prop),Le J (C.map V.str) a H->∀D,H D=none->(∀σ' G (m:Nat) (i:A1 Int),HY H G->G D=some (.lst (i.map V.int))->i.sum =(m:Int)->LS v.length m->(∀(j:Nat) y,v[j]?=some y->(m.testBit j=true↔y∈C))->X σ' G) ->
    Lr (l4 0) Gr (Gp D (Ub (zDj K (Ux 1) ("bit_of":Str)) (Ux 0))) J [none,some (.ref x)] (HZ H D (.lst [])) X:=by
   intro J X Y D l hQ;refine Df (r:=V.str) (λy=>K9 (2^v.idxOf y)) Y (λ_=>true) (Nat.le_trans W (by decide)) l (λy g G u M t=>t G λb o e=>e) (λy g G u M t=>?_) λσ' G u O=>?_
   .have rb:Rd G b (.dK kb):=e3.imp (u _ _) λ⟨o,e⟩=>⟨o,u _ _ e⟩;exact A6 rfl ⟨x,T.ab,dx,_,A6 rfl ⟨u _ _ e1,T.ad,T.aW,rfl,A6 rfl ⟨b,_,rfl,.inl ⟨kb,.inr y,rb,rfl,(e4 _ y (Bg (sub y g))).symm⟩,t⟩⟩⟩
   rw[EH.mpr λ_ _=>rfl]at O;have O:G D=some (.lst (((C.map λy=>v.idxOf y).map λk=>((2^k:Nat):Int)).map V.int)):=by rw[O,CI,CI];rfl
   have Z:(C.map λy=>v.idxOf y).Nodup:=by
    refine DD.mpr (nd.imp_of_mem fun{y z} g R n e=>n ?_);have h1:=Bg (sub y g);rw[e,Bg (sub z R)]at h1;exact(BE h1).symm
   have hb:=y9 Z;refine hQ σ' G _ _ u O (Ue _) (λj S=>?_) λj y S=>?_
   .obtain⟨y,g,e⟩:=BB.mp ((hb j).mp S);rw[<-e];exact GX.mpr (sub y g)
   .rw[hb,BB];constructor
    .rintro⟨z,R,e⟩;have:=Bg (sub z R);rw[e,S]at this;rw[BE this];exact R
    .intro g;exact⟨y,g,(List.getElem?_inj (GX.mpr (sub y g)) t.nd).mp ((Bg (sub y g)).trans S.symm)⟩
  have N:∀{J:It},Le J (C.map V.str) a H->∀D,H D=none->Lr (l4 0) Gr (Gp D (Ub (zDj K (Ux 1) ("bit_of":Str)) (Ux 0))) J [none,some (.ref x)] (HZ H D (.lst [])) λ_ G=>∃(p:A3) (i:A1 Int),[V.ref D] = [.ref p]/\IG K G p (i.map V.int)/\Q (.int i.sum) G:=λY D l=>I _ Y D l λσ' G m i s e es lo b=>⟨D,i,rfl,IG.of e,by rw[es];exact q m G s lo b⟩;exact A6 rfl ⟨a,rfl,ha.elim (λh=>.inl ⟨⟨_,h⟩,λD l=>N (NR h) D l⟩) λh=>.inr ⟨⟨_,h⟩,λD l=>N (asT h) D l⟩⟩
theorem Ej:H_ ["marks", "sets", "held"] ["marks", "sets", "held"] (B5 MU):=KN
def Bi(C:A3):Sp:=λd H Q _=>∃(x c a:A3) (e:A1 Str) (A B:A1 Nat) (L m:Nat),d = [.ref x,.ref a,.int (m:Int)]/\IB C H x c e A B L/\H a=some (.lst [])/\∀l b,H l=none->HY H b->b l=some (.lst [])->Q (.ref l) b
theorem En(T:Tx K mg):IJ P w K mg base IZ 1 T.aF.f T.aF.fd ["marks", "sets", "held"] (Bi T.ab):=by
 refine T.aF.F.o1 Ej λk A b s H p Q E l h=>?_
 .obtain⟨x,c,a,r,A,B,L,m,rfl,t,j,q⟩:=h;have u:=i5 l;refine⟨_,(B4 (C1 (U5 (N':=["at", "some", "marks", "held"]) (cap:=[none,none,some 0,some 2]) (cl:=[("marks",_),("held",_)]) (Q3 ⟨⟨rfl,rfl,rfl,rfl⟩,⟨⟨rfl,rfl,rfl,rfl⟩,trivial⟩⟩ ⟨rfl,⟨rfl,trivial⟩⟩) rfl (piE K T.aQ (A8 (pv 1) B1)) (λ_ _ _ _=>by exact⟨(RB K (n:=2) (E5 (NC 0) (E5 (NC 1) S4))),(X6 (C2 Y9 (C8 Q8 (pv 3) (pv 1)) (pv 3) (E6 _))),(K8 (A8 (K8 (A8 Q1 (A8 (pv 0) B1))) (A8 (C8 Wm (OK K (pv 2)) (pv 1)) B1)))⟩)))),?_⟩;refine A6 rfl ⟨a,[],rfl,IG.of j,λD d=>?_⟩;have o:(HZ H D (.lst [])) a=some (.lst []):=HY.new d _ _ j;refine Ak (n:=0) (λi σ G=>G=HZ H D (.lst [])) rfl (λi σ G g _=>absurd g (FC _)) (λσ G e=>?_) (λi σ G y v N g _ _ _=>absurd g (FC _)) λσ G e=>?_
  .subst e;exact⟨[],IG.of o,rfl⟩
  .subst e;exact q D _ d (HY.new d) A9
theorem Z7:H_ ["marks", "sets", "held"] ["marks", "sets", "held"] (B5 KW):=KN
def Cz(C:A3):Sp:=λf H Q _=>∃(x c a:A3) (b:A1 Str) (A B:A1 Nat) (L m:Nat),f = [.ref x,.ref a,.int (m:Int)]/\IB C H x c b A B L/\H a=some (.lst [])/\(∀j,m.testBit j=true->j<b.length) /\
 ∀l (e:A1 RO) d,H l=none->Sm [c] H d->IB C d x c b A B L->d l=some (.lst (e.map λt=>V.ref t.1))->(∀t∈e,JZ d t)->(e.map λt=>t.2.2) =(E3 A B b.length m).map (Hr b A B m)->Q (.ref l) d
theorem R4(T:Tx K mg):IJ P w K mg base IZ 5 T.aj.f T.aj.fd ["marks", "sets", "held"] (Cz T.ab):=by
 have b:IJ P w K mg base IZ 4 T.aF.f T.aF.fd ["marks", "sets", "held"] (Bi T.ab):=(En T).mono (by decide);refine T.aj.F.o1 Z7 λM A i s H vs Q E k h=>?_
 .obtain⟨x,c,a,n,A,B,L,m,rfl,r,G,N,q⟩:=h;have hu:=i5 k;refine⟨_,(B4 (C1 (C8 Ln (D6 T.az (Y7 T) (Rm k) (A8 (pv 0) (A8 (pv 2) B1))) (D6 T.aF b (Rm k) (A8 (pv 0) (A8 (pv 1) (A8 (pv 2) B1))))))),?_⟩;refine A6 rfl (A6 rfl ⟨x,c,n,A,B,L,m,rfl,r,N,λl e H1 hl u v O R I=>?_⟩);have z:=KO u G (N8 r G);refine A6 rfl (A6 rfl (A6 rfl ⟨x,c,a,n,A,B,L,m,rfl,v,z,λS U W d X=>?_⟩));have Y:e.length<=100:=by
   have J:=congrArg List.length (Br I);unfold V0 E3 at J;rw[AB,AB]at J;have Z:=BZ (λj=>@decide (o7 A m j/\¬o7 B m j) (Classical.propDecidable _)) (List.range n.length);rw[BV]at Z;have:=r.len;omega
  refine⟨l,S,_,_,rfl,rfl,d _ _ O,X,by rw[AB,sizeLine_eq];show e.length+0<=_;omega,λp g=>?_⟩;rw[CT];have C:=HY.new (o:=.lst (e.map λt=>V.ref t.1)) g;have k3:Sm [c] H (HZ U p (.lst (e.map λt=>V.ref t.1))):=u.trans (d.trans C).sm;have M3:=v.same (d.trans C);exact q p e _ ((u.trans (d.sm (D:=[c]))).none (λy=>by rw[AE.mp y]at g;exact j8 (v.same d) g) g) k3 M3 A9 (λt ht=>(R t ht).same (d.trans C)) I
end
def zGt{n:Nat}{a:A1 Nat}(b:a.Nodup)(h:∀m∈a,LS n m):a.length<=2^n:=by
 classical
 have c:a.Perm ((List.range (2^n)).filter λm=>decide (m∈a)):=(List.perm_ext_iff_of_nodup b (C_.nodup GP)).mpr λm=>by
  rw[BQ,BU,BF];exact⟨λz=>⟨(h m z).lt,z⟩,(·.2)⟩
 rw[c.length_eq];exact Nat.le_trans (BZ _ _) (by rw[BV];exact Nat.le_refl _)
structure Kn(kvs:A1 (IU×V))(n:Nat)(b:Nat->Prop)(W:Nat->A3->Prop):Prop where
 ks:∃ms:A1 Nat,(kvs.map λq=>q.1)=ms.map (λk:Nat=>(.inl (k:Int):IU))/\ms.Nodup/\∀k∈ms,LS n k
 vs:∀(k:Nat) v,T0 kvs (.inl (k:Int))=some v->(v = .non/\b k)\/∃r,v = .ref r/\W k r
def Kn.imp{a:A1 (IU×V)}{n:Nat}{b:Nat->Prop}{W c:Nat->A3->Prop}(h:Kn a n b W)(k:∀j r,W j r->c j r):Kn a n b c:=⟨h.ks,λj v e=>(h.vs j v e).imp id λ⟨r,e,w⟩=>⟨r,e,k _ _ w⟩⟩
def Kn.len{a:A1 (IU×V)}{n:Nat}{b:Nat->Prop}{W:Nat->A3->Prop}(h:Kn a n b W):a.length<=2^n:=by
 obtain⟨d,e,c,lo⟩:=h.ks;have:=congrArg List.length e;rw[AB,AB]at this;rw[this];exact zGt c lo
def Kn.put{d:A1 (IU×V)}{n k:Nat}{b g:Nat->Prop}{W:Nat->A3->Prop}{v:V}(h:Kn d n b W)(lo:LS n k)(w:(v = .non/\g k)\/∃r,v = .ref r/\W k r)(p:∀j,j≠k->b j->g j):Kn (Bt d (.inl (k:Int)) v) n g W:=by
 refine⟨?_,λj u f=>?_⟩
 .obtain⟨i,e,m,o⟩:=h.ks;unfold Bt;by_cases a:(d.any λs=>decide (s.1 =(.inl (k:Int):IU)))=true
  .rw[AK a];refine⟨i,?_,m,o⟩;rw[CI,<-e];refine GT λq _=>?_;show(if q.1 =(.inl (k:Int):IU)then(q.1,v)else q).1=q.1;split<;>rfl
  .rw[AI a];refine⟨i ++ [k],by rw[AY,e,AY];rfl,FT.mpr ⟨m,FX _ _,λx t y A z=>a ?_⟩,λj f=>?_⟩
   .rw[AE.mp A]at z;subst z;have:(.inl (x:Int):IU)∈d.map λq=>q.1:=e▸BB.mpr ⟨x,t,rfl⟩;obtain⟨q,B,C⟩:=BB.mp this;exact HR.mpr ⟨q,B,AS C⟩
   .rcases BD.mp f with z | z
    .exact o j z
    .rw[AE.mp z];exact lo
 .rw[w9]at f;by_cases c:(.inl (j:Int):IU) = .inl (k:Int)
  .rw[AK c]at f;cases f;have:j=k:=by
    have:=Sum.inl.inj c;omega
   rw[this];exact w
  .rw[AI c]at f;exact(h.vs j u f).imp (λ⟨z,l⟩=>⟨z,p j (λz=>c (by rw[z])) l⟩) id
def Mx{C:A3}{H H':Hp}{x c:A3}{ns:A1 Str}{A B:A1 Nat}{L:Nat}(h:IB C H x c ns A B L)(k:∀b o,H b=some o->b≠c->(∀u,o≠ .tbl u)->H' b=some o)(r:Rd H' c (.dK (bK A ns.length))):IB C H' x c ns A B L:=by
 obtain⟨⟨m,a,b,d,n,f,g,p,q,j,s,l,i⟩,t,v,w,D⟩:=h;have E:x≠c:=λz=>by
  rw[z]at f;rcases j with e | ⟨o,e⟩<;>rw[f]at e<;>cases e
 have F:a≠c:=λz=>by
  rw[z]at g;rcases j with e | ⟨o,e⟩<;>rw[g]at e<;>cases e
 exact⟨⟨m,a,b,d,n,k _ _ f E (λ_ y=>by cases y),k _ _ g F (λ_ y=>by cases y),p.imp (λe=>k _ _ e i (λ_ y=>by cases y)) (λ⟨o,e⟩=>⟨o,k _ _ e i (λ_ y=>by cases y)⟩),q,r,k _ _ s l (λ_ y=>by cases y),l,i⟩,t,v,w,D⟩
def Er{C:A3}{H:Hp}{x c:A3}{ns:A1 Str}{A B:A1 Nat}{L:Nat}(h:IB C H x c ns A B L):Rd H c (.dK (bK A ns.length)):=by
 obtain⟨⟨f,a,b,d,g,i,j,k,l,e,_⟩,_⟩:=h;exact e
def Mc{C:A3}{H G:Hp}{x c d p:A3}{ns:A1 Str}{A B:A1 Nat}{L:Nat}{ls:A1 (Pos×Str)}(h:IB C (Sw.er H d) x c ns A B L)(i:G7 H p ls)(k:Sm [c,p,d] H G)(r:Rd G c (.dK (bK A ns.length))):IB C (Sw.er G d) x c ns A B L:=by
 have a:d≠c:=λz=>j8 h (by unfold Sw.er;rw[AK z.symm]);refine Mx h (λb o e j l=>?_) (by unfold Rd;rw[Mn a.symm];exact r);have f:b≠d:=λz=>by subst z;unfold Sw.er at e;rw[AK rfl]at e;cases e
 rw[Mn f];have g:=As H d b o e;refine k b o g λz=>?_;rcases AQ.mp z with z | z
 .exact j z
 rcases AQ.mp z with z | z
 .exact Aa i g l z
 .exact f (AE.mp z)
def Kc{G a:Hp}{c p d:A3}{M:A1 (IU×V)}{ls:A1 (Pos×Str)}{f:A1 (IU×V)}(r:Rd G c (.dK M))(t:G7 G p ls)(e:G d=some (.dK f))(k:Sm [c,p,d] G a)(b:A3)(xs:A1 V)(h:G b=some (.tup xs)):a b=some (.tup xs):=k _ _ h λz=>by
 rcases AQ.mp z with z | z
 .rw[z]at h;rcases r with e | ⟨o,e⟩<;>rw[h]at e<;>cases e
 rcases AQ.mp z with z | z
 .exact Aa t h (λ_ y=>by cases y) z
 .rw[AE.mp z,e]at h;cases h
def U0(ns:A1 Str)(A B:A1 Nat)(L:Nat)(H:Hp)(m:Nat)(r:A3):Prop:=I7 ns A B L H (Fd ns.length m) m r
def Mi(n m:Nat):∃f,Fd n m=f+1:=⟨n-(E1 m n).length,by have:=O1 m n;unfold Fd;omega⟩
section
variable{P:CM}{w:F8}{K:PySem.W.Frag}{mg:Str->A5 A2}{base:IA}
theorem LG:H_ ["marks", "splits_at", "sets", "held", "known", "head", "added", "trees"] ["marks", "splits_at", "sets", "held", "known"] (B5 OP):=KN
def Dl(C i f:A3)(k:Nat):Sp:=λn H Q _=>∃(x c a d:A3) (b:A1 Str) (A B:A1 Nat) (L m:Nat) (h:A1 (IU×V)) (l:Nat->Prop),n = [.ref x,.ref f,.ref a,.int (m:Int),.ref d]/\IB C (Sw.er H d) x c b A B L/\LS b.length m/\b.length<=12/\G7 H i B8/\H a=some (.lst [])/\H d=some (.dK h)/\(∀j,l j->j<m)/\Kn h b.length l (U0 b A B L H)/\b.length<k +(E1 m b.length).length/\O9 A B b.length L k m=none /\
 ∀(r:A3) (e:A1 (IU×V)) g,Sm [c,i,d] H g->Rd g c (.dK (bK A b.length))->G7 g i B8->g d=some (.dK e)->Kn e b.length l (U0 b A B L g)->U0 b A B L g m r->Q (.ref r) g
set_option maxHeartbeats 4000000 in
theorem Km(T:Tx K mg)(hB:base.BuiltinsAt mg T.aa){n k:Nat}{f:A3}{fd:IS}{S:Sp}(h1:7<=n)(U:IJ P w K mg base IZ n f fd ["marks", "sets", "held"] (Cz T.ab))(J:PySem.W.keepIn K (.ref f)=true)(M:Binds K fd ["marks", "sets", "held"] [])
  (G_tree_at:IJ P w K mg base IZ n T.av.f T.av.fd ["marks", "splits_at", "sets", "held", "known"] S) (hS:∀k',k=k'+1->S=Dl T.ab T.aa f k') :
  IJ P w K mg base IZ (n+1) T.av.f T.av.fd ["marks", "splits_at", "sets", "held", "known"] (Dl T.ab T.aa f k):=by
 have Y:IJ P w K mg base IZ n T.aw.f T.aw.fd ["marks", "held"] (Dg T.ab):=(Aj T).mono (by omega);have O:IJ P w K mg base IZ n T.aq.f T.aq.fd ["marks", "held", "splits"] (Jf T.ab T.aa):=(Z0 T hB).mono h1;have C:IJ P w K mg base IZ n T.ac.f T.ac.fd ["self", "some"] (m8 T.ab):=(E7 T).mono (by omega);refine T.av.F.o1 LG λcdv A outer s H vs Q E hr h=>?_
 .obtain⟨x,c,a,d,g,A,B,L,m,kvs,bp,rfl,hR,lo,l12,hT,ha,hd,hbp,hK,hk,hs,q⟩:=h;have hu:=i5 hr;refine⟨_,(B3 (J9 (zCo (Po hu (pv 3) (pv 4))) (B4 (Oo hu (pv 4) (pv 3) (D6 T.aw Y (hr.mono (Nat.le_refl _)) (A8 (pv 0) (A8 (pv 3) B1))) rfl)) C5)
   (B3 (J9 (C2 zAp (N9 hu (pv 4) (pv 3) (λ_ _=>rfl)) Bf (E6 _)) (B3 (Ad (D6 T.aq O (hr.mono (Nat.le_refl _)) (A8 (pv 0) (A8 (pv 3) (A8 (Uz (i:=1) U (hr.mono (Nat.le_refl _)) J M K0 (A8 (pv 0) (A8 (pv 2) (A8 (pv 3) B1)))) B1)))) (RB K (n:=2) (E5 (D8 (i:=5) LG.nd rfl (.inl rfl)) (E5 (D8 (i:=6) LG.nd rfl (.inl rfl)) S4))))
   (B3 (Tr (i:=7) (N':=["bit", "marks", "splits_at", "sets", "known", "held"]) (cap:=[none,some 0,some 1,some 2,some 4,some 3]) (cl:=[("splits_at",_),("sets",_),("marks",_),("known",_),("held",_)]) LG.nd rfl (.inl rfl) (Q3 ⟨⟨rfl,rfl,rfl,rfl⟩,⟨⟨rfl,rfl,rfl,rfl⟩,⟨⟨rfl,rfl,rfl,rfl⟩,⟨⟨rfl,rfl,rfl,rfl⟩,⟨⟨rfl,rfl,rfl,rfl⟩,trivial⟩⟩⟩⟩⟩ ⟨rfl,⟨rfl,⟨rfl,⟨rfl,⟨rfl,trivial⟩⟩⟩⟩⟩) rfl (NV K (D0 (pv 0) T.ad T.ac.m C (hr.mono (Nat.le_refl _)) T.ac.b .nil K0 (A8 (pv 6) B1))) (λ_ _ _ _=>by exact⟨(NC 0),K4,(D6 T.av G_tree_at (hr.mono (Nat.le_refl _)) (@A8 _ _ _ _ _ (pv 1) (@A8 _ _ _ _ _ (pv 2) (@A8 _ _ _ _ _ (pv 3) (@A8 _ _ _ _ _ (C8 y8 (pv 5) (pv 0)) (@A8 _ _ _ _ _ (pv 4) B1 (by rfl)) (by rfl)) (by rfl)) (by rfl)) (by rfl)))⟩))
   (B4 (Oo hu (pv 4) (pv 3) (C8 (Xs K) (pv 5) (K8 (A8 (Eu (Uk K) T.a4 Y1 (A8 (pv 7) B1)) B1))) rfl)))) C5)
   (B4 (C1 (N9 hu (pv 4) (pv 3) (λ_ _=>rfl)))))),?_⟩
  obtain⟨k',rfl⟩:∃k',k=k'+1:=⟨k-1,by have:=O1 m g.length;omega⟩;have eS:=hS k' rfl;subst eS;have p12:2^g.length<=2^12:=Nat.pow_le_pow_right (by decide) l12;have hM:=hR.same (As H d);have ndc:d≠c:=λz=>j8 hR (by unfold Sw.er;rw[AK z.symm]);have up:∀{G X:Hp},Sm [c] G X->Sm [c,T.aa,d] G X:=λk b o e n=>k b o e λz=>n (by rw[AE.mp z];exact .head _);have upd_:∀{G:Hp} {o:HO},Sm [c,T.aa,d] G (HZ G d o):=fun{G o} b u e n=>by
   rw[B6 λz=>n (by rw[z];exact .tail _ (.tail _ (.head _)))];exact e
  have tabU:∀{G:Hp} {o:HO} {R:A1 (IU×V)},G d=some (.dK R)->G7 G T.aa B8->G7 (HZ G d o) T.aa B8:=fun{G o R} e h=>by
   obtain⟨ps,e1,t,h2⟩:=h;exact⟨ps,(B6 (Q2 e1 e (by intro y;cases y))).trans e1,t,λl hl=>(h2 l hl).imp id λ⟨cc,e,hc⟩=>⟨cc,e,(B6 (Q2 hc (by assumption) (by intro y;cases y))).trans hc⟩⟩
  have rdU:∀{G:Hp} {o:HO},Rd G c (.dK (bK A g.length))->Rd (HZ G d o) c (.dK (bK A g.length)):=fun{G o} r=>by unfold Rd;rw[B6 ndc.symm];exact r
  refine C0 λN1 hN1=>?_;have key:∀(G:Hp) (R:A1 (IU×V)) (v:V),Sm [c,T.aa,d] H G->Rd G c (.dK (bK A g.length))->G7 G T.aa B8->G d=some (.dK R)->Kn R g.length (λj=>bp j\/j=m) (U0 g A B L G)->T0 R (.inl (m:Int))=some v->((v = .non/\¬P9 B m)\/∃r,v = .ref r/\U0 g A B L G m r)->N1 [some (.ref x),some (.ref f),some (.ref a),some (.int (m:Int)),some (.ref d),none,none,none] G:=by
   intro G R v kG rG TG ed KG ev hv;refine hN1 _ _ (C0 λN2 hN2=>?_);have get:∀{G:Hp} {R:A1 (IU×V)} {v:V},G d=some (.dK R)->T0 R (.inl (m:Int))=some v->NY G d (.int (m:Int)) (some v):=fun{G R v} e h=>.inl ⟨R,.inl (m:Int),.inl e,rfl,h.symm⟩;have fin:∀(G:Hp) (R:A1 (IU×V)) (r:A3) (v5 v6 v7:A5 V),Sm [c,T.aa,d] H G->Rd G c (.dK (bK A g.length))->G7 G T.aa B8->G d=some (.dK R)->Kn R g.length bp (U0 g A B L G)->T0 R (.inl (m:Int))=some (.ref r)->U0 g A B L G m r->N2 [some (.ref x),some (.ref f),some (.ref a),some (.int (m:Int)),some (.ref d),v5,v6,v7] G:=λG R r v5 v6 v7 kG rG TG ed KG ev tr=>hN2 _ _ (A6 rfl (A6 rfl ⟨d,_,rfl,get ed ev,q r R G kG rG TG ed KG tr⟩));refine A6 rfl (A6 rfl ⟨d,v,rfl,get ed ev,?_⟩);rcases hv with⟨rfl,nc⟩ | ⟨r,rfl,tr⟩;rotate_left
   .refine⟨rfl,_,rfl,W0 (λz=>absurd z (by simp)) λ_=>fin G R r _ _ _ kG rG TG ed ⟨KG.ks,λj u hj=>?_⟩ ev tr⟩;rcases KG.vs j u hj with⟨e,l | rfl⟩ | h
    .exact .inl ⟨e,l⟩
    .rw[ev,e]at hj;cases hj
    .exact .inr h
   refine⟨rfl,_,rfl,W0 (λ_=>?_) λz=>absurd (by simp) z⟩;have MeG:=Mc hR hT kG rG;have MG:=MeG.same (As G d);have ne3:∀{b:A3} {I:A1 V},H b=some (.lst I)->b∉[c,T.aa,d]:=fun{b I} e z=>by
    rcases AQ.mp z with z | z
    .exact N8 hM e z
    rcases AQ.mp z with z | z
    .exact Aa hT e (λ_ y=>by cases y) z
    .rw[AE.mp z,hd]at e;cases e
   have haG:=kG _ _ ha (ne3 ha);have dne:E3 A B g.length m≠[]:=λz=>by
    unfold O9 at hs;rw[AI nc,AK z]at hs;cases hs
   have kids:∀j∈E1 (M6 A B g.length L m) g.length,O9 A B g.length L k' (m ||| 2^j)=none:=by
    unfold O9 at hs;rw[AI nc,AI dne]at hs;exact FK.mp hs
   refine C0 λN3 hN3=>?_;refine A6 rfl (A6 rfl ⟨rfl,A6 rfl (A6 rfl (A6 rfl ⟨x,c,a,g,A,B,L,m,rfl,MG,haG,lo,λl ts H2 hl k2 M2 el aS mS=>?_⟩))⟩);have T2:=Y6 TG MG k2;have hne:ts≠[]:=λz=>dne (EI.mp (show(E3 A B g.length m).map _ = []from mS.symm.trans (by rw[z];rfl)));have mT:=Br mS;refine⟨x,c,l,g,A,B,L,m,ts,rfl,M2,el,hne,aS,T2,λH3 k3 M3 T3 S3=>?_⟩;have hb:=b9 (A:=A) (B:=B) (n:=g.length) (L:=L) (m:=m) (ads:=ts.map λt=>t.2.2.2) (λz=>hne (EI.mp z));rw[AB]at hb;have hb2:=AC hb;generalize hbi:U7 A B g.length L m (ts.map λt=>t.2.2.2)=bi at hb hb2⊢;generalize hti:ts[bi]=t at hb2;have ej:t.2.2=Hr g A B m (OL g A B L m):=by
    have h1:=congrArg (λl=>l[bi]?) mS;rw[AH,hb2,AH,HB]at h1;obtain⟨j,hj,ej⟩:=BK.mp h1.symm;unfold OL;rw[<-mT,hbi,AM,hj];exact ej.symm
   have ead:M6 A B g.length L m=t.2.2.2:=by rw[(Iv dne).2,ej];rfl
   have ek:E1 t.2.2.2 g.length=X1 g A B L m:=by rw[ej];rfl
   have ev2:(ts.map λt=>V.ref t.1).getD bi .non = .ref t.1:=by rw[AM,AH,hb2];rfl
   rw[ev2];obtain⟨et,eh,lh⟩:=S3 t (AL hb2);refine⟨t.1,_,rfl,IW.of et,rfl,_,_,rfl,_,_,rfl,rfl,?_⟩;rw[ead]at kids;refine hN3 _ _ (C0 λN4 hN4=>?_);obtain⟨dx,a',b,d',kb,e1,_⟩:=M3.ex;refine A6 rfl ⟨x,dx,A6 rfl ⟨e1,rfl,A6 rfl ⟨x,c,g,A,B,L,t.2.2.2,rfl,M3,λD H4 hD k4 M4 eD=>?_⟩⟩⟩;have T4:=Y6 T3 M3 k4;have up2:∀{G X:Hp},Sm [c,T.aa] G X->Sm [c,T.aa,d] G X:=λk b o e n=>k b o e λz=>n (by
    rcases AQ.mp z with z | z
    .rw[z];exact .head _
    .rw[AE.mp z];exact .tail _ (.head _))
   have kG4:Sm [c,T.aa,d] G H4:=((up k2).trans (up2 k3)).trans (up k4);have ed4:H4 d=some (.dK R):=by
    have nd2:d∉[c]:=λz=>ndc (AE.mp z);have ndp:d≠T.aa:=Aa TG ed λ_ y=>by cases y
    exact k4 _ _ (k3 _ _ (k2 _ _ ed nd2) (by simp[ndc,ndp])) nd2
   have rd4:=Er M4;have nDc:=N8 M4 eD;have nDp:=Aa T4 eD λ_ y=>by cases y
   have nDd:D≠d:=Q2 eD ed4 (by intro y;cases y);have eh4:=KO k4 eh (V8 M3 eh);have nhc:=V8 M4 eh4;have nhp:=Aa T4 eh4 λ_ y=>by cases y
   have nhd:t.2.1≠d:=Q2 eh4 ed4 (by intro y;cases y);refine⟨D,rfl,⟨_,IG.of eD⟩,λZ hZ=>?_⟩;have nZc:c≠Z:=λz=>by
    rcases rd4 with e | ⟨o,e⟩<;>rw[z,hZ]at e<;>cases e
   have nZd:d≠Z:=B2 ed4 hZ;have kH4:Sm [c,T.aa,d] H H4:=kG.trans kG4;have sZ:=HY.new (o:=.lst []) hZ;have lb:(E1 t.2.2.2 g.length).length<=12:=Nat.le_trans (O1 ..) l12;refine X8 (NR (IG.of eD)) (λi σ X=>(∃v0,σ = [v0,some (.ref x),some (.ref f),some (.ref a),some (.ref d),some (.int (m:Int))])/\Sm [c,T.aa,d] H4 X/\Rd X c (.dK (bK A g.length))/\G7 X T.aa B8/\(∃rs:A1 A3,rs.length=i/\X Z=some (.lst (rs.map V.ref))/\∀(i' j:Nat) r,(E1 t.2.2.2 g.length)[i']?=some j->rs[i']?=some r->U0 g A B L X (m ||| 2^j) r)/\∃kv',X d=some (.dK kv')/\Kn kv' g.length (λj=>bp j\/j=m) (U0 g A B L X)) ⟨⟨_,rfl⟩,sZ.sm,rd4.imp (sZ _ _) (λ⟨o,e⟩=>⟨o,sZ _ _ e⟩),Y6 T4 M4 (sZ.sm (D:=[c])),⟨[],rfl,A9,λi' j r _ h=>by cases h⟩,R,sZ _ _ ed4,KG.imp λj r h=>I7.keep (λb I e=>sZ _ _ (Kc rG TG ed kG4 b I e)) h⟩ (λi σ X _ h o e=>by rw[eD]at e;cases e;exact h.2.1 _ _ eD (by simp[nDc,nDp,nDd])) ?_ ?_
   .rintro i σ X y N hx ⟨⟨v0,rfl⟩,kG',rG',TG',⟨rs,lrs,eZ,tZ⟩,kv',ed',K'⟩ hN;have li:=(AF.mp hx).1;rw[AB]at li;rw[AH]at hx;obtain⟨j,hj,rfl⟩:=BK.mp hx;have mj:=AL hj;obtain⟨hjn,hjb⟩:=JA.mp mj;have hjm:=(Y2 (L:=L) hM.net dne (by rw[ead];exact hjb)).2;have gt:m<m ||| 2^j:=GA Nat.left_le_or λz=>hjm (by
     have:=(S6 m j j).mpr (.inr rfl);rw[<-z]at this;exact this)
    refine Ft ?_;refine A6 rfl (A6 rfl (A6 rfl (A6 rfl (A6 rfl (B9 rfl rfl ?_)))));dsimp only;rw[QN];have kHG':=kH4.trans kG';refine A6 rfl ⟨x,c,a,d,g,A,B,L,m ||| 2^j,kv',_,rfl,Mc hR hT kHG' rG',lo.or hjn,l12,TG',kHG' _ _ ha (ne3 ha),ed',λi hi=>?_,K',by rw[Fs hjm,AK hjn];omega,kids j mj,λr kv2 G2 k2' r2 T2' ed2 K2 tr2=>?_⟩
    .rcases hi with h | rfl
     .exact Nat.lt_trans (hbp i h) gt
     .exact gt
    have nZ3:Z∉[c,T.aa,d]:=λz=>by
     rcases AQ.mp z with z | z
     .exact nZc z.symm
     rcases AQ.mp z with z | z
     .obtain⟨ps,e,_⟩:=T4;rw[<-z,hZ]at e;cases e
     .exact nZd (AE.mp z).symm
    have eZ2:=k2' _ _ eZ nZ3;have kZ:∀b I,G2 b=some (.tup I)->(L2.HZ G2 Z (.lst (rs.map V.ref ++ [V.ref r]))) b=some (.tup I):=λb I e=>(B6 (Q2 e eZ2 (by intro y;cases y))).trans e;refine⟨_,eZ2,by rw[AB,sizeLine_eq];omega,hN _ _ ⟨⟨_,rfl⟩,λb o e n=>?_,?_,?_,⟨rs ++ [r],by rw[AZ,lrs];rfl,by rw[A9,AY];rfl,λi' j' r' h1 h2=>?_⟩,kv2,by rw[B6 nZd];exact ed2,K2.imp λj r h=>I7.keep kZ h⟩⟩
    .rw[B6 (B2 e hZ)];exact(kG'.trans k2') b o e n
    .unfold Rd;rw[B6 nZc];exact r2
    .obtain⟨ps,e1,tr,h2⟩:=T2';exact⟨ps,(B6 (Q2 e1 eZ2 (by intro y;cases y))).trans e1,tr,λl hl=>(h2 l hl).imp id λ⟨cc,e,hc⟩=>⟨cc,e,(B6 (Q2 hc eZ2 (by intro y;cases y))).trans hc⟩⟩
    .rcases Nat.lt_or_ge i' rs.length with c1 | c1
     .rw[DU c1]at h2;exact I7.keep (λb I e=>kZ b I (Kc rG' TG' ed' k2' b I e)) (tZ i' j' r' h1 h2)
     .rw[DM c1]at h2;have e0:i' - rs.length=0:=by
       have:=(AF.mp h2).1;simp at this;omega
      rw[e0]at h2;cases h2;have ei:i'=i:=by omega
      rw[ei,hj]at h1;cases h1;exact I7.keep kZ tr2
   .rintro σ X ⟨_,kG',rG',TG',⟨rs,lrs,eZ,tZ⟩,kv',ed',K'⟩;rw[AB]at lrs;refine hN4 _ _ ?_;have eh5:=kG' _ _ eh4 (by simp[nhc,nhp,nhd]);refine A6 rfl (A6 rfl ⟨Z,_,rfl,.inl ⟨IG.of eZ,λl2 hl2=>?_⟩⟩);refine⟨by show 1<=sizeLine;decide,λp hp=>?_⟩;have u1:=HY.new (o:=.tup (rs.map V.ref)) hl2;have u2:=HY.new (o:=.tup [.ref l2]) hp;have s12:=u1.trans u2;have eh6:=s12 _ _ eh5;have el2:=u2 _ _ (show(HZ X l2 (.tup (rs.map V.ref))) l2=some (.tup (rs.map V.ref))from A9);have last:∀(G2:Hp) (r:A3),HY (HZ (HZ X l2 (.tup (rs.map V.ref))) p (.tup [.ref l2])) G2->G2 r=some (.tup (t.2.2.1.map V.str ++ [.ref l2]))->∃H5,zDg G2 d (.int (m:Int)) (.ref r) H5/\∀v5 v6 v7,N2 [some (.ref x),some (.ref f),some (.ref a),some (.int (m:Int)),some (.ref d),v5,v6,v7] H5:=λG2 r sG2 er=>by
     have sG:=s12.trans sG2;have ed2:=sG _ _ ed';have kd:∀{o:HO} b I,G2 b=some (.tup I)->(L2.HZ G2 d o) b=some (.tup I):=fun{o} b I e=>(B6 (Q2 e ed2 (by intro y;cases y))).trans e;have trm:∀{o:HO},U0 g A B L (L2.HZ G2 d o) m r:=fun{o}=>by
      obtain⟨f,ef⟩:=Mi g.length m;unfold U0;rw[ef];refine .inr ⟨nc,dne,l2,rs,kd _ _ (by rw[er,ej];rfl),kd _ _ (sG2 _ _ el2),by rw[lrs,ek],λi j r' h1 h2=>?_⟩;have hf:=Vo (L:=L) hM.net lo dne (AL h1);have h3:=tZ i j r' (by rw[ek];exact h1) h2;unfold U0 at h3;rw[show Fd g.length (m ||| 2^j)=f by omega]at h3;exact h3.keep λb I e=>kd b I (sG _ _ e)
     refine⟨_,.inl ⟨kv',.inl (m:Int),ed2,rfl,by have:=K'.len;rw[sizeLine_eq];omega,rfl⟩,λv5 v6 v7=>?_⟩;refine fin _ _ r v5 v6 v7 ((kH4.trans kG').trans (sG.sm.trans upd_)) (rdU (rG'.imp (sG _ _) λ⟨o,e⟩=>⟨o,sG _ _ e⟩)) (tabU ed2 ?_) A9 ((K'.imp λj r h=>I7.keep (λb I e=>kd b I (sG _ _ e)) h).put lo (.inr ⟨r,rfl,trm⟩) λj nj hj=>hj.resolve_right nj) (by rw[w9,AK rfl]) trm;obtain⟨ps,e1,tr,h2⟩:=TG';exact⟨ps,sG _ _ e1,tr,λl hl=>(h2 l hl).imp id λ⟨cc,e,hc⟩=>⟨cc,e,sG _ _ hc⟩⟩
    refine⟨t.2.1,p,_,_,rfl,rfl,IW.of eh6,IW.of A9,List.cons_ne_nil _ _,by rw[AB,sizeLine_eq];show t.2.2.1.length+1<=_;omega,λz=>absurd z (by rw[ej];exact List.cons_ne_nil _ _),λ_ z hz=>?_⟩
    .obtain⟨H5,hp5,hn⟩:=last _ z (HY.new hz) A9;exact A6 rfl (A6 rfl ⟨d,H5,rfl,hp5,hn _ _ _⟩)
  have kn1:Kn kvs g.length (λj=>bp j\/j=m) (U0 g A B L H):=⟨hK.ks,λj u hj=>(hK.vs j u hj).imp (λh=>⟨h.1,.inl h.2⟩) id⟩;refine A6 rfl (A6 rfl ⟨d,_,rfl,.inl ⟨kvs,.inl (m:Int),.inl hd,rfl,rfl⟩,?_⟩);refine⟨_,rfl,W0 (λz=>?_) λz=>?_⟩
  .have putd:∀(H1:Hp) (v:V),Sm [c] H H1->IB T.ab H1 x c g A B L->((v = .non/\¬P9 B m)\/∃r,v = .ref r/\U0 g A B L H1 m r)->∃H5,zDg H1 d (.int (m:Int)) v H5/\N1 [some (.ref x),some (.ref f),some (.ref a),some (.int (m:Int)),some (.ref d),none,none,none] H5:=λH1 v k1 M1 hv=>by
    have ed1:=KO k1 hd ndc;have kd:∀{o:HO} b I,H1 b=some (.tup I)->(L2.HZ H1 d o) b=some (.tup I):=fun{o} b I e=>(B6 (Q2 e ed1 (by intro y;cases y))).trans e;have hv2:∀{o:HO},(v = .non/\¬P9 B m)\/∃r,v = .ref r/\U0 g A B L (L2.HZ H1 d o) m r:=fun{o}=>hv.imp id λ⟨r,e,h⟩=>⟨r,e,I7.keep kd h⟩;refine⟨_,.inl ⟨kvs,.inl (m:Int),ed1,rfl,by have:=hK.len;rw[sizeLine_eq];omega,rfl⟩,?_⟩;exact key _ _ v ((up k1).trans upd_) (rdU (Er M1)) (tabU ed1 (Y6 hT hM k1)) A9 ((kn1.imp λj r h=>I7.keep (λb I e=>kd b I (KO k1 e (V8 hM e))) h).put lo (hv2.imp (λh=>⟨h.1,.inr rfl⟩) id) λj _ h=>h) (by rw[w9,AK rfl]) hv2
   refine A6 rfl (A6 rfl ⟨x,c,g,A,B,L,m,rfl,hM,lo,λH1 k1 M1=>⟨λnc=>?_,λa' cl _ et=>?_⟩⟩)
   .obtain⟨H5,hp,hn⟩:=putd H1 .non k1 M1 (.inl ⟨rfl,λ⟨j,h1,h2⟩=>nc j h1 h2⟩);exact A6 rfl (A6 rfl ⟨d,H5,rfl,hp,hn⟩)
   .obtain⟨H5,hp,hn⟩:=putd H1 (.ref a') k1 M1 (.inr ⟨a',rfl,by obtain⟨f,ef⟩:=Mi g.length m;unfold U0;rw[ef];exact .inl ⟨cl,et⟩⟩);exact A6 rfl (A6 rfl ⟨d,H5,rfl,hp,hn⟩)
  .cases hv:T0 kvs (.inl (m:Int))with
   | none =>
    rw[hv]at z;exact absurd rfl z
   | some v =>
    refine key H kvs v (Sm.refl _ _) (Er hM) hT hd kn1 hv ?_;rcases hK.vs m v hv with⟨_,l⟩ | h
    .exact absurd (hbp m l) (CQ _)
    .exact .inr h
theorem Da(T:Tx K mg)(a:base.BuiltinsAt mg T.aa):∀k,IJ P w K mg base IZ (8+k) T.av.f T.av.fd ["marks", "splits_at", "sets", "held", "known"] (Dl T.ab T.aa T.aj.f k)
 | 0=>Km (n:=7) T a (by decide) ((R4 T).mono (by decide)) T.aj.F.kp T.aj.b (S:=λ_ _ _ _=>False) ⟨λ_ _ _ _ h=>h.elim,λ_ _ _ _ _ _ _ _ _ _ _ _ _ h=>h.elim⟩ λc e=>by omega
 | k+1=>Km (n:=8+k) T a (by omega) ((R4 T).mono (by omega)) T.aj.F.kp T.aj.b (Da T a k) λc e=>by cases e;rfl
end
def MB.one{ns:A1 Str}{ks:A1 (Str×Str)}{A a:A1 Nat}(h:MB ns ks A)(h':MB ns ks a)(i:Nat):A.getD i 0=a.getD i 0:=BL λj=>BR.mpr ((h.bit i j).trans (h'.bit i j).symm)
section
variable{A A' B B':A1 Nat}{n L L':Nat}
theorem X2(h:∀i,A.getD i 0=A'.getD i 0):o7 A=o7 A':=funext λm=>funext λj=>by unfold o7;simp only[h]
theorem W1(a:∀i,A.getD i 0=A'.getD i 0)(b:∀i,B.getD i 0=B'.getD i 0):E3 A B=E3 A' B':=funext λn=>funext λm=>by unfold E3;rw[X2 a,X2 b]
theorem Sq(a:∀i,A.getD i 0=A'.getD i 0)(b:∀i,B.getD i 0=B'.getD i 0):V0 A B=V0 A' B':=funext λn=>funext λm=>by unfold V0;rw[W1 a b];exact GT λj _=>a j
theorem Lp(a:∀i,A.getD i 0=A'.getD i 0)(b:∀i,B.getD i 0=B'.getD i 0):Io A B=Io A' B':=funext λn=>funext λl=>funext λm=>funext λad=>by unfold Io Fu;rw[X2 a,X2 b]
theorem Qj(a:∀i,A.getD i 0=A'.getD i 0)(b:∀i,B.getD i 0=B'.getD i 0):M6 A B=M6 A' B':=funext λn=>funext λl=>funext λm=>by unfold M6 U7;rw[Sq a b,Lp a b]
theorem Hc(b:∀i,A.getD i 0=A'.getD i 0)(a:∀i,B.getD i 0=B'.getD i 0):∀k,O9 A B n L k=O9 A' B' n L k
 | 0=>rfl
 | k+1=>funext λm=>by
  unfold O9;rw[Hc b a k,Qj b a,W1 b a,show P9 B=P9 B' from funext λm=>by unfold P9;rw[X2 a]]
theorem Ro(a:∀i,B.getD i 0=B'.getD i 0):P9 B=P9 B':=funext λm=>by unfold P9;rw[X2 a]
end
section
variable{ns:A1 Str}{A A' B B':A1 Nat}{L m:Nat}
theorem Tj(a:∀i,B.getD i 0=B'.getD i 0):Zk ns B m=Zk ns B' m:=by unfold Zk;rw[X2 a]
theorem Xy(a:∀i,A.getD i 0=A'.getD i 0)(b:∀i,B.getD i 0=B'.getD i 0):OL ns A B L m=OL ns A' B' L m:=by unfold OL U7;rw[W1 a b,Sq a b,Lp a b]
theorem Mb{H:Hp}(b:∀i,A.getD i 0=A'.getD i 0)(a:∀i,B.getD i 0=B'.getD i 0):∀k,I7 ns A B L H k=I7 ns A' B' L H k
 | 0=>rfl
 | k+1=>funext λm=>funext λr=>by
  unfold I7 X1 SA SM TB;rw[Mb b a k,Ro a,Tj a,W1 b a,Xy b a];simp only[b,a]
end
section
variable{P:CM}{w:F8}{K:PySem.W.Frag}{mg:Str->A5 A2}{base:IA}
theorem JL:H_ ["web", "some", "marks", "held", "found"] ["web", "some"] (B5 LK):=KN
def Oj(K:PySem.W.Frag)(h d:A3):Sp:=λi H Q _=>∃(g a:A3) (b:A1 Str) (f:A1 JF) (e:A1 Str) (A B:A1 Nat) (L m:Nat),i = [.ref g,.ref a]/\JR h H g b f/\b.length<=12/\SD K H a (e.map V.str)/\(∀y∈e,y∈b)/\e.Nodup/\e.length<=100/\G7 H d B8 /\
 MB b ((f.map λq=>q.2).map λk=>(k.2,k.1)) A/\MB b (f.map λq=>q.2) B/\(∀j,L.testBit j=true↔(A.getD j 0).testBit j=true)/\LS b.length m/\(∀(j:Nat) y,b[j]?=some y->(m.testBit j=true↔y∈e)) /\
  (∀r,O9 A B b.length L 13 m=some r->∀t l c,Sm [d] H c->G7 c d B8->H t=none->H l=none->c t=some (.tup [.str "told",.ref l])->c l=some (.lst ((IQ b r).map V.str))->Q (.ref t) c) /\
  (O9 A B b.length L 13 m=none->∀t l c,Sm [d] H c->G7 c d B8->H t=none->c t=some (.tup [.str "none",.ref l])->U0 b A B L c m l->Q (.ref t) c)
set_option maxHeartbeats 4000000 in
theorem w4(T:Tx K mg)(hB:base.BuiltinsAt mg T.aa):IJ P w K mg base IZ 22 T.au.f T.au.fd ["web", "some"] (Oj K T.ae T.aa):=by
 have g:IJ P w K mg base IZ 21 T.ak.f T.ak.fd ["marks", "held"] (y4 T.ab T.aa 13):=U3 T hB 13;have q:IJ P w K mg base IZ 21 T.av.f T.av.fd ["marks", "splits_at", "sets", "held", "known"] (Dl T.ab T.aa T.aj.f 13):=Da T hB 13;refine T.au.F.o1 JL λcdv A Z s H vs Q E M h=>?_
 .obtain⟨wb,a,D,qs,ss,A0,B0,L0,m0,rfl,hW,l12,ha,sub,nd,len,hT,mA0,mB0,hL0,lo0,hm0,q1,q2⟩:=h;refine⟨_,(B3 (C7 (i:=2) JL.nd rfl (.inl rfl) (Ka T.bF (Et T) (Rm M) rfl T.bE T.bo .nil K0 (A8 (pv 0) B1)))
   (B3 (C7 (i:=3) JL.nd rfl (.inl rfl) (D0 (pv 2) T.ad T.aB.m (Ab T) (Rm M) T.aB.b .nil K0 (A8 (pv 1) B1)))
   (B3 (C7 (i:=4) JL.nd rfl (.inl rfl) (D6 T.ak g (Rm M) (A8 (pv 2) (A8 (pv 3) B1))))
   (B3 (J9 (C2 Jb (pv 4) Bf (E6 _)) (B4 (C1 (K8 (A8 Q1 (A8 (D0 (pv 2) T.ad T.an.m (S9 T) (Rm M) T.an.b .nil K0 (A8 (pv 4) B1)) B1))))) C5)
   (B4 (C1 (K8 (A8 Q1 (A8 (D6 T.av q (Rm M) (@A8 _ _ _ _ _ (pv 2) (@A8 _ _ _ _ _ (zDx T.aj.m) (@A8 _ _ _ _ _ (M7 B1) (@A8 _ _ _ _ _ (pv 3) (@A8 _ _ _ _ _ Vb B1 (by rfl)) (by rfl)) (by rfl)) (by rfl)) (by rfl))) B1))))))))),?_⟩
  have p:∀{G G':Hp},HY G G'->G7 G T.aa B8->G7 G' T.aa B8:=fun{G G'} k ⟨ps,e,t,h⟩=>⟨ps,k _ _ e,t,λl hl=>(h l hl).imp id λ⟨c,e,hc⟩=>⟨c,e,k _ _ hc⟩⟩;refine C0 λN1 hN1=>?_;refine A6 rfl ?_;intro x dx nx ndx nex;have s0:HY H (HZ (HZ H dx (.own x)) x (.ins T.ab dx [])):=λb o e=>by
   rw[B6 (B2 e nx),B6 (B2 e ndx)];exact e
  refine⟨x,dx,wb,D,qs,rfl,A9,hW.same s0,λc A B L H1 hc k1 V mA mB=>⟨rfl,?_⟩⟩;have s1:HY H H1:=λb o e=>k1 b o (s0 b o e) (by simpa using B2 e nx);have N:H c=none:=s0.free hc;refine hN1 _ _ (C0 λN2 hN2=>?_);obtain⟨dx1,a1,b1,d1,kb1,e1,_⟩:=V.ex;refine A6 rfl ⟨x,dx1,A6 rfl ⟨e1,rfl,A6 rfl ⟨x,c,a,D,A,B,L,ss,rfl,V,(s1.at a).seq ha,sub,nd,len,λm H2 s2 lo hm=>?_⟩⟩⟩;have M2:=V.same s2;have T2:=p (s1.trans s2) hT;refine hN2 _ _ (C0 λN3 hN3=>?_);refine A6 rfl (A6 rfl ⟨x,c,D,A,B,L,m,rfl,M2,lo,T2,by omega,λH3 k3 M3 W=>?_⟩);have eA:∀i,A0.getD i 0=A.getD i 0:=λi=>mA0.one mA i;have eB:∀i,B0.getD i 0=B.getD i 0:=λi=>mB0.one mB i;have eL:L=L0:=(BL λj=>BR.mpr ((hL0 j).trans (by rw[eA j];exact(V.loops j).symm)):L0=L).symm;have em:m=m0:=Eq.symm <| BL λj=>by
   by_cases X:j<D.length
   .exact BR.mpr ((hm0 j _ (AC X)).trans (hm j _ (AC X)).symm)
   .rw[B_.mpr λz=>X (lo0 j z),B_.mpr λz=>X (lo j z)]
  subst eL em;rw[Hc eA eB]at q1 q2;have C:Sm [T.aa] H H3:=λb o e n=>k3 b o (s2 _ _ (s1 _ _ e)) λz=>by
   rcases AQ.mp z with z | z
   .rw[z,N]at e;cases e
   .exact n z
  have u:∀{G:Hp} {z:A3},Sm [T.aa] H G->G7 G T.aa B8->G z=none->H z=none:=fun{G z} k t O=>k.none (λy=>by
   obtain⟨ps,e,_⟩:=t;rw[AE.mp y,e]at O;cases O) O
  refine hN3 _ _ (C0 λN4 hN4=>?_);cases ho:O9 A B D.length L 13 m with
  | some r =>
   refine A6 rfl ⟨rfl,_,rfl,W0 (λ_=>?_) λz=>absurd (by simp[SR]) z⟩;obtain⟨dx3,a3,b3,d3,kb3,e3,_⟩:=M3.ex;refine A6 rfl ⟨x,dx3,A6 rfl ⟨e3,rfl,A6 rfl ⟨x,c,D,A,B,L,r,rfl,M3,λl H4 hl s4 el=>?_⟩⟩⟩;refine⟨by show 2<=sizeLine;decide,λt R=>?_⟩;have I:=HY.new (o:=.tup [.str "told",.ref l]) R;have s5:=s4.trans I;have T4:=p s4 W;exact q1 r ho t l _ (C.trans s5.sm) (p I T4) (u (C.trans s4.sm) T4 R) (u C W hl) A9 (I _ _ el)
  | none =>
   refine A6 rfl ⟨rfl,_,rfl,W0 (λz=>absurd z (by simp[SR])) λ_=>hN4 _ _ ?_⟩;refine A6 rfl ⟨CP _,λz O=>A6 rfl λd Y=>?_⟩;have J:=HY.new (o:=.lst []) O;have ez:(HZ H3 z (.lst [])) z=some (.lst []):=A9;generalize HZ H3 z (.lst [])=H4 at J ez Y⊢;have ud:=HY.new (o:=.dK []) Y;have M4:=M3.same J;have Me:IB T.ab (Sw.er (HZ H4 d (.dK [])) d) x c D A B L:=by
    rw[Px];exact M4.same λb o e=>by rw[Mn (B2 e Y)];exact e
   have T5:=p (J.trans ud) W;refine⟨x,c,z,d,D,A,B,L,m,[],λ_=>False,rfl,Me,lo,l12,T5,ud _ _ ez,A9,λ_ h=>h.elim,⟨⟨[],rfl,List.nodup_nil,λk h=>absurd h CH⟩,λk v h=>by cases h⟩,by omega,ho,λr kvs' H6 k6 r6 T6 ed6 K6 S=>?_⟩;refine⟨by show 2<=sizeLine;decide,λt R=>?_⟩;have I:=HY.new (o:=.tup [.str "none",.ref r]) R;have hdH:H d=none:=u (C.trans J.sm) (p J W) Y;have U:Sm [T.aa] H H6:=λb o e n=>k6 b o (ud _ _ (J _ _ (C b o e n))) λz=>by
    rcases AQ.mp z with z | z
    .rw[z,N]at e;cases e
    rcases AQ.mp z with z | z
    .exact n (by rw[z];exact .head _)
    .rw[AE.mp z,hdH]at e;cases e
   refine q2 ho t r _ (U.trans I.sm) (p I T6) (u U T6 R) A9 ?_;unfold U0 at S⊢;rw[Mb eA eB];exact S.keep λb xs e=>I _ _ e
end
def zFr{ns b:A1 Str}{z:Str}{i j m:Nat}(d:ns.Nodup)(f:b[i]?=some z)(c:ns[j]?=some z)(g:∀(j:Nat) y,ns[j]?=some y->(m.testBit j=true↔y∈b.take i))(k:Nat)(y:Str)(a:ns[k]?=some y):(m ||| 2^j).testBit k=true↔y∈b.take (i+1):=by
 rw[S6,g k y a,IT f,BD,AE];refine or_congr Iff.rfl ⟨λe=>?_,λe=>?_⟩
 .rw[e,c]at a;exact(BE a).symm
 .rw[e]at a;exact(List.getElem?_inj (AF.mp a).1 d).mp (a.trans c.symm)
section
variable{P:CM}{w:F8}{K:PySem.W.Frag}{mg:Str->A5 A2}{base:IA}
theorem JW:H_ ["_law_view", "_law_some", "_law_mask", "_law_name"] ["_law_view", "_law_some"] (B5 MJ):=KN
def Os(K:PySem.W.Frag):Sp:=λd H Q _=>∃(p v a:A3) (b:A1 Str) (e:A1 (Str×Str)) (A B:A1 Nat) (c:A1 Str),d = [.ref v,.ref a]/\JP H p v b e A B/\b.Nodup/\b.length<=100/\SD K H a (c.map V.str)/\(∀y∈c,y∈b) /\
 ∀m:Nat,LS b.length m->(∀(j:Nat) y,b[j]?=some y->(m.testBit j=true↔y∈c))->Q (.int (m:Int)) H
theorem X0(T:Tx K mg):IJ P w K mg base IZ 1 T.aJ.f T.aJ.fd ["_law_view", "_law_some"] (Os K):=by
 refine T.aJ.F.o1 JW λR A I s H Y Q E Z h=>?_
 .obtain⟨p,v,a,k,ks,A,B,M,rfl,S,x,U,W,sub,q⟩:=h;obtain⟨⟨n,s',u,N,C,e3,e4,_⟩,mA,mB⟩:=id S;refine⟨_,(B3 (C7 (i:=2) JW.nd rfl (.inl rfl) B7)
   (B3 (P8 PassesOwn.never rfl (piS K (pv 1)) (D8 (i:=3) JW.nd rfl (.inl rfl))
   (B4 (C7 (i:=2) JW.nd rfl (.inl rfl) (C8 y8 (pv 2) (C8 Bh B7 (Nt K PySem.F.plainAttrs_list PySem.F.slot_list_index PySem.F.type_list_index (Dm K) (G0 (NW K) (pv 0) B7 (λ_ _=>rfl)) (A8 (pv 3) B1)))))))
   (B4 (C1 (pv 2))))),?_⟩
  refine C0 λN1 J=>?_;refine J _ _ (C0 λO l=>?_);rcases W with h | h
  .refine A6 rfl ⟨a,rfl,.inl ⟨⟨_,h⟩,R9 (D:={ nx:=O,rt:=Q }) (NR h) (λi σ G=>G=H/\∃(m:Nat) (d:A5 V),σ = [some (.ref v),some (.ref a),some (.int (m:Int)),d]/\LS k.length m/\∀(j:Nat) y,k[j]?=some y->(m.testBit j=true↔y∈M.take i)) ⟨rfl,0,_,rfl,LS.zero _,λj y _=>by rw[CB];simp⟩ (λi σ G _ h o e=>by rw[h.1];exact e) ?_ ?_⟩⟩
   .rintro i σ G y r ⟨rfl,m,d,rfl,lo,b⟩ X g _;rw[AH]at r;obtain⟨z,t,rfl⟩:=BK.mp r;obtain⟨j,c⟩:=DK.mp (sub z (AL t));have L:=(AF.mp c).1;refine A6 rfl (A6 rfl ⟨v,_,B9 rfl rfl ⟨IG.of N,rfl,.inl ⟨rfl,_,IG.of C⟩,A6 rfl ⟨n,k,z,j,rfl,rfl,IG.of C,c,λm b z=>by have:=M9 x z c;omega,B9 rfl rfl ⟨⟨by omega,by omega,by decide⟩,B9 rfl rfl ?_⟩⟩⟩⟩);dsimp only;rw[Vy,QN];exact g _ _ ⟨rfl,m ||| 2^j,_,rfl,lo.or L,zFr x t c b⟩
   .rintro σ G ⟨rfl,m,d,rfl,lo,b⟩;rw[AB,CJ]at b;exact l _ _ (A6 rfl (q m lo b))
  .refine A6 rfl ⟨a,rfl,.inr ⟨⟨_,h⟩,R9 (D:={ nx:=O,rt:=Q }) (asT h) (λi σ G=>G=H/\∃(m:Nat) (d:A5 V),σ = [some (.ref v),some (.ref a),some (.int (m:Int)),d]/\LS k.length m/\∀(j:Nat) y,k[j]?=some y->(m.testBit j=true↔y∈M.take i)) ⟨rfl,0,_,rfl,LS.zero _,λj y _=>by rw[CB];simp⟩ (λi σ G _ h o e=>by rw[h.1];exact e) ?_ ?_⟩⟩
   .rintro i σ G y r ⟨rfl,m,d,rfl,lo,b⟩ X g _;rw[AH]at r;obtain⟨z,t,rfl⟩:=BK.mp r;obtain⟨j,c⟩:=DK.mp (sub z (AL t));have L:=(AF.mp c).1;refine A6 rfl (A6 rfl ⟨v,_,B9 rfl rfl ⟨IG.of N,rfl,.inl ⟨rfl,_,IG.of C⟩,A6 rfl ⟨n,k,z,j,rfl,rfl,IG.of C,c,λm b z=>by have:=M9 x z c;omega,B9 rfl rfl ⟨⟨by omega,by omega,by decide⟩,B9 rfl rfl ?_⟩⟩⟩⟩);dsimp only;rw[Vy,QN];exact g _ _ ⟨rfl,m ||| 2^j,_,rfl,lo.or L,zFr x t c b⟩
   .rintro σ G ⟨rfl,m,d,rfl,lo,b⟩;rw[AB,CJ]at b;exact l _ _ (A6 rfl (q m lo b))
end
def Cl{ns:A1 Str}{m:Nat}:∀i,i<=ns.length->Ar ns m i =(E1 m i).map λj=>ns.getD j ""
 | 0,_=>rfl
 | i+1,h=>by
  have e:=AC (show i<ns.length by omega);rw[P2 e,Q9,AY,Cl i (by omega)];congr 1;split
  .rw[BC,AM,e];rfl
  .rfl
def Nd(ns:A1 Str)(m:Nat):IQ ns m =(E1 m ns.length).map λj=>ns.getD j "":=Cl _ (Nat.le_refl _)
section
variable{ns:A1 Str}{A B:A1 Nat}{L m:Nat}
theorem Lv{z j:Nat}(b:z.testBit j=true)(lo:LS ns.length z):∃k,z.testBit k=true/\ns[k]?=some (S0 ns z):=by
 obtain⟨k,_,a,c⟩:=Wa b;exact⟨k,a,Au (lo k a) a c⟩
theorem Og{z:Nat}(lo:LS ns.length m):LS ns.length (z &&& m):=λj h=>lo j (by rw[BS,BI]at h;exact h.2)
theorem Mq(b:QP ns.length A B)(lo:LS ns.length m)(c:P9 B m):∃i k,ns[i]?=some (SA ns A B m)/\ns[k]?=some (SM ns B m)/\m.testBit i=true/\m.testBit k=true/\(A.getD k 0).testBit i=true:=by
 obtain⟨j,f,h⟩:=c;have l:(Zk ns B m).testBit j=true:=(Y8 j).mpr ⟨lo j f,f,h⟩;obtain⟨k,_,d,g⟩:=Wa l;obtain⟨n,o,i,p,q⟩:=(Y8 k).mp d;have r:=Pt d g;have s:(A.getD k 0 &&& m).testBit i=true:=by rw[BS,BI];exact⟨(b.tr k i).mpr q,p⟩
 obtain⟨t,a,e⟩:=Lv s (Og lo);rw[BS,BI]at a;refine⟨t,k,?_,Au n d g,a.2,o,a.1⟩;unfold SA;rw[r];exact e
theorem Iu(a:QP ns.length A B)(lo:LS ns.length m)(h:E3 A B ns.length m≠[]):∃i,ns[i]?=some (TB ns B m (OL ns A B L m))/\m.testBit i=true/\(A.getD i 0).testBit (OL ns A B L m)=true/\ns[OL ns A B L m]?=some (anB ns (OL ns A B L m))/\A.getD (OL ns A B L m) 0 &&& m=0:=by
 obtain⟨c,_⟩:=Iv (L:=L) h;generalize OL ns A B L m=j at c⊢;obtain⟨d,⟨p,e,f⟩,g⟩:=KM.mp c;have k:(B.getD j 0 &&& m).testBit p=true:=by rw[BS,BI];exact⟨(a.tr p j).mp f,e⟩
 obtain⟨i,b,l⟩:=Lv k (Og lo);rw[BS,BI]at b;refine⟨i,l,b.2,(a.tr i j).mpr b.1,Au d DZ λi n=>?_,BL λi=>?_⟩
 .rw[BW,BF];omega
 .rw[CB,B_];intro z;rw[BS,BI]at z;exact g ⟨i,z.2,(a.tr j i).mp z.1⟩
end
def Vm{xs:A1 V}{k:Nat}(h:k<=xs.length):Ww xs (some (k:Int)) none=xs.drop k:=by
 unfold Ww;rw[HT.QJ,HT.PL,FA h];exact CK (by rw[CY];omega)
def zCr{xs:A1 V}{k:Nat}(h:k<=xs.length):Ww xs none (some (k:Int))=xs.take k:=by
 unfold Ww;rw[HT.QJ,HT.PL,FA h];rfl
def Yy{t:TT}{σ:St}{H:Hp}{Q:Bool->Hp->Prop}(J:Bool->Hp->Prop)(c:∀b H,J b H->Q b H)(h:∀a,(∀b H,J b H->a b H)->t σ H a):t σ H Q:=h Q c
def Xf:∀a:A1 PyData,PyData.eqv (.list a) (.list [])=a.isEmpty
 | []=>by rw[PyData.eqv,PyData.eqvAll];rfl
 | _::_=>by rw[PyData.eqv,PyData.eqvAll];rfl
def zAg:Pl (.list []):=⟨by simp[PyData.canLay0,PyData.canLayAll0],by simp[PyData.depth,PyData.depthAll]⟩
def zBk{K:PySem.W.Frag}{H:Hp}{l:A3}(h:IG K H l []):Rp K H (.list []) (.ref l):=by
 simp only[Rp];exact⟨l,_,rfl,h,by simp[PD]⟩
def KD.sub{b:A1 Str}{c a:A1 JF}(h:KD b c)(s:a.Sublist c):KD b a :=
 ⟨λq d=>h.nm q (s.mem d),(s.map _).nodup h.nd,Nat.le_trans s.length_le h.len⟩
def Jj{K:PySem.W.Frag}{H:Hp}{t l:A3}{k:Str×Str}{a:A1 JF}{Q:VK}(c:H t=some (.tup [.str k.1,.str k.2]))(d:H l=some (.lst (M0 a)))(e:∀q∈a,E4 H q)
  (b:PySem.PyData.strOk k.1=true/\PySem.PyData.strOk k.2=true) (f:∀q∈a,PySem.PyData.strOk q.2.1=true/\PySem.PyData.strOk q.2.2=true) (q:Q (.bl (decide (k∈a.map λq=>q.2))) H):Zv K false (.ref t) (.ref l) H Q :=
 ⟨pd k,_,Ah c,.inl (Ef d e),⟨Gk b.1 b.2,by simp[pd,PyData.depth,PyData.depthAll]⟩,Ds f,by rw[AI (by decide),Be];exact q⟩
def Ya{K:PySem.W.Frag}{H:Hp}{t l:A3}{k j:Str×Str}{Q:VK}(c:H t=some (.tup [.str k.1,.str k.2]))(d:H l=some (.tup [.str j.1,.str j.2]))(a:PySem.PyData.strOk k.1=true/\PySem.PyData.strOk k.2=true)(b:PySem.PyData.strOk j.1=true/\PySem.PyData.strOk j.2=true)
  (q:Q (.bl (!decide (k=j))) H):zDi K (.ref t) (.ref l) H Q :=
 ⟨pd k,pd j,Ah c,Ah d,⟨Gk a.1 a.2,by simp[pd,PyData.depth,PyData.depthAll]⟩,⟨Gk b.1 b.2,by simp[pd,PyData.depth,PyData.depthAll]⟩,by rw[Ws];exact q⟩
section
variable{P:CM}{w:F8}{K:PySem.W.Frag}{mg:Str->A5 A2}{base:IA}
theorem LU:H_ ["_law_left_here", "_law_names_here", "_law_strikes_here", "_law_at", "_law_pair"] ["_law_left_here", "_law_names_here", "_law_strikes_here"] (B5 OE):=KN
def Xh:Sp:=λh H Q _=>∃(p n a:A3) (c:Int) (d:A1 Str) (f:A1 JF),h = [.ref p,.ref n,.ref a]/\IM H p c/\c<=900000/\H n=some (.lst (d.map V.str))/\S5 d/\0<d.length/\H a=some (.lst (M0 f))/\(∀q∈f,E4 H q)/\KD d f /\
 ∀l (b:A1 JF) g e,Sm [p] H e->e l=some (.lst (M0 b))->(∀q∈b,E4 e q)->KD d b->g<=c+10->IM e p g->Q (.ref l) e
set_option maxHeartbeats 4000000 in
theorem Im(T:Tx K mg):IJ P w K mg base IZ 3 T.a8.f T.a8.fd ["_law_left_here", "_law_names_here", "_law_strikes_here"] Xh:=by
 refine T.a8.F.o1 LU λcdv A outer s H vs Q E u h=>?_
 .obtain⟨p,n,a,c,I,g,rfl,hL,c1,hn,hN,hne,ha,hP,B,q⟩:=h;have Y:(I.map V.str).length=I.length:=AB ..;have L:(M0 g).length=g.length:=by unfold M0;rw[AB]
  have O:∀x∈I,PySem.PyData.strOk x=true:=λx hx=>Q5 (hN.1 x hx);have len200:=B.len;have len100:=hN.2.2;have at1:∀d:Nat,(d:Int) <(I.length:Int)->∃x,x∈I/\QO (I.map V.str) (d:Int)=some (.str x):=λd Z=>by
   have Z:d<I.length:=by omega
   exact⟨I[d],ET Z,C6 (by rw[AH,AC Z];rfl)⟩
  refine⟨_,(B3 (J9 (PW.pt (Hm (C2 (Xi K u.units) (pv 2) (M7 B1) (E6 _)) (Ez (PW.pt (V3 (C2 Xq (E8 (K7 K) T.am K1 (A8 (pv 2) B1)) B7 (E6 _)) (U4 (C2 Y9 (D6 T.al (D9 T) (Rm u) (A8 (pv 0) (A8 B7 B1))) B7 (E6 _)))))))) (B3 (C7 (i:=3) LU.nd rfl (.inl rfl) (D6 T.al (D9 T) (Rm u) (A8 (pv 0) (A8 (E8 (K7 K) T.am K1 (A8 (pv 2) B1)) B1))))
   (B4 (C1 (C8 Ln (Lk (slL K) (pv 2) Pq (Qf (pv 3))) (Lk (slL K) (pv 2) (Qf (C8 n9 (pv 3) B7)) Pq))))) C5)
   (B3 (C7 (i:=4) LU.nd rfl (.inr rfl) (K8 (A8 (G0 (NW K) (pv 1) (D6 T.al (D9 T) (Rm u) (A8 (pv 0) (A8 (E8 (K7 K) T.am K1 (A8 (pv 1) B1)) B1))) (λ_ _=>rfl)) (A8 (G0 (NW K) (pv 1) (D6 T.al (D9 T) (Rm u) (A8 (pv 0) (A8 (E8 (K7 K) T.am K1 (A8 (pv 1) B1)) B1))) (λ_ _=>rfl)) B1))))
   (B3 (J9 (C2 (Xj K u.units) (pv 4) (pv 2) rfl) (B4 (C1 (U5 (N':=["_law_one", "_law_pair"]) (cap:=[none,some 4]) (cl:=[("_law_pair",_)]) (Q3 ⟨⟨rfl,rfl,rfl,rfl⟩,trivial⟩ ⟨rfl,trivial⟩) rfl (NV K (pv 2)) (λ_ _ _ _=>by exact⟨(NC 0),(X6 (C2 (Xi K u.units) (pv 0) (pv 1) (E6 _))),(pv 0)⟩)))) C5)
   (B4 (C1 (C8 Ln (pv 2) (M7 (A8 (pv 4) B1)))))))),?_⟩
  have u1:HY H H:=λb o e=>e;have L1:=hL;have n1:=hn;have a1:=ha;have p1:=hP;have hpos:0<I.length:=hne;dsimp only[zCs,SO,zFn];refine Yy (t:=zFj _ (tOr _ _)) (λb S=>(∃c2,Sm [p] H S/\IM S p c2/\c2<=c+1)/\(b=true->0<g.length)/\(b=false->g.length<=149)) ?_ ?_
  .rintro b S ⟨⟨c2,k2,L2,hc2⟩,hT,hF⟩;have n2:=KO k2 n1 (L1.ne n1);have R:=KO k2 a1 (L1.neP a1);have p2:∀q∈g,E4 S q:=λq m=>Am (p1 q m) L1 k2;have kk:Sm [p] H S:=u1.sm.trans k2;cases b with
   | true =>
    refine Tf ?_;have hT:=hT rfl;refine A6 rfl (A6 rfl (B9 (a:=a) rfl (.inl (IG.of R)) (l7 (a:=p) (b:=c2) rfl L2 (by omega) (by rw[L];omega) (by rw[L];omega) λd H3 Z M L3=>?_)));rw[L]at Z;have a3:=KO M R (L2.neP R);have p3:∀q∈g,E4 H3 q:=λq m=>Am (p2 q m) L2 M;have hcl:d<=(M0 g).length:=by rw[L];omega
    have hcl1:d+1<=(M0 g).length:=by rw[L];omega
    refine A6 rfl (A6 rfl (A6 rfl ⟨a,A6 rfl ⟨IG.of a3,λt1 U=>?_⟩⟩));rw[zCr hcl];have C:=HY.new (o:=.lst ((M0 g).take d)) U;refine A6 rfl (A6 rfl (B9 rfl rfl (A6 rfl ⟨a,A6 rfl ⟨IG.of (C _ _ a3),λt2 ht2=>?_⟩⟩)));rw[show((d:Int)+1) =((d+1:Nat):Int)from by omega,Vm hcl1];have v2:=HY.new (o:=.lst ((M0 g).drop (d+1))) ht2;refine⟨t1,t2,B9 rfl rfl ⟨v2 _ _ A9,A9,?_,λW G=>?_⟩⟩
    .rw[AX,CY,L,sizeLine_eq];omega
    have v3:=(C.trans v2).trans (HY.new (o:=.lst ((M0 g).take d ++(M0 g).drop (d+1))) G);have er:(M0 g).take d ++(M0 g).drop (d+1)=M0 (g.eraseIdx d):=by
     unfold M0;rw[List.eraseIdx_eq_take_drop_succ,AY,List.map_take,List.map_drop]
    have sub:(g.eraseIdx d).Sublist g:=List.eraseIdx_sublist g d;refine q W (g.eraseIdx d) _ _ ((kk.trans M).trans v3.sm) (by rw[A9,er]) (λq m=>v3 _ _ (p3 q (sub.mem m))) (B.sub sub) ?_ (L3.same v3);omega
   | false =>
    refine Q6 ?_;have hF:=hF rfl;have sq:∀{H3},Sm [p] S H3->IG K H3 n (I.map V.str):=λh=>(h.at (by simpa using L2.ne n2)).seqL (IG.of n2);refine A6 rfl (A6 rfl (A6 rfl (B9 (a:=n) rfl (.inl (IG.of n2)) (l7 (a:=p) rfl L2 (by omega) (by rw[Y];omega) (by rw[Y];omega) λd1 H3 hd1 M L3=>?_))));rw[Y]at hd1;obtain⟨x,hx,ex⟩:=at1 d1 hd1;refine⟨n,_,B9 rfl rfl ⟨sq M,ex,?_⟩⟩;refine A6 rfl (A6 rfl (A6 rfl (B9 (a:=n) rfl (.inl (sq M)) (l7 (a:=p) rfl L3 (by omega) (by rw[Y];omega) (by rw[Y];omega) λd2 H4 hd2 k4 L4=>?_))));rw[Y]at hd2;obtain⟨y,hy,ey⟩:=at1 d2 hd2;have k4:=M.trans k4;refine⟨n,_,B9 rfl rfl ⟨sq k4,ey,by show 2<=sizeLine;decide,λt ht=>?_⟩⟩;have v5:=HY.new (o:=.tup [.str x,.str y]) ht;have e5:(HZ H4 t (.tup [.str x,.str y])) t=some (.tup [.str x,.str y]):=A9;have L5:=L4.same v5;have a5:=v5 _ _ (KO k4 R (L2.neP R));have p5:∀q∈g,E4 (HZ H4 t (.tup [.str x,.str y])) q:=λq m=>v5 _ _ (Am (p2 q m) L2 k4);have k5:Sm [p] H (HZ H4 t (.tup [.str x,.str y])):=(kk.trans k4).trans v5.sm;generalize HZ H4 t (.tup [.str x,.str y])=H5 at v5 e5 L5 a5 p5 k5⊢;refine A6 rfl (A6 rfl (Jj (k:=(x,y)) e5 a5 p5 ⟨O _ hx,O _ hy⟩ (λq m=>⟨O _ (B.nm q m).1,O _ (B.nm q m).2⟩) ⟨_,rfl,?_⟩));refine W0 (λh6=>?_) (λh6=>?_)
    .refine A6 rfl ⟨a,rfl,⟨_,IG.of a5⟩,λD hD=>?_⟩;refine X8 (NR (K:=K) (IG.of a5)) (λi σ H6=>(∃v0,σ = [v0,some (.ref t)])/\HY H5 H6/\H6 D=some (.lst (M0 ((g.take i).filter λq=>!decide (q.2 =(x,y))))))
      ⟨⟨_,rfl⟩,HY.new hD,A9⟩ (λi σ H6 _ ⟨_,J,_⟩=>J.at a) ?_ ?_
     .rintro i σ H6 v N hv ⟨⟨v0,rfl⟩,J,e6⟩ hN';unfold M0 at hv;rw[AH]at hv;cases hz:g[i]? with
      | none=>rw[hz]at hv;cases hv
      | some r =>
       rw[hz]at hv;cases hv;have u:=AL hz;have hi:=(AF.mp hz).1;refine A6 rfl (A6 rfl (Ya (k:=r.2) (j:=(x,y)) (J _ _ (p5 r u)) (J _ _ e5) ⟨O _ (B.nm r u).1,O _ (B.nm r u).2⟩ ⟨O _ hx,O _ hy⟩ ⟨_,rfl,?_⟩));have hf:((g.take (i+1)).filter λq=>!decide (q.2 =(x,y))) =((g.take i).filter λq=>!decide (q.2 =(x,y))) ++(if(!decide (r.2 =(x,y)))=true then [r]else []):=by
        rw[IT hz,EA,DT,GG]
       refine W0 (λc=>?_) (λc=>?_)
       .refine A6 rfl ⟨_,e6,?_,hN' _ _ ⟨⟨_,rfl⟩,J.upd hD,?_⟩⟩
        .unfold M0;rw[AB,sizeLine_eq];have:=(C_ (l:=g.take i) (p:=λq=>!decide (q.2 =(x,y)))).length_le;rw[AX]at this;omega
        .rw[A9,hf,AK c];unfold M0;rw[AY];rfl
       .refine hN' _ _ ⟨⟨_,rfl⟩,J,?_⟩;rw[hf,AI c,CT];exact e6
     .rintro σ H6 ⟨_,J,e6⟩;rw[L,CJ]at e6;have sub:=C_ (l:=g) (p:=λq=>!decide (q.2 =(x,y)));exact q D _ _ H6 (k5.trans J.sm) e6 (λq m=>J _ _ (p5 q (sub.mem m))) (B.sub sub) (by omega) (L5.same J)
    .have h6':(x,y)∉g.map λq=>q.2:=by simpa using h6
     refine A6 rfl (A6 rfl ⟨by show 1<=sizeLine;decide,λl1 hl1=>?_⟩);have v6:=HY.new (o:=.lst [V.ref t]) hl1;refine⟨a,l1,B9 rfl rfl ⟨v6 _ _ a5,A9,?_,λW G=>?_⟩⟩
     .rw[L,sizeLine_eq];show g.length+1<=_;omega
     have v7:=v6.trans (HY.new (o:=.lst (M0 g ++ [V.ref t])) G);refine q W (g ++ [(t,x,y)]) _ _ (k5.trans v7.sm) (by rw[A9];unfold M0;rw[AY];rfl) (λq m=>?_) ⟨λq m=>?_,?_,?_⟩ ?_ (L5.same v7)
     .rcases BD.mp m with z | z
      .exact v7 _ _ (p5 q z)
      .rw[AE.mp z];exact v7 _ _ e5
     .rcases BD.mp m with z | z
      .exact B.nm q z
      .rw[AE.mp z];exact⟨hx,hy⟩
     .rw[AY,FT];refine⟨B.nd,by simp,λa ha b hb e=>?_⟩;rw[BC,GN,AE]at hb;rw[e,hb]at ha;exact h6' ha
     .rw[AZ];show g.length+1<=_;omega
     .omega
  .intro Q' X;refine A6 rfl ⟨CP _,λt1 U=>?_⟩;have C:=HY.new (o:=.lst []) U;refine⟨_,_,Ef (C _ _ a1) (λq m=>C _ _ (p1 q m)),zBk (IG.of A9),Um λq m=>⟨hN.1 _ (B.nm q m).1,hN.1 _ (B.nm q m).2⟩,zAg,A6 rfl ?_⟩;rw[Xf];have L2:=L1.same C;have R:=C _ _ a1;generalize HZ H t1 (.lst [])=S at C L2 R⊢;refine W0 (λh1=>?_) (λh1=>?_)
   .have hps:0<g.length:=by
     cases g with
     | nil=>exact absurd h1 (by decide)
     | cons=>exact Nat.succ_pos _
    refine A6 rfl (B9 (a:=a) rfl (.inl (IG.of R)) (B9 rfl rfl (A6 rfl ?_)));rw[L];refine W0 (λh2=>?_) (λh2=>?_)
    .exact X _ _ ⟨⟨c,C.sm,L2,by omega⟩,λ_=>hps,λz=>Bool.noConfusion z⟩
    .have h2:¬(149:Int) <(g.length:Int):=λz=>h2 (AS z);refine A6 rfl (l7 (a:=p) rfl L2 (by omega) (by decide) (by decide) λd H3 Z M L3=>⟨rfl,_,rfl,?_⟩);exact X _ _ ⟨⟨_,C.sm.trans M,L3,by omega⟩,λ_=>hps,λ_=>by omega⟩
   .refine X _ _ ⟨⟨c,C.sm,L2,by omega⟩,λz=>Bool.noConfusion z,λ_=>?_⟩;cases g with
    | nil=>exact CP _
    | cons=>exact absurd rfl h1
theorem Mu:H_ ["web", "name"] ["web", "name"] (B5 OU):=KN
def i6(m e:A3)(a b:Str)(f:A1 V):Sp:=λn H Q _=>∃(h:A3) (y:Str) (d:A1 Str) (g:A1 JF) (A B:A1 Nat) (L i:Nat),n = .ref h :: .str y::f/\JR m H h d g/\d.length<=12/\d.Nodup/\d[i]?=some y/\G7 H e B8 /\
 MB d ((g.map λq=>q.2).map λk=>(k.2,k.1)) A/\MB d (g.map λq=>q.2) B/\(∀j,L.testBit j=true↔(A.getD j 0).testBit j=true) /\
  (∀r,O9 A B d.length L 13 (2^i)=some r->∀t l c,Sm [e] H c->G7 c e B8->H t=none->H l=none->c t=some (.tup [.str a,.ref l])->c l=some (.lst ((IQ d r).map V.str))->Q (.ref t) c) /\
  (O9 A B d.length L 13 (2^i)=none->∀t l c,Sm [e] H c->G7 c e B8->H t=none->c t=some (.tup [.str b,.ref l])->U0 d A B L c (2^i) l->Q (.ref t) c)
theorem Mo(T:Tx K mg)(S:base.BuiltinsAt mg T.aa):IJ P w K mg base IZ 23 T.aR.f T.aR.fd ["web", "name"] (i6 T.ae T.aa "told" "none" []):=by
 have d:IJ P w K mg base IZ 22 T.au.f T.au.fd ["web", "some"] (Oj K T.ae T.aa):=w4 T S;refine T.aR.F.o1 Mu λU A u s H vs Q E q h=>?_
 .obtain⟨v,y,O,R,A,B,L,i,rfl,x,C,V,n,W,X,Y,Z,q1,q2⟩:=h;have li:=(AF.mp n).1;obtain⟨okw,dw,_,_,_,_,_,_,ew,_⟩:=id x;refine⟨_,(B3 (K3 (D0 (pv 0) T.ap T.ai.m (M8 T) (Rm q) T.ai.b .nil K0 (A8 (pv 1) B1)))
   (B4 (C1 (D6 T.au d (Rm q) (A8 (pv 0) (A8 (M7 (A8 (pv 1) B1)) B1)))))),?_⟩
  refine C0 λN1 D=>?_;refine A6 rfl ⟨v,dw,A6 rfl ⟨ew,rfl,A6 rfl ⟨v,y,O,R,rfl,x,AL n,?_⟩⟩⟩;refine D _ _ ?_;refine A6 rfl (A6 rfl ⟨by show 1<=sizeLine;decide,λa ha=>?_⟩);have g:=HY.new (o:=.lst [.str y]) ha;have Ta:G7 (HZ H a (.lst [.str y])) T.aa B8:=by
   obtain⟨ps,e,t,h⟩:=W;exact⟨ps,g _ _ e,t,λl G=>(h l G).imp id λ⟨c,e,hc⟩=>⟨c,e,g _ _ hc⟩⟩
  refine⟨v,a,O,R,[y],A,B,L,2^i,rfl,x.same g,C,.inl (IG.of A9),λz hz=>by rw[AE.mp hz];exact AL n,FX _ _,(by show 1<=100;decide),Ta,X,Y,Z,λj p=>?_,λj z p=>?_,λr q t l I k J M G N el=>?_,λhn t l I k J M N tr=>?_⟩
  .rw[BW,BF]at p;omega
  .rw[BW,BF,AE];exact⟨λe=>by rw[e,p]at n;exact(BE n),λe=>by rw[e]at p;exact M9 V n p⟩
  .exact q1 r q t l I (g.sm.trans k) J (g.free M) (g.free G) N el
  .exact q2 hn t l I (g.sm.trans k) J (g.free M) N tr
theorem NB:H_ ["web", "name", "kind", "word", "plan"] ["web", "name", "kind"] (B5 PH):=KN
theorem Qq(T:Tx K mg)(X:base.BuiltinsAt mg T.aa):IJ P w K mg base IZ 24 T.aY.f T.aY.fd ["web", "name", "kind"] (i6 T.ae T.aa "asker" "doubter" [.str "some"]):=by
 have g:IJ P w K mg base IZ 23 T.aR.f T.aR.fd ["web", "name"] (i6 T.ae T.aa "told" "none" []):=Mo T X;have d:IJ P w K mg base IZ 1 T.bg.f T.bg.fd ["web", "name"] (λ_ _ _ _=>False):=⟨λ_ _ _ _ h=>h.elim,λ_ _ _ _ _ _ _ _ _ _ _ _ _ h=>h.elim⟩;refine T.aY.F.o1 NB λY A D s H vs Q E p h=>?_
 .obtain⟨G,y,U,V,A,B,L,i,rfl,I,J,Z,W,hT,mA,mB,hL,q1,q2⟩:=h;obtain⟨okw,dw,_,_,_,_,_,_,ew,_⟩:=id I;refine⟨_,(B3 (K3 (D0 (pv 0) T.ap T.ai.m (M8 T) (Rm p) T.ai.b .nil K0 (A8 (pv 1) B1)))
   (B3 (J9 (C2 Y9 (pv 2) Q1 (E6 _)) (B4 (C1 (D6 T.bg d (Rm p) (A8 (pv 0) (A8 (pv 1) B1))))) C5)
   (B3 (Ad (D6 T.aR g (Rm p) (A8 (pv 0) (A8 (pv 1) B1))) (RB K (n:=2) (E5 (D8 (i:=3) NB.nd rfl (.inl rfl)) (E5 (D8 (i:=4) NB.nd rfl (.inl rfl)) S4))))
   (B3 (J9 (C2 Y9 (pv 3) Q1 (E6 _)) (B4 (C1 (K8 (A8 Q1 (A8 (pv 4) B1))))) C5)
   (B4 (C1 (K8 (A8 Q1 (A8 (pv 4) B1))))))))),?_⟩
  refine C0 λN1 M=>?_;refine A6 rfl ⟨G,dw,A6 rfl ⟨ew,rfl,A6 rfl ⟨G,y,U,V,rfl,I,AL W,?_⟩⟩⟩;refine M _ _ (C0 λN2 N=>?_);refine A6 rfl ⟨rfl,_,rfl,Q6 (N _ _ (C0 λN3 q=>?_))⟩;refine A6 rfl (A6 rfl ⟨G,y,U,V,A,B,L,i,rfl,I,J,Z,W,hT,mA,mB,hL,λr p t l H1 k u ht v O el=>?_,λhn t l H1 k u ht O tr=>?_⟩)
  .refine⟨t,_,rfl,IW.of O,rfl,_,_,rfl,_,_,rfl,rfl,?_⟩;refine q _ _ (C0 λN4 x=>?_);refine A6 rfl ⟨rfl,_,rfl,Tf ?_⟩;refine A6 rfl ⟨by show 2<=sizeLine;decide,λz a=>?_⟩;have j:=HY.new (o:=.tup [.str "asker",.ref l]) a;have R:H z=none:=k.none (λy=>by
    obtain⟨C,e,_⟩:=u;rw[AE.mp y,e]at a;cases a) a
   refine q1 r p z l _ (k.trans j.sm) ?_ R v A9 (j _ _ el);obtain⟨C,e,t,h⟩:=u;exact⟨C,j _ _ e,t,λl v=>(h l v).imp id λ⟨c,e,S⟩=>⟨c,e,j _ _ S⟩⟩
  .refine⟨t,_,rfl,IW.of O,rfl,_,_,rfl,_,_,rfl,rfl,?_⟩;refine q _ _ (C0 λN4 x=>?_);refine A6 rfl ⟨rfl,_,rfl,Q6 (x _ _ ?_)⟩;refine A6 rfl ⟨by show 2<=sizeLine;decide,λz a=>?_⟩;have j:=HY.new (o:=.tup [.str "doubter",.ref l]) a;have R:H z=none:=k.none (λy=>by
    obtain⟨C,e,_⟩:=u;rw[AE.mp y,e]at a;cases a) a
   refine q2 hn z l _ (k.trans j.sm) ?_ R A9 (I7.keep (λb xs e=>j _ _ e) tr);obtain⟨C,e,t,h⟩:=u;exact⟨C,j _ _ e,t,λl v=>(h l v).imp id λ⟨c,e,S⟩=>⟨c,e,j _ _ S⟩⟩
end
def Pp{c e:Hp->A3->A1 V->Prop}{l d:A3}{xs ys:A1 V}(n:xs.length=ys.length){g:TG}{f:TT}{h:QZ}{σ:St}{H:Hp}{Q:St->Hp->Prop}(Pv:Nat->St->Hp->Prop)(m:Pv 0 σ H)(a:∀i σ H,Pv i σ H->c H l xs/\e H d ys)
  (o:∀i σ H T x y (N:St->Hp->Prop),xs[i]?=some x->ys[i]?=some y->Pv i σ H->H T=none->(∀σ' H',Pv (i+1) σ' H'->N σ' H')->g (.ref T) σ (HZ H T (.tup [x,y])) λσ2 q=>f σ2 q λb j=>if b=true then h σ2 j N else N σ2 j)
  (r:∀σ H,Pv xs.length σ H->Q σ H):Lr g f h (Zt c e l d) σ H Q:=by
 refine Ak (n:=xs.length) Pv m (λi σ H k p=>?_) (λσ H p=>?_) (λi σ H v H' N k p y s=>?_) r
 .exact⟨xs,ys,_,_,(a i σ H p).1,(a i σ H p).2,by omega,AC k,AC (by omega)⟩
 .exact⟨xs,ys,(a _ σ H p).1,(a _ σ H p).2,by omega,rfl⟩
 .obtain⟨T,x,z,rfl,t,rfl,u,w⟩:=y;exact o i σ H T x z N (u xs (a i σ H p).1) (w ys (a i σ H p).2) p t s
def De{ns:A1 Str}{ks:A1 (Str×Str)}{A B:A1 Nat}{i j:Nat}{x y:Str}(a:QP ns.length A B)(e:MB ns ks B)(hi:ns[i]?=some x)(b:ns[j]?=some y):(A.getD j 0).testBit i=true↔(x,y)∈ks:=by
 rw[a.tr,e.bit];constructor
 .rintro⟨k,f,c,d⟩;rw[hi]at c;rw[b]at d;cases c;cases d;exact f
 .exact λh=>⟨_,h,hi,b⟩
section
variable{P:CM}{w:F8}{K:PySem.W.Frag}{mg:Str->A5 A2}{base:IA}
theorem KS:H_ ["_law_names_here", "_law_strikes_here", "_law_held", "_law_tree_here", "_law_one", "_law_other", "_law_against"] ["_law_names_here", "_law_strikes_here", "_law_held", "_law_tree_here"] (B5 OB):=KN
def y3(K:PySem.W.Frag)(k:Nat):Sp:=λg H Q _=>∃(n a h r:A3) (d:A1 Str) (c:A1 JF) (e b:A1 Str) (A B:A1 Nat) (L m:Nat),g = [.ref n,.ref a,.ref h,.ref r]/\H n=some (.lst (d.map V.str))/\H a=some (.lst (M0 c))/\(∀q∈c,E4 H q)/\S5 d/\KD d c/\b.Perm d/\b.Pairwise PN/\b.length<=12 /\
 MB b ((c.map λq=>q.2).map λk=>(k.2,k.1)) A/\MB b (c.map λq=>q.2) B/\H h=some (.lst (e.map V.str))/\e.length+k<=100/\LS b.length m/\(∀(j:Nat) y,b[j]?=some y->(m.testBit j=true↔y∈e))/\I7 b A B L H k m r/\∀f,HY H f->Q (.bl true) f
set_option maxHeartbeats 2000000 in
theorem Hx(T:Tx K mg){n k:Nat}{S:Sp}(d:IJ P w K mg base IZ n T.as.f T.as.fd ["_law_names_here", "_law_strikes_here", "_law_held", "_law_tree_here"] S)(hS:∀k',k=k'+1->S=y3 K k'):IJ P w K mg base IZ (n+1) T.as.f T.as.fd ["_law_names_here", "_law_strikes_here", "_law_held", "_law_tree_here"] (y3 K k):=by
 refine T.as.F.o1 KS λcdv A outer s H vs Q E hr h=>?_
 .obtain⟨n',a,hh,r,ss,ps,hs,c,A,B,L,m,rfl,en,ea,Y,NO,O,Z,srt,l12,mA,mB,eh,lh,lo,hm,tr,q⟩:=h;refine⟨_,(B3 (J9 (PW.pt (V3 (P5 (P3 (E8 (j0 K) T.ay K5 (A8 (pv 3) (A8 (Nw T.a4 Y1) B1))))) (V3 (C2 zBl (E8 (K7 K) T.am K1 (A8 (pv 3) B1)) B7 (E6 _)) (V3 (C2 (V9 K) (G0 (OM K) (pv 3) B7 (λ_ _=>rfl)) (pv 0) rfl) (U4 (C2 (V9 K) (G0 (OM K) (pv 3) B7 (λ_ _=>rfl)) (pv 0) rfl)))))) (B4 (C1 X3)) C5)
   (B3 (Ad (K8 (A8 (G0 (OM K) (pv 3) B7 (λ_ _=>rfl)) (A8 (G0 (OM K) (pv 3) B7 (λ_ _=>rfl)) B1))) (RB K (n:=2) (E5 (D8 (i:=4) KS.nd rfl (.inl rfl)) (E5 (D8 (i:=5) KS.nd rfl (.inr rfl)) S4))))
   (B3 (J9 (C2 Y9 (G0 (OM K) (pv 3) B7 (λ_ _=>rfl)) Q1 (E6 _)) (B4 (C1 (Hj (O3 Y9 (E8 (K7 K) T.am K1 (A8 (pv 3) B1)) B7 (E6 _)) (Hj (O3 (Nj K) (pv 4) (pv 2) rfl) (Hj (O3 (Nj K) (pv 5) (pv 2) rfl) (Pk (O3 (Xj K hr.units) (K8 (A8 (pv 4) (A8 (pv 5) B1))) (pv 1) rfl))))))) C5)
   (B3 (J9 (PW.pt (V3 (C2 Ij (G0 (OM K) (pv 3) B7 (λ_ _=>rfl)) Q1 (E6 _)) (V3 (C2 Ij (E8 (K7 K) T.am K1 (A8 (pv 3) B1)) B7 (E6 _)) (V3 (C2 (V9 K) (pv 4) (pv 2) rfl) (U4 (C2 (w8 K hr.units) (K8 (A8 (pv 5) (A8 (pv 4) B1))) (pv 1) rfl)))))) (B4 (C1 X3)) C5)
   (B3 (C7 (i:=6) KS.nd rfl (.inl rfl) (E8 (Dw K) T.aV V2 (A8 (U5 (N':=["_law_name", "_law_strikes_here", "_law_other"]) (cap:=[none,some 1,some 5]) (cl:=[("_law_strikes_here",_),("_law_other",_)]) (Q3 ⟨⟨rfl,rfl,rfl,rfl⟩,⟨⟨rfl,rfl,rfl,rfl⟩,trivial⟩⟩ ⟨rfl,⟨rfl,trivial⟩⟩) rfl (NV K (pv 0)) (λ_ _ _ _=>by exact⟨(NC 0),(X6 (C2 (Xj K hr.units) (K8 (A8 (pv 0) (A8 (pv 2) B1))) (pv 1) rfl)),(pv 0)⟩)) B1)))
   (B3 (J9 (PW.pt (V3 (P3 (E8 (Wu K) T.bC Wi (A8 (U5 (N':=["_law_name", "_law_held"]) (cap:=[none,some 2]) (cl:=[("_law_held",_)]) (Q3 ⟨⟨rfl,rfl,rfl,rfl⟩,trivial⟩ ⟨rfl,trivial⟩) rfl (NV K (pv 6)) (λ_ _ _ _=>by exact⟨(NC 0),K4,(O3 (Nj K) (pv 0) (pv 1) rfl)⟩)) B1))) (U4 (P5 (P3 (E8 (j0 K) T.ay K5 (A8 (G0 (OM K) (pv 3) B7 (λ_ _=>rfl)) (A8 (Nw T.a4 Y1) B1)))))))) (B4 (C1 X3)) C5)
   (B3 (J9 (C2 Ij (E8 (K7 K) T.am K1 (A8 (G0 (OM K) (pv 3) B7 (λ_ _=>rfl)) B1)) (E8 (K7 K) T.am K1 (A8 (pv 6) B1)) (E6 _)) (B4 (C1 X3)) C5)
   (B4 (C1 (E8 (Ls K) T.bk Lm (A8 (U5 (N':=["_law_name", "_law_inner", "_law_names_here", "_law_strikes_here", "_law_held"]) (cap:=[none,none,some 0,some 1,some 2]) (cl:=[("_law_strikes_here",_),("_law_names_here",_),("_law_held",_)]) (Q3 ⟨⟨rfl,rfl,rfl,rfl⟩,⟨⟨rfl,rfl,rfl,rfl⟩,⟨⟨rfl,rfl,rfl,rfl⟩,trivial⟩⟩⟩ ⟨rfl,⟨rfl,⟨rfl,trivial⟩⟩⟩) rfl (zGl K T.bG (A8 (pv 6) (A8 (G0 (OM K) (pv 3) B7 (λ_ _=>rfl)) B1))) (λ_ _ _ _=>by exact⟨(RB K (n:=2) (E5 (NC 0) (E5 (NC 1) S4))),K4,(D6 T.as d (hr.mono (Nat.le_refl _)) (A8 (pv 2) (A8 (pv 3) (A8 (C8 Ln (pv 4) (M7 (A8 (pv 0) B1))) (A8 (pv 1) B1)))))⟩)) B1))))))))))),?_⟩
  obtain⟨k',rfl⟩:∃k',k=k'+1:=by
   cases k with
   | zero=>exact tr.elim
   | succ k=>exact⟨k,rfl⟩
  have eS:=hS k' rfl;subst eS;have nd:c.Nodup:=Z.nodup_iff.mpr NO.2.1;have p:QP c.length A B:=mA.net mB;have ok:∀y∈c,PySem.PyData.strOk y=true:=λy hy=>Q5 (NO.1 y (Z.mem_iff.mp hy));have okp:∀q∈ps,PySem.PyData.strOk q.2.1=true/\PySem.PyData.strOk q.2.2=true:=λq hq=>⟨Q5 (NO.1 _ (O.nm q hq).1),Q5 (NO.1 _ (O.nm q hq).2)⟩;refine C0 λN1 hN1=>?_;rcases tr with⟨cl,er⟩ | ⟨ncl,dne,l,rs,er,el,len,kids⟩
  .obtain⟨i,k,v,R,mi,mk,ab⟩:=Mq p lo cl;generalize SA c A B m=X at er v;generalize SM c B m=I at er R;have ma:=AL v;have mb:=AL R;refine A6 rfl ⟨.ref r, "tuple",_,true,rfl,.tup er,rfl,_,rfl,?_⟩;refine Q6 ?_;refine A6 rfl ⟨r,_,rfl,.inr (IW.of er),?_⟩;refine B9 rfl rfl ⟨_,rfl,?_⟩;refine Q6 ?_;refine A6 rfl ⟨r,_,B9 rfl rfl ⟨IW.of er,C6 (j:=1) rfl,?_⟩⟩;refine A6 rfl (P1 (.inl (IG.of en)) ⟨_,rfl,?_⟩);rw[AS (Z.mem_iff.mp ma)];refine Q6 ?_;refine A6 rfl ⟨r,_,B9 rfl rfl ⟨IW.of er,C6 (j:=2) rfl,?_⟩⟩;refine A6 rfl (P1 (.inl (IG.of en)) ⟨_,rfl,?_⟩);rw[AS (Z.mem_iff.mp mb)];refine Q6 (hN1 _ _ (C0 λN2 hN2=>?_));refine A6 rfl ⟨r,_,B9 rfl rfl ⟨IW.of er,C6 (j:=1) rfl,?_⟩⟩;refine A6 rfl ⟨r,_,B9 rfl rfl ⟨IW.of er,C6 (j:=2) rfl,?_⟩⟩;refine⟨by show 2<=sizeLine;decide,λt ht=>?_⟩;have C:=HY.new (o:=.tup [.str X,.str I]) ht;refine⟨t,_,rfl,IW.of A9,rfl,_,_,rfl,_,_,rfl,rfl,?_⟩;generalize HZ H t (.tup [.str X,.str I])=H1 at C⊢;refine hN2 _ _ (C0 λN3 hN3=>?_);refine A6 rfl ⟨r,_,B9 rfl rfl ⟨IW.of (C _ _ er),C6 (j:=0) rfl,rfl,_,rfl,?_⟩⟩;refine Tf ?_;refine A6 rfl ⟨r,_,rfl,.inr (IW.of (C _ _ er)),rfl,_,rfl,?_⟩;refine Tf ?_;refine A6 rfl (A6 rfl (j4 (.inl (IG.of (C _ _ eh))) ?_));rw[AS ((hm i _ v).mp mi)];refine⟨true,rfl,Tf ?_⟩;refine A6 rfl (A6 rfl (j4 (.inl (IG.of (C _ _ eh))) ?_));rw[AS ((hm k _ R).mp mk)];refine⟨true,rfl,Tf ?_⟩;refine A6 rfl (A6 rfl ⟨by show 2<=sizeLine;decide,λt2 ht2=>?_⟩);have U:=C.trans (HY.new (o:=.tup [.str X,.str I]) ht2);refine A6 rfl (Jj (k:=(X,I)) A9 (U _ _ ea) (G9 U Y) ⟨ok _ ma,ok _ mb⟩ okp ?_);rw[AS ((De p mB v R).mp ab)];exact q _ U
  .obtain⟨i,v,mi,ij,hj,hz⟩:=Iu (L:=L) p lo dne;have jn:∀j∈X1 c A B L m,j<c.length:=λj h=>(Ph p dne h).1;have ek:(X1 c A B L m).map (λj=>c.getD j "")=IQ c (A.getD (OL c A B L m) 0):=(Nd ..).symm;generalize X1 c A B L m=js at len kids jn ek;generalize TB c B m (OL c A B L m)=X at er v;generalize anB c (OL c A B L m)=I at er hj;generalize OL c A B L m=j at ij hj hz ek;have jl:=(AF.mp hj).1;have ma:=AL v;have mb:=AL hj;refine A6 rfl ⟨.ref r, "tuple",_,true,rfl,.tup er,rfl,_,rfl,?_⟩;refine Q6 ?_;refine A6 rfl ⟨r,_,rfl,.inr (IW.of er),?_⟩;refine B9 rfl rfl ⟨_,rfl,?_⟩;refine Q6 ?_;refine A6 rfl ⟨r,_,B9 rfl rfl ⟨IW.of er,C6 (j:=1) rfl,?_⟩⟩;refine A6 rfl (P1 (.inl (IG.of en)) ⟨_,rfl,?_⟩);rw[AS (Z.mem_iff.mp ma)];refine Q6 ?_;refine A6 rfl ⟨r,_,B9 rfl rfl ⟨IW.of er,C6 (j:=2) rfl,?_⟩⟩;refine A6 rfl (P1 (.inl (IG.of en)) ⟨_,rfl,?_⟩);rw[AS (Z.mem_iff.mp mb)];refine Q6 (hN1 _ _ (C0 λN2 hN2=>?_));refine A6 rfl ⟨r,_,B9 rfl rfl ⟨IW.of er,C6 (j:=1) rfl,?_⟩⟩;refine A6 rfl ⟨r,_,B9 rfl rfl ⟨IW.of er,C6 (j:=2) rfl,?_⟩⟩;refine⟨by show 2<=sizeLine;decide,λt ht=>?_⟩;have C:=HY.new (o:=.tup [.str X,.str I]) ht;refine⟨t,_,rfl,IW.of A9,rfl,_,_,rfl,_,_,rfl,rfl,?_⟩;generalize HZ H t (.tup [.str X,.str I])=H1 at C⊢;refine hN2 _ _ (C0 λN3 hN3=>?_);refine A6 rfl ⟨r,_,B9 rfl rfl ⟨IW.of (C _ _ er),C6 (j:=0) rfl,rfl,_,rfl,?_⟩⟩;refine Q6 (hN3 _ _ (C0 λN4 hN4=>?_));refine A6 rfl ⟨r,_,B9 rfl rfl ⟨IW.of (C _ _ er),C6 (j:=0) rfl,rfl,_,rfl,?_⟩⟩;refine Q6 ?_;refine A6 rfl ⟨r,_,rfl,.inr (IW.of (C _ _ er)),rfl,_,rfl,?_⟩;refine Q6 ?_;refine A6 rfl (A6 rfl (P1 (.inl (IG.of (C _ _ eh))) ⟨_,rfl,?_⟩));rw[AS ((hm i _ v).mp mi)];refine Q6 ?_;refine A6 rfl (A6 rfl ⟨by show 2<=sizeLine;decide,λt2 ht2=>?_⟩);have U:=C.trans (HY.new (o:=.tup [.str I,.str X]) ht2);refine A6 rfl (V7 (k:=(I,X)) A9 (U _ _ ea) (G9 U Y) ⟨ok _ mb,ok _ ma⟩ okp ⟨_,rfl,?_⟩);rw[AS ((De p mB hj v).mp ij)];generalize HZ H1 t2 (.tup [.str I,.str X])=H2 at U⊢;refine Q6 (hN4 _ _ (C0 λN5 hN5=>?_));refine A6 rfl ⟨n',rfl,⟨_,IG.of (U _ _ en)⟩,λD hD=>Df (r:=V.str) V.str (NR (IG.of (U _ _ en))) (λy=>decide ((y,I)∈ps.map λq=>q.2)) (by have:=NO.2.2;omega) hD (λy my G W M hM=>?_) (λy my G W M hM=>A6 rfl hM) λσ' G W eG=>?_⟩
   .refine A6 rfl (A6 rfl ⟨by show 2<=sizeLine;decide,λt3 ht3=>?_⟩);have u3:=HY.new (o:=.tup [.str y,.str I]) ht3;have u23:=(U.trans W).trans u3;exact A6 rfl (Jj (k:=(y,I)) A9 (u23 _ _ ea) (G9 u23 Y) ⟨Q5 (NO.1 y my),ok _ mb⟩ okp ⟨_,rfl,hM _ u3⟩)
   refine⟨D,_,rfl,IG.of eG,λag ss' hag pm' srt'=>?_⟩;have e':ss'=IQ c (A.getD j 0):=by
    refine i9 srt' (srt.sublist (d0 ..)) (pm'.trans ((List.perm_ext_iff_of_nodup (NO.2.1.sublist C_) (nd.sublist (d0 ..))).mpr λy=>?_));rw[BQ,BF,MA];constructor
    .rintro⟨h1,h2⟩;obtain⟨k,R⟩:=DK.mp (Z.mem_iff.mpr h1);exact⟨k,(De p mB R hj).mpr h2,R⟩
    .rintro⟨k,h1,R⟩;exact⟨Z.mem_iff.mp (AL R),(De p mB R hj).mp h1⟩
   subst e';have u3:=(U.trans W).trans (HY.new (o:=.lst ((IQ c (A.getD j 0)).map V.str)) hag);have g:(HZ G ag (.lst ((IQ c (A.getD j 0)).map V.str))) ag=some (.lst ((IQ c (A.getD j 0)).map V.str)):=A9;generalize HZ G ag (.lst ((IQ c (A.getD j 0)).map V.str))=H3 at u3 g⊢;clear eG W hD U C;have lag:(IQ c (A.getD j 0)).length<=12:=Nat.le_trans (d0 ..).length_le l12;have noh:∀y∈IQ c (A.getD j 0),¬y∈hs:=λy hy h=>by
    obtain⟨k,h1,R⟩:=MA.mp hy;have:(A.getD j 0 &&& m).testBit k=true:=by rw[BS,BI];exact⟨h1,(hm k y R).mpr h⟩
    rw[hz,CB]at this;cases this
   refine hN5 _ _ (C0 λN6 hN6=>?_);refine A6 rfl ⟨ag,rfl,⟨_,IG.of g⟩,λD hD=>Df (r:=V.str) (λy=>V.bl false) (NR (IG.of g)) (λ_=>true) (by omega) hD (λy _ G W M hM=>hM G λb o e=>e) (λy hy G W M hM=>A6 rfl (A6 rfl (j4 (.inl (IG.of (W _ _ (u3 _ _ eh)))) (by rw[BA (noh y hy)];exact hM)))) λσ' G W eG=>⟨D,(IQ c (A.getD j 0)).map λ_=>false,rfl,IG.of (by rw[eG,EH.mpr λ_ _=>rfl,CI];rfl),?_⟩⟩;rw[show((IQ c (A.getD j 0)).map λ_=>false).any id=false from List.any_eq_false.mpr λb hb=>by obtain⟨_,_,rfl⟩:=BB.mp hb;simp];have u4:=u3.trans W;have g:=W _ _ g;refine⟨_,rfl,Q6 ?_⟩;refine A6 rfl ⟨r,_,B9 rfl rfl ⟨IW.of (u4 _ _ er),C6 (j:=3) rfl,.ref l, "tuple",_,true,rfl,.tup (u4 _ _ el),rfl,_,rfl,?_⟩⟩;refine Q6 (hN6 _ _ (C0 λN7 hN7=>?_));have lr:(rs.map V.ref).length=rs.length:=AB ..;have lj:((IQ c (A.getD j 0)).map V.str).length=js.length:=by rw[AB,<-ek,AB]
   have ljs:js.length<=12:=by rw[<-lj,AB];exact lag
   refine A6 rfl ⟨r,_,B9 rfl rfl ⟨IW.of (u4 _ _ er),C6 (j:=3) rfl,l,_,rfl,.inr (IW.of (u4 _ _ el)),A6 rfl ⟨ag,_,rfl,.inl (IG.of g),rfl,_,rfl,?_⟩⟩⟩;dsimp only;rw[lr,lj,len,AS rfl];refine Q6 (hN7 _ _ ?_);refine A6 rfl (A6 rfl ⟨r,_,B9 rfl rfl ⟨IW.of (u4 _ _ er),C6 (j:=3) rfl,ag,l,_,_,rfl,.inr ⟨IG.of g,IW.of (u4 _ _ el),λD3 hD3=>?_⟩⟩⟩);refine Pp (xs:=(IQ c (A.getD j 0)).map V.str) (ys:=rs.map V.ref) (by rw[lr,lj,len]) (λi σ G'=>(∃v0 v1,σ = [v0,v1,some (.ref n'),some (.ref a),some (.ref hh)])/\HY G G'/\G' D3=some (.lst ((List.replicate i true).map V.bl))) ⟨⟨_,_,rfl⟩,HY.new hD3,A9⟩ (λi σ G' h=>⟨IG.of (h.2.1 _ _ g),IW.of (h.2.1 _ _ (u4 _ _ el))⟩) ?_ ?_
   .rintro i' σ G' T' x y N hx hy ⟨⟨v0,v1,rfl⟩,sG',eG'⟩ hT' hN;rw[<-ek,AH,AH]at hx;rw[AH]at hy;obtain⟨z,hz',rfl⟩:=BK.mp hx;obtain⟨J,hj',rfl⟩:=BK.mp hz';obtain⟨r',hr',rfl⟩:=BK.mp hy;have hjn:=jn J (AL hj');have hx':=AC hjn;have ex:c.getD J "" = c[J]:=by rw[AM,hx'];rfl
    rw[ex]at hx⊢;have li:=(AF.mp hj').1;have uT:=HY.new (o:=.tup [.str c[J],.ref r']) hT';refine⟨T',_,rfl,IW.of A9,rfl,⟨_,_,rfl,⟨_,_,rfl,⟨rfl,Rz ?_⟩⟩⟩⟩;have u5:=(u4.trans sG').trans uT;have eD5:=uT _ _ eG';have s5:=sG'.trans uT;generalize HZ G' T' (.tup [.str c[J],.ref r'])=G5 at u5 eD5 s5⊢;refine A6 rfl (A6 rfl (A6 rfl (A6 rfl ⟨by show 1<=sizeLine;decide,λu hu=>?_⟩)));have uu:=HY.new (o:=.lst [.str c[J]]) hu;refine⟨hh,u,_,_,rfl,rfl,uu _ _ (u5 _ _ eh),A9,by rw[AB,sizeLine_eq];show _+1<=_;omega,λhd hhd=>?_⟩;have u6:=uu.trans (HY.new (o:=.lst (hs.map V.str ++ [.str c[J]])) hhd);have u7:=u5.trans u6;have ehd:(HZ (HZ G5 u (.lst [.str c[J]])) hd (.lst (hs.map V.str ++ [.str c[J]]))) hd=some (.lst ((hs ++ [c[J]]).map V.str)):=by rw[A9,AY];rfl
    have klen:k'<=100:=by omega
    refine A6 rfl ⟨n',a,hd,r',ss,ps,hs ++ [c[J]],c,A,B,L,m ||| 2^J,rfl,u7 _ _ en,u7 _ _ ea,G9 u7 Y,NO,O,Z,srt,l12,mA,mB,ehd,by rw[AZ];show _+1+k'<=100;omega,lo.or hjn,λi y v=>?_,(kids i' J r' hj' hr').keep (λb xs e=>u7 _ _ e),λH' s8=>?_⟩
    .rw[S6,hm i y v,BD,AE];refine or_congr Iff.rfl ⟨λe=>?_,λe=>?_⟩
     .rw[e,hx']at v;exact(BE v).symm
     .rw[e]at v;exact M9 nd v hx'
    .refine⟨_,s8 _ _ (u6 _ _ eD5),by rw[AB,GI,sizeLine_eq];omega,hN _ _ ⟨⟨_,_,rfl⟩,((s5.trans u6).trans s8).upd hD3,?_⟩⟩;rw[A9,List.replicate_succ',AY];rfl
   .rintro σ G' ⟨_,sG',eG'⟩;refine⟨D3,_,rfl,IG.of eG',?_⟩;rw[show(List.replicate ((IQ c (A.getD j 0)).map V.str).length true).all id=true from DR.mpr λb hb=>by rw[(List.mem_replicate.mp hb).2];rfl];exact q G' (u4.trans sG')
theorem Lz(T:Tx K mg):∀k,IJ P w K mg base IZ (1+k) T.as.f T.as.fd ["_law_names_here", "_law_strikes_here", "_law_held", "_law_tree_here"] (y3 K k)
 | 0=>Hx (n:=0) T (S:=λ_ _ _ _=>False) ⟨λ_ _ _ _ h=>h.elim,λ_ _ _ _ _ _ _ _ _ _ _ _ _ h=>h.elim⟩ λa e=>by omega
 | k+1=>Hx (n:=1+k) T (Lz T k) λa e=>by cases e;rfl
def Qr(f:A1 Str->A1 Nat->A1 Nat->Nat->Prop):Sp:=λc H Q _=>∃(p v:A3) (m:Nat) (a:A1 Str) (d:A1 (Str×Str)) (A B:A1 Nat),c = [.ref v,.int (m:Int)]/\JP H p v a d A B/\a.length<=100 /\
 ∀b:Bool,(b=true↔f a A B m)->Q (.bl b) H
theorem Y5:H_ ["_law_view", "_law_mask"] ["_law_view", "_law_mask"] (B5 MT):=⟨rfl,rfl,rfl,by decide +kernel,rfl,by decide +kernel,by decide +kernel⟩
theorem Ee(T:Tx K mg):IJ P w K mg base IZ 3 T.aU.f T.aU.fd ["_law_view", "_law_mask"] (Qr λns A B m=>JC B m/\∀j,m.testBit j=true->Sy ns.length A B m j):=by
 have i:=U8 (P:=P) (w:=w) (base:=base) T;have k:=Jt (P:=P) (w:=w) (base:=base) T;have I:=Y5;refine T.aU.F.ok Y5 (λD H Q E h=>?_) (λG A l s H D Q E r h=>?_)
 .obtain⟨p,n,a,J,L,A,B,rfl,_⟩:=h;rfl
 .obtain⟨p,v,m,ns,t,A,B,rfl,u,x,q⟩:=h;refine⟨_,(B4 (C1 (Hj (D6 T.aG i (r.mono (by decide)) (A8 (pv 0) (A8 (pv 1) B1))) (Pk (O3 Y9 (C8 Q8 (pv 1) (Yv Wl (D6 T.a7 k (r.mono (by decide)) (A8 (pv 0) (A8 (pv 1) B1))))) B7 (E6 _)))))),?_⟩;refine A6 rfl (A6 rfl ⟨p,v,m,ns,t,A,B,rfl,u,x,λb y=>⟨b,rfl,?_⟩⟩);refine W0 (λc=>?_) (λc=>?_)
  .refine A6 rfl (A6 rfl (A6 rfl (Zs (a:=p) (b:=v) (c:=m) (d:=ns) (e:=t) (f:=A) (g:=B) rfl u x λM C=>?_)));refine A6 rfl (B9 rfl rfl ⟨rfl,?_⟩);refine q _ ?_;dsimp only;rw[o0];exact⟨λh=>⟨y.mp c,λj o=>(C j).mp (h j o)⟩,λh j o=>(C j).mpr (h.2 j o)⟩
  .exact q false ⟨λz=>(by cases z),λh=>absurd (y.mpr h.1) c⟩
end
def JC.sub{B:A1 Nat}{m a:Nat}(h:JC B m)(s:Sub a m):JC B a:=λi j b c=>h i j (s i b) (s j c)
def zAr{i m a:Nat}(h:LS i m)(h':LS i a)(e:m ||| 2^i=a ||| 2^i):m=a:=BL λj=>by
 by_cases c:j=i
 .subst c;rw[B_.mpr λz=>CQ _ (h j z),B_.mpr λz=>CQ _ (h' j z)]
 .have:=congrArg (λz=>z.testBit j) e;rw[EE,EE,BW,BA λz=>c z.symm,Bool.or_false,Bool.or_false]at this;exact this
def Nz{B f:A1 Nat}{i:Nat}(p:f.Nodup)(g:∀m,m∈f↔LS i m/\JC B m):(f ++(f.filter λm=>pB (JC B (m ||| 2^i))).map λm=>m ||| 2^i).Nodup/\∀m,m∈(f ++(f.filter λm=>pB (JC B (m ||| 2^i))).map λm=>m ||| 2^i)↔LS (i+1) m/\JC B m:=by
 have r:∀m,(m ||| 2^i).testBit i=true:=λm=>by rw[EE,DZ,Bool.or_true]
 constructor
 .refine FT.mpr ⟨p,DD.mpr (FW (fun{a b} l n s e=>s (zAr ((g a).mp (BQ.mp l).1).1 ((g b).mp (BQ.mp n).1).1 e)) (p.sublist C_)),λa l b n e=>?_⟩;obtain⟨c,_,rfl⟩:=BB.mp n;have:=((g a).mp l).1 i (by rw[e];exact r c);omega
 .intro m;rw[BD,g,BB];constructor
  .rintro(⟨k,d⟩ | ⟨q,h,rfl⟩)
   .exact⟨λj o=>DE (k j o),d⟩
   .obtain⟨k,d⟩:=BQ.mp h;refine⟨λj o=>?_,OI.mp d⟩;rcases(S6 q i j).mp o with z | z
    .exact DE (((g q).mp k).1 j z)
    .omega
  .rintro⟨k,d⟩;by_cases c:m.testBit i=true
   .have e:m % 2^i ||| 2^i=m:=BL λj=>by
     rw[EE,HF,BW,BR,EM,BI,BF,BF];constructor
     .rintro(⟨_,z⟩ | rfl)
      .exact z
      .exact c
     .intro z;by_cases t:j<i
      .exact .inl ⟨t,z⟩
      .have:=k j z;exact .inr (by omega)
    have u:Sub (m % 2^i) m:=λj z=>by
     rw[HF,BI]at z;exact z.2
    refine .inr ⟨m % 2^i,BQ.mpr ⟨(g _).mpr ⟨λj z=>?_,d.sub u⟩,OI.mpr (by rw[e];exact d)⟩,e⟩;rw[HF,BI,BF]at z;exact z.1
   .refine .inl ⟨λj z=>?_,d⟩;have:=k j z;rcases Nat.lt_or_ge j i with y | y
    .exact y
    .exact absurd (show m.testBit i=true by rw[show i=j by omega];exact z) c
section
variable{P:CM}{w:F8}{K:PySem.W.Frag}{mg:Str->A5 A2}{base:IA}
theorem I_:H_ ["_law_view", "_law_found", "_law_k", "_law_mask"] ["_law_view"] (B5 KJ):=KN
def Ao:Sp:=λd H Q _=>∃(p v:A3) (b:A1 Str) (e:A1 (Str×Str)) (A B:A1 Nat),d = [.ref v]/\JP H p v b e A B/\b.length<=12 /\
 ∀l (a:A1 Nat) c,H l=none->HY H c->c l=some (.lst (a.map K9))->a.Nodup->(∀m,m∈a↔Li b.length A B m)->a.length<=4096->Q (.ref l) c
set_option maxHeartbeats 2000000 in
theorem X7(T:Tx K mg):IJ P w K mg base IZ 4 T.aD.f T.aD.fd ["_law_view"] Ao:=by
 refine T.aD.F.o1 I_ λcdv A U s H vs Q E hr h=>?_
 .obtain⟨p,v,N,ks,A,B,rfl,W,ln,q⟩:=h;obtain⟨⟨a,s,u,X,e2,e3,e4,_⟩,mA,mB⟩:=id W;refine⟨_,(B3 (C7 (i:=1) I_.nd rfl (.inl rfl) (M7 (A8 B7 B1)))
   (B3 (P8 PassesOwn.never rfl (Zu T.aS (A8 (E8 (K7 K) T.am K1 (A8 (G0 (NW K) (pv 0) B7 (λ_ _=>rfl)) B1)) B1)) (D8 (i:=2) I_.nd rfl (.inl rfl))
   (B4 (P8 PassesOwn.never rfl (NV K (Eu (Dq K) T.bb Az (A8 (pv 1) B1))) (D8 (i:=3) I_.nd rfl (.inl rfl))
   (B4 (J9 (P3 (D6 T.aG (U8 T) (Rm hr) (A8 (pv 0) (A8 (C8 y8 (pv 3) (C8 Bh B7 (pv 2))) B1)))) (B4 (K3 (Nt K PySem.F.plainAttrs_list PySem.F.slot_list_append PySem.F.type_list_append P4 (pv 1) (A8 (C8 y8 (pv 3) (C8 Bh B7 (pv 2))) B1)))) C5)))))
   (B4 (C1 (U5 (N':=["_law_mask", "_law_view"]) (cap:=[none,some 0]) (cl:=[("_law_view",_)]) (Q3 ⟨⟨rfl,rfl,rfl,rfl⟩,trivial⟩ ⟨rfl,trivial⟩) rfl (NV K (pv 1)) (λ_ _ _ _=>by exact⟨(NC 0),(X6 (P3 (D6 T.aU (Ee T) (Rm hr) (A8 (pv 1) (A8 (pv 0) B1))))),(pv 0)⟩)))))),?_⟩
  refine C0 λN1 Y=>?_;refine⟨by show 1<=sizeLine;decide,λl O=>?_⟩;have Z:=O;have R:=HY.new (o:=.lst [.int 0]) O;have fl:(HZ H l (.lst [.int 0])) l=some (.lst ([0].map K9)):=A9;generalize HZ H l (.lst [.int 0])=H1 at R fl⊢;refine Y _ _ (C0 λN2 hN2=>?_);refine A6 rfl ⟨v,_,B9 rfl rfl ⟨IG.of (R _ _ X),rfl,B9 (a:=a) rfl (.inl (IG.of (R _ _ e2))) (A6 rfl ⟨?_,?_,?_⟩)⟩⟩
  .omega
  .rw[AB];omega
  rw[AB,CC];have lz:∀m,m∈[0]↔LS 0 m/\JC B m:=λm=>by
   rw[AE];constructor
   .rintro rfl;exact⟨LS.zero _,λi j h=>by rw[CB]at h;cases h⟩
   .rintro⟨h,_⟩;exact BL λj=>by rw[CB];exact B_.mpr λz=>absurd (h j z) (FC _)
  refine Q7 (λi σ G=>(∃v2 g,σ = [some (.ref v),some (.ref l),v2,g])/\HY H G/\∃d:A1 Nat,G l=some (.lst (d.map K9))/\d.Nodup/\(∀m,m∈d↔LS i m/\JC B m)/\d.length<=2^i) ⟨⟨_,_,rfl⟩,R,[0],fl,FX _ _,lz,by decide⟩ ?_ ?_
  .rintro i σ G hi ⟨⟨v2,g,rfl⟩,k,d,n,nG,mG,lG⟩ D1 hD1 _;rw[Int.zero_add];have p2:2^i<=2^11:=Nat.pow_le_pow_right (by decide) (by omega);refine A6 rfl ⟨l,_,rfl,.inl (IG.of n),λc hc=>?_⟩;have uc:=HY.new (o:=.lst (d.map K9)) hc;have C:(HZ G c (.lst (d.map K9))) c=some (.lst (d.map K9)):=A9;have ncl:c≠l:=(B2 n hc).symm;generalize HZ G c (.lst (d.map K9))=I at uc C⊢;have r:=k.trans uc;have hc0:H c=none:=k.free hc;refine⟨c,rfl,⟨_,IG.of C⟩,R9 (NR (IG.of C)) (λj σ t=>(∃g,σ = [some (.ref v),some (.ref l),some (.int (i:Int)),g])/\HY H t/\t c=some (.lst (d.map K9))/\t l=some (.lst ((d ++((d.take j).filter λm=>pB (JC B (m ||| 2^i))).map λm=>m ||| 2^i).map K9))) ⟨⟨_,rfl⟩,r,C,by rw[List.take_zero,GG,GN,CT];exact uc _ _ n⟩ (λj σ t _ h o e=>by rw[C]at e;cases e;exact h.2.2.1) ?_ ?_⟩
   .rintro j σ t y hy ⟨⟨g,rfl⟩,J,c2,x⟩ D2 L _;rw[AH]at hy;obtain⟨m,S,rfl⟩:=BK.mp hy;have lj:=(AF.mp S).1;refine A6 rfl (A6 rfl (A6 rfl (B9 rfl rfl ⟨⟨by omega,by omega,by decide⟩,B9 rfl rfl ?_⟩)));dsimp only;rw[Vy,show K9 m=V.int (m:Int)from rfl];refine⟨p,v,m ||| 2^i,N,ks,A,B,by rw[QN];rfl,W.same J,by omega,λb hb=>⟨_,rfl,?_⟩⟩;have eb:=zBu hb;have hs:(d.take (j+1)).filter (λm=>pB (JC B (m ||| 2^i))) =(d.take j).filter (λm=>pB (JC B (m ||| 2^i)))++if pB (JC B (m ||| 2^i))=true then [m]else []:=by
     rw[IT S,EA,DT,GG]
    have O:=BZ (λm=>pB (JC B (m ||| 2^i))) (d.take j);rw[AX]at O;refine W0 (λz=>?_) (λz=>L _ _ ⟨⟨_,rfl⟩,J,c2,?_⟩)
    .refine A6 rfl ⟨.inl ⟨rfl,_,IG.of x⟩,A6 rfl (A6 rfl (B9 rfl rfl ⟨⟨by omega,by omega,by decide⟩,B9 rfl rfl ?_⟩))⟩;dsimp only;rw[Vy];refine⟨l,_,_,rfl,by rw[QN],x,by rw[AB,AZ,AB,sizeLine_eq];omega,L _ _ ⟨⟨_,rfl⟩,J.upd Z,(B6 ncl).trans c2,?_⟩⟩;rw[A9,hs,AK (by rw[<-eb];exact z)];simp only[AY,BC,GN,BG];rfl
    .rw[hs,AI (by rw[<-eb];exact z),CT];exact x
   .rintro σ t ⟨⟨g,rfl⟩,J,c2,x⟩;rw[AB,CJ]at x;obtain⟨n2,m2⟩:=Nz nG mG;refine hD1 _ _ ⟨⟨_,_,rfl⟩,J,_,x,n2,m2,?_⟩;have:=BZ (λm=>pB (JC B (m ||| 2^i))) d;rw[AZ,AB,Nat.pow_succ];omega
  .rintro σ G ⟨⟨v2,g,rfl⟩,k,d,n,nG,mG,lG⟩;have p2:2^N.length<=2^12:=Nat.pow_le_pow_right (by decide) ln;refine hN2 _ _ ?_;refine A6 rfl ⟨l,rfl,⟨_,IG.of n⟩,λD hD=>?_⟩;refine Df K9 (NR (IG.of n)) (λm=>pB (JC B m/\∀j,m.testBit j=true->Sy N.length A B m j)) (by omega) hD (λm S I r M hM=>?_) (λm S I r M hM=>A6 rfl hM) λσ' I r X=>?_
   .exact A6 rfl (A6 rfl ⟨p,v,m,N,ks,A,B,rfl,(W.same k).same r,by omega,λb hb=>⟨_,rfl,by rw[zBu hb];exact hM I λb o e=>e⟩⟩)
   .refine q D _ I (k.free hD) (k.trans r) X (nG.sublist C_) (λm=>?_) (Nat.le_trans (BZ ..) (by omega));rw[BQ,mG,OI];exact⟨λh=>⟨h.1.1,h.2⟩,λh=>⟨⟨h.1,h.2.1⟩,h.2⟩⟩
end
def KP(H H':Hp):Prop:=∀b o,H b=some o->(∀a,o≠ .tbl a)->H' b=some o
def KP.of{H H':Hp}{a:A3}{ls:A1 (Pos×Str)}(t:G7 H a ls)(k:Sm [a] H H'):KP H H':=λb o e n=>k b o e λz=>by
 obtain⟨c,d,_⟩:=t;rw[AE.mp z,d]at e;cases e;exact n c rfl
def KP.trans{H H' c:Hp}(a:KP H H')(b:KP H' c):KP H c:=λx o e n=>b x o (a x o e n) n
def KP.same{H H':Hp}(a:HY H H'):KP H H':=λx o e _=>a x o e
def KP.web{C:A3}{H H':Hp}{x:A3}{ns:A1 Str}{g:A1 JF}(k:KP H H')(h:JR C H x ns g):JR C H' x ns g:=by
 obtain⟨i,j,a,b,c,d,m,o,p,r,s,t,u,w,y,A⟩:=h;exact⟨i,j,a,b,c,d,m,o,k _ _ p (λ_ z=>by cases z),k _ _ r (λ_ z=>by cases z),k _ _ s (λ_ z=>by cases z),λq B=>k _ _ (t q B) (λ_ z=>by cases z),k _ _ u (λ_ z=>by cases z),k _ _ w (λ_ z=>by cases z),λn f=>let⟨l,v,e⟩:=y n f;⟨l,v,k _ _ e (λ_ z=>by cases z)⟩,λn f=>let⟨l,v,e⟩:=A n f;⟨l,v,k _ _ e (λ_ z=>by cases z)⟩⟩
def KP.view{H H':Hp}{p v:A3}{ns:A1 Str}{ks:A1 (Str×Str)}{A B:A1 Nat}(k:KP H H')(h:JP H p v ns ks A B):JP H' p v ns ks A B:=by
 obtain⟨⟨a,b,c,d,e,f,g,i,j,l,m⟩,n,o⟩:=h;exact⟨⟨a,b,c,k _ _ d (λ_ z=>by cases z),k _ _ e (λ_ z=>by cases z),k _ _ f (λ_ z=>by cases z),k _ _ g (λ_ z=>by cases z),i,j,l,m⟩,n,o⟩
def Cu{H H':Hp}{a:A3}{ls:A1 (Pos×Str)}(k:HY H H')(t:G7 H a ls):G7 H' a ls:=by
 obtain⟨b,e,t,h⟩:=t;exact⟨b,k _ _ e,t,λl d=>(h l d).imp id λ⟨c,e,f⟩=>⟨c,e,k _ _ f⟩⟩
def Sj{H:Hp}{d l:A3}{ls:A1 (Pos×Str)}{xs:A1 V}{o:HO}(e:H l=some (.lst xs))(t:G7 H d ls):G7 (HZ H l o) d ls:=by
 obtain⟨f,a,t,h⟩:=t;exact⟨f,(B6 (λz=>by rw[z,e]at a;cases a)).trans a,t,λx g=>(h x g).imp id λ⟨c,i,b⟩=>⟨c,i,(B6 (λz=>by rw[z,e]at b;cases b)).trans b⟩⟩
def Iw{H:Hp}{p d:A3}{c:Int}{ls:A1 (Pos×Str)}(L:IM H p c)(t:G7 H d ls):p≠d:=λz=>by
 obtain⟨a,b,e,_⟩:=L;obtain⟨g,f,_⟩:=t;rw[z,f]at e;cases e
def Xt{H H':Hp}{p f:A3}{c:Int}{ls:A1 (Pos×Str)}(L:IM H p c)(s:Sm [p] H H')(t:G7 H f ls):G7 H' f ls:=by
 have n:=Iw L t;obtain⟨a,b,e,_⟩:=L;obtain⟨g,i,t,h⟩:=t;exact⟨g,KO s i n.symm,t,λx j=>(h x j).imp id λ⟨c,k,d⟩=>⟨c,k,KO s d (λz=>by rw[z,e]at d;cases d)⟩⟩
structure RU(CW:A3)(H G:Hp)(pt p v m n a x:A3)(ls:A1 (Pos×Str))(ns ss:A1 Str)(ks:A1 (Str×Str))(A B Ms:A1 Nat)(ps qs:A1 JF):Prop where
 h:Sm [pt] H G
 t:G7 G pt ls
 v:JP G p v ns ks A B
 m:G m=some (.lst (Ms.map K9))
 n:G n=some (.lst (ss.map V.str))
 a:G a=some (.lst (M0 ps))
 p:∀q∈ps,E4 G q
 w:JR CW G x ns qs
def RU.kp{d:A3}{H G c:Hp}{b p v m n a x:A3}{ls:A1 (Pos×Str)}{ns e:A1 Str}{ks:A1 (Str×Str)}{A B f:A1 Nat}{g i:A1 JF}(t:RU d H G b p v m n a x ls ns e ks A B f g i)(k:Sm [b] G c)(t':G7 c b ls):RU d H c b p v m n a x ls ns e ks A B f g i:=by
 have kk:=KP.of t.t k;exact⟨t.h.trans k,t',kk.view t.v,kk _ _ t.m (λ_ z=>by cases z),kk _ _ t.n (λ_ z=>by cases z),kk _ _ t.a (λ_ z=>by cases z),λq j=>kk _ _ (t.p q j) (λ_ z=>by cases z),kk.web t.w⟩
def RU.same{b:A3}{H G c:Hp}{d p v m n a x:A3}{ls:A1 (Pos×Str)}{ns e:A1 Str}{ks:A1 (Str×Str)}{A B f:A1 Nat}{g h:A1 JF}(t:RU b H G d p v m n a x ls ns e ks A B f g h)(k:HY G c):RU b H c d p v m n a x ls ns e ks A B f g h:=t.kp k.sm (Cu k t.t)
def Vn{ns:A1 Str}{j z:Nat}{x:Str}(d:ns.Nodup)(b:ns[j]?=some x)(lo:LS ns.length z)(h:∀(i:Nat) y,ns[i]?=some y->(z.testBit i=true↔y∈[x])):z=2^j:=BL λi=>BR.mpr (by
 rw[BW,BF];constructor
 .intro c;have a:=AC (lo i c);have:=AE.mp ((h i _ a).mp c);rw[this]at a;exact M9 d b a
 .rintro rfl;exact(h j x b).mpr (.head _))
def Xw(S i:Nat):decide (Builtin.bitAnd (S:Int) ((2^i:Nat):Int)>0)=S.testBit i:=by
 rw[Oa,BR,BF];constructor
 .intro h;have h:S &&& 2^i≠0:=by omega
  obtain⟨j,a⟩:=Nat.exists_testBit_of_ne_zero h;rw[BS,BI,BW,BF]at a;rw[a.2];exact a.1
 .intro h;have:S &&& 2^i≠0:=λz=>by
   have e:(S &&& 2^i).testBit i=true:=by rw[BS,h,DZ];rfl
   rw[z,CB]at e;cases e
  omega
def Zj(x:Nat)(a:A1 Nat):SL (.int (x:Int)) (a.map K9)=decide (x∈a):=by
 unfold SL;rw[List.any_map]
 induction a with
 | nil=>rfl
 | cons y r b =>
  rw[FV,b];show(((y:Int) ==(x:Int))||decide (x∈r))=decide (x∈y::r);by_cases e:x=y
  .subst e;simp
  .have:((y:Int) ==(x:Int))=false:=by rw[beq_eq_false_iff_ne];omega
   rw[this,Bool.false_or];simp[e]
def Pf(a:A1 Nat):(a.map K9).all Cb=true:=by
 rw[DR];intro v b;obtain⟨x,_,rfl⟩:=BB.mp b;rfl
def I7.up{ns:A1 Str}{A B:A1 Nat}{L:Nat}{H:Hp}:∀{k a m:Nat} {r:A3},k<=a->I7 ns A B L H k m r->I7 ns A B L H a m r
 | 0,_,_,_,_,h=>h.elim
 | k+1,0,_,_,c,_=>absurd c (Nat.not_succ_le_zero _)
 | k+1,a+1,m,r,c,h=>h.imp id λ⟨x,d,l,b,e,f,g,h⟩=>⟨x,d,l,b,e,f,g,λi j n o p=>(h i j n o p).up (Nat.le_of_succ_le_succ c)⟩
structure Fct(ns ss:A1 Str)(A B Ms:A1 Nat)(ps qs:A1 JF):Prop where
 NO:S5 ss
 O:KD ss ps
 pm:ns.Perm ss
 srt:ns.Pairwise PN
 ln:ns.length<=12
 mA:MB ns ((ps.map λq=>q.2).map λk=>(k.2,k.1)) A
 mB:MB ns (ps.map λq=>q.2) B
 mA':MB ns ((qs.map λq=>q.2).map λk=>(k.2,k.1)) A
 mB':MB ns (qs.map λq=>q.2) B
 mm:∀m,m∈Ms↔Li ns.length A B m
 lM:Ms.length<=4096
section
variable{P:CM}{w:F8}{K:PySem.W.Frag}{mg:Str->A5 A2}{base:IA}
theorem JV:H_ ["_law_web", "_law_names_here", "_law_strikes_here", "_law_view", "_law_masks_here", "_law_name", "_law_own", "_law_there", "_law_turn", "_law_found"] ["_law_web", "_law_names_here", "_law_strikes_here", "_law_view", "_law_masks_here", "_law_name"] (B5 NK):=KN
def Kf(i b:A3):Sp:=λj H Q _=>∃(p v m n a x:A3) (e c:A1 Str) (k:A1 (Str×Str)) (A B f:A1 Nat) (g h:A1 JF) (y:Str),j = [.ref x,.ref n,.ref a,.ref v,.ref m,.str y]/\RU i H H b p v m n a x B8 e c k A B f g h/\Fct e c A B f g h/\y∈c/\∀d,Sm [b] H d->G7 d b B8->Q (.bl true) d
set_option maxHeartbeats 4000000 in
theorem Ge(T:Tx K mg)(hB:base.BuiltinsAt mg T.aa):IJ P w K mg base IZ 25 T.aL.f T.aL.fd ["_law_web", "_law_names_here", "_law_strikes_here", "_law_view", "_law_masks_here", "_law_name"] (Kf T.ae T.aa):=by
 have L:IJ P w K mg base IZ 24 T.aY.f T.aY.fd ["web", "name", "kind"] (i6 T.ae T.aa "asker" "doubter" [.str "some"]):=Qq T hB;have C:IJ P w K mg base IZ 14 T.as.f T.as.fd ["_law_names_here", "_law_strikes_here", "_law_held", "_law_tree_here"] (y3 K 13):=Lz T 13;refine T.aL.F.o1 JV λcdv A outer s H vs Q E hr h=>?_
 .obtain⟨p,v,m,n,a,x,c,ss,ks,A,B,Ms,ps,qs,y,rfl,TR,F,Y,q⟩:=h;obtain⟨NO,O,pm,srt,ln,mA,mB,mA',mB',mm,lM⟩:=id F;refine⟨_,(B3 (C7 (i:=6) JV.nd rfl (.inr rfl) (D6 T.aJ (X0 T) (Rm hr) (A8 (pv 3) (A8 (M7 (A8 (pv 5) B1)) B1))))
   (B3 (C7 (i:=7) JV.nd rfl (.inl rfl) (E8 (Wu K) T.bC Wi (A8 (U5 (N':=["_law_mask", "_law_own"]) (cap:=[none,some 6]) (cl:=[("_law_own",_)]) (Q3 ⟨⟨rfl,rfl,rfl,rfl⟩,trivial⟩ ⟨rfl,trivial⟩) rfl (NV K (pv 4)) (λ_ _ _ _=>by exact⟨(NC 0),K4,(O3 Xq (C8 Q8 (pv 0) (pv 1)) B7 (E6 _))⟩)) B1)))
   (B3 (P8 PassesOwn.never rfl (Zu T.aS (A8 B7 B1)) (D8 (i:=8) JV.nd rfl (.inl rfl))
   (B3 (C7 (i:=9) JV.nd rfl (.inl rfl) (D6 T.aY L (Rm hr) (A8 (pv 0) (A8 (pv 5) (A8 Q1 B1)))))
   (B3 (J9 (PW.pt (V3 (P5 (P3 (E8 (j0 K) T.ay K5 (A8 (pv 9) (A8 (Nw T.a4 Y1) B1))))) (V3 (C2 Ij (E8 (K7 K) T.am K1 (A8 (pv 9) B1)) B7 (E6 _)) (U4 (C2 Ij (G0 (OM K) (pv 9) B7 (λ_ _=>rfl)) (G0 (NW K) (M7 (A8 Q1 (A8 Q1 B1))) (Eu Ba T.bq Oy (A8 (pv 7) B1)) (λ_ _=>rfl)) (E6 _)))))) (B4 (C1 X3)) C5)
   (B4 (J9 (P5 (P3 (pv 7))) (B4 (J9 (P5 (P3 (D6 T.as C (Rm hr) (A8 (pv 1) (A8 (pv 2) (A8 (M7 (A8 (pv 5) B1)) (A8 (G0 (OM K) (pv 9) B7 (λ_ _=>rfl)) B1))))))) (B4 (C1 X3)) C5)) (B3 (J9 (PW.pt (V3 (P5 (P3 (E8 (j0 K) T.ay K5 (A8 (G0 (OM K) (pv 9) B7 (λ_ _=>rfl)) (A8 (Nw T.bb Az) B1))))) (U4 (C2 (Xi K hr.units) (G0 (OM K) (pv 9) B7 (λ_ _=>rfl)) (E8 (Ve w) T.aV V2 (A8 (Eu (Yx K w) T.br Td (A8 (G0 (OM K) (pv 9) B7 (λ_ _=>rfl)) B1)) B1)) (E6 _))))) (B4 (C1 X3)) C5)
   (B3 (J9 (PW.pt (V3 (P5 (P3 (E8 (Ls K) T.bk Lm (A8 (U5 (N':=["_law_one", "_law_names_here"]) (cap:=[none,some 1]) (cl:=[("_law_names_here",_)]) (Q3 ⟨⟨rfl,rfl,rfl,rfl⟩,trivial⟩ ⟨rfl,trivial⟩) rfl (NV K (G0 (OM K) (pv 9) B7 (λ_ _=>rfl))) (λ_ _ _ _=>by exact⟨(NC 0),K4,(O3 (Nj K) (pv 0) (pv 1) rfl)⟩)) B1)))) (U4 (C2 (V9 K) (pv 5) (G0 (OM K) (pv 9) B7 (λ_ _=>rfl)) rfl)))) (B4 (C1 X3)) C5)
   (B3 (J9 (C2 (V9 K) (D6 T.aJ (X0 T) (Rm hr) (A8 (pv 3) (A8 (G0 (OM K) (pv 9) B7 (λ_ _=>rfl)) B1))) (pv 4) rfl) (B4 (C1 X3)) C5)
   (B4 (K3 (zDv K PySem.F.plainAttrs_list PySem.F.slot_list_clear PySem.F.type_list_clear Us (G0 (OM K) (pv 9) B7 (λ_ _=>rfl)))))))))))))
   (B4 (C1 X3))))),?_⟩
  have nd:c.Nodup:=pm.nodup_iff.mpr NO.2.1;have nmn:∀y∈c,S7 y=true:=λy Y=>NO.1 y (pm.mem_iff.mp Y);have Z:QP c.length A B:=mA.net mB;have yn:=pm.mem_iff.mpr Y;obtain⟨i,hi⟩:=DK.mp yn;have li:=(AF.mp hi).1;refine C0 λN1 hN1=>?_;refine A6 rfl (A6 rfl ⟨by show 1<=sizeLine;decide,λu hu=>?_⟩);have uu:=HY.new (o:=.lst [.str y]) hu;have eu:(HZ H u (.lst [.str y])) u=some (.lst [.str y]):=A9;have N:=TR.same uu;generalize HZ H u (.lst [.str y])=H1 at uu eu N⊢;refine⟨p,v,u,c,ks,A,B,[y],rfl,N.v,nd,by omega,.inl (IG.of eu),λz hz=>by rw[AE.mp hz];exact yn,λmk lo hm=>?_⟩;have emk:=Vn nd hi lo hm;subst emk;refine hN1 _ _ (C0 λN2 hN2=>?_);refine A6 rfl ⟨m,rfl,⟨_,IG.of N.m⟩,λD hD=>Df (r:=K9) (λS=>V.bl (S.testBit i)) (NR (IG.of N.m)) (λ_=>true) (by omega) hD (λy _ G sG M hM=>hM G λb o e=>e) (λS hS G sG M hM=>?_) λσ' G sG eG=>⟨D,Ms.map λS=>S.testBit i,rfl,IG.of (by rw[eG,EH.mpr λ_ _=>rfl,CI];rfl),?_⟩⟩
  .refine A6 rfl (A6 rfl (B9 rfl rfl (B9 rfl rfl ?_)));have e:=Xw S i;dsimp only;rw[show decide (Builtin.bitAnd (S:Int) ((2^i:Nat):Int)>0)=S.testBit i from e];exact hM
  generalize hth:(Ms.map λS=>S.testBit i).any id=th;have thI:th=true↔∃S∈Ms,S.testBit i=true:=by
   rw[<-hth,HR];constructor
   .rintro⟨_,hb,z⟩;obtain⟨S,hS,rfl⟩:=BB.mp hb;exact⟨S,hS,z⟩
   .rintro⟨S,hS,z⟩;exact⟨_,BB.mpr ⟨S,hS,rfl⟩,z⟩
  have TR2:=N.same sG;have u2:=uu.trans sG;have hLM:∀j,(Nr c.length λj=>(A.getD j 0).testBit j=true).testBit j=true↔(A.getD j 0).testBit j=true:=λj=>by
   rw[Y8];exact⟨(·.2),λh=>⟨(Z.lt j j ((Z.tr j j).mp h)).1,h⟩⟩
  generalize (Nr c.length λj=>(A.getD j 0).testBit j=true)=LM at hLM;refine hN2 _ _ (C0 λN3 hN3=>?_);refine⟨_,rfl,by decide,by decide,?_⟩;refine Q7 (λj σ G'=>(∃v8 v9,σ = [some (.ref x),some (.ref n),some (.ref a),some (.ref v),some (.ref m),some (.str y),some (.int ((2^i:Nat):Int)),some (.bl th),v8,v9])/\Sm [T.aa] G G'/\G7 G' T.aa B8) ⟨⟨_,_,rfl⟩,(λb o e _=>e),TR2.t⟩ ?_ ?_
  .rintro j σ G' R ⟨⟨v8,v9,rfl⟩,kG,TG⟩ D2 hD2 _;have U:=TR2.kp kG TG;refine Uv λM1 hM1=>?_;refine A6 rfl (A6 rfl ⟨x,y,c,qs,A,B,LM,i,rfl,U.w,ln,nd,hi,U.t,mA',mB',hLM,λr hr t l H3 k3 T3 ht hl d g=>?_,λhn t l H3 k3 T3 ht d tr=>?_⟩)
   .obtain⟨rst,rsub⟩:=Cq Z 13 _ r lo hr;have ri:=rsub i DZ;have eth:th=true:=thI.mpr ⟨r,(mm r).mpr rst,ri⟩;subst eth;have TR4:=U.kp k3 T3;have kGl:G l=none:=kG.none (λz=>by
     obtain⟨pp,e,_⟩:=U.t;rw[AE.mp z,e]at hl;cases hl) hl
    have J:=d0 c r;have klen:(IQ c r).length<=12:=Nat.le_trans J.length_le ln;have knd:(IQ c r).Nodup:=nd.sublist J;have ksr:(IQ c r).Pairwise PN:=srt.sublist J;have W:∀y∈IQ c r,y∈c:=λy Y=>J.subset Y;have knm:∀y∈IQ c r,S7 y=true:=λy Y=>nmn y (W y Y);have kbit:∀(j:Nat) y,c[j]?=some y->(r.testBit j=true↔y∈IQ c r):=λj y R=>by
     rw[MA];exact⟨λz=>⟨j,z,R⟩,λ⟨k,z,hk⟩=>by rw[M9 nd R hk];exact z⟩
    refine hM1 _ _ (C0 λM2 hM2=>?_);refine A6 rfl ⟨.ref t, "tuple",_,true,rfl,.tup d,rfl,_,rfl,Q6 (A6 rfl ⟨t,_,rfl,.inr (IW.of d),rfl,_,rfl,Q6 (A6 rfl ⟨t,_,B9 rfl rfl ⟨IW.of d,C6 (j:=0) rfl,⟨by show 2<=sizeLine;decide,λw' hw'=>?_⟩⟩⟩)⟩)⟩;have uw:=HY.new (o:=.lst [.str "doubter",.str "asker"]) hw';refine A6 rfl (.inr ⟨_,rfl,w',_,B9 rfl rfl ⟨IG.of A9,C6 (j:=1) rfl,rfl,_,rfl,Q6 (hM2 _ _ ?_)⟩⟩);have d:=uw _ _ d;have g:=uw _ _ g;have I:=TR4.same uw;generalize HZ H3 w' (.lst [.str "doubter",.str "asker"])=H4 at uw d g I⊢;refine A6 rfl ⟨_,rfl,Q6 (C0 λM3 hM3=>?_)⟩;refine A6 rfl ⟨t,_,B9 rfl rfl ⟨IW.of d,C6 (j:=1) rfl,.ref l, "list",_,true,rfl,.lst g,rfl,_,rfl,Q6 ?_⟩⟩;refine A6 rfl ⟨t,_,B9 rfl rfl ⟨IW.of d,C6 (j:=1) rfl,A6 rfl ⟨t,_,B9 rfl rfl ⟨IW.of d,C6 (j:=1) rfl,l,IQ c r,rfl,.inl (IG.of g),knd,by omega,λS1 hS1=>⟨S1,IQ c r,rfl,A9,λso ss' hso pm' srt'=>?_⟩⟩⟩⟩⟩;have e':ss'=IQ c r:=i9 srt' ksr pm';subst e';have X:=(HY.new (o:=Tg w S1 (IQ c r)) hS1).trans (HY.new (o:=.lst ((IQ c r).map V.str)) hso);have eso:(HZ (HZ H4 S1 (Tg w S1 (IQ c r))) so (.lst ((IQ c r).map V.str))) so=some (.lst ((IQ c r).map V.str)):=A9;have d:=X _ _ d;have g:=X _ _ g;have TR6:=I.same X;generalize HZ (HZ H4 S1 (Tg w S1 (IQ c r))) so (.lst ((IQ c r).map V.str))=H5 at X eso d g TR6⊢;refine Xu (Qp (IG.of g)) (Qp (IG.of eso)) (Ze knm) ⟨_,rfl,Q6 (hM3 _ _ (C0 λM4 hM4=>?_))⟩;refine A6 rfl ⟨t,_,B9 rfl rfl ⟨IW.of d,C6 (j:=1) rfl,l,rfl,⟨_,IG.of g⟩,λD4 hD4=>Df (r:=V.str) (λy=>V.bl true) (NR (IG.of g)) (λ_=>true) (by omega) hD4 (λy _ G sG M hM=>hM G λb o e=>e) (λy Y G6 s6 M hM=>A6 rfl (A6 rfl (j4 (.inl (IG.of (s6 _ _ TR6.n))) (by rw[AS (pm.mem_iff.mp (W y Y))];exact hM)))) λσ' G6 s6 e6=>⟨D4,(IQ c r).map λ_=>true,rfl,IG.of (by rw[e6,EH.mpr λ_ _=>rfl,CI];rfl),?_⟩⟩⟩;rw[show((IQ c r).map λ_=>true).all id=true from DR.mpr λb hb=>by obtain⟨_,_,rfl⟩:=BB.mp hb;rfl];have d:=s6 _ _ d;have g:=s6 _ _ g;have TR7:=TR6.same s6;refine⟨_,rfl,Q6 (A6 rfl (A6 rfl ⟨t,_,B9 rfl rfl ⟨IW.of d,C6 (j:=1) rfl,P1 (.inl (IG.of g)) ⟨_,rfl,?_⟩⟩⟩))⟩;rw[AS ((kbit i y hi).mp ri)];refine Q6 (hM4 _ _ (C0 λM5 hM5=>?_));refine A6 rfl (A6 rfl ⟨t,_,B9 rfl rfl ⟨IW.of d,C6 (j:=1) rfl,p,v,l,c,ks,A,B,IQ c r,rfl,TR7.v,nd,by omega,.inl (IG.of g),W,λmk2 lo2 hm2=>?_⟩⟩);have e2:mk2=r:=BL λj=>by
     by_cases R:j<c.length
     .exact BR.mpr ((hm2 j _ (AC R)).trans (kbit j _ (AC R)).symm)
     .rw[B_.mpr λz=>R (lo2 j z),B_.mpr λz=>R (rst.1 j z)]
    subst e2;refine A6 rfl ⟨m,_,rfl,.inl (IG.of TR7.m),rfl,Pf Ms,⟨_,rfl,?_⟩⟩;rw[AK rfl,Zj,AS ((mm mk2).mpr rst)];refine Q6 (hM5 _ _ ?_);refine A6 rfl ⟨t,_,B9 rfl rfl ⟨IW.of d,C6 (j:=1) rfl,.inl ⟨rfl,_,IG.of g⟩,l,_,rfl,rfl,g,hD2 _ _ ⟨⟨_,_,rfl⟩,?_,Sj g TR7.t⟩⟩⟩;exact(kG.trans (k3.trans ((uw.trans (X.trans s6)).sm))).updN kGl
   .have eth:th=false:=B_.mpr λz=>by
     obtain⟨S,hS,hb⟩:=thI.mp z;exact Co Z ((mm S).mp hS) 13 (2^i) (λj R=>by
      rw[BW,BF]at R;rw[<-R];exact hb) (by omega) hn
    subst eth;have TR4:=U.kp k3 T3;refine hM1 _ _ (C0 λM2 hM2=>?_);refine A6 rfl ⟨.ref t, "tuple",_,true,rfl,.tup d,rfl,_,rfl,Q6 (A6 rfl ⟨t,_,rfl,.inr (IW.of d),rfl,_,rfl,Q6 (A6 rfl ⟨t,_,B9 rfl rfl ⟨IW.of d,C6 (j:=0) rfl,⟨by show 2<=sizeLine;decide,λw' hw'=>?_⟩⟩⟩)⟩)⟩;have uw:=HY.new (o:=.lst [.str "doubter",.str "asker"]) hw';refine A6 rfl (.inr ⟨_,rfl,w',_,B9 rfl rfl ⟨IG.of A9,C6 (j:=0) rfl,rfl,_,rfl,Q6 (hM2 _ _ ?_)⟩⟩);refine A6 rfl ⟨_,rfl,Tf ?_⟩;refine A6 rfl (A6 rfl (A6 rfl ⟨by show 1<=sizeLine;decide,λu3 hu3=>?_⟩));have X:=uw.trans (HY.new (o:=.lst [.str y]) hu3);have e3:(HZ (HZ H3 w' (.lst [.str "doubter",.str "asker"])) u3 (.lst [.str y])) u3=some (.lst ([y].map V.str)):=A9;generalize HZ (HZ H3 w' (.lst [.str "doubter",.str "asker"])) u3 (.lst [.str y])=H5 at X e3⊢;have I:=TR4.same X;refine A6 rfl ⟨t,_,B9 rfl rfl ⟨IW.of (X _ _ d),C6 (j:=1) rfl,n,a,u3,l,ss,ps,[y],c,A,B,LM,2^i,rfl,I.n,I.a,I.p,NO,O,pm,srt,ln,mA,mB,e3,(by show 1+13<=100;decide),lo,hm,(I7.keep (λb xs e=>X _ _ e) tr).up (by unfold Fd;omega),λH' s'=>⟨_,rfl,Q6 (hD2 _ _ ⟨⟨_,_,rfl⟩,kG.trans (k3.trans (X.trans s').sm),Cu s' I.t⟩)⟩⟩⟩
  .rintro σ G' ⟨⟨v8,v9,rfl⟩,kG,TG⟩;exact hN3 _ _ (q G' (u2.sm.trans kG) TG)
theorem J_:H_ ["_law_web", "_law_names_here", "_law_strikes_here", "_law_view", "_law_masks_here"] ["_law_web", "_law_names_here", "_law_strikes_here"] (B5 LN):=KN
def Qk(h d:A3):Sp:=λi H Q _=>∃(x n a:A3) (b e:A1 Str) (c g:A1 JF),i = [.ref x,.ref n,.ref a]/\JR h H x e g/\H n=some (.lst (b.map V.str))/\H a=some (.lst (M0 c))/\(∀q∈c,E4 H q)/\S5 b/\KD b c/\e.Perm b/\e.Pairwise PN/\b.length<=12/\g.Perm c/\G7 H d B8/\∀f,Sm [d] H f->G7 f d B8->Q (.bl true) f
set_option maxHeartbeats 2000000 in
theorem t9(T:Tx K mg)(hB:base.BuiltinsAt mg T.aa):IJ P w K mg base IZ 26 T.ao.f T.ao.fd ["_law_web", "_law_names_here", "_law_strikes_here"] (Qk T.ae T.aa):=by
 have g:IJ P w K mg base IZ 25 T.aL.f T.aL.fd ["_law_web", "_law_names_here", "_law_strikes_here", "_law_view", "_law_masks_here", "_law_name"] (Kf T.ae T.aa):=Ge T hB;refine T.ao.F.o1 J_ λcdv A Z s H vs Q E hr h=>?_
 .obtain⟨x,n,a,L,u,J,M,rfl,hW,en,ea,R,NO,O,pm0,S,l12,pq,hT,q⟩:=h;refine⟨_,(B3 (C7 (i:=3) J_.nd rfl (.inr rfl) (D6 T.a1 (Hg T) (Rm hr) (A8 (pv 1) (A8 (pv 2) B1))))
   (B3 (C7 (i:=4) J_.nd rfl (.inr rfl) (D6 T.aD (X7 T) (Rm hr) (A8 (pv 3) B1)))
   (B4 (C1 (E8 (Ls K) T.bk Lm (A8 (U5 (N':=["_law_name", "_law_web", "_law_names_here", "_law_strikes_here", "_law_view", "_law_masks_here"]) (cap:=[none,some 0,some 1,some 2,some 3,some 4]) (cl:=[("_law_web",_),("_law_view",_),("_law_strikes_here",_),("_law_names_here",_),("_law_masks_here",_)]) (Q3 ⟨⟨rfl,rfl,rfl,rfl⟩,⟨⟨rfl,rfl,rfl,rfl⟩,⟨⟨rfl,rfl,rfl,rfl⟩,⟨⟨rfl,rfl,rfl,rfl⟩,⟨⟨rfl,rfl,rfl,rfl⟩,trivial⟩⟩⟩⟩⟩ ⟨rfl,⟨rfl,⟨rfl,⟨rfl,⟨rfl,trivial⟩⟩⟩⟩⟩) rfl (NV K (pv 1)) (λ_ _ _ _=>by exact⟨(NC 0),K4,(D6 T.aL g (Rm hr) (@A8 _ _ _ _ _ (pv 1) (@A8 _ _ _ _ _ (pv 2) (@A8 _ _ _ _ _ (pv 3) (@A8 _ _ _ _ _ (pv 4) (@A8 _ _ _ _ _ (pv 5) (@A8 _ _ _ _ _ (pv 0) B1 (by rfl)) (by rfl)) (by rfl)) (by rfl)) (by rfl)) (by rfl)))⟩)) B1)))))),?_⟩
  refine C0 λN1 hN1=>?_;refine A6 rfl (A6 rfl (zEc (a:=n) (b:=a) (c:=L) (d:=J) rfl en NO ea R O λv ns A B H1 hv s1 pm U C=>?_));have e0:u=ns:=i9 S U (pm0.trans pm.symm);subst e0;have C:=C n _ en;have ln:u.length<=12:=by rw[pm.length_eq];exact l12
  refine hN1 _ _ (C0 λN2 hN2=>?_);refine A6 rfl ⟨n,v,u,_,A,B,rfl,C,ln,λm Ms H2 hm s2 em ndM mm lM=>?_⟩;have l:=s1.trans s2;have kp:∀k,k∈J.map (λq=>q.2)↔k∈M.map λq=>q.2:=λk=>(pq.map _).mem_iff.symm;have mA':=C.mA.mono (ks':=(M.map λq=>q.2).map λk=>(k.2,k.1)) λk=>by rw[BB,BB];exact⟨λ⟨j,h,e⟩=>⟨j,(kp j).mp h,e⟩,λ⟨j,h,e⟩=>⟨j,(kp j).mpr h,e⟩⟩
  have mB':=C.mB.mono kp;have F:Fct u L A B Ms J M:=⟨NO,O,pm,U,ln,C.mA,C.mB,mA',mB',mm,lM⟩;have I:RU T.ae H H2 T.aa n v m n a x B8 u L (J.map λq=>q.2) A B Ms J M:=⟨l.sm,Cu l hT,C.same s2,em,l _ _ en,l _ _ ea,G9 l R,hW.same l⟩;refine hN2 _ _ ?_;refine A6 rfl ⟨n,rfl,⟨_,IG.of I.n⟩,λD W=>?_⟩;have nDp:D≠T.aa:=λz=>by
   obtain⟨pp,e,_⟩:=I.t;rw[z,e]at W;cases W
  refine X8 (NR (K:=K) (IG.of I.n)) (λi σ G=>(∃v0,σ = [v0,some (.ref x),some (.ref n),some (.ref a),some (.ref v),some (.ref m)])/\Sm [T.aa] H2 G/\G7 G T.aa B8/\G D=some (.lst ((List.replicate i true).map V.bl))) ⟨⟨_,rfl⟩,(HY.new W).sm,Cu (HY.new W) I.t,A9⟩ (λi σ G _ h o e=>by rw[I.n]at e;cases e;exact KP.of I.t h.2.1 _ _ I.n (λ_ z=>by cases z)) ?_ ?_
  .rintro i σ G y N hy ⟨⟨v0,rfl⟩,Y,TG,eD⟩ hN;rw[AH]at hy;obtain⟨z,hz,rfl⟩:=BK.mp hy;have li:=(AF.mp hz).1;have r:=I.kp Y TG;refine Ft (A6 rfl (A6 rfl (A6 rfl (A6 rfl (A6 rfl (A6 rfl ⟨n,v,m,n,a,x,u,L,_,A,B,Ms,J,M,z,rfl,⟨(λb o e _=>e),r.t,r.v,r.m,r.n,r.a,r.p,r.w⟩,F,AL hz,λH' k' T'=>?_⟩))))));have X:=k' _ _ eD (by simpa using nDp);refine⟨_,X,by rw[AB,GI,sizeLine_eq];omega,hN _ _ ⟨⟨_,rfl⟩,(Y.trans k').updN W,Sj X T',?_⟩⟩;rw[A9,List.replicate_succ',AY];rfl
  .rintro σ G ⟨_,Y,TG,eD⟩;refine⟨D,_,rfl,IG.of eD,?_⟩;rw[show(List.replicate (L.map V.str).length true).all id=true from DR.mpr λb hb=>by rw[(List.mem_replicate.mp hb).2];rfl];exact q G (l.sm.trans Y) TG
theorem MN:H_ ["_law_script", "_law_k", "_law_left_here", "_law_names_here", "_law_strikes_here", "_law_web", "_law_near_here"] ["_law_script"] (B5 NN):=KN
def Ky(K:PySem.W.Frag)(b:A3):Sp:=λc H Q _=>∃(u:A3) (a:A1 Int),c = [.ref u]/\IG K H u (a.map V.int)/\a.length<=63/\G7 H b B8/\∀d,Q (.bl true) d
set_option maxHeartbeats 8000000 in
theorem zBj(T:Tx K mg)(hB:base.BuiltinsAt mg T.aa){f:A3}{fd:IS}(F:PF K "law" "law" NN f fd):IJ P w K mg base IZ 27 f fd ["_law_script"] (Ky K T.aa):=by
 have g:IJ P w K mg base IZ 26 T.ao.f T.ao.fd ["_law_web", "_law_names_here", "_law_strikes_here"] (Qk T.ae T.aa):=t9 T hB;refine F.o1 MN λcdv A outer s H vs Q E r h=>?_
 .obtain⟨u,xs,rfl,hS,hlen,hT,q⟩:=h;refine⟨_,(B3 (P8 PassesOwn.never rfl (Zu T.aS (A8 (E8 (Hs rfl) T.bA Wv (A8 B7 (A8 (E8 (He rfl) T.bp Pn (A8 (E8 (K7 K) T.am K1 (A8 (pv 0) B1)) (A8 B7 B1))) B1))) B1)) (D8 (i:=1) MN.nd rfl (.inl rfl))
   (B3 (C7 (i:=2) MN.nd rfl (.inl rfl) (D6 T.a5 (Iz T) (Rm r) (A8 (pv 0) (A8 (pv 1) B1))))
   (B3 (C7 (i:=3) MN.nd rfl (.inl rfl) (D6 T.a0 (Ha T) (Rm r) (A8 (pv 2) (A8 (E8 (He rfl) T.bp Pn (A8 (G0 (NW K) (M7 (A8 B7 (A8 B7 B1))) (Eu Ba T.bq Oy (A8 (O3 Y9 (pv 1) B7 (E6 _)) B1)) (λ_ _=>rfl)) (A8 (E8 (Hs rfl) T.bA Wv (A8 B7 (A8 (D6 T.a6 (Ib T) (Rm r) (A8 (pv 2) B1)) B1))) B1))) B1))))
   (B3 (C7 (i:=4) MN.nd rfl (.inl rfl) (D6 T.aP (Bw T) (Rm r) (A8 (pv 2) (A8 (pv 3) B1))))
   (B3 (C7 (i:=5) MN.nd rfl (.inl rfl) (Ka T.bz (Ae T) (Rm r) rfl T.bx T.be .nil K0 (A8 (pv 3) (A8 (pv 4) B1))))
   (B3 (C7 (i:=6) MN.nd rfl (.inl rfl) (D6 T.a8 (Im T) (Rm r) (A8 (pv 2) (A8 (pv 3) (A8 (pv 4) B1)))))
   (B3 (J9 (PW.pt (V3 (P5 (P3 (D6 T.ao g (Rm r) (A8 (pv 5) (A8 (pv 3) (A8 (pv 4) B1)))))) (U4 (P5 (P3 (D6 T.ao g (Rm r) (A8 (Ka T.bz (Ae T) (Rm r) rfl T.bx T.be .nil K0 (A8 (pv 3) (A8 (pv 6) B1))) (A8 (pv 3) (A8 (pv 6) B1))))))))) (B4 (C1 X3)) C5)
   (B4 (J9 (P5 (P3 (D6 T.ao g (Rm r) (A8 (pv 5) (A8 (pv 3) (A8 (pv 4) B1)))))) (B4 (C1 X3)) C5)))))))))
   (B4 (C1 X3))),?_⟩
  refine C0 λN0 hN0=>?_;refine⟨_,rfl,u,_,rfl,.inl hS,_,_,rfl,_,_,rfl,?_⟩;have hz:∀l:Int,0<=l->∃z:Nat,(if(if(2:Int)<l then 2 else l) >(1:Int)then(if(2:Int)<l then 2 else l)else 1) =(z:Int)/\z<=2:=λl h0=>by
   by_cases h1:(2:Int)<l
   .rw[AK h1];exact⟨2,rfl,by decide⟩
   .rw[AI h1];by_cases h2:l>1
    .rw[AK h2];exact⟨l.toNat,by omega,by omega⟩
    .rw[AI h2];exact⟨1,rfl,by decide⟩
  obtain⟨z,ez,hz⟩:=hz ((xs.map V.int).length:Int) (by omega);refine A6 (a:=(z:Int)) (congrArg (λt=>[V.int t]) ez) ⟨by omega,by omega,?_⟩;rw[CC];refine Q7 (λi σ G=>(∃v1 v2 v3 v4 v5 v6,σ = [some (.ref u),v1,v2,v3,v4,v5,v6])/\Sm [T.aa] H G/\G7 G T.aa B8) ⟨⟨_,_,_,_,_,_,rfl⟩,(λb o e _=>e),hT⟩ ?_ λσ G _=>hN0 _ _ (q G);rintro i σ F0 hi ⟨⟨v1,v2,v3,v4,v5,v6,rfl⟩,kF,TF⟩ D1 hD1 _;rw[Int.zero_add];have Y:=KP.of hT kF;have hSF:IG K F0 u (xs.map V.int):=by
   rcases hS with(h | ⟨o,h⟩) | h
   .exact .inl (.inl (Y _ _ h (λ_ z=>by cases z)))
   .exact .inl (.inr ⟨o,Y _ _ h (λ_ z=>by cases z)⟩)
   .exact .inr h
  refine Uv λN1 hN1=>?_;refine A6 rfl (A6 rfl ⟨u,xs,i,rfl,hSF,by omega,λp H1 Z s1 L1=>?_⟩);refine hN1 _ _ (C0 λN2 hN2=>?_);refine A6 rfl ⟨by show 2<=sizeLine;decide,λt0 ht0=>?_⟩;have ut0:=HY.new (o:=.lst [.int 7,.int 8]) ht0;obtain⟨B,hmo,emo⟩:∃B:Nat,(B=7\/B=8)/\QO [V.int 7,V.int 8] (if decide (V.int (i:Int)=V.int 0)=true then 1 else 0)=some (.int (B:Int)):=by
   by_cases c0:decide (V.int (i:Int)=V.int 0)=true
   .rw[AK c0];exact⟨8,.inr rfl,C6 (j:=1) rfl⟩
   .rw[AI c0];exact⟨7,.inl rfl,C6 (j:=0) rfl⟩
  refine A6 rfl ⟨rfl,.inr ⟨_,rfl,t0,_,B9 rfl rfl ⟨IG.of A9,emo,?_⟩⟩⟩;refine A6 rfl ⟨p,0,rfl,L1.same ut0,by decide,λC H2 hsz k2 L2=>?_⟩;refine⟨_,_,rfl,_,_,rfl,?_⟩;obtain⟨mn,emn,h1,h8⟩:∃mn:Nat,(if(if(C:Int)>1 then(C:Int)else 1) <(B:Int)then(if(C:Int)>1 then(C:Int)else 1)else(B:Int)) =(mn:Int)/\0<mn/\mn<=8:=by
   have hmx:∃a:Nat,(if(C:Int)>1 then(C:Int)else 1) =(a:Int)/\0<a:=by
    by_cases c:(C:Int)>1
    .rw[AK c];exact⟨C,rfl,by omega⟩
    .rw[AI c];exact⟨1,rfl,by decide⟩
   obtain⟨b,eb,hb⟩:=hmx;rw[eb];by_cases c:(b:Int) <(B:Int)
   .rw[AK c];exact⟨b,rfl,hb,by omega⟩
   .rw[AI c];exact⟨B,rfl,by omega,by omega⟩
  refine⟨p,_,mn,congrArg (λz=>[V.ref p,.int z]) emn,L2,by omega,by omega,λn D H3 hn k3 e3 l3 J L3=>?_⟩;have s2:HY F0 H3:=λb o e=>(k2.trans k3) b o (ut0 _ _ (s1 b o e)) (by simpa using B2 e Z);have hpH:H p=none:=kF.none (λy=>by
   obtain⟨pp,e,_⟩:=TF;rw[AE.mp y,e]at Z;cases Z) Z
  refine hN2 _ _ (C0 λN3 hN3=>?_);refine A6 rfl (A6 rfl ⟨p,n,_,D,rfl,L3,by omega,e3,J,by omega,λa R c4 H4 ha k4 e4 I O4 hc4 L4=>?_⟩);have n4:=KO k4 e3 (L3.ne e3);have s4:HY F0 H4:=λb o e=>k4 b o (s2 b o e) (by simpa using B2 e Z);refine hN3 _ _ (C0 λN4 hN4=>?_);refine A6 rfl (A6 rfl ?_);intro x dx nx ndx nex;have sx:HY H4 (HZ (HZ H4 dx (.own x)) x (.ins T.ae dx [])):=λb o e=>by
   rw[B6 (B2 e nx),B6 (B2 e ndx)];exact e
  refine zCz (a:=x) (b:=dx) (c:=n) (d:=D) (e:=a) (f:=R) rfl A9 (sx _ _ n4) J (sx _ _ e4) (G9 sx I) O4 λns qs H6 pn srn pq srq k6 W6=>⟨rfl,?_⟩;have S:HY H4 H6:=λb o e=>k6 b o (sx b o e) (by simpa using B2 e nx);have n6:=S _ _ n4;have a6:=S _ _ e4;have p6:=G9 S I;have U:=L4.same S;have T6:=Cu (s4.trans S) TF;have k06:Sm [T.aa] H H6:=kF.trans (s4.trans S).sm;refine hN4 _ _ (C0 λN5 hN5=>?_);refine A6 rfl (A6 rfl (A6 rfl ⟨p,n,a,c4,D,R,rfl,U,by omega,n6,J,by omega,a6,p6,O4,λb L c7 H7 W b7 p7' O7 hc7 L7=>?_⟩));have n7:=KO W n6 (U.ne n6);have a7:=KO W a6 (U.neP a6);have p7:∀q∈R,E4 H7 q:=λq M=>Am (p6 q M) U W;have W7:=W6.sm U W;have T7:=Xt U W T6;have k07:Sm [T.aa] H H7:=λb o e n=>KO W (k06 b o e n) (B2 e hpH);have N:D.length<=12:=by omega
  refine hN5 _ _ (C0 λN6 hN6=>?_);refine A6 rfl (A6 rfl (A6 rfl ⟨x,n,a,D,ns,R,qs,rfl,W7,n7,a7,p7,J,O4,pn,srn,N,pq,T7,λH8 k8 T8=>⟨_,rfl,Q6 ?_⟩⟩));have m:=KP.of T7 k8;have n8:=m _ _ n7 (λ_ z=>by cases z);have a8:=m _ _ a7 (λ_ z=>by cases z);have b8:=m _ _ b7 (λ_ z=>by cases z);have p8:∀q∈R,E4 H8 q:=λq M=>m _ _ (p7 q M) (λ_ z=>by cases z);have p8':∀q∈L,E4 H8 q:=λq M=>m _ _ (p7' q M) (λ_ z=>by cases z);have W8:=m.web W7;refine A6 rfl (A6 rfl ?_);intro x2 O nx2 ndx2 nex2;have v:HY H8 (HZ (HZ H8 O (.own x2)) x2 (.ins T.ae O [])):=λb o e=>by
   rw[B6 (B2 e nx2),B6 (B2 e ndx2)];exact e
  refine zCz (a:=x2) (b:=O) (c:=n) (d:=D) (e:=b) (f:=L) rfl A9 (v _ _ n8) J (v _ _ b8) (G9 v p8') O7 λns2 qs2 H9 pn2 srn2 pq2 srq2 k9 W9=>⟨rfl,?_⟩;have X:HY H8 H9:=λb o e=>k9 b o (v b o e) (by simpa using B2 e nx2);have T9:=Cu X T8;refine A6 rfl (A6 rfl ⟨x2,n,b,D,ns2,L,qs2,rfl,W9,X _ _ n8,X _ _ b8,G9 X p8',J,O7,pn2,srn2,N,pq2,T9,λH10 k10 T10=>⟨_,rfl,Q6 (hN6 _ _ ?_)⟩⟩);have k:=(KP.same X).trans (KP.of T9 k10);refine A6 rfl (A6 rfl (A6 rfl ⟨x,n,a,D,ns,R,qs,rfl,k.web W8,k _ _ n8 (λ_ z=>by cases z),k _ _ a8 (λ_ z=>by cases z),(λq M=>k _ _ (p8 q M) (λ_ z=>by cases z)),J,O4,pn,srn,N,pq,T10,λH11 k11 T11=>⟨_,rfl,Q6 ?_⟩⟩));exact hD1 _ _ ⟨⟨_,_,_,_,_,_,rfl⟩,k07.trans (k8.trans (X.sm.trans (k10.trans k11))),T11⟩
end
section
variable{K:PySem.W.Frag}{h:IA}{mg:Str->A5 A2}
theorem QX{us:A1 A2}(h:us.length=1):∃a,us = [a]:=List.length_eq_one_iff.mp h
theorem QL{us:A1 A2}(h:us.length=2):∃a b,us = [a,b]:=by
 cases us with
 | nil=>cases h
 | cons a r=>obtain⟨b,rfl⟩:=QX (Nat.succ.inj h);exact⟨a,b,rfl⟩
theorem RH{us:A1 A2}(h:us.length=3):∃a b c,us = [a,b,c]:=by
 cases us with
 | nil=>cases h
 | cons a r=>obtain⟨b,c,rfl⟩:=QL (Nat.succ.inj h);exact⟨a,b,c,rfl⟩
theorem R6{us:A1 A2}(h:us.length=4):∃a b c d,us = [a,b,c,d]:=by
 cases us with
 | nil=>cases h
 | cons a r=>obtain⟨b,c,d,rfl⟩:=RH (Nat.succ.inj h);exact⟨a,b,c,d,rfl⟩
theorem R5{us:A1 A2}(h:us.length=5):∃a b c d e,us = [a,b,c,d,e]:=by
 cases us with
 | nil=>cases h
 | cons a r=>obtain⟨b,c,d,e,rfl⟩:=R6 (Nat.succ.inj h);exact⟨a,b,c,d,e,rfl⟩
theorem SZ{us:A1 A2}(h:us.length=6):∃a b c d e f,us = [a,b,c,d,e,f]:=by
 cases us with
 | nil=>cases h
 | cons a r=>obtain⟨b,c,d,e,f,rfl⟩:=R5 (Nat.succ.inj h);exact⟨a,b,c,d,e,f,rfl⟩
def IR{x:Str}{st:IL}{m:A1 Str}{f:A3}{q:A2}{r n:A5 A3}{o:F1 (A5 A2)}{kV i p g ct:A2}(X:K.In h)(G:h.Ns mainGlobals mg)(a:PySem.W.nsIn K mainGlobals x=some (some (.ref f)))
  (l:K.lookup f=some ⟨q,r,.func (PySem.W.fnOf x x (R8 st) (O2 st) (B5 st) .none kV i p n g ct),o⟩) (c:PySem.W.codeIn K g x=true) (k:PySem.W.keepIn K (.ref f)=true)
  (s:∀(kV i p:A2) (n:A5 A3) (g ct:A2) (us:A1 A2),us.length=m.length->bindArgs (PySem.W.fnOf x x (R8 st) (O2 st) (B5 st) .none kV i p n g ct) ⟨us,[]⟩=pure (m.zip us):=by intro _ _ _ _ _ _ us j;first | (obtain rfl:=FZ.mp j;rfl) | (obtain⟨a,rfl⟩:=Sw.QX j;rfl) | (obtain⟨a,b,rfl⟩:=Sw.QL j;rfl) | (obtain⟨a,b,c,rfl⟩:=Sw.RH j;rfl) | (obtain⟨a,b,c,d,rfl⟩:=Sw.R6 j;rfl) | (obtain⟨a,b,c,d,e,rfl⟩:=Sw.R5 j;rfl) | (obtain⟨a,b,c,d,e,f,rfl⟩:=Sw.SZ j;rfl)):Fn K mg x st m :=
 ⟨f,_,LJ l c k,(LJ l c k).binds s,PySem.W.mg_of X G a⟩
def LF{C:A3}{x q:Str}{st:IL}{m:A1 Str}{f:A3}{r:A2}{s n:A5 A3}{o:F1 (A5 A2)}{kV h p g ct:A2}(a:PySem.W.findIn K (.ref C) x=some (some (.ref f)))(i:PySem.W.isFn K (.ref f)=true)
  (l:K.lookup f=some ⟨r,s,.func (PySem.W.fnOf x q (R8 st) (O2 st) (B5 st) .none kV h p n g ct),o⟩) (c:PySem.W.codeIn K g q=true) (k:PySem.W.keepIn K (.ref f)=true)
  (t:∀(kV h p:A2) (n:A5 A3) (g ct:A2) (us:A1 A2),us.length=m.length->bindArgs (PySem.W.fnOf x q (R8 st) (O2 st) (B5 st) .none kV h p n g ct) ⟨us,[]⟩=pure (m.zip us):=by intro _ _ _ _ _ _ us j;first | (obtain rfl:=FZ.mp j;rfl) | (obtain⟨a,rfl⟩:=Sw.QX j;rfl) | (obtain⟨a,b,rfl⟩:=Sw.QL j;rfl) | (obtain⟨a,b,c,rfl⟩:=Sw.RH j;rfl) | (obtain⟨a,b,c,d,rfl⟩:=Sw.R6 j;rfl) | (obtain⟨a,b,c,d,e,rfl⟩:=Sw.R5 j;rfl) | (obtain⟨a,b,c,d,e,f,rfl⟩:=Sw.SZ j;rfl)):Mt K C x q st m :=
 ⟨f,_,LJ l c k,(LJ l c k).binds t,⟨a,i,k⟩⟩
theorem RZ{x z:Str}{v:A2}(X:K.In h)(G:h.Ns mainGlobals mg)(a:PySem.W.nsIn K mainGlobals x=some (some v))(e:∃t,v = .str z t):∃t,mg x=some (.str z t):=by
 obtain⟨t,rfl⟩:=e;exact⟨t,PySem.W.mg_of X G a⟩
theorem R_{x:Str}{z:Int}{v:A2}(X:K.In h)(G:h.Ns mainGlobals mg)(a:PySem.W.nsIn K mainGlobals x=some (some v))(e:∃t,v = .int z t):∃t,mg x=some (.int z t):=by
 obtain⟨t,rfl⟩:=e;exact⟨t,PySem.W.mg_of X G a⟩
def zDf(vs:F1 A2)(c p:A3):Bool:=decide (vs[11]?=some (.ref p)) &&(match vs.getD 18 .none with | .str _ _=>true | _=>false) &&(match vs.getD 7 .none with | .int _ _=>true | _=>false) &&(match vs.getD 9 .none with | .bool _=>true | _=>false) &&(match vs.getD 10 .none with | .int _ _=>true | _=>false)&&decide (c≠p)&&decide (mainGlobals≠p)
theorem RY{c p:A3}{y:A5 A3}{vs:F1 A2}{z:F1 (A5 A2)}(l:K.lookup c=some ⟨.type "code",y,.fields vs,z⟩)(A:vs.getD 11 .none = .ref p)(e:zDf vs c p=true):TabAt K mg c p:=by
 unfold zDf at e;simp only[BI,decide_eq_true_eq]at e;obtain⟨⟨⟨⟨⟨⟨i,f⟩,w⟩,x⟩,h⟩,j⟩,m⟩:=e;have b:∃a t,vs.getD 18 .none = .str a t:=by cases q:vs.getD 18 .none<;>rw[q]at f<;>first | exact⟨_,_,rfl⟩ | cases f
 have n:∃a t,vs.getD 7 .none = .int a t:=by cases q:vs.getD 7 .none<;>rw[q]at w<;>first | exact⟨_,_,rfl⟩ | cases w
 have o:∃a,vs.getD 9 .none = .bool a:=by cases q:vs.getD 9 .none<;>rw[q]at x<;>first | exact⟨_,rfl⟩ | cases x
 have d:∃a t,vs.getD 10 .none = .int a t:=by cases q:vs.getD 10 .none<;>rw[q]at h<;>first | exact⟨_,_,rfl⟩ | cases h
 obtain⟨r,s,b⟩:=b;obtain⟨B,C,n⟩:=n;obtain⟨D,o⟩:=o;obtain⟨u,v,d⟩:=d;exact⟨λg k=>⟨_,vs,r,s,B,C,D,u,v,k _ _ l,rfl,rfl,i,A,b,n,o,d,j⟩,m⟩
theorem JE{C:A3}{f:Str}(h:PySem.W.findIn K (.ref C) f=some none):JI K C f:=h
end
def SC{l:PySem.W.OpenLaw}{w:F8}{K:PySem.W.Frag}{h:IA}{mg:Str->A5 A2}{n f d:A3}{u:A2}{x q:A5 A3}{i:F1 (A5 A2)}{kV g r b ct:A2}(X:K.In h)(G:h.Ns mainGlobals mg)(j:mg "law" = some (.ref n))
  (T:Tx K mg) (a:PySem.W.nsIn K mainGlobals "law" = some (some (.ref f))) (lk:K.lookup f=some ⟨u,x,.func (PySem.W.fnOf "law" "law" (R8 NN) (O2 NN) (B5 NN) .none kV g r q b ct),i⟩) (c:PySem.W.codeIn K b "law" = true) (k:PySem.W.keepIn K (.ref f)=true) (ep:T.aa=d) (y:K.lookup d=none) :
  (∀p∈[d],isCodeTable h p)/\(∀p∈[d],K.lookup p=none)/\∃t:IS,(∀(s:A4) (v:A2),BindsTo s t ⟨[v],[]⟩ [("_law_script",v)])/\∀base:IA,K.In base->base.Ns mainGlobals mg->(∀p∈[d],base.BuiltinsAt mg p)->IJ l.prog w K mg base IZ 27 n t ["_law_script"] (Ky K d):=by
 subst ep;have e:=j.symm.trans (PySem.W.mg_of X G a);cases e;refine⟨λp m=>?_,λp m=>by rw[AE.mp m];exact y,PySem.W.fnOf "law" "law" (R8 NN) (O2 NN) (B5 NN) .none kV g r q b ct,λs v=>.of_eq rfl,λbase _ _ z=>zBj T (z _ (AE.mpr rfl)) (LJ lk c k)⟩;obtain⟨o,A,_,_,_,_,_,_,_,B,C,D,E,_⟩:=T.bd.hd h X;rw[AE.mp m];exact⟨_,o,A,B,C,D,E⟩
def walk{l:PySem.W.OpenLaw}{q:CM}{c:A1 Str}{o:(Str->A5 A2)->IA->Prop}{e:F8->IA->Prop}{d:DefRec}{K:Params->PySem.W.Frag}{b:A3}(r:l.most=some 63)(g:d.params.defaults = [])
  (t:∀(w:F8) (h:IA),e w h->(K w.params).In h) (i:∀(w:F8) (h:IA),e w h->∀p∈[b],h.get? p=some (PySem.W.tabObj #[]))
  (F:∀(w:F8) (mg:Str->A5 A2) (j:A3) (h:IA),(K w.params).In h->h.Ns mainGlobals mg->mg d.name=some (.ref j) ->
   (∀p∈[b],isCodeTable h p)/\(∀p∈[b],(K w.params).lookup p=none)/\∃m:IS,(∀(s:A4) (u:A2),BindsTo s m ⟨[u],[]⟩ [("_law_script",u)])/\∀base:IA,(K w.params).In base->base.Ns mainGlobals mg->(∀p∈[b],base.BuiltinsAt mg p)->IJ l.prog w (K w.params) mg base IZ 27 j m ["_law_script"] (Ky (K w.params) b)) :
  PySem.W.WalkO q c o e l.row.toRowW d [] (λf vs=>PySem.call f vs) :=
 L2.QT (n:=63) (k:=27) (x := "_law_script") (ts:=[b]) (sp:=λw=>Ky (K w.params) b) r (by decide) g ⟨rfl,by decide,by decide⟩ t i F (λ_ _ a v y z A=>⟨a,v,rfl,A,y,⟨#[],z b (AE.mpr rfl),trivial,λ_ _=>.inl rfl⟩,λ_=>rfl⟩)
end Sw
open PySem PySem.W PyProof.Rows
set_option maxRecDepth 100000 in
set_option maxHeartbeats 0 in
theorem PySem.Challenge.cw_strikeweave_k51_some_ones_won_holds : PySem.Challenge.rw_strikeweave_k51_some_ones_won.Holds := by
 w_on;o_law;k_head;(case hw=>w_witness2)
 k_fill
 refine Sw.walk (l:=PySem.Challenge.rw_strikeweave_k51_some_ones_won) rfl rfl (λw h Y=>PySem.W.km_in_of Y) (λw h Y=>PySem.W.km_tabs_of Y) ?F
 case F =>
  intro w mg fa h KX G hmg;refine' Sw.SC KX G hmg (Sw.Tx.mk (Sw.IR KX G ?a1 ?l2 ?c3 ?k4)
   (Sw.IR KX G ?a5 ?l6 ?c7 ?k8)
   (Sw.IR KX G ?a9 ?l10 ?c11 ?k12)
   (Sw.IR KX G ?a13 ?l14 ?c15 ?k16)
   (Sw.IR KX G ?a17 ?l18 ?c19 ?k20)
   (Sw.IR KX G ?a21 ?l22 ?c23 ?k24)
   (Sw.IR KX G ?a25 ?l26 ?c27 ?k28)
   (Sw.IR KX G ?a29 ?l30 ?c31 ?k32)
   _
   _
   (Sw.RY ?l34 ?r35 ?r36)
   ?r33
   (Sw.IR KX G ?a37 ?l38 ?c39 ?k40)
   (Sw.IR KX G ?a41 ?l42 ?c43 ?k44)
   (Sw.IR KX G ?a45 ?l46 ?c47 ?k48)
   (Sw.IR KX G ?a49 ?l50 ?c51 ?k52)
   (Sw.IR KX G ?a53 ?l54 ?c55 ?k56)
   (Sw.IR KX G ?a57 ?l58 ?c59 ?k60)
   (Sw.IR KX G ?a61 ?l62 ?c63 ?k64)
   (Sw.IR KX G ?a65 ?l66 ?c67 ?k68)
   (Sw.IR KX G ?a69 ?l70 ?c71 ?k72)
   (Sw.IR KX G ?a73 ?l74 ?c75 ?k76)
   (Sw.IR KX G ?a77 ?l78 ?c79 ?k80)
   (Sw.IR KX G ?a81 ?l82 ?c83 ?k84)
   (Sw.IR KX G ?a85 ?l86 ?c87 ?k88)
   (Sw.IR KX G ?a89 ?l90 ?c91 ?k92)
   (Sw.IR KX G ?a93 ?l94 ?c95 ?k96)
   (Sw.IR KX G ?a97 ?l98 ?c99 ?k100)
   (Sw.IR KX G ?a101 ?l102 ?c103 ?k104)
   (Sw.IR KX G ?a105 ?l106 ?c107 ?k108)
   (Sw.IR KX G ?a109 ?l110 ?c111 ?k112)
   (Sw.IR KX G ?a113 ?l114 ?c115 ?k116)
   (Sw.IR KX G ?a117 ?l118 ?c119 ?k120)
   (Sw.IR KX G ?a121 ?l122 ?c123 ?k124)
   (Sw.IR KX G ?a125 ?l126 ?c127 ?k128)
   (Sw.IR KX G ?a129 ?l130 ?c131 ?k132)
   (Sw.IR KX G ?a133 ?l134 ?c135 ?k136)
   (Sw.IR KX G ?a137 ?l138 ?c139 ?k140)
   (Sw.IR KX G ?a141 ?l142 ?c143 ?k144)
   (Sw.IR KX G ?a145 ?l146 ?c147 ?k148)
   (Sw.IR KX G ?a149 ?l150 ?c151 ?k152)
   (Sw.IR KX G ?a153 ?l154 ?c155 ?k156)
   (Sw.IR KX G ?a157 ?l158 ?c159 ?k160)
   (Sw.IR KX G ?a161 ?l162 ?c163 ?k164)
   (Sw.IR KX G ?a165 ?l166 ?c167 ?k168)
   (Sw.IR KX G ?a169 ?l170 ?c171 ?k172)
   (Sw.IR KX G ?a173 ?l174 ?c175 ?k176)
   (Sw.IR KX G ?a177 ?l178 ?c179 ?k180)
   _
   ⟨?g182,?g183,?g184,?g185⟩
   (PySem.W.mg_of KX G ?q181)
   (Sw.JE ?n186)
   (Sw.JE ?n187)
   (Sw.JE ?n188)
   (Sw.JE ?n189)
   (Sw.JE ?n190)
   (Sw.JE ?n191)
   _
   _
   (L2.LJ ?l194 ?c195 ?k196)
   (L2.PF.binds (L2.LJ ?l194 ?c195 ?k196) (λ_ _ _ _ _ _ us hl=>by obtain⟨a,b,rfl⟩:=Sw.QL hl;rfl))
   ⟨?g197,?a192,?i193,?k198⟩
   (Sw.LF ?a199 ?i200 ?l201 ?c202 ?k203)
   (Sw.LF ?a204 ?i205 ?l206 ?c207 ?k208)
   (Sw.LF ?a209 ?i210 ?l211 ?c212 ?k213)
   (Sw.LF ?a214 ?i215 ?l216 ?c217 ?k218)
   (Sw.LF ?a219 ?i220 ?l221 ?c222 ?k223)
   (Sw.LF ?a224 ?i225 ?l226 ?c227 ?k228)
   (Sw.LF ?a229 ?i230 ?l231 ?c232 ?k233)
   (Sw.LF ?a234 ?i235 ?l236 ?c237 ?k238)
   _
   ⟨?g240,?g241,?g242,?g243⟩
   (PySem.W.mg_of KX G ?q239)
   (Sw.JE ?n244)
   (Sw.JE ?n245)
   (Sw.JE ?n246)
   (Sw.JE ?n247)
   _
   _
   (L2.LJ ?l250 ?c251 ?k252)
   (L2.PF.binds (L2.LJ ?l250 ?c251 ?k252) (λ_ _ _ _ _ _ us hl=>by obtain⟨a,b,c,rfl⟩:=Sw.RH hl;rfl))
   ⟨?g253,?a248,?i249,?k254⟩
   (Sw.LF ?a255 ?i256 ?l257 ?c258 ?k259)
   (Sw.LF ?a260 ?i261 ?l262 ?c263 ?k264)
   (Sw.LF ?a265 ?i266 ?l267 ?c268 ?k269)
   (Sw.LF ?a270 ?i271 ?l272 ?c273 ?k274)
   (Sw.LF ?a275 ?i276 ?l277 ?c278 ?k279)
   (Sw.RZ KX G ?v280 ?e281)
   (Sw.R_ KX G ?v282 ?e283)
   (PySem.W.mg_none_of KX G ?z284)
   (PySem.W.mg_none_of KX G ?z285)
   (PySem.W.mg_none_of KX G ?z286)
   (PySem.W.mg_none_of KX G ?z287)
   (PySem.W.mg_none_of KX G ?z288)
   (PySem.W.mg_none_of KX G ?z289)
   (PySem.W.mg_none_of KX G ?z290)
   (PySem.W.mg_none_of KX G ?z291)
   (PySem.W.mg_none_of KX G ?z292)
   (PySem.W.mg_none_of KX G ?z293)
   (PySem.W.mg_none_of KX G ?z294)
   (PySem.W.mg_none_of KX G ?z295)
   (PySem.W.mg_none_of KX G ?z296)
   (PySem.W.mg_none_of KX G ?z297)
   (PySem.W.mg_none_of KX G ?z298)
   (PySem.W.mg_none_of KX G ?z299)
   (PySem.W.mg_none_of KX G ?z300)
   (PySem.W.mg_none_of KX G ?z301)
   (PySem.W.mg_none_of KX G ?z302)) ?aL ?lL ?cL ?kL ?rP ?tP
  case a1|l2|c3|k4|a5|l6|c7|k8|a9|l10|c11|k12|a13|l14|c15|k16|a17|l18|c19|k20|a21|l22|c23|k24|a25|l26|c27|k28|a29|l30|c31|k32=>k_is
  case r33=>rfl
  case l34=>k_is
  case r35=>rfl
  case r36=>rfl
  case a37|l38|c39|k40|a41|l42|c43|k44|a45|l46|c47|k48|a49|l50|c51|k52|a53|l54|c55|k56|a57|l58|c59|k60|a61|l62|c63|k64|a65|l66|c67|k68|a69|l70|c71|k72|a73|l74|c75|k76|a77|l78|c79|k80|a81|l82|c83|k84|a85|l86|c87|k88|a89|l90|c91|k92|a93|l94|c95|k96|a97|l98|c99|k100|a101|l102|c103|k104|a105|l106|c107|k108|a109|l110|c111|k112|a113|l114|c115|k116|a117|l118|c119|k120|a121|l122|c123|k124|a125|l126|c127|k128|a129|l130|c131|k132|a133|l134|c135|k136|a137|l138|c139|k140|a141|l142|c143|k144|a145|l146|c147|k148|a149|l150|c151|k152|a153|l154|c155|k156|a157|l158|c159|k160|a161|l162|c163|k164|a165|l166|c167|k168|a169|l170|c171|k172|a173|l174|c175|k176|a177|l178|c179|k180|q181|g182|g183|g184|g185|n186|n187|n188|n189|n190|n191|a192|i193|l194|c195|k196|g197|k198|a199|i200|l201|c202|k203|a204|i205|l206|c207|k208|a209|i210|l211|c212|k213|a214|i215|l216|c217|k218|a219|i220|l221|c222|k223|a224|i225|l226|c227|k228|a229|i230|l231|c232|k233|a234|i235|l236|c237|k238|q239|g240|g241|g242|g243|n244|n245|n246|n247|a248|i249|l250|c251|k252|g253|k254|a255|i256|l257|c258|k259|a260|i261|l262|c263|k264|a265|i266|l267|c268|k269|a270|i271|l272|c273|k274|a275|i276|l277|c278|k279|v280=>k_is
  case e281=>exact⟨_,rfl⟩
  case v282=>k_is
  case e283=>exact⟨_,rfl⟩
  case z284|z285|z286|z287|z288|z289|z290|z291|z292|z293|z294|z295|z296|z297|z298|z299|z300|z301|z302|aL|lL|cL|kL=>k_is
  case rP=>rfl
  case tP=>kernel_rfl
