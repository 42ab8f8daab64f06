import PyProof.Rows.All
import Wide.All
import OpenK.AllK
import Wide.FinOn
import PyProof.Rows.SortShellK
import KE.KSortTup
import Lean
import PyProof.EqAt
import PyProof.EqKinds
import PyProof.TupleCall
import PyProof.SetRoads
import PyProof.DictRoadsH
import PyProof.IsRules
import PyProof.CollectWalk
import PyProof.FactsAll.set
import PyProof.NeData
import PyProof.P3In
import PyProof.TupleOfSeq
import PyProof.ZipIter
import PyProof.Rows.ZipGen
import KE.KDictOf
import PyProof.AttrMissHeap
import PyProof.Rows.SumAny
import PyProof.DictIter
import PyProof.DictWalks
import PyProof.DictValues
import PyProof.ListRange
import PyProof.ListStr
import PyProof.DictTruth
import PySem.Challenge.RW_strikeweave_k58_backers_and_hits
namespace PySem.W.Fast
def tw14190266137835745743:=0
def tw8124786560350625546:=0
def tw7605560661653240259:=0
def tw13405586010984956599:=0
def tw9581349543054965741:=0
def tw5074974374697462639:=0
def tw11817747164302246562:=0
def tw11687738624153553287:=0
def tw9991732638800541710:=0
def tw4073987115712039518:=0
def tw5503209531464559239:=0
def tw3196132188976963839:=0
def tw3301093719703110986:=0
def tw12029574755779609662:=0
def tw9747565620042327110:=0
def tw8648530882308399193:=0
def tw12322500902483709310:=0
def tw13571460052817522366:=0
def tw13756860183781825429:=0
def tw13053953822672243423:=0
def tw6920270069498531782:=0
def tw5384359134386190587:=0
def tw4372527053479586095:=0
def tw16853426913284703016:=0
def tw2485618099657930263:=0
def tw4010185038189095945:=0
def tw12934017720811548511:=0
def tw11597838636112380990:=0
def tw9240032345486317965:=0
def tw14071903508825629036:=0
def tw2830338282237745126:=0
def tw15500877440282478608:=0
def tw7377660375026482131:=0
def tw5744079262184665744:=0
def tw6570091734823166160:=0
def tw7713540329718396791:=0
def tw1726393475785204263:=0
def tw971264962134942922:=0
def tw9759667305077215773:=0
def tw4431749781966438648:=0
def tw6054498394696645185:=0
def tw14935676138903814412:=0
def tw12470365438867405392:=0
def tw1670992192499487115:=0
def tw7391071967973944047:=0
def tw3349854426533008810:=0
def tw7998088867332858682:=0
def tw5865597633818457135:=0
def tw18208237051451761728:=0
def tw15462259858637744336:=0
def tw1438587736468866307:=0
def tw8720061991843926416:=0
def tw7253202168869185702:=0
def tw17212835242971877564:=0
def tw12756795780694288155:=0
def tw14250772828506147381:=0
def tw4786461680826862400:=0
def tw5775656535767272862:=0
def tw2632022582882496810:=0
def tw8338930282036191263:=0
def tw15064031141865708717:=0
def tw11357803746763013657:=0
def tw6115470063803318730:=0
def tw8897112388346861394:=0
def tw18264785674333876392:=0
def tw15206356372351586040:=0
def tw4284058098073609900:=0
def tw17858305302859300983:=0
def tw4119930527533884337:=0
def tw12127590444336363883:=0
def tw16102952009632096489:=0
def tw5848251984781962166:=0
def tw16690279279015188401:=0
def tw4183190820258369691:=0
def tw17806386179805143324:=0
def tw12138880661689170494:=0
def tw14852334581834759413:=0
def tw14623357736698590581:=0
def tw17869593761713330748:=0
def tw9111289787401972318:=0
def tw9605053512112080134:=0
def tw9402242035074035257:=0
def tw10501144536858629528:=0
def tw6604637977403604419:=0
def tw18045465769257082079:=0
def tw4592586365180555027:=0
def tw5874855759906317970:=0
def tw1858714776565022864:=0
def tw16356339508404126320:=0
def tw9789341572777741974:=0
def tw12425804212146268190:=0
def tw9339753786348870171:=0
def tw11878834924392891326:=0
def tw15036819787492890154:=0
def tw5856317611889077527:=0
def tw9705396813293514546:=0
def tw11832553679549536757:=0
def tw10128302510737350836:=0
def tw14095089679031748740:=0
def tw15897465693990543705:=0
def tw14114572601588278024:=0
def tw14990890437993727904:=0
def tw6198615892299694973:=0
def tw4971522985736986267:=0
def tw201496201053272039:=0
def tw3734279682262265345:=0
def tw3744402871929131657:=0
def tw14824998718535608393:=0
def tw3043636880128814689:=0
def tw6861424125815019411:=0
def tw3828666306382176156:=0
def tw5490154290778572532:=0
def tw17261743315662284815:=0
def tw9586681718796014395:=0
def tw16289878607746444020:=0
def tw3727815947814806248:=0
def tw6204906754838043998:=0
def tw3055427405015625679:=0
def tw9643258328452099305:=0
def tw6094221840325456864:=0
def tw647100941760590481:=0
def tw7827620016698446442:=0
def tw16265565925747753288:=0
def tw12446522958133251970:=0
def tw5667988123742940107:=0
def tw8105154185335357374:=0
def tw5717543719881249192:=0
def tw10479261675791699743:=0
def tw8882946536451437520:=0
def tw1787132524044458796:=0
def tw5136597710956893772:=0
def tw17943021432025259069:=0
def tw3954767060520972403:=0
def tw6392767191923178343:=0
def tw15227670404787624871:=0
def tw5457676897656938188:=0
def tw8299281969636214579:=0
def tw4203438490406022045:=0
def tw13054008481967633382:=0
def tw14210009121058615148:=0
def tw13635509123011005669:=0
def tw15570241470949180814:=0
def tw6086143358457896622:=0
def tw12756052976962220593:=0
def tw2633926286317252880:=0
def tw5520679700301506582:=0
def tw12615207800617193619:=0
def tw9378529028753402642:=0
def tw5327786097274197688:=0
def tw5237214518214067184:=0
def tw5469284260883282265:=0
def tw11245933707379650561:=0
def tw7096083312105077647:=0
def tw3732878834564293515:=0
def tw14794651896302436432:=0
def tw1615565107584902804:=0
def tw14183559039380046693:=0
def tw17541889470263786191:=0
def tw755276945113513013:=0
def tw3542066099353671371:=0
def tw480479826342488621:=0
def tw13348262891868865255:=0
def tw15029092752283275382:=0
def tw15154328524491197459:=0
def tw17027683930530647550:=0
def tw16765724962269295171:=0
def tw1403219906695338944:=0
def tw700997397469052269:=0
def tw18332187402998686605:=0
def tw2479627658045558784:=0
def tw5275140372963030247:=0
def tw13694546367535530667:=0
def tw12797612213277406335:=0
def tw16889274195433924913:=0
def tw12478977979275434206:=0
def tw5308368831207786975:=0
def tw1193653644876569981:=0
def tw1693263591725392146:=0
def tw10530219538982231330:=0
def tw10169593208360219755:=0
def tw11219901938612909121:=0
def tw15930171137426408497:=0
def tw934288137135469205:=0
def tw2965785546645598231:=0
def tw471645794716431416:=0
def tw7885378027984481341:=0
def tw13196677214876883654:=0
def tw15771490163113952108:=0
def tw12564412402467666523:=0
def tw217649825877074387:=0
def tw1893933781911178200:=0
def tw3648903817173772442:=0
def tw6059490729881018042:=0
def tw1645396758469925601:=0
def tw7780187361669212546:=0
def tw17502423094297188970:=0
def tw5052532213770048517:=0
def tw12149301467973835109:=0
def tw5049550615874496192:=0
def tw11414271725259353488:=0
def tw1975032753088673145:=0
def tw9088761886219875667:=0
def tw11554055159818616359:=0
def tw2418787635947929796:=0
def tw13362006248931154606:=0
def tw8751258181029351475:=0
def tw677666285267794903:=0
def tw15864207263535795453:=0
def tw14417219777997714654:=0
def tw10678927621573133177:=0
def tw11022616855784274206:=0
def tw9522556098871543222:=0
def tw6439165291124940042:=0
def tw9428770684584675027:=0
def tw6830623069759418994:=0
def tw18436997515470201250:=0
def tw3182767817879202485:=0
def tw17367415005748963677:=0
def tw4992906605711049196:=0
def tw18041744154241140921:=0
def tw16462816044419048732:=0
def tw15746047210711868347:=0
def tw4372225161370415189:=0
def tw12987275924110189996:=0
def tw12893403090183397205:=0
def tw2248975476056795675:=0
def tw6306415083167196100:=0
def tw11642582789460827946:=0
def tw13320486764898644123:=0
def tw9143902151679550650:=0
def tw5471807889439962621:=0
def tw650867726448303799:=0
def tw5819078866534700095:=0
def tw6812646215380753237:=0
def tw12675267091593763488:=0
def tw13757070609697069023:=0
def tw17049950578131563744:=0
def tw8506021580945445292:=0
def tw6590440358759152115:=0
def tw1892393447797988771:=0
def tw4144187490450884526:=0
def tw14929801661725912493:=0
def tw6447050114604528177:=0
def tw13780374993442106824:=0
def tw7900889404724034741:=0
def tw1169186914502574019:=0
def tw1936990535662095620:=0
def tw12953492180411307685:=0
def tw7537072601610814418:=0
def tw15986253664684439712:=0
def tw6610812855920220282:=0
def tw8834834091409319876:=0
def tw13614639569589080254:=0
def tw1575669146432740131:=0
def tw1371836374711024535:=0
def tw13886000009956122049:=0
def tw2737622750188965634:=0
def tw2960559030306723402:=0
def tw12739858251714174960:=0
def tw3906029085001640739:=0
def tw11891478793800517342:=0
def tw14432047598289352280:=0
def tw6226749271441028344:=0
def tw16902623828840414083:=0
def tw18198799762528787667:=0
def tw15756113762195689440:=0
def tw11087980620744987050:=0
def tw12018588916036446469:=0
def tw6417826321464390144:=0
def tw11994510401191138413:=0
def tw12639821955583310647:=0
def tw5995696119203309439:=0
def tw1828335727636401086:=0
def tw16072786229648366612:=0
def tw13915027189772157438:=0
def tw6807157225168701073:=0
def tw575434361952476057:=0
def tw15274331171297423103:=0
def tw14128803787566739518:=0
def tw14758320390382587621:=0
def tw8884799412790070423:=0
def tw9868200825837135780:=0
def tw11878176795134287842:=0
def tw17752645044502022926:=0
def tw7279300365454939114:=0
def tw1813973188852434911:=0
def tw3881503738175901255:=0
def tw10975728602389164474:=0
def tw6341381184382544622:=0
def tw6687806104854005865:=0
def tw8436222490251608558:=0
def tw8517617044673634902:=0
def tw8691318403453486627:=0
def tw11926011615885458113:=0
def tw15467967086356854104:=0
def tw3360389123290255364:=0
def tw3131838465186484181:=0
def tw8677546292599588595:=0
def tw1261085519586182842:=0
def tw15071695411057445625:=0
def tw18151690726406169227:=0
def tw11895972309498713044:=0
def tw2547107635834849691:=0
def tw3728460166021163929:=0
def tw9243426464657392184:=0
def tw3620602718236757703:=0
def tw11649206876244472976:=0
def tw15013627432155524367:=0
def tw10695877298111523863:=0
def tw5828829369095060654:=0
def tw1986172660870786230:=0
def tw3490141519319966206:=0
def tw15606083390354582355:=0
def tw101062047255886993:=0
def tw15218675944352002237:=0
def tw13947914064054419819:=0
def tw7210555963835260733:=0
def tw18270319553542878209:=0
def tw11031278592389351996:=0
def tw13673009151251738389:=0
def tw3941163437103402556:=0
def tw9043056604941534358:=0
def tw13014070745347682721:=0
def tw17241251252119545670:=0
def tw14945049085168034320:=0
def tw1220050951700509633:=0
def tw828889644238451367:=0
def tw2243860508298488618:=0
def tw8053247286208484875:=0
def tw14328538016369114437:=0
def tw2905159643803405110:=0
def tw798199154840112214:=0
def tw17190446435733152643:=0
def tw15764153511650090020:=0
def tw10923267764722854165:=0
def tw4314593237443565798:=0
def tw8493967960010593767:=0
def tw12819216640805089455:=0
def tw12621986102893683342:=0
def tw545076620267588048:=0
def tw10062764624110876710:=0
def tw16760466000677789943:=0
def tw12416939033915589174:=0
def tw9051622459018948303:=0
def tw15064839393908943660:=0
def tw8634606056691459945:=0
def tw36500501205394139:=0
def tw14987000857301115059:=0
def tw2504234613087735299:=0
def tw1383785966422814997:=0
def tw4416748418956728152:=0
def tw17944584888786856291:=0
def tw13937260771712947660:=0
def tw16946695295170832995:=0
def tw6123492711467240734:=0
def tw6552034228642974239:=0
def tw11621962396078204150:=0
def tw16251767046130996010:=0
def tw4685414856814968595:=0
def tw6187365328277947852:=0
def tw6744211705079623191:=0
def tw13412398483978948588:=0
def tw12059907372720196033:=0
def tw13186252504970815817:=0
def tw12064296071373738762:=0
def tw4172069032030773534:=0
def tw15195068262604476475:=0
def tw2744974751260798877:=0
def tw6320225723376440809:=0
def tw7689825508459532362:=0
def tw11282148962843589418:=0
end PySem.W.Fast
set_option autoImplicit false
set_option genSizeOf false
set_option genSizeOfSpec false
set_option bootstrap.genMatcherCode false
set_option compiler.extract_closed false
set_option linter.all false
set_option maxRecDepth 100000
section
open PySem PySem.Spec PyProof.Rows
def AA:=@wpAny_bind
def AB:=@List.length_map
def AC:=@List.mem_singleton
def AD:=@Heap.get?_push_of_some
def AE:=@wpAny_pure
def AF:=@Heap.lt_size
def AG:=@List.getElem?_map
def AH:=@List.mem_of_getElem?
def AI:=@decide_eq_true
def AJ:=@List.getElem?_eq_getElem
def AK:=@List.mem_append
def AL:=@List.length_take
def AM:=@List.getElem?_eq_some_iff
def AN:=@List.size_toArray
def AO:=@List.not_mem_nil
def AQ:=@List.mem_cons_of_mem
def AR:=@if_neg
def AS:=@List.mem_cons
def AU:=@Bool.false_ne_true
def AV:=@Array.length_toList
def AW:=@Heap.get?_push_size
def AX:=@Nat.lt_of_lt_of_le
def AY:=@Nat.ne_of_lt
def AZ:=@if_pos
def A_:=@decide_eq_false
def BA:=@List.length_append
def BB:=@List.mem_cons_self
def BC:=@Option.map_eq_some_iff
def BD:=@List.map_append
def BE:=@List.mem_append_right
def BF:=@List.append_assoc
def BG:=@Array.getElem?_toList
def BH:=@List.map_map
def BI:=@Array.toList_append
def BJ:=@Heap.get?_update_other
def BK:=@List.length_cons
def BL:=@List.mem_map
def BM:=@List.mem_of_mem_take
def BN:=@List.mem_append_left
def BO:=@List.take_append_drop
def BP:=@List.nodup_cons
def BQ:=@Bool.false_eq_true
def BR:=@wpAny_mono
def BS:=@List.map_cons
def BT:=@Heap.get?_update_self
def BU:=@of_decide_eq_true
def BV:=@Option.some.inj
def BW:=@Heap.size_push
def BZ:=@wpAny_holding
def B_:=@Nat.zero_le
def CA:=@List.pairwise_append
def CB:=@List.length_drop
def CC:=@List.nodup_append
def CD:=@Nat.lt_irrefl
def CF:=@Bool.and_eq_true
def CG:=@wpAny_newObj_type
def CH:=@wpAny_field
def CI:=@List.take_of_length_le
def CJ:=@List.getElem?_take_of_lt
def CK:=@Option.isSome_iff_exists
def CL:=@Nat.le_succ
def CM:=@List.perm_append_comm
def CN:=@Array.toList_push
def CO:=@wpAny_truthy_bool
def CP:=@Array.getElem?_eq_some_iff
def CQ:=@List.append_nil
def CS:=@List.Perm.append_right
def CT:=@Nat.le_of_lt
def CU:=@wpAny_call_entry
def CV:=@List.take_length
def CW:=@List.filterMap_cons
def CY:=@Int.toNat_natCast
def CZ:=@wpAny_setState_of
def C_:=@List.Perm.append_left
def DA:=@List.nodup_nil
def DB:=@wpAny_ite_false
def DC:=@wpAny_Call_Name_kw
def DD:=@List.mem_of_mem_drop
def DE:=@wpAny_callSpecial?_slot
def DF:=@List.take_sublist
def DG:=@wpAny_rule
def DH:=@Nat.le_of_succ_le
def DI:=@List.getElem?_append_right
def DJ:=@wpAny_setField
def DK:=@wpAny_loadPart_at
def DL:=@Heap.SameBut.update
def DM:=@Nat.min_eq_left
def DN:=@List.mem_filter
def DP:=@List.getElem?_append_left
def DQ:=@List.length_singleton
def DR:=@if_false
def DT:=@List.drop_zero
def DU:=@List.filter_eq_self
def DV:=@List.drop_eq_nil_of_le
def DW:=@Array.getElem?_eq_none
def DX:=@wpAny_standAt
def DY:=@wpAny_of_eq
def DZ:=@Nat.le_add_right
def D_:=@Nat.lt_succ_self
def EA:=@List.all_eq_true
def EB:=@List.drop_drop
def EC:=@wpAny_seqItems
def ED:=@List.getElem?_toArray
def EE:=@List.drop_eq_getElem_cons
def EF:=@List.extract_eq_take_drop
def EG:=@wpAny_passesOwn
def EH:=@List.drop_sublist
def EI:=@Array.toList_reverse
def EJ:=@Nat.lt_succ_of_lt
def EK:=@codeAny_mono
def EL:=@List.map_take
def EM:=@Nat.add_le_add_left
def EN:=@List.lookup_cons
def EO:=@Nat.zero_lt_succ
def EQ:=@List.take_append_of_le_length
def ER:=@Nat.eq_zero_of_not_pos
def ES:=@List.getElem?_drop
def ET:=@wpAny_setField_rec
def EU:=@wpAny_execs_nil
def EV:=@List.find?_cons
def EW:=@codeAny_builtin
def EX:=@wpAny_attempt
def EY:=@List.any_cons
def EZ:=@Nat.lt_of_succ_lt
def E_:=@List.ext_getElem?
def FA:=@List.mem_iff_getElem
def FB:=@Array.toList_extract
def FC:=@List.drop_take
def FD:=@List.mem_range
def FE:=@Bool.false_and
def FF:=@wpAny_call
def FG:=@List.getD_eq_getElem?_getD
def FH:=@wpAny_askSetting
def FI:=@List.getElem?_eq_none_iff
def FJ:=@Array.getElem?_eq_getElem
def FK:=@List.reverse_append
def FL:=@wpAny_isSubtype_exc
def FM:=@List.filter_sublist
def FN:=@wpAny_comprehension_free
def FO:=@if_true
def FP:=@Nat.zero_lt_one
def FQ:=@Bool.eq_iff_iff
def FR:=@List.of_mem_zip
def FS:=@Nat.lt_of_le_of_ne
def FT:=@Int.emod_lt_of_pos
def FU:=@List.pairwise_singleton
def FV:=@Nat.zero_add
def FW:=@wpAny_newTuple
def FX:=@List.length_range
def FY:=@wpAny_isInstance
def FZ:=@Heap.ExtBut.push
def F_:=@wpAny_pyIter_zip
def GB:=@Bool.not_true
end
noncomputable section
namespace TS
open PySem PyProof.Rows
def kk(U:KeyKind)(p:Keyed):U.α:=(U.keyOf p.1).getD U.dflt
def Has(U:KeyKind)(p:Keyed):Prop:=∃a,U.keyOf p.1=some a
def le(U:KeyKind)(p q:Keyed):Prop:=U.kle (kk U p) (kk U q)
def Sor(U:KeyKind)(l:List Keyed):Prop:=l.Pairwise (le U)
structure Cmp(prog:Program)(w:World)(A:Around)(s:Shared)(U:KeyKind)(kd:SortKind):Prop where
 lt:∀(x y:Value) (a b:U.α) (Q:Bool->Shared->Prop) (E:Value->Shared->Prop),U.keyOf x=some a->U.keyOf y=some b->Q (U.blt a b) s->wpAny (model prog w) A (keyLt' kd x y) Q E s
section
variable{prog:Program}{w:World}{A:Around}{E:Value->Shared->Prop}{s:Shared}{U:KeyKind}{kd:SortKind}
theorem Cq(C:Cmp prog w A s U kd){st:SortSt}{x y:Keyed}{Q:Option Bool->SortSt->Prop}(hk:kindOf st=kd)(hx:Has U x)(hy:Has U y)
  (h:Q (some (U.blt (kk U x) (kk U y))) st):wpS (model prog w) A E s (lt' x y) Q st:=by
 obtain⟨a,ha⟩:=hx;obtain⟨b,hb⟩:=hy;have e1:kk U x=a:=by unfold kk;rw[ha];rfl
 have e2:kk U y=b:=by unfold kk;rw[hb];rfl
 rw[e1,e2]at h;rw[lt'_eq];refine wpS_bind (wpS_get ?_);rw[hk];refine wpS_bind (wpS_lift (EX (C.lt x.1 y.1 a b _ _ ha hb ⟨rfl,?_⟩)));exact wpS_pure h
theorem C7{st:SortSt}{arr:Array Keyed}{i:Nat}{p:Keyed}{Q:Keyed->SortSt->Prop}(hi:arr[i]?=some p)(h:Q p st):wpS (model prog w) A E s (elem' arr i) Q st:=by
 rw[elem'_eq,hi];exact wpS_pure h
def O4:Bool->Keyed->Array Keyed->Nat->Nat->Nat->StateT SortSt Sem (Option Nat):=sortPriv% PySem.Builtin.gallop
def bey(left:Bool)(ky:Keyed)(ar:Array Keyed)(bs:Nat)(i:Nat):StateT SortSt Sem (Option Bool):=do
 let x <-elem' ar (bs+i)
 if left then lt' x ky else return(<-lt' ky x).map (!·)
theorem Hg(left:Bool)(ky:Keyed)(ar:Array Keyed)(bs n ht:Nat):O4 left ky ar bs n ht =(do
  let mut la:=0
  let mut of:=1
  let mut lo:=0
  let mut hi:=0
  let some ri <-bey left ky ar bs ht | return none
  if ri then
   let mx:=n-ht
   for _ in [0:n] do
    if of ≥ mx then break
    let some mo <-bey left ky ar bs (ht+of) | return none
    if !mo then break
    la:=of
    of:=2*of+1
   lo:=ht+la+1
   hi:=ht+min of mx
  else
   let mx:=ht+1
   for _ in [0:n] do
    if of ≥ mx then break
    let some fo <-bey left ky ar bs (ht-of) | return none
    if fo then break
    la:=of
    of:=2*of+1
   lo:=ht+1-min of mx
   hi:=ht-la
  for _ in [0:n] do
   if lo ≥ hi then break
   let m:=lo +(hi-lo) / 2
   let some mo <-bey left ky ar bs m | return none
   if mo then lo:=m+1 else hi:=m
  return some hi):=rfl
def PB(U:KeyKind)(left:Bool)(ky:Keyed)(p:Keyed):Bool:=if left then U.blt (kk U p) (kk U ky)else !U.blt (kk U ky) (kk U p)
theorem Rj(C:Cmp prog w A s U kd){st:SortSt}{left:Bool}{ky p:Keyed}{ar:Array Keyed}{bs i:Nat}{Q:Option Bool->SortSt->Prop}(hk:kindOf st=kd)(hky:Has U ky)(hp:Has U p)(hi:ar[bs+i]?=some p)
  (h:Q (some (PB U left ky p)) st):wpS (model prog w) A E s (bey left ky ar bs i) Q st:=by
 unfold bey;refine wpS_bind (C7 hi ?_);cases left with
 | true=>exact Cq C hk hp hky h
 | false =>
  simp only[BQ,DR];refine wpS_bind (Cq C hk hky hp ?_);exact wpS_pure h
theorem Hm(C:Cmp prog w A s U kd){st:SortSt}{left:Bool}{ky:Keyed}{ar:Array Keyed}{bs n ht:Nat}{Q:Option Nat->SortSt->Prop}(hk:kindOf st=kd)(hky:Has U ky)
  (P:Nat->Bool) (hP:∀i,i<n->∃p,ar[bs+i]?=some p/\Has U p/\PB U left ky p=P i) (mono:∀i j,i<=j->j<n->P j=true->P i=true) (hht:ht<n)
  (h:∀k,k<=n->(∀i,i<k->P i=true)->(∀i,k<=i->i<n->P i=false)->Q (some k) st):wpS (model prog w) A E s (O4 left ky ar bs n ht) Q st:=by
 have B:∀{st':SortSt} {i:Nat} {Q:Option Bool->SortSt->Prop},st'=st->i<n->Q (some (P i)) st'->wpS (model prog w) A E s (bey left ky ar bs i) Q st':=by
  intro st' i Q e hi q;subst e;obtain⟨p,h1,h2,h3⟩:=hP i hi;exact Rj C hk hky h2 h1 (by rw[h3];exact q)
 have nmono:∀i j,i<=j->j<n->P i=false->P j=false:=by
  intro i j hij hj hi;cases e:P j with
  | false=>rfl
  | true=>rw[mono i j hij hj e]at hi;cases hi
 rw[Hg];dsimp only;refine wpS_bind (B rfl hht ?_);dsimp only;have S:∀{lo hi:Nat} {f:Nat->(Option (Option Nat)×Nat×Nat)->StateT SortSt Sem (ForInStep (Option (Option Nat)×Nat×Nat))},
   (∀x l h,wpS (model prog w) A E s (f x (none,l,h)) (fun r st'=>st'=st/\(if h<=l then r = .done (none,l,h)else if P (l +(h-l) / 2)=true then r = .yield (none,l +(h-l) / 2+1,h)else r = .yield (none,l,l +(h-l) / 2))) st\/¬(h<=l\/l +(h-l) / 2<n)) ->
   lo<=hi->hi<=n->(∀i,i<lo->P i=true)->(∀i,hi<=i->i<n->P i=false) ->
   wpS (model prog w) A E s (forIn [0:n] (none,lo,hi) f) (fun c st'=>st'=st/\∃k,c =(none,k,k)/\k<=n/\(∀i,i<k->P i=true)/\(∀i,k<=i->i<n->P i=false)) st:=by
  intro lo hi f hf h1 h2 h3 h4;refine wpS_forRange (I:=fun x c st'=>st'=st/\∃l r,c =(none,l,r)/\l<=r/\r<=n/\r-l<=n-x/\(∀i,i<l->P i=true)/\(∀i,r<=i->i<n->P i=false)) ?_ ?_ ⟨rfl,lo,hi,rfl,h1,h2,by omega,h3,h4⟩
  .rintro x c st' _ hx ⟨rfl,l,r,rfl,hl,hr,hm,ha,hb⟩;have hin:r<=l\/l +(r-l) / 2<n:=by omega
   rcases hf x l r with q | q
   .refine wpS_mono q fun z st2 ⟨e,q2⟩=>?_;subst e;by_cases hge:r<=l
    .rw[AZ hge]at q2;subst q2;have:l=r:=by omega
     subst this;exact⟨rfl,l,rfl,hr,ha,hb⟩
    .rw[AR hge]at q2;cases hp:P (l +(r-l) / 2)with
     | true =>
      rw[AZ hp]at q2;subst q2;exact⟨rfl,_,_,rfl,by omega,by omega,by omega,fun i hi=>mono i (l +(r-l) / 2) (by omega) (by omega) hp,hb⟩
     | false =>
      rw[AR (by rw[hp];exact AU)]at q2;subst q2;exact⟨rfl,_,_,rfl,by omega,by omega,by omega,ha,fun i hi1 hi2=>nmono (l +(r-l) / 2) i hi1 hi2 hp⟩
   .exact absurd hin q
  .rintro c st' ⟨rfl,l,r,rfl,hl,hr,hm,ha,hb⟩;have:l=r:=by omega
   subst this;exact⟨rfl,l,rfl,hr,ha,hb⟩
 cases hr:P ht with
 | true =>
  rw[AZ rfl];refine wpS_bind (wpS_mono (wpS_forRange (I:=fun x c st'=>st'=st/\∃la of,c =(none,la,of)/\la<of/\x+1<=of/\ht+la<n/\P (ht+la)=true)
   (Q:=fun c st'=>st'=st/\∃la of,c =(none,la,of)/\la<of/\ht+la<n/\P (ht+la)=true/\(n-ht<=of\/(ht+of<n/\P (ht+of)=false))) ?st ?en ⟨rfl,0,1,rfl,by omega,by omega,by omega,hr⟩) ?po)
  case en =>
   rintro c st' ⟨rfl,la,of,rfl,a1,a2,a3,a4⟩;exact⟨rfl,la,of,rfl,a1,a3,a4,.inl (by omega)⟩
  case st =>
   rintro x c st' _ hx ⟨rfl,la,of,rfl,a1,a2,a3,a4⟩;dsimp only;by_cases hge:of ≥ n-ht
   .rw[AZ hge];exact wpS_pure ⟨rfl,la,of,rfl,a1,a3,a4,.inl hge⟩
   .rw[AR hge];refine wpS_bind (B rfl (show ht+of<n by omega) ?_);cases hp:P (ht+of)with
    | true=>exact wpS_pure ⟨rfl,of,2*of+1,rfl,by omega,by omega,by omega,hp⟩
    | false=>exact wpS_pure ⟨rfl,la,of,rfl,a1,a3,a4,.inr ⟨by omega,hp⟩⟩
  case po =>
   rintro c st' ⟨rfl,la,of,rfl,a1,a3,a4,a5⟩;dsimp only;refine wpS_bind (wpS_mono (S (lo:=ht+la+1) (hi:=ht+min of (n-ht)) (fun x l h'=>by
    dsimp only;by_cases hge:h'<=l
    .refine .inl ?_;rw[AZ hge];exact wpS_pure ⟨rfl,by rw[AZ hge]⟩
    .by_cases hn:l +(h' - l) / 2<n
     .refine .inl ?_;rw[AR hge];refine wpS_bind (B rfl hn ?_);dsimp only;cases hp:P (l +(h' - l) / 2)with
      | true =>
       simp only[FO];exact wpS_pure ⟨rfl,by rw[AR hge]⟩
      | false =>
       simp only[BQ,DR];exact wpS_pure ⟨rfl,by rw[AR hge]⟩
     .exact .inr (by omega)) (by omega) (by omega) (fun i hi=>mono i (ht+la) (by omega) a3 a4) fun i hi1 hi2=>?_) fun c st' ⟨e,k,e2,b1,b2,b3⟩=>?_)
   .rcases a5 with a5 | ⟨a5,a6⟩
    .omega
    .exact nmono (ht+of) i (by omega) hi2 a6
   .subst e e2;exact wpS_pure (h k b1 b2 b3)
 | false =>
  rw[AR AU];refine wpS_bind (wpS_mono (wpS_forRange (I:=fun x c st'=>st'=st/\∃la of,c =(none,la,of)/\la<of/\x+1<=of/\la<=ht/\P (ht-la)=false)
   (Q:=fun c st'=>st'=st/\∃la of,c =(none,la,of)/\la<of/\la<=ht/\P (ht-la)=false/\(ht+1<=of\/(of<=ht/\P (ht-of)=true))) ?st ?en ⟨rfl,0,1,rfl,by omega,by omega,by omega,hr⟩) ?po)
  case en =>
   rintro c st' ⟨rfl,la,of,rfl,a1,a2,a3,a4⟩;exact⟨rfl,la,of,rfl,a1,a3,a4,.inl (by omega)⟩
  case st =>
   rintro x c st' _ hx ⟨rfl,la,of,rfl,a1,a2,a3,a4⟩;dsimp only;by_cases hge:of ≥ ht+1
   .rw[AZ hge];exact wpS_pure ⟨rfl,la,of,rfl,a1,a3,a4,.inl hge⟩
   .rw[AR hge];refine wpS_bind (B rfl (show ht-of<n by omega) ?_);cases hp:P (ht-of)with
    | false=>exact wpS_pure ⟨rfl,of,2*of+1,rfl,by omega,by omega,by omega,hp⟩
    | true=>exact wpS_pure ⟨rfl,la,of,rfl,a1,a3,a4,.inr ⟨by omega,hp⟩⟩
  case po =>
   rintro c st' ⟨rfl,la,of,rfl,a1,a3,a4,a5⟩;dsimp only;refine wpS_bind (wpS_mono (S (lo:=ht+1-min of (ht+1)) (hi:=ht-la) (fun x l h'=>by
    dsimp only;by_cases hge:h'<=l
    .refine .inl ?_;rw[AZ hge];exact wpS_pure ⟨rfl,by rw[AZ hge]⟩
    .by_cases hn:l +(h' - l) / 2<n
     .refine .inl ?_;rw[AR hge];refine wpS_bind (B rfl hn ?_);dsimp only;cases hp:P (l +(h' - l) / 2)with
      | true =>
       simp only[FO];exact wpS_pure ⟨rfl,by rw[AR hge]⟩
      | false =>
       simp only[BQ,DR];exact wpS_pure ⟨rfl,by rw[AR hge]⟩
     .exact .inr (by omega)) (by omega) (by omega) (fun i hi=>?_) fun i hi1 hi2=>nmono (ht-la) i (by omega) hi2 a4) fun c st' ⟨e,k,e2,b1,b2,b3⟩=>?_)
   .rcases a5 with a5 | ⟨a5,a6⟩
    .omega
    .exact mono i (ht-of) (by omega) (by omega) a6
   .subst e e2;exact wpS_pure (h k b1 b2 b3)
end
section
variable{U:KeyKind}
theorem le_refl(p:Keyed):le U p p:=KeyOrd.kle_refl _
theorem le_trans{p q r:Keyed}(h1:le U p q)(h2:le U q r):le U p r:=KeyOrd.kle_trans h1 h2
structure ML(U:KeyKind)(a b:List Keyed)(o:List Keyed)(i j:Nat):Prop where
 perm:o.Perm (a.take i++b.take j)
 sor:Sor U o
 la:∀x∈o,∀y∈a.drop i,le U x y
 lb:∀x∈o,∀y∈b.drop j,le U x y
theorem ML.sym{a b o:List Keyed}{i j:Nat}(m:ML U a b o i j):ML U b a o j i:=⟨m.perm.trans CM,m.sor,m.lb,m.la⟩
theorem Db{l:List Keyed}(k:Nat)(h:Sor U l):∀x∈l.take k,∀y∈l.drop k,le U x y:=by
 have h':Sor U (l.take k++l.drop k):=by rw[BO];exact h
 exact(CA.mp h').2.2
theorem ML.addA{a b o:List Keyed}{i j:Nat}(m:ML U a b o i j)(sa:Sor U a)(k:Nat)(hk:∀y∈(a.drop i).take k,∀z∈b.drop j,le U y z):ML U a b (o ++(a.drop i).take k) (i+k) j:=by
 have hs:Sor U (a.drop i):=sa.sublist (EH _ _);refine⟨?_,?_,fun x hx y hy=>?_,fun x hx y hy=>?_⟩
 .rw[List.take_add];refine(CS _ m.perm).trans ?_;rw[BF,BF];exact C_ _ CM
 .refine CA.mpr ⟨m.sor,hs.sublist (DF _ _),fun x hx y hy=>m.la x hx y (BM hy)⟩
 .rw[<-EB]at hy;rcases AK.mp hx with hx | hx
  .exact m.la x hx y (DD hy)
  .exact Db k hs x hx y hy
 .rcases AK.mp hx with hx | hx
  .exact m.lb x hx y hy
  .exact hk x hx y hy
theorem ML.addB{a b o:List Keyed}{i j:Nat}(m:ML U a b o i j)(sb:Sor U b)(k:Nat)(hk:∀y∈(b.drop j).take k,∀z∈a.drop i,le U y z):ML U a b (o ++(b.drop j).take k) i (j+k) :=
 (m.sym.addA sb k hk).sym
theorem ML.endA{a b o:List Keyed}{i j:Nat}(m:ML U a b o i j)(sa:Sor U a)(sb:Sor U b)(h:∀y∈a.drop i,∀z∈b.drop j,le U y z):Sor U (o++a.drop i++b.drop j)/\(o++a.drop i++b.drop j).Perm (a++b):=by
 refine⟨?_,?_⟩
 .refine CA.mpr ⟨CA.mpr ⟨m.sor,sa.sublist (EH _ _),m.la⟩,sb.sublist (EH _ _),fun x hx y hy=>?_⟩;rcases AK.mp hx with hx | hx
  .exact m.lb x hx y hy
  .exact h x hx y hy
 .have h1:(o++a.drop i++b.drop j).Perm ((a.take i++b.take j)++a.drop i++b.drop j):=CS _ (CS _ m.perm);refine h1.trans ?_;have h2:((a.take i++b.take j)++a.drop i++b.drop j).Perm ((a.take i++a.drop i) ++(b.take j++b.drop j)):=by
   rw[BF,BF,BF];refine C_ _ ?_;rw[<-BF,<-BF];exact CS _ CM
  rw[BO,BO]at h2;exact h2
theorem ML.endB{a b o:List Keyed}{i j:Nat}(m:ML U a b o i j)(sa:Sor U a)(sb:Sor U b)(h:∀y∈b.drop j,∀z∈a.drop i,le U y z):Sor U (o++b.drop j++a.drop i)/\(o++b.drop j++a.drop i).Perm (a++b) :=
 ⟨(m.sym.endA sb sa h).1,(m.sym.endA sb sa h).2.trans CM⟩
structure MH(U:KeyKind)(a b:List Keyed)(o:List Keyed)(i j:Nat):Prop where
 perm:o.Perm (a.drop i++b.drop j)
 sor:Sor U o
 la:∀x∈o,∀y∈a.take i,le U y x
 lb:∀x∈o,∀y∈b.take j,le U y x
theorem MH.sym{a b o:List Keyed}{i j:Nat}(m:MH U a b o i j):MH U b a o j i:=⟨m.perm.trans CM,m.sor,m.lb,m.la⟩
theorem MH.addA{a b o:List Keyed}{i j:Nat}(m:MH U a b o i j)(sa:Sor U a)(k:Nat)(hki:k<=i)(hk:∀y∈(a.take i).drop k,∀z∈b.take j,le U z y):MH U a b ((a.take i).drop k++o) k j:=by
 have hs:Sor U (a.take i):=sa.sublist (DF _ _);have e:a.drop k =(a.take i).drop k++a.drop i:=by
  conv=>lhs;rw[<-BO i a]
  rw[List.drop_append];by_cases hl:i<=a.length
  .rw[AL,DM hl,Nat.sub_eq_zero_of_le hki,DT]
  .have:a.drop i = []:=DV (by lia);rw[this,List.drop_nil]
 have e2:(a.take i).take k=a.take k:=by rw[List.take_take,DM hki]
 refine⟨?_,?_,fun x hx y hy=>?_,fun x hx y hy=>?_⟩
 .rw[e,BF];exact C_ _ m.perm
 .exact CA.mpr ⟨hs.sublist (EH _ _),m.sor,fun x hx y hy=>m.la y hy x (DD hx)⟩
 .rw[<-e2]at hy;rcases AK.mp hx with hx | hx
  .exact Db k hs y hy x hx
  .exact m.la x hx y (BM hy)
 .rcases AK.mp hx with hx | hx
  .exact hk x hx y hy
  .exact m.lb x hx y hy
theorem MH.addB{a b o:List Keyed}{i j:Nat}(m:MH U a b o i j)(sb:Sor U b)(k:Nat)(hkj:k<=j)(hk:∀y∈(b.take j).drop k,∀z∈a.take i,le U z y):MH U a b ((b.take j).drop k++o) i k :=
 (m.sym.addA sb k hkj hk).sym
theorem MH.endA{a b o:List Keyed}{i j:Nat}(m:MH U a b o i j)(sa:Sor U a)(sb:Sor U b)(h:∀y∈a.take i,∀z∈b.take j,le U y z):Sor U (a.take i++b.take j++o)/\(a.take i++b.take j++o).Perm (a++b):=by
 refine⟨?_,?_⟩
 .refine CA.mpr ⟨CA.mpr ⟨sa.sublist (DF _ _),sb.sublist (DF _ _),h⟩,m.sor,fun x hx y hy=>?_⟩;rcases AK.mp hx with hx | hx
  .exact m.la y hy x hx
  .exact m.lb y hy x hx
 .have h1:(a.take i++b.take j++o).Perm (a.take i++b.take j ++(a.drop i++b.drop j)):=C_ _ m.perm;refine h1.trans ?_;have h2:(a.take i++b.take j ++(a.drop i++b.drop j)).Perm ((a.take i++a.drop i) ++(b.take j++b.drop j)):=by
   rw[BF,BF];refine C_ _ ?_;rw[<-BF,<-BF];exact CS _ CM
  rw[BO,BO]at h2;exact h2
theorem MH.endB{a b o:List Keyed}{i j:Nat}(m:MH U a b o i j)(sa:Sor U a)(sb:Sor U b)(h:∀y∈b.take j,∀z∈a.take i,le U y z):Sor U (b.take j++a.take i++o)/\(b.take j++a.take i++o).Perm (a++b) :=
 ⟨(m.sym.endA sb sa h).1,(m.sym.endA sb sa h).2.trans CM⟩
end
section
variable{prog:Program}{w:World}{A:Around}{E:Value->Shared->Prop}{s:Shared}{U:KeyKind}{kd:SortKind}
def r8(g:Nat):StateT SortSt Sem Unit:=modify fun s=>SortSt.mk' (kindOf s) (arrOf s) (pendingOf s) g (failedOf s)
def Au:Array Keyed->Array Keyed->StateT SortSt Sem (Array Keyed):=sortPriv% PySem.Builtin.mergeLo
theorem Ee(a b:Array Keyed):Au a b =(do
  rule "list.sort.merge-lo"
  let tot:=a.size+b.size
  let dn (o:Array Keyed) (i j:Nat):=o++a.extract i a.size++b.extract j b.size
  let lA (o:Array Keyed) (i j:Nat):=o++b.extract j b.size++a.extract i a.size
  let mut o:Array Keyed:=#[<-elem' b 0]
  let mut i:=0
  let mut j:=1
  if j == b.size then return dn o i j
  if i+1 == a.size then return lA o i j
  let mut mg:=gallopOf (<-get)
  for _ in [0:tot] do
   let mut ac:=0
   let mut bc:=0
   for _ in [0:tot] do
    let some bw <-lt' (<-elem' b j) (<-elem' a i) | return dn o i j
    if bw then
     o:=o.push (<-elem' b j);j:=j+1;bc:=bc+1;ac:=0
     if j == b.size then return dn o i j
     if bc ≥ mg then break
    else
     o:=o.push (<-elem' a i);i:=i+1;ac:=ac+1;bc:=0
     if i+1 == a.size then return lA o i j
     if ac ≥ mg then break
   rule "list.sort.gallop"
   mg:=mg+1
   for _ in [0:tot] do
    if mg>1 then mg:=mg-1
    r8 mg
    let some k <-O4 false (<-elem' b j) a i (a.size-i) 0 | return dn o i j
    ac:=k
    if k>0 then
     o:=o++a.extract i (i+k);i:=i+k
     if i+1 == a.size then return lA o i j
     if i == a.size then return dn o i j
    o:=o.push (<-elem' b j);j:=j+1
    if j == b.size then return dn o i j
    let some k <-O4 true (<-elem' a i) b j (b.size-j) 0 | return dn o i j
    bc:=k
    if k>0 then
     o:=o++b.extract j (j+k);j:=j+k
     if j == b.size then return dn o i j
    o:=o.push (<-elem' a i);i:=i+1
    if i+1 == a.size then return lA o i j
    if ac<7&&bc<7 then break
   mg:=mg+1
   r8 mg
  unsupported "internal:list.sort.merge-bound"):=rfl
def Sm(st st':SortSt):Prop:=kindOf st'=kindOf st/\arrOf st'=arrOf st/\pendingOf st'=pendingOf st/\failedOf st'=failedOf st
theorem Sm.refl(st:SortSt):Sm st st:=⟨rfl,rfl,rfl,rfl⟩
theorem Q0{st st0:SortSt}{g:Nat}{Q:Unit->SortSt->Prop}(hs:Sm st0 st)(h:∀st',Sm st0 st'->Q () st'):wpS (model prog w) A E s (r8 g) Q st :=
 wpS_modify (h _ ⟨hs.1,hs.2.1,hs.2.2.1,hs.2.2.2⟩)
theorem Am{l:List Keyed}{i k:Nat}{y:Keyed}(h:y∈(l.drop i).take k):∃t,t<k/\l[i+t]?=some y:=by
 obtain⟨t,ht,e⟩:=FA.mp h;rw[AL,CB]at ht;refine⟨t,by lia,?_⟩;rw[List.getElem_take,List.getElem_drop]at e;rw[<-e];exact AJ (by lia)
theorem En{l:List Keyed}{i:Nat}{y:Keyed}(h:y∈l.drop i):∃t,i+t<l.length/\l[i+t]?=some y:=by
 obtain⟨t,ht,e⟩:=FA.mp h;rw[CB]at ht;refine⟨t,by lia,?_⟩;rw[List.getElem_drop]at e;rw[<-e];exact AJ (by lia)
theorem Hj{l:List Keyed}{i:Nat}{y:Keyed}(h:y∈l.take i):∃t,t<i/\t<l.length/\l[t]?=some y:=by
 obtain⟨t,ht,e⟩:=FA.mp h;rw[AL]at ht;refine⟨t,by lia,by lia,?_⟩;rw[List.getElem_take]at e;rw[<-e];exact AJ (by lia)
theorem Pe{l:List Keyed}{i k:Nat}{y:Keyed}(h:y∈(l.take i).drop k):∃t,k<=t/\t<i/\l[t]?=some y:=by
 obtain⟨t,h1,h2⟩:=En h;rw[AL]at h1;rw[CJ (by lia)]at h2;exact⟨k+t,by lia,by lia,h2⟩
theorem X8{l:List Keyed}(h:Sor U l){i j:Nat}{p q:Keyed}(hij:i<=j)(hp:l[i]?=some p)(hq:l[j]?=some q):le U p q:=by
 obtain⟨h1,rfl⟩:=AM.mp hp;obtain⟨h2,rfl⟩:=AM.mp hq;rcases Nat.lt_or_eq_of_le hij with z | z
 .exact List.pairwise_iff_getElem.mp h i j h1 h2 z
 .subst z;exact le_refl _
theorem Bi{l:List Keyed}(h:Sor U l){i:Nat}{p:Keyed}(hp:l[i]?=some p):∀z∈l.drop i,le U p z:=fun z hz=>by
 obtain⟨t,_,e⟩:=En hz;exact X8 h (DZ _ _) hp e
theorem ar_get{a:Array Keyed}{i:Nat}{p:Keyed}:a[i]?=some p↔a.toList[i]?=some p:=by rw[BG]
theorem R8{a:Array Keyed}{i:Nat}(h:i<a.size):∃p,a[i]?=some p:=⟨a[i],getElem?_pos a i h⟩
theorem Mg{l:List Keyed}{i:Nat}{p:Keyed}(h:l[i]?=some p):(l.drop i).take 1 = [p]:=by
 obtain⟨h1,rfl⟩:=AM.mp h;rw[EE h1];rfl
theorem Ar(a:Array Keyed)(i k:Nat):(a.extract i (i+k)).toList =(a.toList.drop i).take k:=by
 rw[FB,EF,Nat.add_sub_cancel_left]
theorem V5(a:Array Keyed)(i:Nat):(a.extract i a.size).toList=a.toList.drop i:=by
 rw[FB,EF,CI];rw[CB,AV];exact Nat.le_refl _
theorem W0(a:Array Keyed)(i:Nat):(a.extract 0 i).toList=a.toList.take i:=by
 rw[FB,EF,DT,Nat.sub_zero]
def Rm(U:KeyKind)(a b r:Array Keyed):Prop:=Sor U r.toList/\r.toList.Perm (a.toList++b.toList)
structure Pre(U:KeyKind)(a b:Array Keyed):Prop where
 sa:Sor U a.toList
 sb:Sor U b.toList
 ka:∀(i:Nat) p,a[i]?=some p->Has U p
 kb:∀(i:Nat) p,b[i]?=some p->Has U p
 na:1<=a.size
 nb:1<=b.size
 first:∀q,b[0]?=some q->∀z∈a.toList,le U q z
 last:∀p,a[a.size-1]?=some p->∀z∈b.toList,le U z p
section
variable{a b o:Array Keyed}{i j k:Nat}{p q:Keyed}
theorem Pre.pushB(P:Pre U a b)(m:ML U a.toList b.toList o.toList i j)(hq:b[j]?=some q)(h:∀z∈a.toList.drop i,le U q z):ML U a.toList b.toList (o.push q).toList i (j+1):=by
 have h1:=m.addB P.sb 1 (by rw[Mg (ar_get.mp hq)];intro y hy;rw[AC.mp hy];exact h);rw[Mg (ar_get.mp hq)]at h1;rw[CN];exact h1
theorem Pre.pushA(P:Pre U a b)(m:ML U a.toList b.toList o.toList i j)(hp:a[i]?=some p)(h:∀z∈b.toList.drop j,le U p z):ML U a.toList b.toList (o.push p).toList (i+1) j:=by
 have h1:=m.addA P.sa 1 (by rw[Mg (ar_get.mp hp)];intro y hy;rw[AC.mp hy];exact h);rw[Mg (ar_get.mp hp)]at h1;rw[CN];exact h1
theorem Pre.extA(P:Pre U a b)(m:ML U a.toList b.toList o.toList i j)(h:∀y∈(a.toList.drop i).take k,∀z∈b.toList.drop j,le U y z):ML U a.toList b.toList (o++a.extract i (i+k)).toList (i+k) j:=by
 rw[BI,Ar];exact m.addA P.sa k h
theorem Pre.extB(P:Pre U a b)(m:ML U a.toList b.toList o.toList i j)(h:∀y∈(b.toList.drop j).take k,∀z∈a.toList.drop i,le U y z):ML U a.toList b.toList (o++b.extract j (j+k)).toList i (j+k):=by
 rw[BI,Ar];exact m.addB P.sb k h
theorem Pre.doneB(P:Pre U a b)(m:ML U a.toList b.toList o.toList i j)(hj:j=b.size):Rm U a b (o++a.extract i a.size++b.extract j b.size):=by
 unfold Rm;rw[BI,BI,V5,V5];refine m.endA P.sa P.sb fun y _ z hz=>?_;rw[DV (by rw[AV];lia)]at hz;exact absurd hz (by simp)
theorem Pre.doneA(P:Pre U a b)(m:ML U a.toList b.toList o.toList i j)(hi:i=a.size):Rm U a b (o++a.extract i a.size++b.extract j b.size):=by
 unfold Rm;rw[BI,BI,V5,V5];refine m.endA P.sa P.sb fun y hy z _=>?_;rw[DV (by rw[AV];lia)]at hy;exact absurd hy (by simp)
theorem Pre.lastA(P:Pre U a b)(m:ML U a.toList b.toList o.toList i j)(hi:i+1=a.size):Rm U a b (o++b.extract j b.size++a.extract i a.size):=by
 unfold Rm;rw[BI,BI,V5,V5];refine m.endB P.sa P.sb fun y hy z hz=>?_;obtain⟨t,h1,h2⟩:=En hz;rw[AV]at h1;have e:i+t=a.size-1:=by lia
 rw[e]at h2;exact P.last z (ar_get.mpr h2) y (DD hy)
end
theorem Sm.knd{st st':SortSt}(h:Sm st st'){k:SortKind}(hk:kindOf st=k):kindOf st'=k:=h.1.trans hk
theorem X2(C:Cmp prog w A s U kd){st:SortSt}{left:Bool}{ky:Keyed}{ar:Array Keyed}{bs n ht:Nat}{Q:Option Nat->SortSt->Prop}(hk:kindOf st=kd)(hky:Has U ky)
  (hsz:bs+n<=ar.size) (hh:∀(i:Nat) p,ar[i]?=some p->Has U p) (hs:∀(u v:Nat) p q,u<=v->v<n->ar[bs+u]?=some p->ar[bs+v]?=some q->le U p q) (hht:ht<n)
  (h:∀k,k<=n->(∀(t:Nat) p,t<k->ar[bs+t]?=some p->PB U left ky p=true)->(∀(t:Nat) p,k<=t->t<n->ar[bs+t]?=some p->PB U left ky p=false)->Q (some k) st) :
  wpS (model prog w) A E s (O4 left ky ar bs n ht) Q st:=by
 have key:∀t,t<n->∃p,ar[bs+t]?=some p:=fun t ht=>R8 (by lia);refine Hm C hk hky (fun t=>match ar[bs+t]? with | some p=>PB U left ky p | none=>false) (fun i hi=>?_) (fun i j hij hj hp=>?_) hht fun k hk1 h1 h2=>?_
 .obtain⟨p,hp⟩:=key i hi;exact⟨p,hp,hh _ p hp,by rw[hp]⟩
 .obtain⟨p,e1⟩:=key i (by lia);obtain⟨q,e2⟩:=key j hj;rw[e2]at hp;rw[e1];have l:=hs i j p q hij hj e1 e2;dsimp only at hp⊢;unfold PB at hp⊢;cases left with
  | true =>
   simp only[FO]at hp⊢;exact KeyOrd.klt_of_kle_of_klt l hp
  | false =>
   simp only[BQ,DR,Bool.not_eq_true']at hp⊢;exact KeyOrd.kle_trans l hp
 .refine h k hk1 (fun t p ht hp=>?_) fun t p ht1 ht2 hp=>?_
  .have:=h1 t ht;rw[hp]at this;exact this
  .have:=h2 t ht1 ht2;rw[hp]at this;exact this
theorem Bf{ky p:Keyed}(h:PB U false ky p=true):le U p ky:=by
 unfold PB at h;show U.blt (kk U ky) (kk U p)=false;simpa using h
theorem d8{ky p:Keyed}(h:PB U false ky p=false):U.klt (kk U ky) (kk U p):=by
 unfold PB at h;show U.blt (kk U ky) (kk U p)=true;simpa using h
theorem Eh{ky p:Keyed}(h:PB U true ky p=true):U.klt (kk U p) (kk U ky):=by
 unfold PB at h;show U.blt (kk U p) (kk U ky)=true;simpa using h
theorem Aq{ky p:Keyed}(h:PB U true ky p=false):le U ky p:=by
 unfold PB at h;show U.blt (kk U p) (kk U ky)=false;simpa using h
section
variable{α:Type}{Q:α->SortSt->Prop}{st:SortSt}
theorem K7{c:Prop}{_:Decidable c}{t e:StateT SortSt Sem α}(h1:c->wpS (model prog w) A E s t Q st)(h2:¬c->wpS (model prog w) A E s e Q st):wpS (model prog w) A E s (if c then t else e) Q st:=by
 split
 .rename_i h;exact h1 h
 .rename_i h;exact h2 h
theorem E9{x y:Nat}{t e:StateT SortSt Sem α}(h1:x=y->wpS (model prog w) A E s t Q st)(h2:x≠y->wpS (model prog w) A E s e Q st):wpS (model prog w) A E s (if(x == y)=true then t else e) Q st :=
 K7 (fun h=>h1 (eq_of_beq h)) fun h=>h2 fun z=>h (beq_iff_eq.mpr z)
theorem Ls{c:Prop}{_:Decidable c}{t:StateT SortSt Sem α}{F:Nat->StateT SortSt Sem α}(x:Nat){y:Nat}(h:∀g,wpS (model prog w) A E s (F g) Q st)(e:t=F x):wpS (model prog w) A E s (if c then t else F y) Q st:=by
 subst e;exact K7 (fun _=>h _) fun _=>h _
theorem Bj{c:Prop}{_:Decidable c}{t:StateT SortSt Sem α}{F:Array Keyed->Nat->StateT SortSt Sem α}{o:Array Keyed}{i:Nat}(R:Array Keyed->Nat->Prop)(h:∀o i,R o i->wpS (model prog w) A E s (F o i) Q st)
  (hT:(∀o i,R o i->wpS (model prog w) A E s (F o i) Q st)->c->wpS (model prog w) A E s t Q st) (hE:¬c->R o i):wpS (model prog w) A E s (if c then t else F o i) Q st:=K7 (hT h) fun z=>h _ _ (hE z)
end
theorem Ji{α β:Type}{r0:Sem Unit}{el:StateT SortSt Sem Keyed}{x0:Keyed}{c1 c2:Prop}{_:Decidable c1}{_:Decidable c2}{t1 t2:Keyed->StateT SortSt Sem α}{ini:Keyed->SortSt->β}{n:Nat}{f:Nat->β->StateT SortSt Sem (ForInStep β)}{g:β->StateT SortSt Sem α}{Q:α->SortSt->Prop}{st:SortSt}
  (hr:∀R:Unit->SortSt->Prop,R () st->wpS (model prog w) A E s (liftM r0:StateT SortSt Sem Unit) R st) (he:∀R:Keyed->SortSt->Prop,R x0 st->wpS (model prog w) A E s el R st) (h1:c1->wpS (model prog w) A E s (t1 x0) Q st) (h2:¬c1->c2->wpS (model prog w) A E s (t2 x0) Q st)
  (h3:¬c1->¬c2->wpS (model prog w) A E s (forIn [0:n] (ini x0 st) f) (fun c st'=>wpS (model prog w) A E s (g c) Q st') st) :
  wpS (model prog w) A E s ((liftM r0:StateT SortSt Sem Unit) >>= fun _=>el >>= fun x=>if c1 then t1 x else if c2 then t2 x else get >>= fun st'=>forIn [0:n] (ini x st') f >>= g) Q st :=
 wpS_bind (hr _ (wpS_bind (he _ (K7 h1 fun z1=>K7 (h2 z1) fun z2=>wpS_bind (wpS_get (wpS_bind (h3 z1 z2)))))))
def MR(U:KeyKind)(a b:Array Keyed)(st:SortSt){β:Type}(c:Option (Array Keyed)×β)(st':SortSt):Prop:=Sm st st'/\∃r,c.1=some r/\Rm U a b r
theorem MR.mk{a b r:Array Keyed}{st st':SortSt}{β:Type}{c:β}(sm:Sm st st')(h:Rm U a b r):MR U a b st (some r,c) st':=⟨sm,r,rfl,h⟩
structure LoP(U:KeyKind)(a b:Array Keyed)(n:Nat)(o:Array Keyed)(i j:Nat):Prop where
 m:ML U a.toList b.toList o.toList i j
 hi:i+1<a.size
 hj:j<b.size
 hn:n<=i+j
theorem LoP.putB{a b o o':Array Keyed}{n i j:Nat}(h:LoP U a b n o i j)(m:ML U a.toList b.toList o'.toList i (j+1))(e:j+1≠b.size):LoP U a b (n+1) o' i (j+1):=⟨m,h.hi,FS h.hj e,Nat.succ_le_succ h.hn⟩
theorem LoP.putA{a b o o':Array Keyed}{n i j:Nat}(h:LoP U a b n o i j)(m:ML U a.toList b.toList o'.toList (i+1) j)(e:i+1+1≠a.size):LoP U a b (n+1) o' (i+1) j:=⟨m,FS h.hi e,h.hj,by rw[Nat.add_right_comm];exact Nat.succ_le_succ h.hn⟩
theorem LoP.mono{a b o:Array Keyed}{n n' i j:Nat}(h:LoP U a b n o i j)(l:n'<=n):LoP U a b n' o i j:=⟨h.m,h.hi,h.hj,Nat.le_trans l h.hn⟩
def Xe(U:KeyKind)(a b:Array Keyed)(st:SortSt)(n:Nat)(c:Option (Array Keyed)×Array Keyed×Nat×Nat×Nat)(st':SortSt):Prop:=Sm st st'/\∃o i j mg,c =(none,o,i,j,mg)/\LoP U a b n o i j
def LoI2(U:KeyKind)(a b:Array Keyed)(st:SortSt)(n:Nat)(c:Option (Array Keyed)×Array Keyed×Nat×Nat×Nat×Nat)(st':SortSt):Prop:=Sm st st'/\∃o i j ac bc,c =(none,o,i,j,ac,bc)/\LoP U a b n o i j
def LoI3(U:KeyKind)(a b:Array Keyed)(st:SortSt)(n:Nat)(c:Option (Array Keyed)×Array Keyed×Nat×Nat×Nat×Nat×Nat)(st':SortSt):Prop:=Sm st st'/\∃o i j mg ac bc,c =(none,o,i,j,mg,ac,bc)/\LoP U a b n o i j
theorem LoI2.mk{a b o:Array Keyed}{st st':SortSt}{n i j ac bc:Nat}(sm:Sm st st')(h:LoP U a b n o i j):LoI2 U a b st n (none,o,i,j,ac,bc) st':=⟨sm,_,_,_,_,_,rfl,h⟩
theorem LoI3.mk{a b o:Array Keyed}{st st':SortSt}{n i j mg ac bc:Nat}(sm:Sm st st')(h:LoP U a b n o i j):LoI3 U a b st n (none,o,i,j,mg,ac,bc) st':=⟨sm,_,_,_,_,_,_,rfl,h⟩
theorem Ew(C:Cmp prog w A s U kd){st:SortSt}{a b:Array Keyed}{Q:Array Keyed->SortSt->Prop}(hk:kindOf st=kd)(P:Pre U a b)
  (h:∀r st',Sm st st'->Rm U a b r->Q r st'):wpS (model prog w) A E s (Au a b) Q st:=by
 rw[Ee];obtain⟨b0,hb0⟩:=R8 (a:=b) (i:=0) P.nb;have m0:ML U a.toList b.toList (#[]:Array Keyed).toList 0 0:=⟨by simp,List.Pairwise.nil,fun x hx=>absurd hx (by simp),fun x hx=>absurd hx (by simp)⟩;have m1:ML U a.toList b.toList (#[b0]:Array Keyed).toList 0 1:=by
  have:=P.pushB m0 hb0 (by rw[DT];exact P.first b0 hb0);simpa using this
 apply Ji (x0:=b0) (fun R z=>wpS_lift (DG ⟨rfl,z⟩)) (fun R z=>C7 hb0 z)
 case h1=>exact fun hb1=>wpS_pure (h _ _ (Sm.refl _) (P.doneB m1 (eq_of_beq hb1)))
 case h2=>exact fun _ ha1=>wpS_pure (h _ _ (Sm.refl _) (P.lastA m1 (eq_of_beq ha1)))
 intro hb1 ha1;have p1:LoP U a b 1 #[b0] 0 1:=⟨m1,FS P.na fun z=>ha1 (beq_iff_eq.mpr z),FS P.nb fun z=>hb1 (beq_iff_eq.mpr z),Nat.le_refl _⟩;refine wpS_mono (wpS_forRange (I:=fun x=>Xe U a b st (x+1)) (Q:=MR U a b st) ?st ?en ⟨Sm.refl _,_,_,_,_,rfl,p1⟩) ?po
 case po =>
  rintro⟨c1,c2⟩ st' ⟨sm,r,e,hr⟩;cases e;exact wpS_pure (h r st' sm hr)
 case en =>
  rintro c st' ⟨sm,o,i,j,mg,rfl,p⟩;obtain⟨_,h1,h2,h3⟩:=p;exfalso;lia
 case st =>
  rintro x c st' _ hx ⟨sm,o,i,j,mg,rfl,p⟩;refine wpS_bind (wpS_mono (wpS_forRange (I:=fun _=>LoI2 U a b st (x+1)) (Q:=fun c st'=>MR U a b st c st'\/LoI2 U a b st (x+1) c st') ?st1 ?en1 (LoI2.mk sm p)) ?po1)
  case en1=>exact fun c st2 z=>.inr z
  case st1 =>
   rintro x2 c st2 _ _ ⟨sm2,o,i',j',ac,bc,rfl,p2⟩;obtain⟨bj,hbj⟩:=R8 (a:=b) (i:=j') p2.hj;obtain⟨ai,hai⟩:=R8 (a:=a) (i:=i') (EZ p2.hi);refine wpS_bind (C7 hbj (wpS_bind (C7 hai (wpS_bind (Cq C (sm2.knd hk) (P.kb _ _ hbj) (P.ka _ _ hai) ?_)))));refine K7 (fun hlt=>wpS_bind (C7 hbj ?_)) fun hlt=>wpS_bind (C7 hai ?_)
   .have m3:=P.pushB p2.m hbj fun z hz=>le_trans (KeyOrd.kle_of_klt hlt) (Bi P.sa (ar_get.mp hai) z hz);refine E9 (fun e1=>wpS_pure (.inl (MR.mk sm2 (P.doneB m3 e1)))) fun e1=>?_;have p3:=(p2.putB m3 e1).mono (CL _);exact K7 (fun _=>wpS_pure (.inr (LoI2.mk sm2 p3))) fun _=>wpS_pure (LoI2.mk sm2 p3)
   .have m3:=P.pushA p2.m hai fun z hz=>le_trans (show le U ai bj from Bool.eq_false_iff.mpr hlt) (Bi P.sb (ar_get.mp hbj) z hz);refine E9 (fun e1=>wpS_pure (.inl (MR.mk sm2 (P.lastA m3 e1)))) fun e1=>?_;have p3:=(p2.putA m3 e1).mono (CL _);exact K7 (fun _=>wpS_pure (.inr (LoI2.mk sm2 p3))) fun _=>wpS_pure (LoI2.mk sm2 p3)
  case po1 =>
   rintro⟨c1,c2⟩ st2 (⟨sm2,r,e,hr⟩ | ⟨sm2,o2,i2,j2,ac,bc,e,p2⟩)
   .cases e;exact wpS_pure (MR.mk sm2 hr)
   .cases e;refine wpS_bind (wpS_lift (DG ⟨rfl,?_⟩));refine wpS_bind (wpS_mono (wpS_forRange (I:=fun x3=>LoI3 U a b st (x+1+x3)) (Q:=fun c st'=>MR U a b st c st'\/LoI3 U a b st (x+1+1) c st') ?st2 ?en2 (LoI3.mk sm2 p2)) ?po2)
    case en2 =>
     rintro c st3 ⟨sm3,o',i',j',mg',ac,bc,rfl,p3⟩;refine .inr (LoI3.mk sm3 (p3.mono ?_));have:=P.na;lia
    case po2 =>
     rintro⟨c1,c2⟩ st3 (⟨sm3,r,e,hr⟩ | ⟨sm3,o',i',j',mg',ac,bc,e,p3⟩)
     .cases e;exact wpS_pure (MR.mk sm3 hr)
     .cases e;refine wpS_bind (Q0 sm3 fun st4 sm4=>?_);exact wpS_pure ⟨sm4,_,_,_,_,rfl,p3⟩
    case st2 =>
     rintro x3 c st3 _ _ ⟨sm3,o3,i3,j3,mg3,ac3,bc3,rfl,p3⟩;obtain⟨bj,hbj⟩:=R8 (a:=b) (i:=j3) p3.hj;have hi3:i3 +(a.size-i3)<=a.size:=by rw[Nat.add_sub_cancel' (CT (EZ p3.hi))];exact Nat.le_refl _
     have hj3:=p3.hj;apply Ls (mg3-1) (y:=mg3)
     case e=>exact rfl
     intro g;refine wpS_bind (Q0 sm3 fun st4 sm4=>?_);refine wpS_bind (C7 hbj (wpS_bind (X2 C (sm4.knd hk) (P.kb _ _ hbj) hi3 P.ka (fun u v p q huv _ e1 e2=>X8 P.sa (EM huv _) (ar_get.mp e1) (ar_get.mp e2)) (Nat.sub_pos_of_lt (EZ p3.hi)) fun k hk1 k1 k2=>?_)));have m4:ML U a.toList b.toList (o3++a.extract i3 (i3+k)).toList (i3+k) j3:=P.extA p3.m fun y hy z hz=>by
      obtain⟨t,ht,e⟩:=Am hy;exact le_trans (Bf (k1 t y ht (ar_get.mpr e))) (Bi P.sb (ar_get.mp hbj) z hz)
     have hbz:∀z∈a.toList.drop (i3+k),le U bj z:=fun z hz=>by
      obtain⟨t,ht,e⟩:=En hz;rw[AV]at ht;exact KeyOrd.kle_of_klt (d8 (k2 (k+t) z (DZ _ _) (by lia) (by rw[<-Nat.add_assoc];exact ar_get.mpr e)))
     apply Bj (o:=o3) (i:=i3) (fun o i=>LoP U a b (x+1+x3) o i j3/\∀z∈a.toList.drop i,le U bj z)
     .rintro o4 i4 ⟨p4,hbz⟩;refine wpS_bind (C7 hbj ?_);have m5:=P.pushB p4.m hbj hbz;refine E9 (fun e3=>wpS_pure (.inl (MR.mk sm4 (P.doneB m5 e3)))) fun e3=>?_;have p5:=p4.putB m5 e3;generalize o4.push bj=o5 at m5 p5⊢;generalize j3+1=j5 at m5 p5⊢;obtain⟨ai,hai⟩:=R8 (a:=a) (i:=i4) (EZ p5.hi);refine wpS_bind (C7 hai (wpS_bind (X2 C (sm4.knd hk) (P.ka _ _ hai) (by rw[Nat.add_sub_cancel' (CT p5.hj)];exact Nat.le_refl _) P.kb (fun u v p q huv _ e1 e2=>X8 P.sb (EM huv _) (ar_get.mp e1) (ar_get.mp e2)) (Nat.sub_pos_of_lt p5.hj) fun k' hk1' k1' k2'=>?_)));have haz:∀z∈b.toList.drop (j5+k'),le U ai z:=fun z hz=>by
       obtain⟨t,ht,e⟩:=En hz;rw[AV]at ht;exact Aq (k2' (k'+t) z (DZ _ _) (by lia) (by rw[<-Nat.add_assoc];exact ar_get.mpr e))
      apply Bj (o:=o5) (i:=j5) (fun o j=>LoP U a b (x+1+x3+1) o i4 j/\∀z∈b.toList.drop j,le U ai z)
      .rintro o6 j6 ⟨p6,haz⟩;refine wpS_bind (C7 hai ?_);have m7:=P.pushA p6.m hai haz;refine E9 (fun e5=>wpS_pure (.inl (MR.mk sm4 (P.lastA m7 e5)))) fun e5=>?_;have p7:=p6.putA m7 e5;exact K7 (fun _=>wpS_pure (.inr (LoI3.mk sm4 (p7.mono (by lia))))) fun _=>wpS_pure (LoI3.mk sm4 (p7.mono (by lia)))
      .intro hF hk0;have m6:ML U a.toList b.toList (o5++b.extract j5 (j5+k')).toList i4 (j5+k'):=P.extB m5 fun y hy z hz=>by
        obtain⟨t,ht,e⟩:=Am hy;exact le_trans (KeyOrd.kle_of_klt (Eh (k1' t y ht (ar_get.mpr e)))) (Bi P.sa (ar_get.mp hai) z hz)
       have hj5:=p5.hj;exact E9 (fun e4=>wpS_pure (.inl (MR.mk sm4 (P.doneB m6 e4)))) fun e4=>hF _ _ ⟨⟨m6,p5.hi,by lia,Nat.le_trans p5.hn (by lia)⟩,haz⟩
      .intro hk0;have z0:k'=0:=ER hk0;subst z0;exact⟨p5,haz⟩
     .intro hF hk0;have hi:=p3.hi;exact E9 (fun e1=>wpS_pure (.inl (MR.mk sm4 (P.lastA m4 e1)))) fun e1=>E9 (fun e2=>wpS_pure (.inl (MR.mk sm4 (P.doneA m4 e2)))) fun e2=>hF _ _ ⟨⟨m4,by lia,p3.hj,Nat.le_trans p3.hn (by lia)⟩,hbz⟩
     .intro hk0;have z0:k=0:=ER hk0;subst z0;exact⟨p3,hbz⟩
end
section
variable{prog:Program}{w:World}{A:Around}{E:Value->Shared->Prop}{s:Shared}{U:KeyKind}{kd:SortKind}
def Bq:Array Keyed->Array Keyed->StateT SortSt Sem (Array Keyed):=sortPriv% PySem.Builtin.mergeHi
theorem Fg(a b:Array Keyed):Bq a b =(do
  rule "list.sort.merge-hi"
  let tot:=a.size+b.size
  let dn (o:Array Keyed) (i j:Nat):=a.extract 0 i++b.extract 0 j++o.reverse
  let fB (o:Array Keyed) (i j:Nat):=b.extract 0 j++a.extract 0 i++o.reverse
  let mut i:=a.size-1
  let mut j:=b.size
  let mut o:Array Keyed:=#[<-elem' a i]
  if i == 0 then return dn o i j
  if j == 1 then return fB o i j
  let mut mg:=gallopOf (<-get)
  for _ in [0:tot] do
   let mut ac:=0
   let mut bc:=0
   for _ in [0:tot] do
    let some aw <-lt' (<-elem' b (j-1)) (<-elem' a (i-1)) | return dn o i j
    if aw then
     i:=i-1;o:=o.push (<-elem' a i);ac:=ac+1;bc:=0
     if i == 0 then return dn o i j
     if ac ≥ mg then break
    else
     j:=j-1;o:=o.push (<-elem' b j);bc:=bc+1;ac:=0
     if j == 1 then return fB o i j
     if bc ≥ mg then break
   rule "list.sort.gallop"
   mg:=mg+1
   for _ in [0:tot] do
    if mg>1 then mg:=mg-1
    r8 mg
    let some at_ <-O4 false (<-elem' b (j-1)) a 0 i (i-1) | return dn o i j
    let k:=i-at_
    ac:=k
    if k>0 then
     o:=o ++(a.extract at_ i).reverse;i:=at_
     if i == 0 then return dn o i j
    j:=j-1;o:=o.push (<-elem' b j)
    if j == 1 then return fB o i j
    let some at_ <-O4 true (<-elem' a (i-1)) b 0 j (j-1) | return dn o i j
    let k:=j-at_
    bc:=k
    if k>0 then
     o:=o ++(b.extract at_ j).reverse;j:=at_
     if j == 1 then return fB o i j
     if j == 0 then return dn o i j
    i:=i-1;o:=o.push (<-elem' a i)
    if i == 0 then return dn o i j
    if ac<7&&bc<7 then break
   mg:=mg+1
   r8 mg
  unsupported "internal:list.sort.merge-bound"):=rfl
abbrev MHa(U:KeyKind)(a b o:Array Keyed)(i j:Nat):Prop:=MH U a.toList b.toList o.toList.reverse i j
section
variable{a b o:Array Keyed}{i j k:Nat}{p q:Keyed}
theorem td1{l:List Keyed}{i:Nat}{p:Keyed}(hi:1<=i)(h:l[i-1]?=some p):(l.take i).drop (i-1) = [p]:=by
 rw[FC,show i-(i-1)=1 by lia];exact Mg h
theorem Fd(a:Array Keyed)(k i:Nat):(a.extract k i).toList =(a.toList.take i).drop k:=by
 rw[FB,EF,FC]
theorem Bw{l:List Keyed}(h:Sor U l){i:Nat}{p:Keyed}(hp:l[i-1]?=some p):∀z∈l.take i,le U z p:=fun z hz=>by
 obtain⟨t,h1,_,e⟩:=Hj hz;exact X8 h (by lia) e hp
theorem Pre.hpA(P:Pre U a b)(m:MHa U a b o i j)(hi:1<=i)(hp:a[i-1]?=some p)(h:∀z∈b.toList.take j,le U z p):MHa U a b (o.push p) (i-1) j:=by
 have h1:=m.addA P.sa (i-1) (by lia) (by rw[td1 hi (ar_get.mp hp)];intro y hy;rw[AC.mp hy];exact h);rw[td1 hi (ar_get.mp hp)]at h1;unfold MHa;rw[CN,FK];exact h1
theorem Pre.hpB(P:Pre U a b)(m:MHa U a b o i j)(hj:1<=j)(hq:b[j-1]?=some q)(h:∀z∈a.toList.take i,le U z q):MHa U a b (o.push q) i (j-1):=by
 have h1:=m.addB P.sb (j-1) (by lia) (by rw[td1 hj (ar_get.mp hq)];intro y hy;rw[AC.mp hy];exact h);rw[td1 hj (ar_get.mp hq)]at h1;unfold MHa;rw[CN,FK];exact h1
theorem Pre.heA(P:Pre U a b)(m:MHa U a b o i j)(hk:k<=i)(h:∀y∈(a.toList.take i).drop k,∀z∈b.toList.take j,le U z y):MHa U a b (o ++(a.extract k i).reverse) k j:=by
 unfold MHa;rw[BI,EI,FK,List.reverse_reverse,Fd];exact m.addA P.sa k hk h
theorem Pre.heB(P:Pre U a b)(m:MHa U a b o i j)(hk:k<=j)(h:∀y∈(b.toList.take j).drop k,∀z∈a.toList.take i,le U z y):MHa U a b (o ++(b.extract k j).reverse) i k:=by
 unfold MHa;rw[BI,EI,FK,List.reverse_reverse,Fd];exact m.addB P.sb k hk h
theorem Pre.hdA(P:Pre U a b)(m:MHa U a b o i j)(hi:i=0):Rm U a b (a.extract 0 i++b.extract 0 j++o.reverse):=by
 unfold Rm;rw[BI,BI,EI,W0,W0];refine m.endA P.sa P.sb fun y hy z _=>?_;rw[hi,List.take_zero]at hy;exact absurd hy (by simp)
theorem Pre.hdB(P:Pre U a b)(m:MHa U a b o i j)(hj:j=0):Rm U a b (a.extract 0 i++b.extract 0 j++o.reverse):=by
 unfold Rm;rw[BI,BI,EI,W0,W0];refine m.endA P.sa P.sb fun y _ z hz=>?_;rw[hj,List.take_zero]at hz;exact absurd hz (by simp)
theorem Pre.hfB(P:Pre U a b)(m:MHa U a b o i j)(hj:j=1):Rm U a b (b.extract 0 j++a.extract 0 i++o.reverse):=by
 unfold Rm;rw[BI,BI,EI,W0,W0];refine m.endB P.sa P.sb fun y hy z hz=>?_;obtain⟨t,h1,_,e⟩:=Hj hy;have e0:t=0:=by lia
 rw[e0]at e;exact P.first y (ar_get.mpr e) z (BM hz)
end
structure HiP(U:KeyKind)(a b:Array Keyed)(n:Nat)(o:Array Keyed)(i j:Nat):Prop where
 m:MHa U a b o i j
 hi:1<=i
 hj:2<=j
 ia:i<=a.size
 jb:j<=b.size
 hn:n+i+j<=a.size+b.size
theorem HiP.putA{a b o o':Array Keyed}{n i j:Nat}(h:HiP U a b n o i j)(m:MHa U a b o' (i-1) j)(e:i-1≠0):HiP U a b (n+1) o' (i-1) j:=by
 obtain⟨_,h1,h2,h3,h4,h5⟩:=h;exact⟨m,by lia,h2,by lia,h4,by lia⟩
theorem HiP.putB{a b o o':Array Keyed}{n i j:Nat}(h:HiP U a b n o i j)(m:MHa U a b o' i (j-1))(e:j-1≠1):HiP U a b (n+1) o' i (j-1):=by
 obtain⟨_,h1,h2,h3,h4,h5⟩:=h;exact⟨m,h1,by lia,h3,by lia,by lia⟩
theorem HiP.mono{a b o:Array Keyed}{n n' i j:Nat}(h:HiP U a b n o i j)(l:n'<=n):HiP U a b n' o i j:=⟨h.m,h.hi,h.hj,h.ia,h.jb,Nat.le_trans (Nat.add_le_add_right (Nat.add_le_add_right l _) _) h.hn⟩
theorem HiP.la{a b o:Array Keyed}{n i j:Nat}(h:HiP U a b n o i j):i-1<a.size:=AX (Nat.sub_lt h.hi (FP)) h.ia
theorem HiP.lb{a b o:Array Keyed}{n i j:Nat}(h:HiP U a b n o i j):j-1<b.size:=AX (Nat.sub_lt (EZ h.hj) (FP)) h.jb
theorem HiP.hj1{a b o:Array Keyed}{n i j:Nat}(h:HiP U a b n o i j):1<=j:=DH h.hj
def Xt(U:KeyKind)(a b:Array Keyed)(st:SortSt)(n:Nat)(c:Option (Array Keyed)×Nat×Nat×Array Keyed×Nat)(st':SortSt):Prop:=Sm st st'/\∃i j o mg,c =(none,i,j,o,mg)/\HiP U a b n o i j
def HiI2(U:KeyKind)(a b:Array Keyed)(st:SortSt)(n:Nat)(c:Option (Array Keyed)×Nat×Nat×Array Keyed×Nat×Nat)(st':SortSt):Prop:=Sm st st'/\∃i j o ac bc,c =(none,i,j,o,ac,bc)/\HiP U a b n o i j
def HiI3(U:KeyKind)(a b:Array Keyed)(st:SortSt)(n:Nat)(c:Option (Array Keyed)×Nat×Nat×Array Keyed×Nat×Nat×Nat)(st':SortSt):Prop:=Sm st st'/\∃i j o mg ac bc,c =(none,i,j,o,mg,ac,bc)/\HiP U a b n o i j
theorem HiI2.mk{a b o:Array Keyed}{st st':SortSt}{n i j ac bc:Nat}(sm:Sm st st')(h:HiP U a b n o i j):HiI2 U a b st n (none,i,j,o,ac,bc) st':=⟨sm,_,_,_,_,_,rfl,h⟩
theorem HiI3.mk{a b o:Array Keyed}{st st':SortSt}{n i j mg ac bc:Nat}(sm:Sm st st')(h:HiP U a b n o i j):HiI3 U a b st n (none,i,j,o,mg,ac,bc) st':=⟨sm,_,_,_,_,_,_,rfl,h⟩
theorem Fa(C:Cmp prog w A s U kd){st:SortSt}{a b:Array Keyed}{Q:Array Keyed->SortSt->Prop}(hk:kindOf st=kd)(P:Pre U a b)
  (h:∀r st',Sm st st'->Rm U a b r->Q r st'):wpS (model prog w) A E s (Bq a b) Q st:=by
 rw[Fg];have hna:=P.na;have hnb:=P.nb;obtain⟨b0,hb0⟩:=R8 (a:=a) (i:=a.size-1) (Nat.sub_lt hna FP);have m0:MHa U a b (#[]:Array Keyed) a.size b.size:=⟨by simp,List.Pairwise.nil,fun x hx=>absurd hx (by simp),fun x hx=>absurd hx (by simp)⟩;have m1:MHa U a b (#[b0]:Array Keyed) (a.size-1) b.size:=by
  have:=P.hpA m0 hna hb0 (fun z hz=>P.last b0 hb0 z (BM hz));simpa using this
 apply Ji (x0:=b0) (fun R z=>wpS_lift (DG ⟨rfl,z⟩)) (fun R z=>C7 hb0 z)
 case h1=>exact fun ha1=>wpS_pure (h _ _ (Sm.refl _) (P.hdA m1 (eq_of_beq ha1)))
 case h2=>exact fun _ hb1=>wpS_pure (h _ _ (Sm.refl _) (P.hfB m1 (eq_of_beq hb1)))
 intro ha1 hb1;have ha1:¬a.size-1=0:=fun z=>ha1 (beq_iff_eq.mpr z);have hb1:¬b.size=1:=fun z=>hb1 (beq_iff_eq.mpr z);have p1:HiP U a b 1 #[b0] (a.size-1) b.size:=⟨m1,by lia,by lia,by lia,by lia,by lia⟩;refine wpS_mono (wpS_forRange (I:=fun x=>Xt U a b st (x+1)) (Q:=MR U a b st) ?st ?en ⟨Sm.refl _,_,_,_,_,rfl,p1⟩) ?po
 case po =>
  rintro⟨c1,c2⟩ st' ⟨sm,r,e,hr⟩;cases e;exact wpS_pure (h r st' sm hr)
 case en =>
  rintro c st' ⟨sm,i,j,o,mg,rfl,p⟩;obtain⟨_,h1,h2,_,_,h3⟩:=p;exfalso;lia
 case st =>
  rintro x c st' _ hx ⟨sm,i,j,o,mg,rfl,p⟩;refine wpS_bind (wpS_mono (wpS_forRange (I:=fun _=>HiI2 U a b st (x+1)) (Q:=fun c st'=>MR U a b st c st'\/HiI2 U a b st (x+1) c st') ?st1 ?en1 (HiI2.mk sm p)) ?po1)
  case en1=>exact fun c st2 z=>.inr z
  case st1 =>
   rintro x2 c st2 _ _ ⟨sm2,i',j',o,ac,bc,rfl,p2⟩;obtain⟨bj,hbj⟩:=R8 (a:=b) (i:=j' - 1) p2.lb;obtain⟨ai,hai⟩:=R8 (a:=a) (i:=i' - 1) p2.la;refine wpS_bind (C7 hbj (wpS_bind (C7 hai (wpS_bind (Cq C (sm2.knd hk) (P.kb _ _ hbj) (P.ka _ _ hai) ?_)))));refine K7 (fun hlt=>wpS_bind (C7 hai ?_)) fun hlt=>wpS_bind (C7 hbj ?_)
   .have m3:=P.hpA p2.m p2.hi hai fun z hz=>le_trans (Bw P.sb (ar_get.mp hbj) z hz) (KeyOrd.kle_of_klt hlt);refine E9 (fun e1=>wpS_pure (.inl (MR.mk sm2 (P.hdA m3 e1)))) fun e1=>?_;have p3:=(p2.putA m3 e1).mono (CL _);exact K7 (fun _=>wpS_pure (.inr (HiI2.mk sm2 p3))) fun _=>wpS_pure (HiI2.mk sm2 p3)
   .have m3:=P.hpB p2.m p2.hj1 hbj fun z hz=>le_trans (Bw P.sa (ar_get.mp hai) z hz) (show le U ai bj from Bool.eq_false_iff.mpr hlt);refine E9 (fun e1=>wpS_pure (.inl (MR.mk sm2 (P.hfB m3 e1)))) fun e1=>?_;have p3:=(p2.putB m3 e1).mono (CL _);exact K7 (fun _=>wpS_pure (.inr (HiI2.mk sm2 p3))) fun _=>wpS_pure (HiI2.mk sm2 p3)
  case po1 =>
   rintro⟨c1,c2⟩ st2 (⟨sm2,r,e,hr⟩ | ⟨sm2,i2,j2,o2,ac,bc,e,p2⟩)
   .cases e;exact wpS_pure (MR.mk sm2 hr)
   .cases e;refine wpS_bind (wpS_lift (DG ⟨rfl,?_⟩));refine wpS_bind (wpS_mono (wpS_forRange (I:=fun x3=>HiI3 U a b st (x+1+x3)) (Q:=fun c st'=>MR U a b st c st'\/HiI3 U a b st (x+1+1) c st') ?st2 ?en2 (HiI3.mk sm2 p2)) ?po2)
    case en2 =>
     rintro c st3 ⟨sm3,i',j',o',mg',ac,bc,rfl,p3⟩;exact .inr (HiI3.mk sm3 (p3.mono (by lia)))
    case po2 =>
     rintro⟨c1,c2⟩ st3 (⟨sm3,r,e,hr⟩ | ⟨sm3,i',j',o',mg',ac,bc,e,p3⟩)
     .cases e;exact wpS_pure (MR.mk sm3 hr)
     .cases e;refine wpS_bind (Q0 sm3 fun st4 sm4=>?_);exact wpS_pure ⟨sm4,_,_,_,_,rfl,p3⟩
    case st2 =>
     rintro x3 c st3 _ _ ⟨sm3,i3,j3,o3,mg3,ac3,bc3,rfl,p3⟩;obtain⟨bj,hbj⟩:=R8 (a:=b) (i:=j3-1) p3.lb;apply Ls (mg3-1) (y:=mg3)
     case e=>exact rfl
     intro g;refine wpS_bind (Q0 sm3 fun st4 sm4=>?_);refine wpS_bind (C7 hbj (wpS_bind (X2 C (sm4.knd hk) (P.kb _ _ hbj) (by rw[FV];exact p3.ia) P.ka (fun u v p q huv _ e1 e2=>X8 P.sa (EM huv _) (ar_get.mp e1) (ar_get.mp e2)) (Nat.sub_lt p3.hi FP) fun k hk1 k1 k2=>?_)));dsimp only;have m4:MHa U a b (o3 ++(a.extract k i3).reverse) k j3:=P.heA p3.m hk1 fun y hy z hz=>by
      obtain⟨t,ht1,ht2,e⟩:=Pe hy;exact le_trans (Bw P.sb (ar_get.mp hbj) z hz) (KeyOrd.kle_of_klt (d8 (k2 t y ht1 ht2 (by rw[FV];exact ar_get.mpr e))))
     have hbz:∀z∈a.toList.take k,le U z bj:=fun z hz=>by
      obtain⟨t,ht,_,e⟩:=Hj hz;exact Bf (k1 t z ht (by rw[FV];exact ar_get.mpr e))
     generalize hd:i3-k=d;apply Bj (o:=o3) (i:=i3) (fun o i=>HiP U a b (x+1+x3) o i j3/\∀z∈a.toList.take i,le U z bj)
     .rintro o4 i4 ⟨p4,hbz⟩;refine wpS_bind (C7 hbj ?_);have m5:=P.hpB p4.m p4.hj1 hbj hbz;refine E9 (fun e3=>wpS_pure (.inl (MR.mk sm4 (P.hfB m5 e3)))) fun e3=>?_;have p5:=p4.putB m5 e3;generalize o4.push bj=o5 at m5 p5⊢;generalize j3-1=j5 at m5 p5⊢;obtain⟨ai,hai⟩:=R8 (a:=a) (i:=i4-1) p5.la;refine wpS_bind (C7 hai (wpS_bind (X2 C (sm4.knd hk) (P.ka _ _ hai) (by rw[FV];exact p5.jb) P.kb (fun u v p q huv _ e1 e2=>X8 P.sb (EM huv _) (ar_get.mp e1) (ar_get.mp e2)) (Nat.sub_lt p5.hj1 FP) fun k' hk1' k1' k2'=>?_)));dsimp only;have haz:∀z∈b.toList.take k',le U z ai:=fun z hz=>by
       obtain⟨t,ht,_,e⟩:=Hj hz;exact KeyOrd.kle_of_klt (Eh (k1' t z ht (by rw[FV];exact ar_get.mpr e)))
      generalize hd':j5-k'=d';apply Bj (o:=o5) (i:=j5) (fun o j=>HiP U a b (x+1+x3+1) o i4 j/\∀z∈b.toList.take j,le U z ai)
      .rintro o6 j6 ⟨p6,haz⟩;refine wpS_bind (C7 hai ?_);have m7:=P.hpA p6.m p6.hi hai haz;refine E9 (fun e5=>wpS_pure (.inl (MR.mk sm4 (P.hdA m7 e5)))) fun e5=>?_;have p7:=p6.putA m7 e5;exact K7 (fun _=>wpS_pure (.inr (HiI3.mk sm4 (p7.mono (by lia))))) fun _=>wpS_pure (HiI3.mk sm4 (p7.mono (by lia)))
      .intro hF hk0;have m6:MHa U a b (o5 ++(b.extract k' j5).reverse) i4 k':=P.heB m5 hk1' fun y hy z hz=>by
        obtain⟨t,ht1,ht2,e⟩:=Pe hy;exact le_trans (Bw P.sa (ar_get.mp hai) z hz) (Aq (k2' t y ht1 ht2 (by rw[FV];exact ar_get.mpr e)))
       obtain⟨_,h1,h2,h3,h4,h5⟩:=p5;exact E9 (fun e4=>wpS_pure (.inl (MR.mk sm4 (P.hfB m6 e4)))) fun e4=>E9 (fun e5=>wpS_pure (.inl (MR.mk sm4 (P.hdB m6 e5)))) fun e5=>hF _ _ ⟨⟨m6,h1,by lia,h3,Nat.le_trans hk1' h4,by lia⟩,haz⟩
      .intro hk0;have z0:k'=j5:=Nat.le_antisymm hk1' (Nat.le_of_sub_eq_zero (hd'.trans (ER hk0)));subst z0;exact⟨p5,haz⟩
     .intro hF hk0;obtain⟨_,h1,h2,h3,h4,h5⟩:=p3;exact E9 (fun e1=>wpS_pure (.inl (MR.mk sm4 (P.hdA m4 e1)))) fun e1=>hF _ _ ⟨⟨m4,by lia,h2,Nat.le_trans hk1 h3,h4,by lia⟩,hbz⟩
     .intro hk0;have z0:k=i3:=Nat.le_antisymm hk1 (Nat.le_of_sub_eq_zero (hd.trans (ER hk0)));subst z0;exact⟨p3,hbz⟩
end
section
variable{prog:Program}{w:World}{A:Around}{E:Value->Shared->Prop}{s:Shared}{U:KeyKind}{kd:SortKind}
def seg(l:List Keyed)(lo n:Nat):List Keyed:=(l.drop lo).take n
theorem Kp(m:List Keyed)(lo:Nat):∀(n:Nat) (a:Array Keyed),lo+n+m.length<=a.size ->
  ((m.zipIdx n).foldl (fun a (x:Keyed×Nat)=>a.setIfInBounds (lo+x.2) x.1) a).size=a.size /\
  ∀t:Nat,((m.zipIdx n).foldl (fun a (x:Keyed×Nat)=>a.setIfInBounds (lo+x.2) x.1) a)[t]?=if lo+n<=t/\t<lo+n+m.length then m[t-(lo+n)]? else a[t]?:=by
 induction m with
 | nil =>
  intro n a h;refine⟨rfl,fun t=>?_⟩;rw[AR (by simp only[List.length_nil];omega)];rfl
 | cons p m ih =>
  intro n a h;rw[BK]at h;rw[List.zipIdx_cons,List.foldl_cons];obtain⟨i1,i2⟩:=ih (n+1) (a.setIfInBounds (lo+n) p) (by rw[Array.size_setIfInBounds];omega);refine⟨i1.trans Array.size_setIfInBounds,fun t=>?_⟩;rw[i2 t,BK];by_cases h1:lo+n=t
  .subst h1;rw[AR (by omega),AZ (by omega),Array.getElem?_setIfInBounds_self_of_lt (by omega),Nat.sub_self];rfl
  .by_cases h2:lo +(n+1)<=t/\t<lo +(n+1)+m.length
   .rw[AZ h2,AZ (by omega),show t-(lo+n) =(t-(lo +(n+1)))+1 by omega,List.getElem?_cons_succ]
   .rw[AR h2,AR (by omega),Array.getElem?_setIfInBounds_ne h1]
theorem w9(m:List Keyed)(lo:Nat)(a:Array Keyed)(h:lo+m.length<=a.size) :
  (m.zipIdx.foldl (fun a (x:Keyed×Nat)=>a.setIfInBounds (lo+x.2) x.1) a).toList=a.toList.take lo++m++a.toList.drop (lo+m.length):=by
 obtain⟨h1,h2⟩:=Kp m lo 0 a (by omega);refine E_ fun t=>?_;rw[BG,h2 t];have hl:(a.toList.take lo).length=lo:=by rw[AL,AV];omega
 by_cases c1:t<lo
 .rw[AR (by omega),BF,DP (by omega),CJ c1,BG]
 .by_cases c2:t<lo+m.length
  .rw[AZ (by omega),DP (by rw[BA];omega),DI (by omega),hl];rfl
  .rw[AR (by omega),DI (by rw[BA];omega),BA,hl,ES,BG];congr 1;omega
theorem Ir(l:List Keyed)(lo n:Nat):l=l.take lo++seg l lo n++l.drop (lo+n):=by
 unfold seg;rw[BF,<-EB,BO,BO]
theorem Em(l:List Keyed)(lo n m:Nat):seg l lo (n+m)=seg l lo n++seg l (lo+n) m:=by
 unfold seg;rw[List.take_add,EB]
structure Part(U:KeyKind)(l l':List Keyed)(lo n:Nat):Prop where
 perm:l'.Perm l
 front:l'.take lo=l.take lo
 back:l'.drop (lo+n)=l.drop (lo+n)
theorem Part.refl(l:List Keyed)(lo n:Nat):Part U l l lo n:=⟨List.Perm.refl _,rfl,rfl⟩
theorem Part.seg_front{l l':List Keyed}{lo n:Nat}(h:Part U l l' lo n){u m:Nat}(hu:u+m<=lo):seg l' u m=seg l u m:=by
 have:∀x:List Keyed,seg x u m =((x.take lo).drop u).take m:=fun x=>by
  unfold seg;rw[FC,List.take_take,DM (by omega)]
 rw[this,this,h.front]
theorem Part.seg_back{l l':List Keyed}{lo n:Nat}(h:Part U l l' lo n){u m:Nat}(hu:lo+n<=u):seg l' u m=seg l u m:=by
 have:∀x:List Keyed,seg x u m =((x.drop (lo+n)).drop (u-(lo+n))).take m:=fun x=>by
  unfold seg;rw[EB,show lo+n +(u-(lo+n))=u by omega]
 rw[this,this,h.back]
theorem Part.of{l z:List Keyed}{lo n:Nat}(hz:z.Perm (seg l lo n))(hl:lo+n<=l.length):Part U l (l.take lo++z++l.drop (lo+n)) lo n/\seg (l.take lo++z++l.drop (lo+n)) lo n=z:=by
 have h1:(l.take lo).length=lo:=by rw[AL];omega
 have h2:z.length=n:=by
  rw[hz.length_eq];unfold seg;rw[AL,CB];omega
 refine⟨⟨?_,?_,?_⟩,?_⟩
 .conv=>rhs;rw[Ir l lo n]
  exact CS _ (C_ _ hz)
 .rw[BF,EQ (by omega),CI (by omega)]
 .rw[List.drop_append,DV (by rw[BA];omega),List.nil_append,BA,h1,h2,Nat.sub_self,DT]
 .unfold seg;rw[BF,List.drop_append,DV (by omega),List.nil_append,h1,Nat.sub_self,DT,EQ (by omega),CI (by omega)]
structure St(U:KeyKind)(kd:SortKind)(a₀:Array Keyed)(st:SortSt):Prop where
 perm:(arrOf st).toList.Perm a₀.toList
 kind:kindOf st=kd
 failed:failedOf st=none
theorem St.size{a₀:Array Keyed}{st:SortSt}(h:St U kd a₀ st):(arrOf st).size=a₀.size:=by
 have:=h.perm.length_eq;simpa using this
theorem St.has{a₀:Array Keyed}{st:SortSt}(h:St U kd a₀ st)(h0:KeysOf U a₀)(i:Nat)(p:Keyed)(e:(arrOf st)[i]?=some p):Has U p :=
 h0 p (h.perm.mem_iff.mp (AH (ar_get.mp e)))
theorem I9{l:List Keyed}{lo n t:Nat}(ht:t<n):(seg l lo n)[t]?=l[lo+t]?:=by
 unfold seg;rw[CJ ht,ES]
theorem Ep(i:Nat):mergeAt' i =(do
  let u <-get
  let(some (sa,na,pw),some (sb,nb,_)):=((pendingOf u)[i]?,(pendingOf u)[i+1]?) | unsupported "internal:list.sort.pending"
  set (setPending u (((pendingOf u).setIfInBounds i (sa,na+nb,pw)).eraseIdxIfInBounds (i+1)))
  let some k <-O4 false (<-elem' (arrOf u) sb) (arrOf u) sa na 0 | return false
  let(sa,na):=(sa+k,na-k)
  if na == 0 then return true
  let some nb <-O4 true (<-elem' (arrOf u) (sa+na-1)) (arrOf u) sb nb (nb-1) | return false
  if nb == 0 then return true
  let x:=(arrOf u).extract sa sb
  let y:=(arrOf u).extract sb (sb+nb)
  let mm <-if na<=nb then Au x y else Bq x y
  modify fun v=>setArr v (mm.toList.zipIdx.foldl (fun a (z:Keyed×Nat)=>a.setIfInBounds (sa+z.2) z.1) (arrOf v))
  return(failedOf (<-get)).isNone):=rfl
theorem Pw{st st2:SortSt}{Q:PUnit->SortSt->Prop}(h:Q ⟨⟩ st2):wpS (model prog w) A E s (set st2:StateT SortSt Sem PUnit) Q st:=by
 unfold wpS;rw[StateT.run_set];exact AE ⟨rfl,h⟩
theorem Fi(C:Cmp prog w A s U kd){a₀:Array Keyed}(h0:KeysOf U a₀){st:SortSt}{i sa na pw sb nb pw2:Nat}{Q:Bool->SortSt->Prop}(hS:St U kd a₀ st)
  (hi:(pendingOf st)[i]?=some (sa,na,pw)) (hj:(pendingOf st)[i+1]?=some (sb,nb,pw2)) (hsb:sb=sa+na) (hsz:sb+nb<=a₀.size) (hna:1<=na) (hnb:1<=nb)
  (sx:Sor U (seg (arrOf st).toList sa na)) (sy:Sor U (seg (arrOf st).toList sb nb))
  (h:∀st',St U kd a₀ st'->Part U (arrOf st).toList (arrOf st').toList sa (na+nb)->Sor U (seg (arrOf st').toList sa (na+nb)) ->
   pendingOf st' =((pendingOf st).setIfInBounds i (sa,na+nb,pw)).eraseIdxIfInBounds (i+1)->Q true st'):wpS (model prog w) A E s (mergeAt' i) Q st:=by
 subst hsb;have hL:(arrOf st).toList.length=a₀.size:=by rw[AV];exact hS.size
 have hsz':=hS.size;rw[Ep];refine wpS_bind (wpS_get ?_);rw[hi,hj];dsimp only;refine wpS_bind (Pw ?_);obtain⟨b0,hb0⟩:=R8 (a:=arrOf st) (i:=sa+na) (by omega);have sxl:∀u v p q,u<=v->v<na->(arrOf st)[sa+u]?=some p->(arrOf st)[sa+v]?=some q->le U p q:=fun u v p q huv hv e1 e2 =>
  X8 sx huv (by rw[I9 (by omega)];exact ar_get.mp e1) (by rw[I9 hv];exact ar_get.mp e2)
 have syl:∀u v p q,u<=v->v<nb->(arrOf st)[sa+na+u]?=some p->(arrOf st)[sa+na+v]?=some q->le U p q:=fun u v p q huv hv e1 e2 =>
  X8 sy huv (by rw[I9 (by omega)];exact ar_get.mp e1) (by rw[I9 hv];exact ar_get.mp e2)
 refine wpS_bind (C7 hb0 (wpS_bind (X2 C hS.kind (hS.has h0 _ _ hb0) (by omega) (hS.has h0) sxl (by omega) fun k hk1 k1 k2=>?_)));dsimp only;have b0y:∀z∈seg (arrOf st).toList (sa+na) nb,le U b0 z:=fun z hz=>by
  obtain⟨t,ht,e⟩:=Am hz;exact syl 0 t b0 z (by omega) ht hb0 (ar_get.mpr e)
 have xk:∀x∈(seg (arrOf st).toList sa na).take k,le U x b0:=fun x hx=>by
  obtain⟨t,ht,ht2,e⟩:=Hj hx;unfold seg at ht2;rw[AL]at ht2;rw[I9 (by omega)]at e;exact Bf (k1 t x ht (ar_get.mpr e))
 have kx:∀x∈(seg (arrOf st).toList sa na).drop k,le U b0 x:=fun x hx=>by
  obtain⟨t,ht,e⟩:=En hx;unfold seg at ht;rw[AL]at ht;rw[I9 (by omega)]at e;exact KeyOrd.kle_of_klt (d8 (k2 (k+t) x (by omega) (by omega) (ar_get.mpr e)))
 have S1:St U kd a₀ (setPending st (((pendingOf st).setIfInBounds i (sa,na+nb,pw)).eraseIdxIfInBounds (i+1))):=⟨hS.perm,hS.kind,hS.failed⟩;by_cases hk0:na-k=0
 .rw[AZ (by simpa using hk0)];have hkk:k=na:=by omega
  refine wpS_pure (h _ S1 (Part.refl _ _ _) ?_ rfl);show Sor U (seg (arrOf st).toList sa (na+nb));rw[Em];refine CA.mpr ⟨sx,sy,fun x hx y hy=>le_trans (xk x ?_) (b0y y hy)⟩;rw[CI (by unfold seg;rw[AL];omega)];exact hx
 rw[AR (by simpa using hk0)];obtain⟨al,hal⟩:=R8 (a:=arrOf st) (i:=sa+k +(na-k)-1) (by omega);refine wpS_bind (C7 hal (wpS_bind (X2 C S1.kind (hS.has h0 _ _ hal) (by omega) (hS.has h0) syl (by omega) fun k' hk1' k1' k2'=>?_)));dsimp only;have hal':(arrOf st)[sa +(na-1)]?=some al:=by rw[show sa +(na-1)=sa+k +(na-k)-1 by omega];exact hal
 have xal:∀x∈seg (arrOf st).toList sa na,le U x al:=fun x hx=>by
  obtain⟨t,ht,e⟩:=Am hx;exact sxl t (na-1) x al (by omega) (by omega) (ar_get.mpr e) hal'
 have yk:∀y∈(seg (arrOf st).toList (sa+na) nb).take k',le U y al:=fun y hy=>by
  obtain⟨t,ht,ht2,e⟩:=Hj hy;unfold seg at ht2;rw[AL]at ht2;rw[I9 (by omega)]at e;exact KeyOrd.kle_of_klt (Eh (k1' t y ht (ar_get.mpr e)))
 have ky:∀y∈(seg (arrOf st).toList (sa+na) nb).drop k',le U al y:=fun y hy=>by
  obtain⟨t,ht,e⟩:=En hy;unfold seg at ht;rw[AL]at ht;rw[I9 (by omega)]at e;exact Aq (k2' (k'+t) y (by omega) (by omega) (ar_get.mpr e))
 by_cases hk0':k'=0
 .rw[AZ (by simpa using hk0')];refine wpS_pure (h _ S1 (Part.refl _ _ _) ?_ rfl);show Sor U (seg (arrOf st).toList sa (na+nb));rw[Em];refine CA.mpr ⟨sx,sy,fun x hx y hy=>le_trans (xal x hx) (ky y ?_)⟩;rw[hk0',DT];exact hy
 rw[AR (by simpa using hk0')];have ex:((arrOf st).extract (sa+k) (sa+na)).toList =(seg (arrOf st).toList sa na).drop k:=by
  rw[Fd];unfold seg;rw[FC,FC,EB];congr 1;omega
 have ey:((arrOf st).extract (sa+na) (sa+na+k')).toList =(seg (arrOf st).toList (sa+na) nb).take k':=by
  rw[Ar];unfold seg;rw[List.take_take,DM hk1']
 have P:Pre U ((arrOf st).extract (sa+k) (sa+na)) ((arrOf st).extract (sa+na) (sa+na+k')):=by
  refine⟨by rw[ex];exact sx.sublist (EH _ _),by rw[ey];exact sy.sublist (DF _ _),fun t p e=>?_,fun t p e=>?_,?_,?_,fun q e z hz=>?_,fun p e z hz=>?_⟩
  .have m:=AH (ar_get.mp e);rw[ex]at m;obtain⟨u,_,e2⟩:=Am (DD m);exact hS.has h0 _ p (ar_get.mpr e2)
  .have m:=AH (ar_get.mp e);rw[ey]at m;obtain⟨u,_,e2⟩:=Am (BM m);exact hS.has h0 _ p (ar_get.mpr e2)
  .rw[Array.size_extract];omega
  .rw[Array.size_extract];omega
  .have m:=ar_get.mp e;rw[ey,CJ (by omega),I9 (by omega)]at m;have:q=b0:=by
    have:=ar_get.mp hb0;rw[Nat.add_zero,this]at m;exact(BV m).symm
   subst this;rw[ex]at hz;exact kx z hz
  .have m:=ar_get.mp e;rw[ex,Array.size_extract,ES,I9 (by omega)]at m;have:p=al:=by
    have q:=ar_get.mp hal';rw[show k +(min (sa+na) (arrOf st).size-(sa+k)-1)=na-1 by omega,q]at m;exact(BV m).symm
   subst this;rw[ey]at hz;exact yk z hz
 have fin:∀(r:Array Keyed) (st2:SortSt),Sm (setPending st (((pendingOf st).setIfInBounds i (sa,na+nb,pw)).eraseIdxIfInBounds (i+1))) st2->Rm U ((arrOf st).extract (sa+k) (sa+na)) ((arrOf st).extract (sa+na) (sa+na+k')) r ->
   Q (failedOf (setArr st2 (r.toList.zipIdx.foldl (fun a (z:Keyed×Nat)=>a.setIfInBounds (sa+k+z.2) z.1) (arrOf st2)))).isNone (setArr st2 (r.toList.zipIdx.foldl (fun a (z:Keyed×Nat)=>a.setIfInBounds (sa+k+z.2) z.1) (arrOf st2))):=by
  rintro r st2 ⟨q1,q2,q3,q4⟩ ⟨r1,r2⟩;rw[ex,ey]at r2;have hrl:r.toList.length =(na-k)+k':=by
   rw[r2.length_eq,BA];unfold seg;rw[CB,AL,AL,CB,AL,CB];omega
  have q2':arrOf st2=arrOf st:=q2;have ef:failedOf (setArr st2 (r.toList.zipIdx.foldl (fun a (z:Keyed×Nat)=>a.setIfInBounds (sa+k+z.2) z.1) (arrOf st2)))=none:=q4.trans hS.failed;rw[ef];have el:=w9 r.toList (sa+k) (arrOf st2) (by rw[q2'];omega);have eq:(r.toList.zipIdx.foldl (fun a (z:Keyed×Nat)=>a.setIfInBounds (sa+k+z.2) z.1) (arrOf st2)).toList =(arrOf st).toList.take sa ++((seg (arrOf st).toList sa na).take k++r.toList ++(seg (arrOf st).toList (sa+na) nb).drop k') ++(arrOf st).toList.drop (sa +(na+nb)):=by
   rw[el,q2',hrl];have e1:(arrOf st).toList.take (sa+k) =(arrOf st).toList.take sa ++(seg (arrOf st).toList sa na).take k:=by
    unfold seg;rw[List.take_add,List.take_take,DM hk1]
   have e2:(arrOf st).toList.drop (sa+k +(na-k+k')) =(seg (arrOf st).toList (sa+na) nb).drop k' ++(arrOf st).toList.drop (sa +(na+nb)):=by
    unfold seg;rw[FC,EB,show sa+k +(na-k+k')=sa+na+k' by omega]
    conv=>lhs;rw[<-BO (nb-k') ((arrOf st).toList.drop (sa+na+k'))]
    rw[EB,show sa+na+k' +(nb-k')=sa +(na+nb) by omega]
   rw[e1,e2];simp only[BF]
  have hp:((seg (arrOf st).toList sa na).take k++r.toList ++(seg (arrOf st).toList (sa+na) nb).drop k').Perm (seg (arrOf st).toList sa (na+nb)):=by
   rw[Em];have a1:((seg (arrOf st).toList sa na).take k++r.toList ++(seg (arrOf st).toList (sa+na) nb).drop k').Perm ((seg (arrOf st).toList sa na).take k ++((seg (arrOf st).toList sa na).drop k ++(seg (arrOf st).toList (sa+na) nb).take k') ++(seg (arrOf st).toList (sa+na) nb).drop k') :=
    CS _ (C_ _ r2)
   refine a1.trans (List.Perm.of_eq ?_);rw[<-BF,BO,BF,BO]
  obtain⟨pa,ps⟩:=Part.of (U:=U) hp (by rw[hL];omega);have hs:Sor U ((seg (arrOf st).toList sa na).take k++r.toList ++(seg (arrOf st).toList (sa+na) nb).drop k'):=by
   refine CA.mpr ⟨CA.mpr ⟨sx.sublist (DF _ _),r1,fun x hx y hy=>?_⟩,sy.sublist (EH _ _),fun x hx y hy=>?_⟩
   .rcases AK.mp (r2.mem_iff.mp hy)with hy | hy
    .exact le_trans (xk x hx) (kx y hy)
    .exact le_trans (xk x hx) (b0y y (BM hy))
   .rcases AK.mp hx with hx | hx
    .exact le_trans (xal x (BM hx)) (ky y hy)
    .rcases AK.mp (r2.mem_iff.mp hx)with hx | hx
     .exact le_trans (xal x (DD hx)) (ky y hy)
     .exact le_trans (yk x hx) (ky y hy)
  refine h _ ⟨?_,q1.trans hS.kind,q4.trans hS.failed⟩ ?_ ?_ q3
  .show(r.toList.zipIdx.foldl (fun a (z:Keyed×Nat)=>a.setIfInBounds (sa+k+z.2) z.1) (arrOf st2)).toList.Perm a₀.toList;rw[eq];exact pa.perm.trans hS.perm
  .show Part U (arrOf st).toList (r.toList.zipIdx.foldl (fun a (z:Keyed×Nat)=>a.setIfInBounds (sa+k+z.2) z.1) (arrOf st2)).toList sa (na+nb);rw[eq];exact pa
  .show Sor U (seg (r.toList.zipIdx.foldl (fun a (z:Keyed×Nat)=>a.setIfInBounds (sa+k+z.2) z.1) (arrOf st2)).toList sa (na+nb));rw[eq,ps];exact hs
 by_cases hab:na-k<=k'
 .rw[AZ hab];refine wpS_bind (Ew C S1.kind P fun r st2 q r1=>?_);exact wpS_bind (wpS_modify (wpS_bind (wpS_get (wpS_pure (fin r st2 q r1)))))
 .rw[AR hab];refine wpS_bind (Fa C S1.kind P fun r st2 q r1=>?_);exact wpS_bind (wpS_modify (wpS_bind (wpS_get (wpS_pure (fin r st2 q r1)))))
end
section
variable{prog:Program}{w:World}{A:Around}{E:Value->Shared->Prop}{s:Shared}{U:KeyKind}{kd:SortKind}{a₀:Array Keyed}
theorem Nh{xs:Array Keyed}{i:Nat}{p:Keyed}(h:xs[i]?=some p):KK U xs i=kk U p:=by unfold KK kk;rw[h]
def SI(U:KeyKind)(xs:Array Keyed)(lo m:Nat):Prop:=∀i j,i<=j->j<m->U.kle (KK U xs (lo+i)) (KK U xs (lo+j))
def NI(U:KeyKind)(xs:Array Keyed)(lo m:Nat):Prop:=∀i j,i<=j->j<m->U.kle (KK U xs (lo+j)) (KK U xs (lo+i))
theorem SI.sor{xs:Array Keyed}{lo m:Nat}(h:SI U xs lo m):Sor U (seg xs.toList lo m):=by
 refine List.pairwise_iff_getElem.mpr fun i j hi hj hij=>?_;unfold seg at hi hj;rw[AL]at hi hj;have e1:xs[lo+i]?=some (seg xs.toList lo m)[i]:=by
  rw[ar_get,<-I9 (n:=m) (by omega)];exact AJ _
 have e2:xs[lo+j]?=some (seg xs.toList lo m)[j]:=by
  rw[ar_get,<-I9 (n:=m) (by omega)];exact AJ _
 have:=h i j (by omega) (by omega);rw[Nh e1,Nh e2]at this;exact this
structure Lo(U:KeyKind)(kd:SortKind)(a₀:Array Keyed)(st0:SortSt)(lo n:Nat)(st:SortSt):Prop where
 S:St U kd a₀ st
 pend:pendingOf st=pendingOf st0
 out:∀t,t<lo\/lo+n<=t->(arrOf st)[t]? =(arrOf st0)[t]?
theorem Lo.part{st0 st:SortSt}{lo n:Nat}(h:Lo U kd a₀ st0 lo n st)(h0:St U kd a₀ st0):Part U (arrOf st0).toList (arrOf st).toList lo n:=by
 refine⟨h.S.perm.trans h0.perm.symm,E_ fun t=>?_,E_ fun t=>?_⟩
 .by_cases ht:t<lo
  .rw[CJ ht,CJ ht,BG,BG];exact h.out t (.inl ht)
  .rw[List.getElem?_eq_none (by rw[AL];omega),List.getElem?_eq_none (by rw[AL];omega)]
 .rw[ES,ES,BG,BG];exact h.out _ (.inr (by omega))
theorem Lo.mirror{st0 st:SortSt}{lo n i j:Nat}(h:Lo U kd a₀ st0 lo n st)(hi:lo<=i)(hj:j<=lo+n)(hn:lo+n<=a₀.size):Lo U kd a₀ st0 lo n (setArr st (mirror (arrOf st) i j ((j-i) / 2))):=by
 refine⟨⟨(Array.perm_iff_toList_perm.mp (mirror_perm _ _ _ _)).trans h.S.perm,h.S.kind,h.S.failed⟩,h.pend,fun t ht=>?_⟩;show(PyProof.Rows.mirror (arrOf st) i j ((j-i) / 2))[t]?=_;have:=h.S.size;rw[getElem?_mirror_all (by omega),AR (by omega)];exact h.out t ht
theorem J7(C:Cmp prog w A s U kd)(h0:KeysOf U a₀){st:SortSt}(hS:St U kd a₀ st){i j:Nat}{Q:Option Bool->SortSt->Prop}(hi:i<a₀.size)(hj:j<a₀.size)
  (h:Q (some (U.blt (KK U (arrOf st) i) (KK U (arrOf st) j))) st):wpS (model prog w) A E s (ltAt' i j) Q st:=by
 have:=hS.size;obtain⟨p,hp⟩:=R8 (a:=arrOf st) (i:=i) (by omega);obtain⟨q,hq⟩:=R8 (a:=arrOf st) (i:=j) (by omega);rw[ltAt'_eq];refine wpS_bind (wpS_get ?_);refine wpS_bind (C7 hp (wpS_bind (C7 hq (Cq C hS.kind (hS.has h0 _ _ hp) (hS.has h0 _ _ hq) ?_))));rw[Nh hp,Nh hq]at h;exact h
theorem Uh{st:SortSt}{lo a nrem:Nat}{f:Nat->(Option (Option Nat)×Nat)->StateT SortSt Sem (ForInStep (Option (Option Nat)×Nat))}{Q:(Option (Option Nat)×Nat)->SortSt->Prop}
  (hf:∀x n,1<=n->n<nrem->wpS (model prog w) A E s (f x (none,n)) (fun r st'=>st'=st/\r=if U.blt (KK U (arrOf st) (lo+n)) (KK U (arrOf st) (lo+n-1))=true then .done (none,n)else .yield (none,n+1)) st)
  (ha:1<=a) (han:a<=nrem) (hs:SI U (arrOf st) lo a)
  (h:∀n,a<=n->n<=nrem->SI U (arrOf st) lo n->(n=nrem\/U.klt (KK U (arrOf st) (lo+n)) (KK U (arrOf st) (lo+n-1)))->Q (none,n) st):wpS (model prog w) A E s (forIn [a:nrem] (none,a) f) Q st:=by
 refine wpS_forRange (I:=fun x c st'=>st'=st/\c =(none,x)/\SI U (arrOf st) lo x) ?_ ?_ ⟨rfl,rfl,hs⟩
 .rintro x c st' hax hxn ⟨rfl,rfl,hs'⟩;refine wpS_mono (hf x x (by omega) hxn) fun r st2 ⟨e,er⟩=>?_;subst e;cases hless:U.blt (KK U (arrOf st2) (lo+x)) (KK U (arrOf st2) (lo+x-1))
  .rw[hless,AR AU]at er;subst er;refine⟨rfl,rfl,fun i j hij hj=>?_⟩;by_cases hjx:j<x
   .exact hs' i j hij hjx
   .have hj':j=x:=by omega
    subst hj';by_cases hi':i=j
    .subst hi';exact KeyOrd.kle_refl _
    .have:=hs' i (j-1) (by omega) (by omega);rw[show lo +(j-1)=lo+j-1 by omega]at this;exact KeyOrd.kle_trans this hless
  .rw[hless,AZ rfl]at er;subst er;exact h x hax (by omega) hs' (.inr hless)
 .rintro c st' ⟨rfl,rfl,hs'⟩;rw[show max a nrem=nrem by omega]at hs'⊢;exact h nrem han (Nat.le_refl _) hs' (.inl rfl)
theorem NI.step{xs ys:Array Keyed}{lo x:Nat}(hx:1<=x)(hk:∀k,KK U ys k=KK U xs k)(hs:NI U xs lo x)(hl:U.kle (KK U xs (lo+x)) (KK U xs (lo+x-1))):NI U ys lo (x+1):=by
 intro i j hij hj;rw[hk,hk];by_cases hjx:j<x
 .exact hs i j hij hjx
 .have hj':j=x:=by omega
  subst hj';by_cases hi':i=j
  .subst hi';exact KeyOrd.kle_refl _
  .have:=hs i (j-1) (by omega) (by omega);rw[show lo +(j-1)=lo+j-1 by omega]at this;exact KeyOrd.kle_trans hl this
abbrev DS:=Option (Option Nat)×Nat×Nat
theorem Tt{st0 st:SortSt}{lo n nrem:Nat}(hsz:lo+nrem<=a₀.size){f:Nat->DS->StateT SortSt Sem (ForInStep DS)}{Q:DS->SortSt->Prop}
  (hf:∀x n q st',1<=n->n<nrem->Lo U kd a₀ st0 lo nrem st'->wpS (model prog w) A E s (f x (none,n,q)) (fun r st2 =>
   if U.blt (KK U (arrOf st') (lo+n)) (KK U (arrOf st') (lo+n-1))=true then(st2=if q>0 then setArr st' (mirror (arrOf st') (lo+n-(q+1)) (lo+n) ((lo+n-(lo+n-(q+1))) / 2))else st')/\r = .yield (none,n+1,0)
   else st2=st'/\r=if U.blt (KK U (arrOf st') (lo+n-1)) (KK U (arrOf st') (lo+n))=true then .done (none,n,q)else .yield (none,n+1,q+1)) st')
  (h1:1<=n) (hnn:n<=nrem) (hB:Lo U kd a₀ st0 lo nrem st) (hs:NI U (arrOf st) lo n)
  (h:∀m q st',Lo U kd a₀ st0 lo nrem st'->n<=m->m<=nrem->NI U (arrOf st') lo m->q+1<=m->(∀i,m-(q+1)<=i->i<m->KK U (arrOf st') (lo+i)=KK U (arrOf st') (lo+m-1))->Q (none,m,q) st') :
  wpS (model prog w) A E s (forIn [n:nrem] (none,n,0) f) Q st:=by
 refine wpS_forRange (I:=fun x c st'=>∃q,c =(none,x,q)/\Lo U kd a₀ st0 lo nrem st'/\NI U (arrOf st') lo x/\q+1<=x /\
   (∀i,x-(q+1)<=i->i<x->KK U (arrOf st') (lo+i)=KK U (arrOf st') (lo+x-1))) ?_ ?_ ⟨0,rfl,hB,hs,by omega,fun i h1 h2=>by congr 1;omega⟩
 .rintro x c st' hax hxn ⟨q,rfl,hB',hs',hq,he⟩;have hs0:=hB'.S.size;refine wpS_mono (hf x x q st' (by omega) hxn hB') fun r st2 hr=>?_;cases hless:U.blt (KK U (arrOf st') (lo+x)) (KK U (arrOf st') (lo+x-1))
  .rw[hless,AR AU]at hr;obtain⟨e,er⟩:=hr;subst e;cases hl:U.blt (KK U (arrOf st2) (lo+x-1)) (KK U (arrOf st2) (lo+x))
   .rw[hl,AR AU]at er;subst er;have heqx:KK U (arrOf st2) (lo+x)=KK U (arrOf st2) (lo+x-1):=KeyOrd.kle_antisymm hl hless;refine⟨q+1,rfl,hB',NI.step (by omega) (fun _=>rfl) hs' hl,by omega,fun i g1 g2=>?_⟩;rw[show lo +(x+1)-1=lo+x by omega];by_cases hix:i=x
    .subst hix;rfl
    .rw[heqx];exact he i (by omega) (by omega)
   .rw[hl,AZ rfl]at er;subst er;exact h x q st2 hB' hax (by omega) hs' hq he
  .rw[hless,AZ rfl]at hr;obtain⟨e,er⟩:=hr;subst er;have hl:U.kle (KK U (arrOf st') (lo+x)) (KK U (arrOf st') (lo+x-1)):=KeyOrd.kle_of_klt hless;by_cases hq0:q>0
   .rw[AZ hq0]at e;subst e;refine⟨0,rfl,hB'.mirror (by omega) (by omega) hsz,NI.step (by omega) (KK_mirror_equal (by omega) fun k g1 g2=>?_) hs' hl,by omega,fun i g1 g2=>by congr 1;omega⟩;have:=he (k-lo) (by omega) (by omega);rw[show lo +(k-lo)=k by omega]at this;exact this
   .rw[AR hq0]at e;subst e;exact⟨0,rfl,hB',NI.step (by omega) (fun _=>rfl) hs' hl,by omega,fun i g1 g2=>by congr 1;omega⟩
 .rintro c st' ⟨q,rfl,hB',hs',hq,he⟩;rw[show max n nrem=nrem by omega]at hs' hq he⊢;exact h nrem q st' hB' hnn (Nat.le_refl _) hs' hq he
theorem NI.turn{xs:Array Keyed}{lo n:Nat}(hn:lo+n<=xs.size)(h:NI U xs lo n):SI U (mirror xs lo (lo+n) ((lo+n-lo) / 2)) lo n:=by
 intro i j hij hj;rw[KK_mirror hn,KK_mirror hn,AZ (by omega),AZ (by omega)];have:=h (n-1-j) (n-1-i) (by omega) (by omega);rw[show lo +(n-1-i)=lo +(lo+n)-1-(lo+i) by omega,show lo +(n-1-j)=lo +(lo+n)-1-(lo+j) by omega]at this;exact this
theorem Cl(C:Cmp prog w A s U kd)(h0:KeysOf U a₀){st:SortSt}{lo nrem:Nat}{Q:Option Nat->SortSt->Prop}(hS:St U kd a₀ st)(hsz:lo+nrem<=a₀.size)(h1:1<=nrem)
  (h:∀m st',Lo U kd a₀ st lo nrem st'->1<=m->m<=nrem->SI U (arrOf st') lo m->Q (some m) st'):wpS (model prog w) A E s (countRun' lo nrem) Q st:=by
 have L0:Lo U kd a₀ st lo nrem st:=⟨hS,rfl,fun _ _=>rfl⟩;rw[countRun'_eq];dsimp only;refine wpS_bind (Uh (U:=U) (lo:=lo) (fun x n g1 g2=>?_) (Nat.le_refl 1) h1 (fun i j hij hj=>by have:i=j:=(by omega);subst this;exact KeyOrd.kle_refl _) fun n hn1 hn2 hsn hor=>?_)
 .dsimp only;refine wpS_bind (J7 C h0 hS (by omega) (by omega) ?_);dsimp only;cases U.blt (KK U (arrOf st) (lo+n)) (KK U (arrOf st) (lo+n-1))
  .exact wpS_pure ⟨rfl,rfl⟩
  .exact wpS_pure ⟨rfl,rfl⟩
 dsimp only;by_cases hnn:n=nrem
 .rw[AZ (by simpa using hnn)];exact wpS_pure (h n st L0 hn1 hn2 hsn)
 rw[AR (by simpa using hnn)];have hlt:U.klt (KK U (arrOf st) (lo+n)) (KK U (arrOf st) (lo+n-1)):=hor.resolve_left hnn;have hz:=hS.size;by_cases hgt:n>1
 .rw[AZ hgt];refine wpS_bind (J7 C h0 hS (by omega) (by omega) ?_);dsimp only;cases hrose:U.blt (KK U (arrOf st) lo) (KK U (arrOf st) (lo+n-1))with
  | true =>
   simp only[FO];exact wpS_pure (h n st L0 hn1 hn2 hsn)
  | false =>
   simp only[BQ,DR];have hall:∀k,lo<=k->k<lo+n->KK U (arrOf st) k=KK U (arrOf st) (lo+n-1):=by
    intro k hk1 hk2;have a1:=hsn 0 (k-lo) (by omega) (by omega);have a2:=hsn (k-lo) (n-1) (by omega) (by omega);rw[Nat.add_zero,show lo +(k-lo)=k by omega]at a1;rw[show lo +(k-lo)=k by omega,show lo +(n-1)=lo+n-1 by omega]at a2;exact KeyOrd.kle_antisymm a2 (KeyOrd.kle_trans hrose a1)
   have hk:=KK_mirror_equal (κ:=U) (xs:=arrOf st) (i:=lo) (j:=lo+n) (by omega) hall;refine wpS_bind (wpS_reverse ?_);have hB2:=L0.mirror (i:=lo) (j:=lo+n) (by omega) (by omega) hsz;have hN:NI U (mirror (arrOf st) lo (lo+n) ((lo+n-lo) / 2)) lo (n+1):=by
    refine NI.step (by omega) hk (fun i j hij hj=>?_) (KeyOrd.kle_of_klt hlt);rw[hall (lo+i) (by omega) (by omega),hall (lo+j) (by omega) (by omega)];exact KeyOrd.kle_refl _
   refine wpS_bind (wpS_lift (DG ⟨rfl,?_⟩));refine wpS_bind (Tt (U:=U) (kd:=kd) (a₀:=a₀) (st0:=st) (lo:=lo) hsz (fun x n' q st' g1 g2 hB'=>?_) (by omega) (by omega) hB2 hN fun m q st' hB3 hm1 hm2 hs3 hq he=>?_)
   .dsimp only;refine wpS_bind (J7 C h0 hB'.S (by omega) (by omega) ?_);dsimp only;cases U.blt (KK U (arrOf st') (lo+n')) (KK U (arrOf st') (lo+n' - 1))
    .simp only[BQ,DR];refine wpS_bind (J7 C h0 hB'.S (by omega) (by omega) ?_);dsimp only;cases U.blt (KK U (arrOf st') (lo+n' - 1)) (KK U (arrOf st') (lo+n'))
     .exact wpS_pure ⟨rfl,rfl⟩
     .exact wpS_pure ⟨rfl,rfl⟩
    .simp only[FO];by_cases hq:q>0
     .rw[AZ hq,AZ hq];exact wpS_bind (wpS_reverse (wpS_pure ⟨rfl,rfl⟩))
     .rw[AR hq,AR hq];exact wpS_pure ⟨rfl,rfl⟩
   .dsimp only;have hz3:=hB3.S.size;by_cases hq0:q>0
    .rw[AZ hq0];refine wpS_bind (wpS_reverse (wpS_bind (wpS_reverse ?_)));have hB4':=hB3.mirror (i:=lo+m-(q+1)) (j:=lo+m) (by omega) (by omega) hsz;have hB4:=hB4'.mirror (i:=lo) (j:=lo+m) (by omega) (by omega) hsz;have hz4:=hB4'.S.size;have hN4:NI U (mirror (arrOf st') (lo+m-(q+1)) (lo+m) ((lo+m-(lo+m-(q+1))) / 2)) lo m:=by
      have hk:=KK_mirror_equal (κ:=U) (xs:=arrOf st') (i:=lo+m-(q+1)) (j:=lo+m) (by omega) (fun k g1 g2=>by
       have:=he (k-lo) (by omega) (by omega);rw[show lo +(k-lo)=k by omega]at this;exact this)
      intro i j hij hj;rw[hk,hk];exact hs3 i j hij hj
     have hT:=hN4.turn (U:=U) (lo:=lo) (n:=m) (by rw[mirror_size];omega);refine wpS_bind (Uh (U:=U) (lo:=lo) (fun x n' g1 g2=>?_) (by omega) hm2 hT fun m' hm1' hm2' hsm _=>wpS_pure (h m' _ hB4 (by omega) hm2' hsm));dsimp only;refine wpS_bind (J7 C h0 hB4.S (by omega) (by omega) ?_);dsimp only;cases U.blt (KK U _ (lo+n')) (KK U _ (lo+n' - 1))
     .exact wpS_pure ⟨rfl,rfl⟩
     .exact wpS_pure ⟨rfl,rfl⟩
    .rw[AR hq0];refine wpS_bind (wpS_reverse ?_);have hB4:=hB3.mirror (i:=lo) (j:=lo+m) (by omega) (by omega) hsz;have hT:=hs3.turn (U:=U) (lo:=lo) (n:=m) (by omega);refine wpS_bind (Uh (U:=U) (lo:=lo) (fun x n' g1 g2=>?_) (by omega) hm2 hT fun m' hm1' hm2' hsm _=>wpS_pure (h m' _ hB4 (by omega) hm2' hsm));dsimp only;refine wpS_bind (J7 C h0 hB4.S (by omega) (by omega) ?_);dsimp only;cases U.blt (KK U _ (lo+n')) (KK U _ (lo+n' - 1))
     .exact wpS_pure ⟨rfl,rfl⟩
     .exact wpS_pure ⟨rfl,rfl⟩
 .rw[AR hgt];have hn1':n=1:=by omega
  have hB2:=L0;have hN:NI U (arrOf st) lo (n+1):=by
   refine NI.step (by omega) (fun _=>rfl) (fun i j hij hj=>?_) (KeyOrd.kle_of_klt hlt);have:i=j:=by omega
   subst this;exact KeyOrd.kle_refl _
  refine wpS_bind (wpS_lift (DG ⟨rfl,?_⟩));refine wpS_bind (Tt (U:=U) (kd:=kd) (a₀:=a₀) (st0:=st) (lo:=lo) hsz (fun x n' q st' g1 g2 hB'=>?_) (by omega) (by omega) hB2 hN fun m q st' hB3 hm1 hm2 hs3 hq he=>?_)
  .dsimp only;refine wpS_bind (J7 C h0 hB'.S (by omega) (by omega) ?_);dsimp only;cases U.blt (KK U (arrOf st') (lo+n')) (KK U (arrOf st') (lo+n' - 1))
   .simp only[BQ,DR];refine wpS_bind (J7 C h0 hB'.S (by omega) (by omega) ?_);dsimp only;cases U.blt (KK U (arrOf st') (lo+n' - 1)) (KK U (arrOf st') (lo+n'))
    .exact wpS_pure ⟨rfl,rfl⟩
    .exact wpS_pure ⟨rfl,rfl⟩
   .simp only[FO];by_cases hq:q>0
    .rw[AZ hq,AZ hq];exact wpS_bind (wpS_reverse (wpS_pure ⟨rfl,rfl⟩))
    .rw[AR hq,AR hq];exact wpS_pure ⟨rfl,rfl⟩
  .dsimp only;have hz3:=hB3.S.size;by_cases hq0:q>0
   .rw[AZ hq0];refine wpS_bind (wpS_reverse (wpS_bind (wpS_reverse ?_)));have hB4':=hB3.mirror (i:=lo+m-(q+1)) (j:=lo+m) (by omega) (by omega) hsz;have hB4:=hB4'.mirror (i:=lo) (j:=lo+m) (by omega) (by omega) hsz;have hz4:=hB4'.S.size;have hN4:NI U (mirror (arrOf st') (lo+m-(q+1)) (lo+m) ((lo+m-(lo+m-(q+1))) / 2)) lo m:=by
     have hk:=KK_mirror_equal (κ:=U) (xs:=arrOf st') (i:=lo+m-(q+1)) (j:=lo+m) (by omega) (fun k g1 g2=>by
      have:=he (k-lo) (by omega) (by omega);rw[show lo +(k-lo)=k by omega]at this;exact this)
     intro i j hij hj;rw[hk,hk];exact hs3 i j hij hj
    have hT:=hN4.turn (U:=U) (lo:=lo) (n:=m) (by rw[mirror_size];omega);refine wpS_bind (Uh (U:=U) (lo:=lo) (fun x n' g1 g2=>?_) (by omega) hm2 hT fun m' hm1' hm2' hsm _=>wpS_pure (h m' _ hB4 (by omega) hm2' hsm));dsimp only;refine wpS_bind (J7 C h0 hB4.S (by omega) (by omega) ?_);dsimp only;cases U.blt (KK U _ (lo+n')) (KK U _ (lo+n' - 1))
    .exact wpS_pure ⟨rfl,rfl⟩
    .exact wpS_pure ⟨rfl,rfl⟩
   .rw[AR hq0];refine wpS_bind (wpS_reverse ?_);have hB4:=hB3.mirror (i:=lo) (j:=lo+m) (by omega) (by omega) hsz;have hT:=hs3.turn (U:=U) (lo:=lo) (n:=m) (by omega);refine wpS_bind (Uh (U:=U) (lo:=lo) (fun x n' g1 g2=>?_) (by omega) hm2 hT fun m' hm1' hm2' hsm _=>wpS_pure (h m' _ hB4 (by omega) hm2' hsm));dsimp only;refine wpS_bind (J7 C h0 hB4.S (by omega) (by omega) ?_);dsimp only;cases U.blt (KK U _ (lo+n')) (KK U _ (lo+n' - 1))
    .exact wpS_pure ⟨rfl,rfl⟩
    .exact wpS_pure ⟨rfl,rfl⟩
theorem Lo.bubble{st0 st:SortSt}{lo n src d:Nat}(h:Lo U kd a₀ st0 lo n st)(h1:lo+d<=src)(h2:src<lo+n)(hn:lo+n<=a₀.size):Lo U kd a₀ st0 lo n (setArr st (bubble (arrOf st) src d)):=by
 refine⟨⟨(Array.perm_iff_toList_perm.mp (bubble_perm _ _ _)).trans h.S.perm,h.S.kind,h.S.failed⟩,h.pend,fun t ht=>?_⟩;show(PyProof.Rows.bubble (arrOf st) src d)[t]?=_;have:=h.S.size;rw[getElem?_bubble (by omega) d (by omega),AR (by omega),AR (by omega)];exact h.out t ht
theorem x5(C:Cmp prog w A s U kd)(h0:KeysOf U a₀){st0 st:SortSt}{lo nrem n ok:Nat}{Q:Bool->SortSt->Prop}(hB:Lo U kd a₀ st0 lo nrem st)(hsz:lo+nrem<=a₀.size)(hn:n<=nrem)(hok:ok<=n)(hs:SI U (arrOf st) lo ok)
  (h:∀st',Lo U kd a₀ st0 lo nrem st'->SI U (arrOf st') lo n->Q true st'):wpS (model prog w) A E s (binarySort' lo n ok) Q st:=by
 rw[binarySort'_eq];refine wpS_bind (wpS_mono (wpS_forRange (I:=fun k c st'=>c =(none,())/\Lo U kd a₀ st0 lo nrem st'/\SI U (arrOf st') lo (min k n))
  (Q:=fun c st'=>c =(none,())/\Lo U kd a₀ st0 lo nrem st'/\SI U (arrOf st') lo n) ?step ?fin ?init) ?post)
 case post =>
  rintro c st' ⟨rfl,hB',hs'⟩;exact wpS_pure (h st' hB' hs')
 case init =>
  refine⟨rfl,hB,fun i j hij hj=>?_⟩;by_cases h1:ok=0
  .have:i=j:=by omega
   subst this;exact KeyOrd.kle_refl _
  .exact hs i j hij (by omega)
 case fin =>
  rintro c st' ⟨hc,hB',hs'⟩;refine⟨hc,hB',?_⟩
  rwa [show min (max (max ok 1) n) n=n by omega]at hs'
 case step =>
  rintro k c st' hak hkn ⟨rfl,hB',hs'⟩;rw[show min k n=k by omega]at hs';dsimp only;refine wpS_bind (wpS_mono (wpS_forRange (I:=fun x c st''=>st''=st'/\∃l r,c =(none,l,r)/\l<=r/\r<=k/\r-l<=k-x /\
    (∀i,i<l->U.kle (KK U (arrOf st') (lo+i)) (KK U (arrOf st') (lo+k)))/\(∀i,r<=i->i<k->U.klt (KK U (arrOf st') (lo+k)) (KK U (arrOf st') (lo+i))))
   (Q:=fun c st''=>st''=st'/\∃l r,c =(none,l,r)/\l<=k /\
    (∀i,i<l->U.kle (KK U (arrOf st') (lo+i)) (KK U (arrOf st') (lo+k)))/\(∀i,l<=i->i<k->U.klt (KK U (arrOf st') (lo+k)) (KK U (arrOf st') (lo+i)))) ?istep ?ifin ?iinit) ?ipost)
  case iinit=>exact⟨rfl,0,k,rfl,by omega,by omega,by omega,fun i hi=>by omega,fun i h1 h2=>by omega⟩
  case ifin =>
   rintro c st'' ⟨rfl,l,r,rfl,hlr,hrk,hm,hlo,hhi⟩;have:l=r:=by omega
   subst this;exact⟨rfl,l,l,rfl,hrk,hlo,hhi⟩
  case istep =>
   rintro x c st'' _ hxk ⟨rfl,l,r,rfl,hlr,hrk,hm,hlo,hhi⟩;dsimp only;by_cases hge:l ≥ r
   .rw[AZ hge];have:l=r:=by omega
    subst this;exact wpS_pure ⟨rfl,l,l,rfl,hrk,hlo,hhi⟩
   .rw[AR hge];refine wpS_bind (J7 C h0 hB'.S (by omega) (by omega) ?_);dsimp only;cases hless:U.blt (KK U (arrOf st'') (lo+k)) (KK U (arrOf st'') (lo +(l+r) / 2))
    case true =>
     simp only[FO];refine wpS_pure ⟨rfl,l,(l+r) / 2,rfl,by omega,by omega,by omega,hlo,fun i h1 h2=>?_⟩;exact KeyOrd.klt_of_klt_of_kle hless (hs' _ _ h1 h2)
    case false =>
     simp only[BQ,DR];refine wpS_pure ⟨rfl,(l+r) / 2+1,r,rfl,by omega,by omega,by omega,fun i h1=>?_,hhi⟩;exact KeyOrd.kle_trans (hs' i ((l+r) / 2) (by omega) (by omega)) (show U.kle _ _ from hless)
  case ipost =>
   rintro c st'' ⟨rfl,l,r,rfl,hlk,hlo,hhi⟩;have hz:=hB'.S.size;show wpS _ _ _ _ (do moveDown' (lo+k) (lo+l);pure (ForInStep.yield (none,()))) _ _;rw[moveDown'_eq];refine wpS_bind (wpS_modify (wpS_pure ⟨rfl,hB'.bubble (by omega) (by omega) hsz,?_⟩));rw[show min (k+1) n=k+1 by omega];intro i j hij hj;show U.kle (KK U (bubble (arrOf st'') (lo+k) (lo+k-(lo+l))) (lo+i)) (KK U (bubble (arrOf st'') (lo+k) (lo+k-(lo+l))) (lo+j));rw[KK_bubble (by omega) (by omega),KK_bubble (by omega) (by omega),show lo+k-(lo+k-(lo+l))=lo+l by omega];have shift:∀z,1<=z->lo+z-1=lo +(z-1):=fun z _=>by omega
   repeat' split
   all_goals first
    | (exfalso;omega)
    | exact KeyOrd.kle_refl _
    | exact hlo _ (by omega)
    | exact KeyOrd.kle_of_klt (hhi _ (by omega) (by omega))
    | exact hs' _ _ (by omega) (by omega)
    | (rw[shift j (by omega)];exact KeyOrd.kle_of_klt (hhi _ (by omega) (by omega)))
    | (rw[shift i (by omega)];exact hlo _ (by omega))
    | (rw[shift j (by omega)];exact hs' _ _ (by omega) (by omega))
    | (rw[shift i (by omega),shift j (by omega)];exact hs' _ _ (by omega) (by omega))
    | (rw[shift i (by omega)];exact hs' _ _ (by omega) (by omega))
end
abbrev Run:=Nat×Nat×Nat
def Cov:List Run->Nat->Nat->Prop
 | [],a,b=>a=b
 | x::r,a,b=>x.1=a/\1<=x.2.1/\Cov r (a+x.2.1) b
theorem Cov.app:∀{l1 l2:List Run} {a b:Nat},Cov (l1++l2) a b↔∃c,Cov l1 a c/\Cov l2 c b
 | [],l2,a,b=>⟨fun h=>⟨a,rfl,h⟩,fun⟨c,h1,h2⟩=>by have:a=c:=h1;subst this;exact h2⟩
 | x::r,l2,a,b=>by
  constructor
  .rintro⟨h1,h2,h3⟩;obtain⟨c,h4,h5⟩:=Cov.app.mp h3;exact⟨c,⟨h1,h2,h4⟩,h5⟩
  .rintro⟨c,⟨h1,h2,h4⟩,h5⟩;exact⟨h1,h2,Cov.app.mpr ⟨c,h4,h5⟩⟩
theorem Cov.le:∀{l:List Run} {a b:Nat},Cov l a b->a+l.length<=b
 | [],a,b,h=>by have:a=b:=h;subst this;simp
 | x::r,a,b,⟨h1,h2,h3⟩=>by have:=Cov.le h3;rw[BK];omega
theorem Cov.mem:∀{l:List Run} {a b:Nat} {x:Run},Cov l a b->x∈l->a<=x.1/\x.1+x.2.1<=b
 | [],_,_,_,_,hx=>absurd hx (by simp)
 | y::r,a,b,x,⟨h1,h2,h3⟩,hx=>by
  have hl:=Cov.le h3;rcases AS.mp hx with e | hx
  .subst e;omega
  .have:=Cov.mem h3 hx;omega
theorem Xb{l:List Run}{i:Nat}{x y:Run}(hx:l[i]?=some x)(hy:l[i+1]?=some y):l=l.take i++x::y::l.drop (i+2):=by
 obtain⟨h1,rfl⟩:=AM.mp hx;obtain⟨h2,rfl⟩:=AM.mp hy
 conv=>lhs;rw[<-BO i l]
 rw[EE h1,EE h2]
theorem Vx{l:List Run}{i:Nat}{x y:Run}(z:Run)(hx:l[i]?=some x)(hy:l[i+1]?=some y):(l.set i z).eraseIdx (i+1)=l.take i++z::l.drop (i+2):=by
 obtain⟨h1,_⟩:=AM.mp hx;obtain⟨h2,_⟩:=AM.mp hy;have e:=Xb hx hy;have hl:(l.take i).length=i:=by rw[AL];omega
 generalize l.take i=p at *;generalize l.drop (i+2)=q at *;subst e;rw[List.set_append_right _ _ (by omega),hl,Nat.sub_self,List.eraseIdx_append_of_length_le (by omega),hl,show i+1-i=1 by omega];rfl
section
variable{prog:Program}{w:World}{A:Around}{E:Value->Shared->Prop}{s:Shared}{U:KeyKind}{kd:SortKind}{a₀:Array Keyed}
structure RI(U:KeyKind)(kd:SortKind)(a₀:Array Keyed)(lo:Nat)(st:SortSt):Prop where
 S:St U kd a₀ st
 cov:Cov (pendingOf st).toList 0 lo
 sor:∀x∈(pendingOf st).toList,Sor U (seg (arrOf st).toList x.1 x.2.1)
theorem Fe(C:Cmp prog w A s U kd)(h0:KeysOf U a₀){st:SortSt}{lo i:Nat}{Q:Bool->SortSt->Prop}(R:RI U kd a₀ lo st)(hlo:lo<=a₀.size)(hi:i+1 <(pendingOf st).size)
  (h:∀st',RI U kd a₀ lo st'->(pendingOf st').size+1 =(pendingOf st).size->Part U (arrOf st).toList (arrOf st').toList 0 lo->Q true st'):wpS (model prog w) A E s (mergeAt' i) Q st:=by
 obtain⟨⟨sa,na,pw⟩,hx⟩:∃x,(pendingOf st)[i]?=some x:=⟨_,getElem?_pos _ i (by omega)⟩;obtain⟨⟨sb,nb,pw2⟩,hy⟩:∃x,(pendingOf st)[i+1]?=some x:=⟨_,getElem?_pos _ (i+1) hi⟩;have hx':(pendingOf st).toList[i]?=some (sa,na,pw):=by rw[BG];exact hx
 have hy':(pendingOf st).toList[i+1]?=some (sb,nb,pw2):=by rw[BG];exact hy
 have e:=Xb hx' hy';have c:=R.cov;rw[e]at c;obtain⟨c0,c1,c2⟩:=Cov.app.mp c;obtain⟨d1,d2,d3,d4,d5⟩:=c2;dsimp only at d1 d2 d3 d4 d5;have hl5:=Cov.le d5;refine Fi C h0 R.S hx hy (by omega) (by omega) d2 d4 (R.sor _ (AH hx')) (R.sor _ (AH hy')) fun st' S' P' s' p'=>?_;have ep:(pendingOf st').toList =(pendingOf st).toList.take i ++(sa,na+nb,pw) ::(pendingOf st).toList.drop (i+2):=by
  rw[p',<-Vx (sa,na+nb,pw) hx' hy'];simp
 refine h st' ⟨S',?_,fun x hxm=>?_⟩ ?_ ?_
 .rw[ep];exact Cov.app.mpr ⟨c0,c1,d1,(by show 1<=na+nb;omega),(by show Cov _ (c0 +(na+nb)) lo;rw[<-Nat.add_assoc];exact d5)⟩
 .rw[ep]at hxm;have old:∀y∈(pendingOf st).toList,(y.1+y.2.1<=sa\/sa +(na+nb)<=y.1)->Sor U (seg (arrOf st').toList y.1 y.2.1):=fun y hy ho=>by
   have:=R.sor y hy;rcases ho with ho | ho
   .rw[P'.seg_front ho];exact this
   .rw[P'.seg_back ho];exact this
  rcases AK.mp hxm with hm | hm
  .have:=Cov.mem c1 hm;exact old x (BM hm) (.inl (by omega))
  .rcases AS.mp hm with hm | hm
   .subst hm;exact s'
   .have:=Cov.mem d5 hm;exact old x (DD hm) (.inr (by omega))
 .have:=congrArg List.length ep;rw[AV,BA,BK,AL,CB,AV]at this;omega
 .have hb:∀z:List Keyed,z.drop (0+lo) =(z.drop (sa +(na+nb))).drop (lo-(sa +(na+nb))):=fun z=>by
   rw[EB];congr 1;omega
  exact⟨P'.perm,rfl,by rw[hb,hb,P'.back]⟩
theorem m8{l:Array Run}{pw:Nat}:(l.modify (l.size-1) fun x=>(x.1,x.2.1,pw)).toList.map (fun x:Run=>(x.1,x.2.1))=l.toList.map fun x:Run=>(x.1,x.2.1):=by
 refine E_ fun t=>?_;rw[AG,AG,BG,BG,Array.getElem?_modify];split
 .cases l[t]?<;>rfl
 .rfl
theorem Cov.congr:∀{l l':List Run} {a b:Nat},l'.map (fun x:Run=>(x.1,x.2.1))=l.map (fun x:Run=>(x.1,x.2.1))->Cov l a b->Cov l' a b
 | [],[],_,_,_,h=>h
 | [],_::_,_,_,e,_=>by simp at e
 | _::_,[],_,_,e,_=>by simp at e
 | x::r,y::r',a,b,e,⟨h1,h2,h3⟩=>by
  rw[BS,BS]at e;obtain⟨e1,e2⟩:=List.cons.inj e;obtain⟨e3,e4⟩:=Prod.mk.inj e1;exact⟨e3.trans h1,by rw[e4];exact h2,by rw[e4];exact Cov.congr e2 h3⟩
theorem RI.congr{lo:Nat}{st:SortSt}(R:RI U kd a₀ lo st){p:Array Run}(e:p.toList.map (fun x:Run=>(x.1,x.2.1)) =(pendingOf st).toList.map fun x:Run=>(x.1,x.2.1)):RI U kd a₀ lo (setPending st p):=by
 refine⟨⟨R.S.perm,R.S.kind,R.S.failed⟩,Cov.congr e R.cov,fun x hx=>?_⟩;have:(x.1,x.2.1)∈(pendingOf st).toList.map fun x:Run=>(x.1,x.2.1):=by
  rw[<-e];exact BL.mpr ⟨x,hx,rfl⟩
 obtain⟨y,hy,ey⟩:=BL.mp this;obtain⟨e1,e2⟩:=Prod.mk.inj ey;have:=R.sor y hy;rw[e1,e2]at this;exact this
theorem Ba(C:Cmp prog w A s U kd)(h0:KeysOf U a₀){st:SortSt}{Q:Unit->SortSt->Prop}(hS:St U kd a₀ st)(hp:pendingOf st = #[])
  (h:∀st',St U kd a₀ st'->Sor U (arrOf st').toList->Q () st'):wpS (model prog w) A E s sortRuns' Q st:=by
 rw[sortRuns'_eq];refine wpS_bind (wpS_get ?_);dsimp only;have hz:=hS.size;rw[hz];generalize minRun' a₀.size a₀.size 0=mr;refine wpS_bind (wpS_mono (wpS_forRange (I:=fun x c st'=>∃lo,c =(none,lo)/\RI U kd a₀ lo st'/\lo<=a₀.size/\min x a₀.size<=lo)
  (Q:=fun c st'=>∃lo,c =(none,lo)/\RI U kd a₀ lo st'/\lo=a₀.size) ?st ?en ⟨0,rfl,⟨hS,by rw[hp];rfl,fun x hx=>by rw[hp]at hx;exact absurd hx (by simp)⟩,B_ _,by omega⟩) ?po)
 case en =>
  rintro c st' ⟨lo,rfl,R,h1,h2⟩;exact⟨lo,rfl,R,by omega⟩
 case po =>
  rintro c st' ⟨lo,rfl,R,rfl⟩;dsimp only;refine wpS_bind (wpS_mono (wpS_forRange (I:=fun x c st'=>c =(none,())/\RI U kd a₀ a₀.size st'/\(pendingOf st').size+x<=a₀.size+1)
   (Q:=fun c st'=>c =(none,())/\RI U kd a₀ a₀.size st'/\(pendingOf st').size<=1) ?st3 ?en3 ⟨rfl,R,?in3⟩) ?po3)
  case in3 =>
   have:=Cov.le R.cov;rw[AV]at this;omega
  case en3 =>
   rintro c st2 ⟨rfl,R2,g⟩;exact⟨rfl,R2,by omega⟩
  case po3 =>
   rintro c st2 ⟨rfl,R2,g⟩;refine wpS_pure (h st2 R2.S ?_);have c:=R2.cov;have so:=R2.sor;have hz2:=R2.S.size;have hl:(pendingOf st2).toList.length<=1:=by rw[AV];exact g
   generalize (pendingOf st2).toList=l at c so hl
   match l,c,so,hl with
   | [],c,_,_ =>
    have c':0=a₀.size:=c;have:(arrOf st2).toList = []:=List.eq_nil_of_length_eq_zero (by rw[AV];omega);rw[this];exact List.Pairwise.nil
   | [x],⟨c1,c2,c3⟩,so,_ =>
    have c3':0+x.2.1=a₀.size:=c3;have:=so x (AC.mpr rfl);unfold seg at this;rw[c1,DT,CI (by rw[AV];omega)]at this;exact this
   | _::_::_,_,_,hl=>exact absurd hl (by simp)
  case st3 =>
   rintro x c st2 _ hx ⟨rfl,R2,g⟩
   try dsimp only
   refine wpS_bind (wpS_get ?_);by_cases hle:(pendingOf st2).size<=1
   .rw[AZ hle];exact wpS_pure ⟨rfl,R2,hle⟩
   rw[AR hle];refine wpS_bind (Fe C h0 R2 (Nat.le_refl _) ?_ fun st3 R3 e3 _=>?_)
   .have hi2:∀{c:Prop} [Decidable c] {n:Nat},(if c then n-1 else n)+1<=n+1:=by intro c _ n;split<;>omega
    exact Nat.lt_of_le_of_lt hi2 (by omega)
   .simp only[GB,BQ,DR];exact wpS_pure ⟨rfl,R3,by omega⟩
 case st =>
  rintro x c st' _ hx ⟨lo,rfl,R,h1,h2⟩;dsimp only;by_cases hge:lo ≥ a₀.size
  .rw[AZ hge];exact wpS_pure ⟨lo,rfl,R,by omega⟩
  rw[AR hge];refine wpS_bind (Cl C h0 R.S (by omega) (by omega) fun m st2 L2 hm1 hm2 hs2=>?_);dsimp only;by_cases hmr:m<mr
  .rw[AZ hmr];refine wpS_bind (wpS_lift (DG ⟨rfl,?_⟩));refine wpS_bind (x5 C h0 L2 (by omega) (show min (a₀.size-lo) mr<=a₀.size-lo by omega) (by omega) hs2 fun st5 L5 s5=>?_);simp only[GB,BQ,DR];have hN:1<=min (a₀.size-lo) mr/\min (a₀.size-lo) mr<=a₀.size-lo:=by omega
   generalize min (a₀.size-lo) mr=N at hN s5⊢;have R5:RI U kd a₀ lo st5:=by
    refine⟨L5.S,by rw[L5.pend];exact R.cov,fun y hy=>?_⟩;rw[L5.pend]at hy;have hc:=Cov.mem R.cov hy;rw[(L5.part R.S).seg_front (by omega)];exact R.sor y hy
   refine wpS_bind (wpS_get ?_);have push:∀(st6:SortSt),RI U kd a₀ lo st6->Sor U (seg (arrOf st6).toList lo N)->RI U kd a₀ (lo+N) (setPending st6 ((pendingOf st6).push (lo,N,0))):=fun st6 R6 s6=>by
    refine⟨⟨R6.S.perm,R6.S.kind,R6.S.failed⟩,?_,fun y hy=>?_⟩
    .show Cov ((pendingOf st6).push (lo,N,0)).toList 0 (lo+N);rw[CN];exact Cov.app.mpr ⟨lo,R6.cov,rfl,(by show 1<=N;omega),rfl⟩
    .have hy':y∈((pendingOf st6).push (lo,N,0)).toList:=hy;rw[CN]at hy';rcases AK.mp hy' with hy' | hy'
     .exact R6.sor y hy'
     .rw[AC.mp hy'];exact s6
   cases hbk:(pendingOf st5).back? with
   | none =>
    dsimp only;refine wpS_bind (wpS_modify (wpS_pure ⟨_,rfl,push _ R5 s5.sor,by omega,by omega⟩))
   | some bk =>
    obtain⟨s1,n1,pb⟩:=bk;dsimp only;generalize power' a₀.size (2*s1+n1) (2*s1+n1+n1+N) a₀.size=pw;refine wpS_bind (wpS_mono (wpS_forRange (I:=fun x c st6=>c =(none,())/\RI U kd a₀ lo st6/\Part U (arrOf st5).toList (arrOf st6).toList 0 lo)
     (Q:=fun c st6=>c =(none,())/\RI U kd a₀ lo st6/\Part U (arrOf st5).toList (arrOf st6).toList 0 lo) ?stc1 (fun _ _ z=>z) ⟨rfl,R5,Part.refl _ _ _⟩) ?poc1)
    case stc1 =>
     rintro x' c st6 _ _ ⟨rfl,R6,P6⟩
     try dsimp only
     refine wpS_bind (wpS_get ?_);by_cases hp1:(pendingOf st6).size>1
     .rw[AZ hp1];obtain⟨⟨u1,u2,ol⟩,hu⟩:∃y,(pendingOf st6)[(pendingOf st6).size-2]?=some y:=⟨_,getElem?_pos _ _ (by omega)⟩;rw[hu];dsimp only;by_cases hol:ol<=pw
      .rw[AZ hol];exact wpS_pure ⟨rfl,R6,P6⟩
      rw[AR hol];refine wpS_bind (Fe C h0 R6 h1 (by omega) fun st7 R7 _ P7=>?_);simp only[GB,BQ,DR];exact wpS_pure ⟨rfl,R7,⟨P7.perm.trans P6.perm,rfl,P7.back.trans P6.back⟩⟩
     .rw[AR hp1];exact wpS_pure ⟨rfl,R6,P6⟩
    case poc1 =>
     rintro c st6 ⟨rfl,R6,P6⟩;dsimp only;refine wpS_bind (wpS_modify (wpS_bind (wpS_modify (wpS_pure ⟨_,rfl,push _ (R6.congr m8) ?_,by omega,by omega⟩))));show Sor U (seg (arrOf st6).toList lo N);rw[P6.seg_back (by omega)];exact s5.sor
  .rw[AR hmr];have R5:RI U kd a₀ lo st2:=by
    refine⟨L2.S,by rw[L2.pend];exact R.cov,fun y hy=>?_⟩;rw[L2.pend]at hy;have hc:=Cov.mem R.cov hy;rw[(L2.part R.S).seg_front (by omega)];exact R.sor y hy
   refine wpS_bind (wpS_get ?_);have push:∀(st6:SortSt),RI U kd a₀ lo st6->Sor U (seg (arrOf st6).toList lo m)->RI U kd a₀ (lo+m) (setPending st6 ((pendingOf st6).push (lo,m,0))):=fun st6 R6 s6=>by
    refine⟨⟨R6.S.perm,R6.S.kind,R6.S.failed⟩,?_,fun y hy=>?_⟩
    .show Cov ((pendingOf st6).push (lo,m,0)).toList 0 (lo+m);rw[CN];exact Cov.app.mpr ⟨lo,R6.cov,rfl,(by show 1<=m;omega),rfl⟩
    .have hy':y∈((pendingOf st6).push (lo,m,0)).toList:=hy;rw[CN]at hy';rcases AK.mp hy' with hy' | hy'
     .exact R6.sor y hy'
     .rw[AC.mp hy'];exact s6
   cases hbk:(pendingOf st2).back? with
   | none =>
    dsimp only;refine wpS_bind (wpS_modify (wpS_pure ⟨_,rfl,push _ R5 hs2.sor,by omega,by omega⟩))
   | some bk =>
    obtain⟨s1,n1,pb⟩:=bk;dsimp only;generalize power' a₀.size (2*s1+n1) (2*s1+n1+n1+m) a₀.size=pw;refine wpS_bind (wpS_mono (wpS_forRange (I:=fun x c st6=>c =(none,())/\RI U kd a₀ lo st6/\Part U (arrOf st2).toList (arrOf st6).toList 0 lo)
     (Q:=fun c st6=>c =(none,())/\RI U kd a₀ lo st6/\Part U (arrOf st2).toList (arrOf st6).toList 0 lo) ?stc2 (fun _ _ z=>z) ⟨rfl,R5,Part.refl _ _ _⟩) ?poc2)
    case stc2 =>
     rintro x' c st6 _ _ ⟨rfl,R6,P6⟩
     try dsimp only
     refine wpS_bind (wpS_get ?_);by_cases hp1:(pendingOf st6).size>1
     .rw[AZ hp1];obtain⟨⟨u1,u2,ol⟩,hu⟩:∃y,(pendingOf st6)[(pendingOf st6).size-2]?=some y:=⟨_,getElem?_pos _ _ (by omega)⟩;rw[hu];dsimp only;by_cases hol:ol<=pw
      .rw[AZ hol];exact wpS_pure ⟨rfl,R6,P6⟩
      rw[AR hol];refine wpS_bind (Fe C h0 R6 h1 (by omega) fun st7 R7 _ P7=>?_);simp only[GB,BQ,DR];exact wpS_pure ⟨rfl,R7,⟨P7.perm.trans P6.perm,rfl,P7.back.trans P6.back⟩⟩
     .rw[AR hp1];exact wpS_pure ⟨rfl,R6,P6⟩
    case poc2 =>
     rintro c st6 ⟨rfl,R6,P6⟩;dsimp only;refine wpS_bind (wpS_modify (wpS_bind (wpS_modify (wpS_pure ⟨_,rfl,push _ (R6.congr m8) ?_,by omega,by omega⟩))));show Sor U (seg (arrOf st6).toList lo m);rw[P6.seg_back (by omega)];exact hs2.sor
end
def kd1(U:KeyKind)(v:Value):U.α:=(U.keyOf v).getD U.dflt
section
variable{prog:Program}{w:World}{A:Around}{E:Value->Shared->Prop}{s:Shared}{U:KeyKind}{kd:SortKind}
def Ext(a:Addr)(s s':Shared):Prop:=∀b o,b≠a->s.heap.get? b=some o->s'.heap.get? b=some o
structure Keys(prog:Program)(w:World)(a:Addr)(s:Shared)(U:KeyKind)(kd:SortKind)(vs:List Value):Prop where
 cmp:∀(A:Around) (s':Shared),Ext a s s'->Cmp prog w A s' U kd
 key:∀v∈vs,∃k,U.keyOf v=some k
 kind:2<=vs.length->∀(A:Around) (E:Value->Shared->Prop) (s':Shared) (Q:SortKind->Shared->Prop),Ext a s s'->Q kd s'->wpAny (model prog w) A (keyKind' vs.toArray) Q E s'
def Out(U:KeyKind)(vs:List Value)(out:Array Value):Prop:=out.toList.Perm vs/\out.toList.Pairwise fun u v=>U.kle (kd1 U u) (kd1 U v)
theorem Pb{vs:List Value}{xs:Array Keyed}(hp:xs.toList.Perm (pairsOf vs).toList)(hs:Sor U xs.toList):Out U vs (xs.map (·.2)):=by
 rw[pairsOf_toList]at hp;have hm:∀p∈xs.toList,p.1=p.2:=fun p h=>(mem_zip_self (hp.mem_iff.mp h)).1;have e:(xs.map (·.2)).toList=xs.toList.map (·.1):=by
  rw[Array.toList_map];exact List.map_congr_left fun p h=>(hm p h).symm
 refine⟨?_,?_⟩
 .rw[e];have:=hp.map Prod.fst
  rwa [List.map_fst_zip (Nat.le_refl _)]at this
 .rw[e,List.pairwise_map];exact hs
theorem Cb{a:Addr}{vs:List Value}{n:Nat}{P:Fin->Shared->Prop}(ho:s.heap.get? a=some (seqObj "list" vs.toArray n))(hz:vs.length<=sizeLine)(K:Keys prog w a s U kd vs)
  (h:∀out:Array Value,Out U vs out->P (.done (.ret .none)) { s with heap:=sortedHeap s.heap a vs out }) :
  wpAny (model prog w) A (Builtin.«list.sort» ⟨[.ref a],[]⟩) P E s:=by
 rw[list_sort_plain];have ha:a<s.heap.objs.size:=AF ho;have hsz:vs.toArray.size=vs.length:=by simp
 refine AA (listItems_at ho rfl ?_);refine AA (listUpdate_at ho rfl ?_ (by rw[hsz];exact hz) (by simp));obtain⟨e1,ho1⟩:∃e1,(s.heap.update a (Obj.mapSeq fun _=>#[])).get? a=some (seqObj "list" #[] e1):=⟨_,get?_update_seq ho (fun _=>#[])⟩;refine AA (seqEpoch_at ho1 rfl ?_);refine AA (FW ?_ (by simpa using hz));refine AA (wpAny_newList ?_);refine BZ ?_;have ho6:(((s.heap.update a (Obj.mapSeq fun _=>#[])).push (seqObj "tuple" vs.toArray 0)).push (seqObj "list" #[] 0)).get? a=some (seqObj "list" #[] e1):=by
  rw[Heap.get?_push_ne _ _ _ (by rw[size_push',Heap.size_update];exact AY (EJ ha)),Heap.get?_push_ne _ _ _ (by rw[Heap.size_update];exact AY ha)];exact ho1
 show wpAny (model prog w) A _ P E { s with heap:=((s.heap.update a (Obj.mapSeq fun _=>#[])).push (seqObj "tuple" vs.toArray 0)).push (seqObj "list" #[] 0) };dsimp only;have hE:Ext a s { s with heap:=((s.heap.update a (Obj.mapSeq fun _=>#[])).push (seqObj "tuple" vs.toArray 0)).push (seqObj "list" #[] 0) }:=fun b o hb e =>
  AD _ (AD _ ((BJ s.heap _ (Ne.symm hb)).trans e))
 by_cases h2:vs.toArray.size<2
 .rw[AZ h2,AZ h2];refine AA (AE ?_);rw[StateT.run_pure];refine AA (AE ?_);dsimp only;refine AA (seqEpoch_at ho6 rfl ?_);refine AA (listUpdate_at ho6 rfl ?_ (by simp) (by rw[Array.size_map];show(pairsOf vs).size<=_;rw[pairsOf_size];omega));simp only[bne_self_eq_false,BQ,DR];refine AE (h _ (Pb (U:=U) (xs:=pairsOf vs) (List.Perm.refl _) ?_));rw[pairsOf_toList];rw[hsz]at h2
  match vs,h2 with
  | [],_=>exact List.Pairwise.nil
  | [v],_=>exact FU _ _
  | _::_::_,h2=>simp at h2;omega
 .rw[AR h2,AR h2];refine AA (K.kind (by omega) A E _ _ hE ?_);refine AA (BR (Ba (K.cmp A _ hE) (a₀:=pairsOf vs) (st:=SortSt.mk' kd (vs.toArray.zip vs.toArray) #[] 7 none)
   (Q:=fun _ st'=>St U kd (pairsOf vs) st'/\Sor U (arrOf st').toList)
   (fun p hp=>?_) ⟨List.Perm.refl _,rfl,rfl⟩ rfl fun st' a1 a2=>⟨a1,a2⟩) ?_ fun _ _ e=>e)
  .rw[pairsOf_toList]at hp;exact K.key _ (mem_zip_self hp).2
  rintro⟨⟨⟩,st'⟩ s' ⟨rfl,hp,hs⟩;dsimp only;refine AA (seqEpoch_at ho6 rfl ?_);refine AA (listUpdate_at ho6 rfl ?_ (by simp) (by rw[Array.size_map];show(arrOf st').size<=_;rw[hp.size,pairsOf_size];omega));rw[show failedOf st'=none from hp.failed];simp only[bne_self_eq_false,BQ,DR];exact AE (h _ (Pb hp.perm hs))
theorem sorted_gen{x:Value}{Q:Value->Shared->Prop}
  (hc:wpAny (model prog w) A.in1 (collect x) (fun vs s1=>s1.os=s.os/\vs.length<=sizeLine/\(∃(U:KeyKind) (kd:SortKind),(∀s2:Shared,Ext s1.heap.objs.size s1 s2->Keys prog w s1.heap.objs.size s2 U kd vs) /\
   ∀(out:Array Value) (h':Heap) (e:Nat),Out U vs out->(∀b o,s1.heap.get? b=some o->h'.get? b=some o)->h'.get? s1.heap.objs.size=some (seqObj "list" out e)->Q (.ref s1.heap.objs.size) { s1 with heap:=h' })) E s) :
  wpAny (model prog w) A (call (.builtin "sorted") [x]) Q E s:=by
 refine Calls.call_function_entry kind_sorted plain_sorted entry_sorted (args_sorted1 _) ?_;unfold Builtin.«sorted»;refine AA (m:=checkCount "sorted" 1 1 _) (AE ?_);refine AA (BR hc (fun vs s1 ⟨eos,hz,U,kd,K,q⟩=>?_) fun _ _ z=>z);refine AA (wpAny_newList ?_);have hoL:(s1.heap.push (seqObj "list" vs.toArray 0)).get? s1.heap.objs.size=some (seqObj "list" vs.toArray 0):=AW _ rfl;show wpAny _ _ _ _ _ { s1 with heap:=s1.heap.push (seqObj "list" vs.toArray 0) };have hE:Ext s1.heap.objs.size s1 { s1 with heap:=s1.heap.push (seqObj "list" vs.toArray 0) }:=fun b o _ e=>AD _ e;refine AA (BZ (CU slot_list_sort ⟨_,hoL,rfl⟩ entry_list_sort (Cb (s:={ s1 with heap:=s1.heap.push (seqObj "list" vs.toArray 0) }) hoL hz (K _ hE) fun out ho=>⟨_,rfl,?_⟩) (args_list_sort _)));obtain⟨e,he⟩:=sortedHeap_at (h:=s1.heap.push (seqObj "list" vs.toArray 0)) (out:=out) hoL;refine AE ⟨_,rfl,q out _ e ho (fun b o eb=>?_) he⟩;have hlt:=AF eb;rw[sortedHeap_old (AY hlt) (by rw[size_push'];exact EJ hlt)];exact AD _ eb
theorem keys_strs{a:Addr}{vs:List Value}{ss:List Str}(hS:StrsAre vs ss):Keys prog w a s strKind oneType' vs:=by
 refine⟨fun A s' _=>⟨fun x y k l Q E hx hy q=>?_⟩,fun v hv=>?_,fun h2 A E s' Q _ q=>?_⟩
 .rw[keyLt'_oneType];exact strKind_oneLt prog w A E s' x y k l hx hy q
 .obtain⟨x,t,rfl⟩:=hS.all v hv;exact⟨_,rfl⟩
 .match vs,h2,hS with
  | v1::v2::r,_,hS =>
   rw[keyKind_strs hS];exact AE q
end
end TS
set_option Elab.async false
namespace L2
open PySem PySem.Spec PyProof.Rows
abbrev Key:=Sum Int Str
def Cm:Key->Value->Bool
 | .inl k,v=>Value.isInt k v
 | .inr x,v=>Value.isStrOf x v
def Xp(w:World):Key->Int
 | .inl k=>hashInt k
 | .inr x=>hashStr w x
theorem D6:∀{k:Key} {v:Value},Cm k v=true->(∃i t,k=Sum.inl i/\v=Value.int i t)\/(∃x t,k=Sum.inr x/\v=Value.str x t)
 | .inl i,v,h=>by
  obtain⟨t,e⟩:=Value.isInt_shape (k:=i) (v:=v) h;exact .inl ⟨i,t,rfl,e⟩
 | .inr x,v,h=>by
  obtain⟨t,e⟩:=Value.isStrOf_shape (x:=x) (v:=v) h;exact .inr ⟨x,t,rfl,e⟩
theorem Kb(i:Int)(t:Tok):Cm (.inl i) (.int i t)=true:=by simp[Cm,Value.isInt]
theorem P0(x:Str)(t:Tok):Cm (.inr x) (.str x t)=true:=by simp[Cm,Value.isStrOf]
theorem Vf(a b:Int):decide ((Sum.inl a:Key)=Sum.inl b) =(a == b):=by
 by_cases e:a=b
 .subst e;simp
 .have h:¬(Sum.inl a:Key)=Sum.inl b:=fun q=>e (Sum.inl.inj q);rw[A_ h];exact(beq_eq_false_iff_ne.mpr e).symm
theorem Si(a b:Str):decide ((Sum.inr a:Key)=Sum.inr b)=decide (a=b):=by
 by_cases e:a=b
 .subst e;simp
 .have h:¬(Sum.inr a:Key)=Sum.inr b:=fun q=>e (Sum.inr.inj q);rw[A_ h,A_ e]
theorem Uy(a:Int)(b:Str):decide ((Sum.inl a:Key)=Sum.inr b)=false:=A_ (fun q=>nomatch q)
theorem Tn(a:Str)(b:Int):decide ((Sum.inr a:Key)=Sum.inl b)=false:=A_ (fun q=>nomatch q)
def C9(prog:Program)(w:World):PySem.KeyKind prog w Key where
 is:=Cm
 hash:=Xp w
 inj:=fun v a b ha hb=>by
  rcases D6 ha with⟨i,t,rfl,rfl⟩ | ⟨x,t,rfl,rfl⟩
  .rcases D6 hb with⟨j,u,rfl,e⟩ | ⟨y,u,rfl,e⟩
   .injection e with e1 _;rw[e1]
   .exact nomatch e
  .rcases D6 hb with⟨j,u,rfl,e⟩ | ⟨y,u,rfl,e⟩
   .exact nomatch e
   .injection e with e1 _;rw[e1]
 byValue:=fun k v h=>by
  rcases D6 h with⟨i,t,rfl,rfl⟩ | ⟨x,t,rfl,rfl⟩<;>rfl
 pyHash:=fun hv h=>by
  rcases D6 hv with⟨i,t,rfl,rfl⟩ | ⟨x,t,rfl,rfl⟩
  .exact wpAny_pyHash_int h
  .exact wpAny_pyHash_str h
 eqBool:=fun hu hv h=>by
  rcases D6 hu with⟨i,t,rfl,rfl⟩ | ⟨x,t,rfl,rfl⟩
  .rcases D6 hv with⟨j,u,rfl,rfl⟩ | ⟨y,u,rfl,rfl⟩
   .rw[Vf]at h;exact wpAny_eqBool_int h
   .rw[Uy]at h;exact SeqAt.EqAt.int_str i t y u _ _ _ _ h
  .rcases D6 hv with⟨j,u,rfl,rfl⟩ | ⟨y,u,rfl,rfl⟩
   .rw[Tn]at h;exact SeqAt.EqAt.str_int x t j u _ _ _ _ h
   .rw[Si]at h;exact wpAny_eqBool_str h
 «strs»:=fun k x t v h=>by
  rcases D6 h with⟨i,u,rfl,e⟩ | ⟨y,u,rfl,e⟩
  .exact nomatch e
  .injection e with e1 _;subst e1;cases v<;>rfl
theorem Eo(prog:Program)(w:World)(i:Int)(t:Tok):(C9 prog w).is (.inl i) (.int i t)=true:=Kb i t
theorem Fc(prog:Program)(w:World)(x:Str)(t:Tok):(C9 prog w).is (.inr x) (.str x t)=true:=P0 x t
inductive V where
 | non | bl (b:Bool) | int (i:Int) | str (x:Str) | byt (b:Array UInt8) | flt (b:UInt64) | ref (a:Addr) | ty (n:String)
 deriving DecidableEq
def RelV:V->Value->Prop
 | .non,u=>u=Value.none
 | .bl b,u=>u=Value.bool b
 | .int i,u=>∃t,u=Value.int i t
 | .str x,u=>∃t,u=Value.str x t
 | .byt b,u=>∃t,u=Value.bytes b t
 | .flt b,u=>∃t,u=Value.float b t
 | .ref a,u=>u=Value.ref a
 | .ty n,u=>u=Value.type n
abbrev Vals:List V->List Value->Prop:=Paired RelV
theorem Vals.length{xs:List V}{us:List Value}(r:Vals xs us):xs.length=us.length:=Paired.length r
theorem Vals.get:∀{xs:List V} {us:List Value} {i:Nat} {x:V},Vals xs us->xs[i]?=some x->∃u,us[i]?=some u/\RelV x u
 | _,_,_,_,.nil,e=>by simp at e
 | _,_,0,_,.cons r _,e=>by simp at e;subst e;exact⟨_,rfl,r⟩
 | _,_,i+1,x,.cons _ t,e=>by
  obtain⟨u,h1,h2⟩:=Vals.get (i:=i) (x:=x) t (by simpa using e);exact⟨u,by simpa using h1,h2⟩
theorem Vals.set{x:V}{u:Value}(r:RelV x u):∀{xs:List V} {us:List Value} (i:Nat),Vals xs us->Vals (xs.set i x) (us.set i u)
 | _,_,_,.nil=>.nil
 | _,_,0,.cons _ t=>.cons r t
 | _,_,i+1,.cons q t=>.cons q (Vals.set r i t)
theorem Vals.append:∀{xs ys:List V} {us ws:List Value},Vals xs us->Vals ys ws->Vals (xs++ys) (us++ws)
 | _,_,_,_,.nil,s=>s
 | _,_,_,_,.cons r t,s=>.cons r (Vals.append t s)
theorem Vals.take:∀{xs:List V} {us:List Value} (n:Nat),Vals xs us->Vals (xs.take n) (us.take n)
 | _,_,0,_=>.nil
 | _,_,_+1,.nil=>.nil
 | _,_,n+1,.cons r t=>.cons r (Vals.take n t)
theorem Vals.drop:∀{xs:List V} {us:List Value} (n:Nat),Vals xs us->Vals (xs.drop n) (us.drop n)
 | _,_,0,r=>r
 | _,_,_+1,.nil=>.nil
 | _,_,n+1,.cons _ t=>Vals.drop n t
theorem Vals.none_of:∀{xs:List V} {us:List Value} {i:Nat},Vals xs us->xs[i]?=none->us[i]?=none:=fun{xs us i} r e=>by
 have h1:=r.length;have h2:xs.length<=i:=FI.mp e;exact FI.mpr (by omega)
def RelO:Option V->Option Value->Prop
 | some v,some u=>RelV v u
 | none,none=>True
 | _,_=>False
def KV{U:Type}:List (U×V)->List (U×Value)->Prop:=Paired fun(p:U×V) (q:U×Value)=>p.1=q.1/\RelV p.2 q.2
def kV:Key->V
 | .inl i=>.int i
 | .inr x=>.str x
inductive HO where
 | lst (xs:List V)
 | tup (xs:List V)
 | dK (kvs:List (Key×V)) | dT (kvs:List (List Key×V))
 | set (S:Int->Bool) (n:Nat)
 | ins (C dx:Addr) (fs:List (Str×V))
 | own (x:Addr)
 | xd (fs:List (Str×V))
 | met (f x:Addr)
 | rng (lo hi:Int)
 | frz (o:Obj) (u:HO)
 | tbl (ps:Array Value)
 | ext (φ:Heap->Prop)
set_option genInjectivity false
abbrev Hp:=Addr->Option HO
def upd(H:Hp)(a:Addr)(o:HO):Hp:=fun b=>if b=a then some o else H b
theorem A7{H:Hp}{a:Addr}{o:HO}:upd H a o a=some o:=by unfold upd;rw[AZ rfl]
theorem B7{H:Hp}{a b:Addr}{o:HO}(h:b≠a):upd H a o b=H b:=by unfold upd;rw[AR h]
theorem Pn{H:Hp}{a:Addr}{o u:HO}:upd (upd H a o) a u=upd H a u:=by
 funext b;unfold upd;split<;>rfl
theorem p8{H:Hp}{a b:Addr}{o u:HO}(h:H a=some o)(h':H b=some u)(d:o≠u):a≠b:=by
 intro e;subst e;rw[h]at h';exact d (BV h')
theorem B4{H:Hp}{a b:Addr}{o:HO}(h:H a=some o)(h':H b=none):a≠b:=by
 intro e;subst e;rw[h]at h';cases h'
section
variable(P:Program)(w:World)
def ObjOk(H:Hp)(h:Heap)(a:Addr):HO->Prop
 | .lst xs=>xs.length<=sizeLine/\∃(its:List Value) (n:Nat),Vals xs its/\h.get? a=some { cls:=.type "list",data:=.seq its.toArray n }
 | .tup xs=>xs.length<=sizeLine/\∃its:List Value,Vals xs its/\IsTup h a its.toArray
 | .dK kvs=>kvs.length<=sizeLine/\(a == sysModules)=false/\∃vs,KV kvs vs/\h.DictOf (C9 P w) a vs
 | .dT kvs=>kvs.length<=sizeLine/\(a == sysModules)=false/\∃xs:List (List Key×Addr×Value),
   Paired (fun(p:List Key×V) (q:List Key×Addr×Value)=>p.1=q.1/\H q.2.1=some (.tup (p.1.map kV))/\RelV p.2 q.2.2) kvs xs /\
   ∃o es ep,h.get? a=some o/\o.ExactDict/\o.data = .dict es ep/\es.toList=xs.map (entryOfKey (tupleKind (C9 P w)))/\(xs.map (·.1)).Nodup
 | .set S n=>h.SetOf (intKind P w) a S n
 | .ins C dx fs=>H dx=some (.own a)/\fs.length<=1000/\dx≠a/\h.get? a=some (PySem.W.instObj C dx) /\
   ∃mA,h.Ns1 dx mA/\(∀f,RelO (fs.lookup f) (mA f))/\PySem.Within mA (fs.map (·.1))
 | .own _=>∃o,h.get? a=some o
 | .xd fs=>∃mA,h.Ns1 a mA/\∀f,RelO (fs.lookup f) (mA f)
 | .rng lo hi=>∃t u v,h.get? a=some { cls:=.type "range",data:=.fields #[.int lo t,.int hi u,.int 1 v] }
 | .frz o u=>h.get? a=some o/\ObjOk H h a u
 | .tbl ps=>h.get? a=some { cls:=.none,data:=.fields ps }
 | .met f x=>h.get? a=some (PySem.W.methodObj (.ref f) (.ref x))
 | .ext φ=>φ h/\(∃o,h.get? a=some o)/\∀h1 h2:Heap,φ h1->(∀o,h1.get? a=some o->h2.get? a=some o)->φ h2
def HOk(H:Hp)(h:Heap):Prop:=∀a o,H a=some o->ObjOk P w H h a o
end
section
variable{P:Program}{w:World}{H H':Hp}{h h':Heap}{a:Addr}{o:HO}
theorem ObjOk.lt(x:ObjOk P w H h a o):a<h.objs.size:=by
 cases o with
 | lst xs=>obtain⟨_,_,_,_,e⟩:=x;exact AF e
 | tup xs=>obtain⟨_,_,_,p⟩:=x;exact p.lt
 | dK kvs=>obtain⟨_,_,_,_,o,_,_,e,_⟩:=x;exact AF e
 | dT kvs=>obtain⟨_,_,_,_,o,_,_,e,_⟩:=x;exact AF e
 | set S n=>obtain⟨o,_,_,_,e,_⟩:=x;exact AF e
 | ins C dx fs=>obtain⟨_,_,_,e,_⟩:=x;exact AF e
 | own y=>obtain⟨_,e⟩:=x;exact AF e
 | xd fs=>obtain⟨_,⟨_,_,_,e,_⟩,_⟩:=x;exact AF e
 | rng lo hi=>obtain⟨_,_,_,e⟩:=x;exact AF e
 | frz ob u=>obtain⟨e,_⟩:=x;exact AF e
 | tbl ps=>exact AF (show h.get? a=some _ from x)
 | met f y=>exact AF (show h.get? a=some _ from x)
 | ext φ=>obtain⟨_,⟨_,e⟩,_⟩:=x;exact AF e
theorem Paired.mapP{α β:Type}{F G:α->β->Prop}:∀{l₁:List α} {l₂:List β},Paired F l₁ l₂->(∀a b,F a b->G a b)->Paired G l₁ l₂
 | _,_,.nil,_=>.nil
 | _,_,.cons r t,f=>.cons (f _ _ r) (Paired.mapP t f)
theorem ObjOk.stay(x:ObjOk P w H h a o)(k:∀b u,(b=a\/H b=some (.own a))->h.get? b=some u->h'.get? b=some u)
  (ho:∀b,H b=some (.own a)->H' b=some (.own a)) (ht:∀b xs,H b=some (.tup xs)->H' b=some (.tup xs)):ObjOk P w H' h' a o:=by
 induction o with
 | lst xs=>obtain⟨z,its,n,r,e⟩:=x;exact⟨z,its,n,r,k _ _ (.inl rfl) e⟩
 | tup xs=>obtain⟨z,its,r,ob,e,c⟩:=x;exact⟨z,its,r,ob,k _ _ (.inl rfl) e,c⟩
 | dK kvs=>obtain⟨z,y,vs,r,ob,es,ep,e,c⟩:=x;exact⟨z,y,vs,r,ob,es,ep,k _ _ (.inl rfl) e,c⟩
 | dT kvs =>
  obtain⟨z,y,xs,r,ob,es,ep,e,c⟩:=x;exact⟨z,y,xs,Paired.mapP r fun p q z=>⟨z.1,ht _ _ z.2.1,z.2.2⟩,ob,es,ep,k _ _ (.inl rfl) e,c⟩
 | set S n=>obtain⟨ob,es,ep,t,e,c⟩:=x;exact⟨ob,es,ep,t,k _ _ (.inl rfl) e,c⟩
 | ins C dx fs =>
  obtain⟨d,z,ne,e,mA,⟨od,es,ep,e2,c⟩,r⟩:=x;exact⟨ho _ d,z,ne,k _ _ (.inl rfl) e,mA,⟨od,es,ep,k _ _ (.inr d) e2,c⟩,r⟩
 | own y=>obtain⟨ob,e⟩:=x;exact⟨ob,k _ _ (.inl rfl) e⟩
 | xd fs=>obtain⟨mA,⟨od,es,ep,e,c⟩,r⟩:=x;exact⟨mA,⟨od,es,ep,k _ _ (.inl rfl) e,c⟩,r⟩
 | rng lo hi=>obtain⟨t,u,v,e⟩:=x;exact⟨t,u,v,k _ _ (.inl rfl) e⟩
 | frz ob u ih=>obtain⟨e,q⟩:=x;exact⟨k _ _ (.inl rfl) e,ih q⟩
 | tbl ps =>
  have e:h.get? a=some { cls:=.none,data:=.fields ps }:=x;show h'.get? a=some { cls:=.none,data:=.fields ps };exact k a _ (.inl rfl) e
 | met f y =>
  have e:h.get? a=some (PySem.W.methodObj (.ref f) (.ref y)):=x;show h'.get? a=some (PySem.W.methodObj (.ref f) (.ref y));exact k a _ (.inl rfl) e
 | ext φ=>obtain⟨p,⟨o,e⟩,st⟩:=x;exact⟨st _ _ p fun o q=>k _ _ (.inl rfl) q,⟨o,k _ _ (.inl rfl) e⟩,st⟩
theorem HOk.lt(x:HOk P w H h)(e:H a=some o):a<h.objs.size:=(x a o e).lt
theorem HOk.fresh(x:HOk P w H h)(e:h.objs.size<=a):H a=none:=by
 cases q:H a with
 | none=>rfl
 | some u=>exact absurd (AX (x.lt q) e) (CD _)
theorem HOk.kept(x:HOk P w H h)(k:∀b u,h.get? b=some u->h'.get? b=some u):HOk P w H h':=fun a o e =>
 (x a o e).stay (fun b u _ q=>k b u q) (fun _ q=>q) fun _ _ q=>q
theorem HOk.laid(x:HOk P w H h)(k:∀b u,h.get? b=some u->h'.get? b=some u)(hp:h.objs.size<=a)(new:ObjOk P w (upd H a o) h' a o):HOk P w (upd H a o) h':=fun b u e=>by
 have hn:=x.fresh hp;by_cases hb:b=a
 .subst hb;rw[A7]at e;cases e;exact new
 .rw[B7 hb]at e;exact(x b u e).stay (fun c v _ q=>k c v q) (fun c q=>by rw[B7 (B4 q hn)];exact q) fun c xs q=>by rw[B7 (B4 q hn)];exact q
end
def Rd(H:Hp)(a:Addr)(u:HO):Prop:=H a=some u\/∃o,H a=some (.frz o u)
theorem Rd.ok{P:Program}{w:World}{H:Hp}{h:Heap}{a:Addr}{u:HO}(r:Rd H a u)(x:HOk P w H h):ObjOk P w H h a u:=by
 rcases r with r | ⟨o,r⟩
 .exact x a u r
 .obtain⟨_,q⟩:=x a _ r;exact q
def Mut:Option HO->Prop
 | some (.lst _)=>True
 | some (.dK _)=>True
 | some (.dT _)=>True
 | some (.set _ _)=>True
 | some (.ins _ _ _)=>True
 | some (.ext _)=>True
 | _=>False
section
variable{P:Program}{w:World}{H:Hp}{h h':Heap}{x e:Addr}{o':HO}
theorem HOk.write(ok:HOk P w H h)(mu:Mut (H x))(he:e=x\/H e=some (.own x))(k:∀b u,b≠e->h.get? b=some u->h'.get? b=some u)(heo:∃u,h'.get? e=some u)
  (new:ObjOk P w (upd H x o') h' x o'):HOk P w (upd H x o') h':=fun b u q=>by
 have nown:∀c y,H c=some (.own y)->c≠x:=fun c y r z=>by subst z;rw[r]at mu;exact mu
 have ntup:∀c xs,H c=some (.tup xs)->c≠x:=fun c xs r z=>by subst z;rw[r]at mu;exact mu
 by_cases hb:b=x
 .subst hb;rw[A7]at q;cases q;exact new
 .rw[B7 hb]at q;by_cases hbe:b=e
  .have q':H b=some (.own x):=by
    rcases he with z | z
    .exact absurd (hbe.trans z) hb
    .rw[hbe];exact z
   rw[q]at q';cases q';obtain⟨v,hv⟩:=heo;exact⟨v,by rw[hbe];exact hv⟩
  .refine(ok b u q).stay (fun c v hc r=>k c v ?_ r) (fun c r=>by rw[B7 (nown c b r)];exact r) fun c xs r=>by rw[B7 (ntup c xs r)];exact r
   rcases hc with rfl | hc
   .exact hbe
   .rintro rfl;rcases he with z | z
    .exact nown c b hc z
    .rw[hc]at z;cases z;exact hb rfl
end
structure Un(fs ex:List Addr)(H H':Hp)(h h':Heap):Prop where
 keep:∀b o,h.get? b=some o->H b=none->b∉fs->b∉ex->h'.get? b=some o
 slot:∀b o,h.get? b=some o->H b=none->b∈fs->b∉ex->∃sl,h'.get? b=some { o with slots:=sl }
 free:∀b o,h.get? b=some o->H b=none->b∉ex->H' b=none
 there:∀b o,h.get? b=some o->b∉ex->∃o',h'.get? b=some o'
 tups:∀b xs,H b=some (.tup xs)->H' b=some (.tup xs)
 frzs:∀b o u,H b=some (.frz o u)->H' b=some (.frz o u)
 tbls:∀b ps,H b=some (.tbl ps)->∃more,H' b=some (.tbl (ps++more))
section
variable{fs fs' ex ex':List Addr}{H H1 H2:Hp}{h h1 h2 h':Heap}{a x e:Addr}{o:HO}
theorem Un.any(u:Un fs ex H H1 h h1){b:Addr}{ob:Obj}(q:h.get? b=some ob)(n:H b=none)(hx:b∉ex):∃sl,h1.get? b=some { ob with slots:=sl }:=by
 by_cases hb:b∈fs
 .exact u.slot b ob q n hb hx
 .exact⟨ob.slots,u.keep b ob q n hb hx⟩
theorem Un.kept(k:∀b u,h.get? b=some u->h'.get? b=some u):Un fs ex H H h h' :=
 ⟨fun b ob q _ _ _=>k b ob q,fun b ob q _ _ _=>⟨ob.slots,k b ob q⟩,fun _ _ _ n _=>n,fun b ob q _=>⟨ob,k b ob q⟩,fun _ _ q=>q,fun _ _ _ q=>q,fun _ ps q=>⟨#[],by rw[q];simp⟩⟩
theorem Un.refl:Un fs ex H H h h:=Un.kept fun _ _ q=>q
theorem Un.laid(k:∀b u,h.get? b=some u->h'.get? b=some u)(hp:h.objs.size<=a)(hn:H a=none):Un fs ex H (upd H a o) h h' where
 keep:=fun b u q _ _ _=>k b u q
 slot:=fun b u q _ _ _=>⟨u.slots,k b u q⟩
 free:=fun b u q n _=>by rw[B7 (AY (AX (AF q) hp))];exact n
 there:=fun b u q _=>⟨u,k b u q⟩
 tups:=fun b xs q=>by rw[B7 (B4 q hn)];exact q
 frzs:=fun b u xs q=>by rw[B7 (B4 q hn)];exact q
 tbls:=fun b ps q=>⟨#[],by rw[B7 (B4 q hn),q];simp⟩
theorem Un.write(mu:Mut (H x))(he:e=x\/H e=some (.own x))(k:∀b u,b≠e->h.get? b=some u->h'.get? b=some u)(heo:∃u,h'.get? e=some u):Un fs ex H (upd H x o) h h':=by
 have hx:∀b,H b=none->b≠x:=fun b n z=>by subst z;rw[n]at mu;exact mu
 have hb:∀b,H b=none->b≠e:=fun b n z=>by
  subst z;rcases he with r | r
  .exact hx b n r
  .rw[n]at r;cases r
 have hm:∀b u,H b=some u->¬Mut (some u)->b≠x:=fun b u q nm z=>by subst z;rw[q]at mu;exact nm mu
 refine⟨fun b u q n _ _=>k b u (hb b n) q,fun b u q n _ _=>⟨u.slots,k b u (hb b n) q⟩,fun b u q n _=>by rw[B7 (hx b n)];exact n,fun b u q _=>?_,
  fun b xs q=>by rw[B7 (hm b _ q fun z=>z)];exact q,fun b u xs q=>by rw[B7 (hm b _ q fun z=>z)];exact q,fun b ps q=>⟨#[],by rw[B7 (hm b _ q fun z=>z),q];simp⟩⟩
 by_cases hbe:b=e
 .subst hbe;exact heo
 .exact⟨u,k b u hbe q⟩
end
def trk(h:Heap)(H:Hp):List Addr:=(List.range h.objs.size).filter fun a=>(H a).isSome
def Mh(h:Heap)(H:Hp):Heap:=PySem.W.hideAll h (trk h H)
theorem Ec(h:Heap)(H:Hp):(Mh h H).objs.size=h.objs.size:=PySem.W.hideAll_size _ _
theorem a7{h:Heap}{H:Hp}{b:Addr}{o:Obj}(e:h.get? b=some o)(n:H b=none):(Mh h H).get? b=some o :=
 PySem.W.hideAll_get _ e fun hm=>by
  have q:(H b).isSome=true:=(DN.mp hm).2;rw[n]at q;simp at q
theorem La{h:Heap}{H:Hp}{b:Addr}{o:Obj}(e:(Mh h H).get? b=some o):h.get? b=some o/\H b=none:=by
 have e':h.get? b=some o:=PySem.W.of_hideAll (trk h H) e;refine⟨e',?_⟩;cases q:H b with
 | none=>rfl
 | some x =>
  have hm:b∈trk h H:=DN.mpr ⟨FD.mpr (AF e'),by simp[q]⟩;have z:(Mh h H).get? b=none:=PySem.W.hideAll_none (trk h H) hm;rw[z]at e;cases e
structure Mod(K:PySem.W.Frag)(mg:Str->Option Value)(base:Heap):Prop where
 kin:K.In base
 glob:base.Ns mainGlobals mg
 blt:∃mb,base.Ns builtinsNs mb/\∀x:Str,x≠ "__name__"->mb x=bootBuiltins x
 nolimit:base.NoLimit
structure Cx where
 prog:Program
 w:World
 K:PySem.W.Frag
 mg:Str->Option Value
 base:Heap
 A:Around
 N:List Str
 s₀:Shared
 H₀:Hp
 env:Env
 outer:List Env
 stack:List Env
 ex:List Addr
 fn:Str->Bool
 calm:Bool
 pn:List (Addr×Obj)
 xe:Value->Shared->Prop
def frs(l:List Env):List Addr:=l.filterMap (·.frame)
abbrev Cx.fs(X:Cx):List Addr:=frs X.outer
def Vis(sc:Scope)(x:Str):Prop:=sc.names.lookup x=some .local\/sc.names.lookup x=some .cell\/sc.names.lookup x=some .free
def Loc(sc:Scope)(x:Str):Prop:=sc.names.lookup x=some .local\/sc.names.lookup x=some .cell
def Xo(env:Env)(h:Heap)(m:Str->Option Value)(x:Str)(u:Value):Prop :=
 (env.kindOf x=some .local/\m x=some u)\/((env.kindOf x=some .cell\/env.kindOf x=some .free)/\∃c,env.cells.lookup x=some c/\h.IsCell c (some u))
structure Cx.Ok(X:Cx):Prop where
 mod:Mod X.K X.mg X.base
 kind:X.env.scope.kind = .function
 glob:X.env.globals=mainGlobals
 blt:X.env.builtins=builtinsNs
 above:X.s₀.heap.objs.size<=X.env.locals
 inj:∀x y c,X.env.cells.lookup x=some c->X.env.cells.lookup y=some c->x=y
 has:∀x,(X.env.kindOf x=some .cell\/X.env.kindOf x=some .free)->∃c,X.env.cells.lookup x=some c
 cab:∀x c,X.fn x=true->X.env.cells.lookup x=some c->X.s₀.heap.objs.size<=c
 hd:X.calm=true->X.A.handled=none
 frames:X.A.frames=some X.stack
 stk:X.stack=X.outer\/(X.stack=X.env::X.outer/\X.env.frame=some X.env.locals)
 exf:∀b∈X.ex,b≠X.env.locals/\∀x c,X.env.cells.lookup x=some c->c≠b
 bs:∀b o,X.base.get? b=some o->X.s₀.heap.get? b=some o/\X.H₀ b=none
 bsz:X.base.objs.size<=X.s₀.heap.objs.size
 noex:∀b o,X.base.get? b=some o->b∉X.ex
 exfs:∀b∈X.ex,b∉X.fs
 funs:X.s₀.heap.FunFrames X.base X.outer
 frf:∀b∈X.fs,X.H₀ b=none
structure Inv(X:Cx)(pins:List (Addr×Obj))(σ:List (Option V))(H:Hp)(s:Shared):Prop where
 ok:X.Ok
 os:s.os=X.s₀.os
 bare:AllBare s.gens
 base:Un X.fs X.ex X.H₀ H X.s₀.heap s.heap
 loc:∃m,s.heap.Ns X.env.locals m/\∀(i:Nat) (x:Str) (v:V),X.N[i]?=some x->σ[i]?=some (some v)->Vis X.env.scope x->∃u,RelV v u/\Xo X.env s.heap m x u
 cell:∀x c,X.env.cells.lookup x=some c->∃v,s.heap.IsCell c v
 free:H X.env.locals=none
 freeC:∀x c,X.env.cells.lookup x=some c->H c=none
 pin:∀p∈X.pn++pins,s.heap.get? p.1=some p.2/\H p.1=none/\p.1≠X.env.locals/\p.1∉X.fs/\∀v,p.2.data≠ .cell v
 hok:HOk X.prog X.w H s.heap
 len:σ.length=X.N.length
section
variable{X:Cx}{pins:List (Addr×Obj)}{σ:List (Option V)}{H H':Hp}{s:Shared}{h':Heap}
theorem Cx.Ok.nofr(ok:X.Ok){b:Addr}{o:Obj}(e:X.base.get? b=some o):b∉X.fs:=fun hb=>by
 have:=(ok.funs.mem hb).1;rw[e]at this;cases this
theorem Inv.bs(I:Inv X pins σ H s):∀b o,X.base.get? b=some o->s.heap.get? b=some o/\H b=none:=fun b o e =>
 ⟨I.base.keep b o (I.ok.bs b o e).1 (I.ok.bs b o e).2 (I.ok.nofr e) (I.ok.noex b o e),I.base.free b o (I.ok.bs b o e).1 (I.ok.bs b o e).2 (I.ok.noex b o e)⟩
theorem Inv.bk(I:Inv X pins σ H s):∀b o,X.base.get? b=some o->s.heap.get? b=some o:=fun b o e=>(I.bs b o e).1
theorem Inv.mod(I:Inv X pins σ H s):Mod X.K X.mg X.base:=I.ok.mod
theorem Inv.kIn(I:Inv X pins σ H s):X.K.In s.heap:=I.ok.mod.kin.keeps I.bk
theorem Inv.lt(I:Inv X pins σ H s):X.env.locals<s.heap.objs.size:=let⟨_,hn,_⟩:=I.loc;hn.lt
theorem Inv.sz(I:Inv X pins σ H s):X.s₀.heap.objs.size<=s.heap.objs.size:=Nat.le_trans I.ok.above (CT I.lt)
theorem Inv.nofs(I:Inv X pins σ H s){a:Addr}(h:s.heap.objs.size<=a):a∉X.fs:=fun hb=>by
 obtain⟨_,o,ho,_⟩:=I.ok.funs.mem hb;exact absurd (AX (AF ho) (Nat.le_trans I.sz h)) (CD _)
theorem Inv.cne(I:Inv X pins σ H s):∀x c,X.env.cells.lookup x=some c->c≠X.env.locals:=fun x c e z=>by
 obtain⟨v,o,ho,hd⟩:=I.cell x c e;obtain⟨m,⟨o',es,ep,ho',hd',_⟩,_⟩:=I.loc;rw[z,ho']at ho;cases ho;rw[hd']at hd;cases hd
theorem Inv.funs(I:Inv X pins σ H s):s.heap.FunFrames X.base X.outer:=by
 have all:∀(l:List Env),(∀b∈frs l,b∈X.fs)->X.s₀.heap.FunFrames X.base l->s.heap.FunFrames X.base l:=by
  intro l
  induction l with
  | nil=>intro _ _;trivial
  | cons env r ih =>
   intro hs hl;obtain⟨hk,⟨L,o,hf,hn,ho,hd⟩,hr⟩:=hl;have hL:L∈X.fs:=hs L (by unfold frs;rw[CW,hf];exact BB);obtain⟨sl,e⟩:=I.base.slot L o ho (I.ok.frf L hL) hL fun z=>I.ok.exfs L z hL;exact⟨hk,⟨L,_,hf,hn,e,hd⟩,ih (fun b hb=>hs b (by unfold frs;rw[CW,hf];exact AQ _ hb)) hr⟩
 exact all X.outer (fun _ hb=>hb) I.ok.funs
theorem Inv.stack(I:Inv X pins σ H s):s.heap.FunFrames X.base X.stack:=by
 rcases I.ok.stk with e | ⟨e,hf⟩
 .rw[e];exact I.funs
 .rw[e];obtain⟨m,hn,_⟩:=I.loc;refine .cons (by rw[I.ok.kind];decide) hf hn ?_ I.funs;exact Heap.get?_none_of_le (Nat.le_trans I.ok.bsz I.ok.above)
theorem Inv.stkSub(I:Inv X pins σ H s):∀b∈frs X.stack,b∈X.env.locals::X.fs:=fun b hb=>by
 rcases I.ok.stk with e | ⟨e,hf⟩
 .rw[e]at hb;exact AQ _ hb
 .rw[e]at hb;unfold frs at hb;rw[CW,hf]at hb;exact hb
theorem Inv.stkFree(I:Inv X pins σ H s):∀b∈frs X.stack,H b=none:=fun b hb=>by
 rcases AS.mp (I.stkSub b hb)with e | hb
 .rw[e];exact I.free
 .obtain⟨_,o,ho,_⟩:=I.ok.funs.mem hb;exact I.base.free b o ho (I.ok.frf b hb) fun z=>I.ok.exfs b z hb
theorem Inv.step{g':Array GenState}{t':Nat}{d':Drawn}{ch:List Addr}(I:Inv X pins σ H s)
  (hch:∀b∈ch,(b∈X.ex\/X.s₀.heap.objs.size<=b)/\b≠X.env.locals/\(∀x c,X.env.cells.lookup x=some c->c≠b)/\∀p∈X.pn++pins,p.1≠b)
  (keep:∀b o,b≠X.env.locals->b∉X.fs->b∉ch->s.heap.get? b=some o->H b=none->h'.get? b=some o)
  (slot:∀b o,b≠X.env.locals->b∈X.fs->b∉ch->s.heap.get? b=some o->H b=none->∃sl,h'.get? b=some { o with slots:=sl }) (free:∀b o,b∉ch->s.heap.get? b=some o->H b=none->H' b=none)
  (there:∀b o,b∉ch->s.heap.get? b=some o->∃o',h'.get? b=some o')
  (tups:∀b xs,H b=some (.tup xs)->H' b=some (.tup xs)) (frzs:∀b o u,H b=some (.frz o u)->H' b=some (.frz o u)) (tbls:∀b ps,H b=some (.tbl ps)->∃more,H' b=some (.tbl (ps++more)))
  (ns:∀m,s.heap.Ns X.env.locals m->h'.Ns X.env.locals m) (hok:HOk X.prog X.w H' h') (hg:AllBare g') :
  Inv X pins σ H' { s with heap:=h',gens:=g',drawn:=d',toks:=t' }:=by
 have neL:∀b o,X.s₀.heap.get? b=some o->b≠X.env.locals:=fun b o e=>AY (AX (AF e) I.ok.above);have neC:∀b o,X.s₀.heap.get? b=some o->b∉X.ex->b∉ch:=fun b o e hx hb=>by
  rcases(hch b hb).1 with z | z
  .exact hx z
  .exact absurd (AX (AF e) z) (CD _)
 have cellK:∀x c,X.env.cells.lookup x=some c->∀v,s.heap.IsCell c v->h'.IsCell c v:=fun x c e v ⟨o,ho,hd⟩=>by
  have nch:c∉ch:=fun z=>(hch c z).2.2.1 x c e rfl;by_cases hc:c∈X.fs
  .obtain⟨sl,q⟩:=slot c o (I.cne x c e) hc nch ho (I.freeC x c e);exact⟨_,q,hd⟩
  .exact⟨o,keep c o (I.cne x c e) hc nch ho (I.freeC x c e),hd⟩
 refine⟨I.ok,I.os,hg,⟨fun b o e n hb hx=>?_,fun b o e n hb hx=>?_,fun b o e n hx=>?_,fun b o e hx=>?_,fun b xs e=>tups b xs (I.base.tups b xs e),fun b o xs e=>frzs b o xs (I.base.frzs b o xs e),fun b ps e=>?_⟩,?_,fun x c e=>?_,?_,fun x c e=>?_,fun p hp=>?_,hok,I.len⟩
 .exact keep b o (neL b o e) hb (neC b o e hx) (I.base.keep b o e n hb hx) (I.base.free b o e n hx)
 .obtain⟨sl,e1⟩:=I.base.slot b o e n hb hx;obtain⟨sl',e2⟩:=slot b _ (neL b o e) hb (neC b o e hx) e1 (I.base.free b o e n hx);exact⟨sl',e2⟩
 .obtain⟨o',e1⟩:=I.base.there b o e hx;exact free b o' (neC b o e hx) e1 (I.base.free b o e n hx)
 .obtain⟨o',e1⟩:=I.base.there b o e hx;exact there b o' (neC b o e hx) e1
 .obtain⟨m1,e1⟩:=I.base.tbls b ps e;obtain⟨m2,e2⟩:=tbls b _ e1;exact⟨m1++m2,by rw[e2,Array.append_assoc]⟩
 .obtain⟨m,hn,hl⟩:=I.loc;refine⟨m,ns m hn,fun i x v e1 e2 e3=>?_⟩;obtain⟨u,r,l⟩:=hl i x v e1 e2 e3;refine⟨u,r,?_⟩;rcases l with l | ⟨k,c,e,z⟩
  .exact .inl l
  .exact .inr ⟨k,c,e,cellK x c e _ z⟩
 .obtain⟨v,z⟩:=I.cell x c e;exact⟨v,cellK x c e v z⟩
 .obtain⟨m,⟨o,_,_,ho,_⟩,_⟩:=I.loc;exact free _ o (fun z=>(hch _ z).2.1 rfl) ho I.free
 .obtain⟨v,o,ho,hd⟩:=I.cell x c e;exact free c o (fun z=>(hch c z).2.2.1 x c e rfl) ho (I.freeC x c e)
 .obtain⟨e,n,ne,nf,d⟩:=I.pin p hp;have nch:p.1∉ch:=fun z=>(hch p.1 z).2.2.2 p hp rfl;exact⟨keep p.1 p.2 ne nf nch e n,free p.1 p.2 nch e n,ne,nf,d⟩
theorem Inv.un{t':Nat}(I:Inv X pins σ H s)(u:Un X.fs [] H H' s.heap h')(hok:HOk X.prog X.w H' h'):Inv X pins σ H' { s with heap:=h',toks:=t' }:=by
 obtain⟨m,⟨o,es,ep,ho,r⟩,_⟩:=id I.loc;obtain⟨sl,hL⟩:=u.any ho I.free (by simp);exact I.step (g':=s.gens) (d':=s.drawn) (ch:=[]) (fun _ z=>nomatch z) (fun b o _ hb _ e n=>u.keep b o e n hb (by simp)) (fun b o _ hb _ e n=>u.slot b o e n hb (by simp)) (fun b o _ e n=>u.free b o e n (by simp)) (fun b o _ e=>u.there b o e (by simp)) u.tups u.frzs u.tbls (fun m' hm=>by
  obtain⟨o',es',ep',ho',r'⟩:=hm;rw[ho]at ho';cases ho';exact⟨_,es',ep',hL,r'⟩) hok I.bare
theorem Inv.call{g':Array GenState}{t':Nat}{d':Drawn}{ch:List Addr}(I:Inv X pins σ H s)(u:Un (frs X.stack) ch H H' s.heap h')(hok:HOk X.prog X.w H' h')(hg:AllBare g')
  (hch:∀b∈ch,(b∈X.ex\/X.s₀.heap.objs.size<=b)/\b≠X.env.locals/\(∀x c,X.env.cells.lookup x=some c->c≠b)/\∀p∈X.pn++pins,p.1≠b) :
  Inv X pins σ H' { s with heap:=h',gens:=g',drawn:=d',toks:=t' }:=by
 obtain⟨m,⟨o,es,ep,ho,r⟩,_⟩:=id I.loc;obtain⟨sl,hL⟩:=u.any ho I.free fun z=>(hch _ z).2.1 rfl;exact I.step (ch:=ch) hch (fun b o hL hb hc e n=>u.keep b o e n (fun z=>(AS.mp (I.stkSub b z)).elim hL hb) hc) (fun b o _ _ hc e n=>u.any e n hc) (fun b o hc e n=>u.free b o e n hc) (fun b o hc e=>u.there b o e hc) u.tups u.frzs u.tbls (fun m' hm=>by
  obtain⟨o',es',ep',ho',r'⟩:=hm;rw[ho]at ho';cases ho';exact⟨_,es',ep',hL,r'⟩) hok hg
theorem Inv.turned{t':Nat}{it:Addr}(I:Inv X pins σ H s)(k:∀b o,b≠it->s.heap.get? b=some o->h'.get? b=some o)(hn:H it=none)(hL:it≠X.env.locals)
  (h1:it∈X.ex\/X.s₀.heap.objs.size<=it) (h2:∀x c,X.env.cells.lookup x=some c->c≠it) (h3:∀p∈X.pn++pins,p.1≠it):Inv X pins σ H { s with heap:=h',toks:=t' }:=by
 have nit:∀b u,H b=some u->b≠it:=fun b u e z=>by rw[z,hn]at e;cases e
 refine I.step (g':=s.gens) (d':=s.drawn) (ch:=[it]) (fun b hb=>?_) (fun b o _ _ hc e _=>k b o (fun z=>hc (by simp[z])) e) (fun b o _ _ hc e _=>⟨o.slots,k b o (fun z=>hc (by simp[z])) e⟩) (fun _ _ _ _ n=>n)
  (fun b o hc e=>⟨o,k b o (fun z=>hc (by simp[z])) e⟩) (fun _ _ e=>e) (fun _ _ _ e=>e) (fun b ps e=>⟨#[],by rw[e];simp⟩) (fun m hm=>?_) (fun b u e=>?_) I.bare
 .have e:b=it:=by simpa using hb
  subst e;exact⟨h1,hL,h2,h3⟩
 .obtain⟨o,es,ep,ho,r⟩:=hm;exact⟨o,es,ep,k _ o (Ne.symm hL) ho,r⟩
 .refine(I.hok b u e).stay (fun c v hc q=>k c v ?_ q) (fun _ q=>q) fun _ _ q=>q;rcases hc with z | z
  .rw[z];exact nit b u e
  .exact nit c _ z
theorem Inv.tok(I:Inv X pins σ H s)(t:Nat):Inv X pins σ H { s with toks:=t }:=I.un (h':=s.heap) (t':=t) Un.refl I.hok
theorem Inv.kept{t':Nat}(I:Inv X pins σ H s)(k:∀b u,s.heap.get? b=some u->h'.get? b=some u):Inv X pins σ H { s with heap:=h',toks:=t' }:=I.un (Un.kept k) (I.hok.kept k)
theorem Inv.laid{a:Addr}{o:HO}{t':Nat}(I:Inv X pins σ H s)(k:∀b u,s.heap.get? b=some u->h'.get? b=some u)(hp:s.heap.objs.size<=a)(new:ObjOk X.prog X.w (upd H a o) h' a o) :
  Inv X pins σ (upd H a o) { s with heap:=h',toks:=t' }:=I.un (Un.laid k hp (I.hok.fresh hp)) (I.hok.laid k hp new)
theorem Inv.write{x e:Addr}{o:HO}{t':Nat}(I:Inv X pins σ H s)(mu:Mut (H x))(he:e=x\/H e=some (.own x))(k:∀b u,b≠e->s.heap.get? b=some u->h'.get? b=some u)(heo:∃u,h'.get? e=some u)
  (new:ObjOk X.prog X.w (upd H x o) h' x o):Inv X pins σ (upd H x o) { s with heap:=h',toks:=t' }:=I.un (Un.write mu he k heo) (I.hok.write mu he k heo new)
theorem Inv.pins_of{pins':List (Addr×Obj)}(I:Inv X pins σ H s)(h:∀p∈pins',s.heap.get? p.1=some p.2/\H p.1=none/\p.1≠X.env.locals/\p.1∉X.fs/\∀v,p.2.data≠ .cell v):Inv X pins' σ H s :=
 ⟨I.ok,I.os,I.bare,I.base,I.loc,I.cell,I.free,I.freeC,fun p hp=>(AK.mp hp).elim (fun z=>I.pin p (BN _ z)) (h p),I.hok,I.len⟩
theorem Az{N:List Str}(hN:N.Nodup){i j:Nat}{x:Str}(a:N[i]?=some x)(b:N[j]?=some x):i=j:=by
 obtain⟨h1,e1⟩:=AM.mp a;obtain⟨h2,e2⟩:=AM.mp b;exact(List.getElem_inj hN).mp (e1.trans e2.symm)
theorem g8{M:Model}{A:Around}{E:Value->Shared->Prop}{i:Nat}{x:Str}{v:V}{u:Value}{Q:Unit->Shared->Prop}(I:Inv X pins σ H s)(hN:X.N.Nodup)(hi:X.N[i]?=some x)(hx:Loc X.env.scope x)(r:RelV v u)
  (h:∀s',Inv X pins (σ.set i (some v)) H s'->(∃a,Heap.SameBut a s.heap s'.heap/\(a=X.env.locals\/X.env.cells.lookup x=some a))->Q () s') (hf:X.fn x=true\/X.env.scope.names.lookup x=some .local:=by first | exact .inl rfl | exact .inr rfl | assumption):wpAny M A (storeName X.env x u) Q E s:=by
 obtain⟨m,hn,hl⟩:=id I.loc;have hcls:(X.env.scope.kind == .class||(X.env.scope.kind == .module&&X.env.locals != X.env.globals))=false:=by rw[I.ok.kind];rfl
 have hiσ:i<σ.length:=by rw[I.len];exact(AM.mp hi).1
 have cne:=I.cne;have tracked:∀{a:Addr} {h':Heap},(∃o,s.heap.get? a=some o/\H a=none)->Heap.SameBut a s.heap h'->HOk X.prog X.w H h':=fun{a h'} ha hs b ob e=>by
  obtain⟨_,_,hfree⟩:=ha;refine(I.hok b ob e).stay (fun c w' hc q=>(hs.2 c ?_).trans q) (fun _ q=>q) fun _ _ q=>q;rintro rfl;rcases hc with rfl | hc
  .rw[hfree]at e;cases e
  .rw[hfree]at hc;cases hc
 rcases hx with hk | hk
 .refine wpAny_storeName_local hk hn (fun h' hn' hs=>?_) hcls;obtain⟨oL,_,_,hoL,_⟩:=id hn;refine h _ ⟨I.ok,I.os,I.bare,⟨fun b o e n hb hx=>?_,fun b o e n hb hx=>?_,I.base.free,fun b o e hx=>?_,I.base.tups,I.base.frzs,I.base.tbls⟩,⟨_,hn',fun j y v' e1 e2 e3=>?_⟩,fun y c e=>?_,I.free,I.freeC,fun p hp=>?_,tracked ⟨oL,hoL,I.free⟩ hs,by simpa using I.len⟩ ⟨_,hs,.inl rfl⟩
  .exact(hs.2 b (AY (AX (AF e) I.ok.above))).trans (I.base.keep b o e n hb hx)
  .obtain⟨sl,e1⟩:=I.base.slot b o e n hb hx;exact⟨sl,(hs.2 b (AY (AX (AF e) I.ok.above))).trans e1⟩
  .obtain⟨o',e1⟩:=I.base.there b o e hx;exact⟨o',(hs.2 b (AY (AX (AF e) I.ok.above))).trans e1⟩
  .by_cases hj:j=i
   .subst hj;rw[hi]at e1;cases e1;rw[List.getElem?_set_self hiσ]at e2;cases e2;exact⟨u,r,.inl ⟨hk,by simp⟩⟩
   .rw[List.getElem?_set_ne (Ne.symm hj)]at e2;obtain⟨u',r',q⟩:=hl j y v' e1 e2 e3;refine⟨u',r',?_⟩;rcases q with⟨k,e⟩ | ⟨k,c,e,z⟩
    .refine .inl ⟨k,?_⟩;have:y≠x:=fun e=>hj (Az hN e1 (e▸hi));simp[this,e]
    .exact .inr ⟨k,c,e,z.sameBut hs (cne y c e)⟩
  .obtain⟨w',z⟩:=I.cell y c e;exact⟨w',z.sameBut hs (cne y c e)⟩
  .obtain⟨e,n,ne,nf,d⟩:=I.pin p hp;exact⟨(hs.2 p.1 ne).trans e,n,ne,nf,d⟩
 .have hfn:X.fn x=true:=by
   rcases hf with z | z
   .exact z
   .rw[z]at hk;cases hk
  obtain⟨c,hc⟩:=I.ok.has x (.inl hk);obtain⟨w',z⟩:=I.cell x c hc;refine wpAny_storeName_cell I.ok.kind hk hc z (fun h' hc' hs=>?_);obtain⟨oc,hoc,hocd⟩:=id z;refine h { s with heap:=h' } ⟨I.ok,I.os,I.bare,⟨fun b o e n hb hx=>?_,fun b o e n hb hx=>?_,I.base.free,fun b o e hx=>?_,I.base.tups,I.base.frzs,I.base.tbls⟩,⟨m,hn.sameBut hs (Ne.symm (cne x c hc)),fun j y v' e1 e2 e3=>?_⟩,fun y c' e=>?_,I.free,I.freeC,fun p hp=>?_,tracked ⟨oc,hoc,I.freeC x c hc⟩ hs,by simpa using I.len⟩ ⟨c,hs,.inr hc⟩
  .exact(hs.2 b (AY (AX (AF e) (I.ok.cab x c hfn hc)))).trans (I.base.keep b o e n hb hx)
  .obtain⟨sl,e1⟩:=I.base.slot b o e n hb hx;exact⟨sl,(hs.2 b (AY (AX (AF e) (I.ok.cab x c hfn hc)))).trans e1⟩
  .obtain⟨o',e1⟩:=I.base.there b o e hx;exact⟨o',(hs.2 b (AY (AX (AF e) (I.ok.cab x c hfn hc)))).trans e1⟩
  .by_cases hj:j=i
   .subst hj;rw[hi]at e1;cases e1;rw[List.getElem?_set_self hiσ]at e2;cases e2;exact⟨u,r,.inr ⟨.inl hk,c,hc,hc'⟩⟩
   .rw[List.getElem?_set_ne (Ne.symm hj)]at e2;obtain⟨u',r',q⟩:=hl j y v' e1 e2 e3;refine⟨u',r',?_⟩;rcases q with q | ⟨k,c',e,z'⟩
    .exact .inl q
    .refine .inr ⟨k,c',e,z'.sameBut hs ?_⟩;rintro rfl;exact hj (Az hN e1 (I.ok.inj _ _ _ e hc▸hi))
  .by_cases hcc:c'=c
   .subst hcc;exact⟨_,hc'⟩
   .obtain⟨w2,z2⟩:=I.cell y c' e;exact⟨w2,z2.sameBut hs hcc⟩
  .obtain⟨e,n,ne,nf,d⟩:=I.pin p hp;refine⟨(hs.2 p.1 ?_).trans e,n,ne,nf,d⟩;intro q;rw[q,hoc]at e;have q':oc=p.2:=BV e;exact d w' (by rw[<-q'];exact hocd)
theorem b8{M:Model}{A:Around}{E:Value->Shared->Prop}{i:Nat}{x:Str}{v:V}{u:Value}{Q:Unit->Shared->Prop}(I:Inv X pins σ H s)(hN:X.N.Nodup)(hi:X.N[i]?=some x)(hx:Loc X.env.scope x)(r:RelV v u)
  (h:∀s',Inv X pins (σ.set i (some v)) H s'->Q () s') (hf:X.fn x=true\/X.env.scope.names.lookup x=some .local:=by first | exact .inl rfl | exact .inr rfl | assumption):wpAny M A (storeName X.env x u) Q E s :=
 g8 I hN hi hx r (fun s' I' _=>h s' I') hf
theorem Inv.call'{s':Shared}{ch:List Addr}(I:Inv X pins σ H s)(ho:s'.os=s.os)(u:Un (frs X.stack) ch H H' s.heap s'.heap)(hok:HOk X.prog X.w H' s'.heap)(hg:AllBare s'.gens)
  (hch:∀b∈ch,(b∈X.ex\/X.s₀.heap.objs.size<=b)/\b≠X.env.locals/\(∀x c,X.env.cells.lookup x=some c->c≠b)/\∀p∈X.pn++pins,p.1≠b):Inv X pins σ H' s':=by
 obtain⟨h',g',d',t',o'⟩:=s';have e:o'=s.os:=ho;subst e;exact I.call (g':=g') (t':=t') (d':=d') u hok hg hch
end
abbrev XK:=Value->Option Addr->Hp->Prop
abbrev St:=List (Option V)
abbrev VK:=V->Hp->Prop
abbrev TE:=St->Hp->VK->Prop
abbrev TT:=St->Hp->(Bool->Hp->Prop)->Prop
abbrev TA:=St->Hp->(List V->Hp->Prop)->Prop
structure Ends where
 nx:St->Hp->Prop
 rt:VK
 bk:St->Hp->Prop:=fun _ _=>False
 ct:St->Hp->Prop:=fun _ _=>False
abbrev TS:=Ends->St->Hp->Prop
def EP(X:Cx)(pins:List (Addr×Obj))(σ:St)(Q:VK)(u:Value)(s':Shared):Prop:=∃v H',Inv X pins σ H' s'/\RelV v u/\Q v H'
def TP(X:Cx)(pins:List (Addr×Obj))(σ:St)(Q:Bool->Hp->Prop)(b:Bool)(s':Shared):Prop:=∃H',Inv X pins σ H' s'/\Q b H'
def AP(X:Cx)(pins:List (Addr×Obj))(σ:St)(Q:List V->Hp->Prop)(us:List Value)(s':Shared):Prop:=∃vs H',Inv X pins σ H' s'/\Vals vs us/\Q vs H'
def SP(X:Cx)(pins:List (Addr×Obj))(D:Ends)(f:Flow)(s':Shared):Prop :=
 match f with
 | .next=>∃σ' H',Inv X pins σ' H' s'/\D.nx σ' H'
 | .brk=>∃σ' H',Inv X pins σ' H' s'/\D.bk σ' H'
 | .cont=>∃σ' H',Inv X pins σ' H' s'/\D.ct σ' H'
 | .ret u=>∃v σ' H',Inv X pins σ' H' s'/\RelV v u/\D.rt v H'
def PE(X:Cx)(e:Expr)(t:TE):Prop :=
 ∀(pins:List (Addr×Obj)) (s:Shared) (σ:St) (H:Hp) (Q:VK),Inv X pins σ H s->t σ H Q->wpAny (model X.prog X.w) X.A (eval e X.env) (EP X pins σ Q) X.xe s
def PT(X:Cx)(e:Expr)(t:TT):Prop :=
 ∀(pins:List (Addr×Obj)) (s:Shared) (σ:St) (H:Hp) (Q:Bool->Hp->Prop),Inv X pins σ H s->t σ H Q->wpAny (model X.prog X.w) X.A (isTrue e X.env (eval e X.env)) (TP X pins σ Q) X.xe s
def PW(X:Cx)(e:Expr)(t:TT):Prop :=
 ∀(whole:Sem Value) (pins:List (Addr×Obj)) (s:Shared) (σ:St) (H:Hp) (Q:Bool->Hp->Prop),Inv X pins σ H s->t σ H Q->wpAny (model X.prog X.w) X.A (isTrue e X.env whole) (TP X pins σ Q) X.xe s
theorem PW.pt{X:Cx}{e:Expr}{t:TT}(h:PW X e t):PT X e t:=h _
def PA(X:Cx)(es:List Expr)(t:TA):Prop :=
 ∀(pos:Pos) (pins:List (Addr×Obj)) (s:Shared) (σ:St) (H:Hp) (Q:List V->Hp->Prop),Inv X pins σ H s->t σ H Q->wpAny (model X.prog X.w) X.A (spliced (backTo pos (starEach es X.env))) (AP X pins σ Q) X.xe s
def PS(X:Cx)(st:Stmt)(t:TS):Prop :=
 ∀(pins:List (Addr×Obj)) (s:Shared) (σ:St) (H:Hp) (D:Ends),Inv X pins σ H s->t D σ H->wpAny (model X.prog X.w) X.A (exec st X.env) (SP X pins D) X.xe s
def PSs(X:Cx)(st:List Stmt)(t:TS):Prop :=
 ∀(pins:List (Addr×Obj)) (s:Shared) (σ:St) (H:Hp) (D:Ends),Inv X pins σ H s->t D σ H->wpAny (model X.prog X.w) X.A (execs st X.env) (SP X pins D) X.xe s
theorem thn{α:Type}{t:Sem α}{Q Q':α->Shared->Prop}{M:Model}{A:Around}{E:Value->Shared->Prop}{s:Shared}(h:wpAny M A t Q E s)(hQ:∀a s,Q a s->Q' a s):wpAny M A t Q' E s:=BR h hQ fun _ _ x=>x
section
variable{X:Cx}
def Vo(i:Nat):TE:=fun σ H Q=>∃v,σ[i]?=some (some v)/\Q v H
def tC(v:V):TE:=fun _ H Q=>Q v H
theorem Jw{i:Nat}{x:Str}{pos:Pos}(hN:X.N[i]?=some x)(hv:Vis X.env.scope x)(hd:(x ==("__debug__":Str))=false:=by decide)(hcd:(x ==("__classdict__":Str))=false:=by decide):PE X (.Name x pos) (Vo i):=by
 intro pins s σ H Q I h;obtain⟨v,e,h⟩:=h;obtain⟨m,hn,hl⟩:=I.loc;obtain⟨u,r,l⟩:=hl i x v hN e hv;have fin:EP X pins σ Q u s:=⟨v,H,I,r,h⟩;rcases l with⟨hk,hm⟩ | ⟨hk,c,hc,hcell⟩
 .exact wpAny_Name (wpAny_loadName_local I.ok.kind hk hn hm fin) hd
 .rcases hk with hk | hk
  .exact wpAny_Name (wpAny_loadName_cell I.ok.kind hk hc hcell fin) hd
  .exact wpAny_Name (wpAny_loadName_free I.ok.kind hk hc hcell fin hcd) hd
theorem B0{i j pos}:PE X (.Constant (.int i) j pos) (tC (.int i)):=fun _ _ _ H _ I h=>wpAny_Constant_int ⟨.int i,H,I.tok _,⟨_,rfl⟩,h⟩
theorem u9{b j pos}:PE X (.Constant (.bool b) j pos) (tC (.bl b)):=fun _ _ _ H _ I h=>Constant_bool ⟨.bl b,H,I,rfl,h⟩
theorem Q4{j pos}:PE X (.Constant .none j pos) (tC .non):=fun _ _ _ H _ I h=>Constant_none ⟨.non,H,I,rfl,h⟩
theorem D4{x j pos}:PE X (.Constant (.str x) j pos) (tC (.str x)):=fun _ _ _ H _ I h=>Calls.Constant_str ⟨.str x,H,I.tok _,⟨_,rfl⟩,h⟩
def Gl(X:Cx)(x:Str):Prop:=X.env.kindOf x=some .globalImplicit
theorem X0{E:Value->Shared->Prop}{pins:List (Addr×Obj)}{s:Shared}{σ:St}{H:Hp}{x:Str}{u:Value}{pos:Pos}{Q:Value->Shared->Prop}(I:Inv X pins σ H s)(hg:Gl X x)(hm:X.mg x=some u)(h:Q u s)
  (hd:(x ==("__debug__":Str))=false:=by decide):wpAny (model X.prog X.w) X.A (eval (.Name x pos) X.env) Q E s :=
 Calls.Name_function_global I.ok.kind hg (Calls.loadGlobal_global (by rw[I.ok.glob];exact I.mod.glob.keeps I.bk) hm h) hd
theorem Ag{E:Value->Shared->Prop}{pins:List (Addr×Obj)}{s:Shared}{σ:St}{H:Hp}{x:Str}{u:Value}{pos:Pos}{Q:Value->Shared->Prop}(I:Inv X pins σ H s)(hg:Gl X x)(hm:X.mg x=none)(hv:bootBuiltins x=some u)(h:Q u s)
  (hn:x≠ "__name__":=by decide) (hd:(x ==("__debug__":Str))=false:=by decide):wpAny (model X.prog X.w) X.A (eval (.Name x pos) X.env) Q E s:=by
 obtain⟨mb,h1,h2⟩:=I.mod.blt;exact Calls.Name_function_global I.ok.kind hg (Calls.loadGlobal_builtin (by rw[I.ok.glob];exact I.mod.glob.keeps I.bk) hm (by rw[I.ok.blt];exact h1.keeps I.bk) ((h2 x hn).trans hv) h) hd
theorem Ff{x:Str}{v:V}{u:Value}{pos:Pos}(hg:Gl X x)(hm:X.mg x=some u)(r:RelV v u)(hd:(x ==("__debug__":Str))=false:=by decide):PE X (.Name x pos) (tC v) :=
 fun _ _ _ H _ I h=>X0 I hg hm ⟨v,H,I,r,h⟩ hd
theorem Qs{x:Str}{v:V}{u:Value}{pos:Pos}(hg:Gl X x)(hm:X.mg x=none)(hv:bootBuiltins x=some u)(r:RelV v u)(hn:x≠ "__name__":=by decide)(hd:(x ==("__debug__":Str))=false:=by decide):PE X (.Name x pos) (tC v) :=
 fun _ _ _ H _ I h=>Ag I hg hm hv ⟨v,H,I,r,h⟩ hn hd
variable{a b:Expr}{ta tb:TE}{pos:Pos}
def tB(t:TE):TT:=fun σ H Q=>t σ H fun x H1=>∃c,x = .bl c/\Q c H1
theorem F7{e:Expr}{t:TE}(h:PE X e t)(he:∀whole,isTrue e X.env whole =(do let v <-whole;standAt e.pos;holding [v] (truthy v)):=by intro _;rfl):PT X e (tB t):=by
 intro pins s σ H Q I hw;refine isTrue_plain (thn (h pins s σ H _ I hw) fun v s1 ⟨x,H1,I1,r1,q1⟩=>?_) (he _);obtain⟨d,rfl,q⟩:=q1;cases r1;exact CO ⟨H1,I1,q⟩
variable{tA tB':TT}{rest:List Expr}
def Xk(t u:TT):TT:=fun σ H Q=>t σ H fun c H1=>if c=true then u σ H1 Q else Q false H1
def tOr(t u:TT):TT:=fun σ H Q=>t σ H fun c H1=>if c=true then Q true H1 else u σ H1 Q
def Xs(t:TT):TT:=fun σ H Q=>t σ H fun c H1=>Q (!c) H1
theorem Me(ha:PT X a tA):PW X (.BoolOp .And [a] pos) tA:=by
 intro wh pins s σ H Q I h;refine isTrue_and (thn (ha pins s σ H Q I h) fun c s1 e=>?_);cases c with
 | true=>exact isTrue_and_nil e
 | false=>exact e
theorem Y1(ha:PT X a tA):PW X (.BoolOp .Or [a] pos) tA:=by
 intro wh pins s σ H Q I h;refine isTrue_or (thn (ha pins s σ H Q I h) fun c s1 e=>?_);cases c with
 | false=>exact isTrue_or_nil e
 | true=>exact e
theorem Ov(ha:PT X a tA)(hb:PW X (.BoolOp .And (b::rest) pos) tB'):PW X (.BoolOp .And (a::b::rest) pos) (Xk tA tB'):=by
 intro wh pins s σ H Q I h;refine isTrue_and (thn (ha pins s σ H _ I h) fun c s1 ⟨H1,I1,q1⟩=>?_);cases c with
 | true=>exact hb wh pins s1 σ H1 Q I1 q1
 | false=>exact⟨H1,I1,q1⟩
theorem x6(ha:PT X a tA)(hb:PW X (.BoolOp .Or (b::rest) pos) tB'):PW X (.BoolOp .Or (a::b::rest) pos) (tOr tA tB'):=by
 intro wh pins s σ H Q I h;refine isTrue_or (thn (ha pins s σ H _ I h) fun c s1 ⟨H1,I1,q1⟩=>?_);cases c with
 | true=>exact⟨H1,I1,q1⟩
 | false=>exact hb wh pins s1 σ H1 Q I1 q1
theorem K1(ha:PT X a tA):PT X (.UnaryOp .Not a pos) (Xs tA):=by
 intro pins s σ H Q I h;exact isTrue_not (ha pins s σ H (fun c H1=>Q (!c) H1) I h)
def Vv(ta tb:TE):TE:=fun σ H Q=>ta σ H fun x H1=>∃c,x = .bl c/\if c=true then tb σ H1 Q else Q (.bl false) H1
def Ya(ta tb:TE):TE:=fun σ H Q=>ta σ H fun x H1=>∃c,x = .bl c/\if c=true then Q (.bl true) H1 else tb σ H1 Q
def Vr(ta:TE):TE:=fun σ H Q=>ta σ H fun x H1=>∃c,x = .bl c/\Q (.bl (!c)) H1
theorem K3{op}{t:TE}(h:PE X a t):PE X (.BoolOp op [a] pos) t:=fun pins s σ H Q I hw=>BoolOp_one (h pins s σ H Q I hw)
theorem G8(ha:PE X a ta)(hb:PE X (.BoolOp .And (b::rest) pos) tb):PE X (.BoolOp .And (a::b::rest) pos) (Vv ta tb):=by
 intro pins s σ H Q I h;refine BoolOp_and (thn (ha pins s σ H _ I h) fun v s1 ⟨x,H1,I1,r1,q1⟩=>?_);obtain⟨c,rfl,q1⟩:=q1;cases r1;refine CO ?_;cases c with
 | true=>exact hb pins s1 σ H1 Q I1 q1
 | false=>exact⟨.bl false,H1,I1,rfl,q1⟩
theorem Vu(ha:PE X a ta)(hb:PE X (.BoolOp .Or (b::rest) pos) tb):PE X (.BoolOp .Or (a::b::rest) pos) (Ya ta tb):=by
 intro pins s σ H Q I h;refine BoolOp_or (thn (ha pins s σ H _ I h) fun v s1 ⟨x,H1,I1,r1,q1⟩=>?_);obtain⟨c,rfl,q1⟩:=q1;cases r1;refine CO ?_;cases c with
 | false=>exact hb pins s1 σ H1 Q I1 q1
 | true=>exact⟨.bl true,H1,I1,rfl,q1⟩
theorem Pg(ha:PE X a ta):PE X (.UnaryOp .Not a pos) (Vr ta):=by
 intro pins s σ H Q I h;refine UnaryOp_ (thn (ha pins s σ H _ I h) fun v s1 ⟨x,H1,I1,r1,q1⟩=>?_);obtain⟨c,rfl,q1⟩:=q1;cases r1;exact not_of (CO ⟨.bl (!c),H1,I1,rfl,q1⟩)
def tIf(t:TT)(ta tb:TE):TE:=fun σ H Q=>t σ H fun c H1=>if c=true then ta σ H1 Q else tb σ H1 Q
theorem Nx{c:Expr}(hc:PT X c tA)(ha:PE X a ta)(hb:PE X b tb):PE X (.IfExp c a b pos) (tIf tA ta tb):=by
 intro pins s σ H Q I h;refine wpAny_IfExp (thn (hc pins s σ H _ I h) fun d s1 ⟨H1,I1,q1⟩=>?_);cases d with
 | true=>exact ha pins s1 σ H1 Q I1 q1
 | false=>exact hb pins s1 σ H1 Q I1 q1
end
def SqL(K:PySem.W.Frag)(H:Hp)(a:Addr)(xs:List V):Prop :=
 Rd H a (.lst xs) \/
  ∃(o:Obj) (its:Array Value) (n:Nat),K.lookup a=some o/\o.cls = .type "list"/\o.dict=none/\o.data = .seq its n/\its.size<=sizeLine/\Vals xs its.toList
def SqT(K:PySem.W.Frag)(H:Hp)(a:Addr)(xs:List V):Prop :=
 Rd H a (.tup xs) \/
  ∃(o:Obj) (its:Array Value) (n:Nat),K.lookup a=some o/\o.cls = .type "tuple"/\o.data = .seq its n/\its.size<=sizeLine/\Vals xs its.toList
def Xq:Value->Option V
 | .none=>some .non
 | .bool b=>some (.bl b)
 | .int i _=>some (.int i)
 | .str x _=>some (.str x)
 | .bytes b _=>some (.byt b)
 | .float b _=>some (.flt b)
 | .ref a=>some (.ref a)
 | .type n=>some (.ty n)
 | _=>none
theorem RelV.abs{x:V}{u:Value}(r:RelV x u):Xq u=some x:=by
 cases x with
 | non=>cases r;rfl
 | bl _=>cases r;rfl
 | int _=>obtain⟨t,rfl⟩:=r;rfl
 | str _=>obtain⟨t,rfl⟩:=r;rfl
 | byt _=>obtain⟨t,rfl⟩:=r;rfl
 | flt _=>obtain⟨t,rfl⟩:=r;rfl
 | ref _=>cases r;rfl
 | ty _=>cases r;rfl
theorem RelV.inj{x y:V}{u:Value}(r:RelV x u)(q:RelV y u):x=y:=BV (r.abs.symm.trans q.abs)
theorem Vals.inj:∀{xs ys:List V} {us:List Value},Vals xs us->Vals ys us->xs=ys
 | _,_,_,.nil,.nil=>rfl
 | _,_,_,.cons r t,.cons r' t'=>by rw[r.inj r',Vals.inj t t']
section
variable{X:Cx}{pins:List (Addr×Obj)}{σ:St}{H:Hp}{s:Shared}{a:Addr}{xs ys:List V}
theorem SqL.of{K:PySem.W.Frag}(h:H a=some (.lst xs)):SqL K H a xs:=.inl (.inl h)
theorem SqT.of{K:PySem.W.Frag}(h:H a=some (.tup xs)):SqT K H a xs:=.inl (.inl h)
theorem Inv.list(I:Inv X pins σ H s)(h:SqL X.K H a xs):∃its:List Value,Vals xs its/\PlainL s.heap a its.toArray/\xs.length<=sizeLine:=by
 rcases h with h | ⟨o,its,n,hk,hc,hd,hs,hz,r⟩
 .obtain⟨z,its,n,r,e⟩:=h.ok I.hok;exact⟨its,r,⟨_,n,e,rfl,rfl,rfl⟩,z⟩
 .refine⟨its.toList,r,⟨o,n,I.kIn a o hk,hc,hd,by simpa using hs⟩,?_⟩;have e:=r.length;simp only[AV]at e;omega
theorem Inv.tuple(I:Inv X pins σ H s)(h:SqT X.K H a xs):∃its:List Value,Vals xs its/\IsTup s.heap a its.toArray/\xs.length<=sizeLine:=by
 rcases h with h | ⟨o,its,n,hk,hc,hs,hz,r⟩
 .obtain⟨z,its,r,p⟩:=h.ok I.hok;exact⟨its,r,p,z⟩
 .refine⟨its.toList,r,⟨o,I.kIn a o hk,hc,n,by simpa using hs⟩,?_⟩;have e:=r.length;simp only[AV]at e;omega
theorem Inv.list_inj(I:Inv X pins σ H s)(h:SqL X.K H a xs)(h':SqL X.K H a ys):xs=ys:=by
 obtain⟨its,r,⟨o,n,e,_,_,d⟩,_⟩:=I.list h;obtain⟨its',r',⟨o',n',e',_,_,d'⟩,_⟩:=I.list h';rw[e]at e';cases e';rw[d]at d';injection d' with d1 _;have:its=its':=by simpa using congrArg Array.toList d1
 subst this;exact r.inj r'
theorem Inv.tuple_inj(I:Inv X pins σ H s)(h:SqT X.K H a xs)(h':SqT X.K H a ys):xs=ys:=by
 obtain⟨its,r,⟨o,e,_,n,d⟩,_⟩:=I.tuple h;obtain⟨its',r',⟨o',e',_,n',d'⟩,_⟩:=I.tuple h';rw[e]at e';cases e';rw[d]at d';injection d' with d1 _;have:its=its':=by simpa using congrArg Array.toList d1
 subst this;exact r.inj r'
end
abbrev Cx.wish(X:Cx)(E:Value->Shared->Prop):Cx:={ X with xe:=E }
abbrev Cx.nox(X:Cx):Cx:=X.wish fun _ _=>False
theorem Cx.Ok.wish{X:Cx}(ok:X.Ok)(E:Value->Shared->Prop):(X.wish E).Ok :=
 ⟨ok.mod,ok.kind,ok.glob,ok.blt,ok.above,ok.inj,ok.has,ok.cab,ok.hd,ok.frames,ok.stk,ok.exf,ok.bs,ok.bsz,ok.noex,ok.exfs,ok.funs,ok.frf⟩
theorem Cx.Ok.unwish{X:Cx}{E:Value->Shared->Prop}(ok:(X.wish E).Ok):X.Ok :=
 ⟨ok.mod,ok.kind,ok.glob,ok.blt,ok.above,ok.inj,ok.has,ok.cab,ok.hd,ok.frames,ok.stk,ok.exf,ok.bs,ok.bsz,ok.noex,ok.exfs,ok.funs,ok.frf⟩
section
variable{X:Cx}{pins:List (Addr×Obj)}{σ:St}{H:Hp}{s:Shared}{E:Value->Shared->Prop}
theorem Inv.wish(I:Inv X pins σ H s)(E:Value->Shared->Prop):Inv (X.wish E) pins σ H s:=⟨I.ok.wish E,I.os,I.bare,I.base,I.loc,I.cell,I.free,I.freeC,I.pin,I.hok,I.len⟩
theorem Inv.unwish(I:Inv (X.wish E) pins σ H s):Inv X pins σ H s:=⟨I.ok.unwish,I.os,I.bare,I.base,I.loc,I.cell,I.free,I.freeC,I.pin,I.hok,I.len⟩
theorem SP.unwish{D:Ends}{f:Flow}{s':Shared}(h:SP (X.wish E) pins D f s'):SP X pins D f s':=by
 cases f with
 | next=>obtain⟨σ',H',I,q⟩:=h;exact⟨σ',H',I.unwish,q⟩
 | brk=>obtain⟨σ',H',I,q⟩:=h;exact⟨σ',H',I.unwish,q⟩
 | cont=>obtain⟨σ',H',I,q⟩:=h;exact⟨σ',H',I.unwish,q⟩
 | ret u=>obtain⟨v,σ',H',I,r,q⟩:=h;exact⟨v,σ',H',I.unwish,r,q⟩
theorem PSs.nox{st:List Stmt}{t:TS}(h:PSs X.nox st t):PSs X st t:=fun pins s σ H D I hw =>
 BR (h pins s σ H D (I.wish _) hw) (fun _ _ q=>q.unwish) fun _ _ z=>False.elim z
end
section
variable{X:Cx}{st:Stmt}{rest:List Stmt}{t u:TS}{e:Expr}{te:TE}{pos:Pos}
def Vs:TS:=fun D σ H=>D.nx σ H
def Vg(t u:TS):TS:=fun D σ H=>t { D with nx:=u D } σ H
theorem C5:PSs X [] Vs:=fun _ _ σ H _ I h=>EU ⟨σ,H,I,h⟩
theorem A9(h1:PS X st t)(h2:PSs X rest u):PSs X (st::rest) (Vg t u):=by
 intro pins s σ H D I h;refine wpAny_execs_cons (thn (h1 pins s σ H { D with nx:=u D } I h) fun f s1 q=>?_);cases f with
 | next =>
  obtain⟨σ',H',I',q⟩:=q;exact h2 pins s1 σ' H' D I' q
 | ret v=>exact q
 | brk=>exact q
 | cont=>exact q
theorem B3(h1:PS X st t):PSs X [st] t:=by
 intro pins s σ H D I h;refine wpAny_execs_cons (thn (h1 pins s σ H D I h) fun f s1 q=>?_);cases f with
 | next=>exact EU q
 | ret v=>exact q
 | brk=>exact q
 | cont=>exact q
theorem Inv.quiet{pins:List (Addr×Obj)}{σ:St}{H:Hp}{s:Shared}(I:Inv X pins σ H s):interactive X.env=false:=by simp[interactive,I.ok.kind]
def Wc(te:TE):TS:=fun D σ H=>te σ H fun _ H1=>D.nx σ H1
theorem I0(he:PE X e te)(hs:swapsWith e none pos.line X.env=pure false:=by rfl):PS X (.Expr e pos) (Wc te):=by
 intro pins s σ H D I h;exact wpAny_Expr_any (thn (he pins s σ H _ I h) fun v s1 ⟨x,H1,I1,r1,q1⟩=>⟨σ,H1,I1,q1⟩) I.quiet hs
def Xh(te:TE):TS:=fun D σ H=>te σ H D.rt
theorem C1(he:PE X e te):PS X (.Return (some e) pos) (Xh te):=by
 intro pins s σ H D I h;exact wpAny_Return_some (thn (he pins s σ H _ I h) fun v s1 ⟨x,H1,I1,r1,q1⟩=>⟨x,σ,H1,I1,r1,q1⟩)
def Yd(c:TT)(t u:TS):TS:=fun D σ H=>c σ H fun b H1=>if b=true then t D σ H1 else u D σ H1
theorem E5{c:Expr}{a b:List Stmt}{tc:TT}(hc:PT X c tc)(ha:PSs X a t)(hb:PSs X b u):PS X (.If c a b pos) (Yd tc t u):=by
 intro pins s σ H D I h;refine wpAny_If (thn (hc pins s σ H _ I h) fun d s1 ⟨H1,I1,q1⟩=>?_);cases d with
 | true=>exact ha pins s1 σ H1 D I1 q1
 | false=>exact hb pins s1 σ H1 D I1 q1
def Sj:TS:=fun _ _ _=>False
theorem Bm:PS X st Sj:=fun _ _ _ _ _ _ h=>h.elim
end
abbrev TG:=V->St->Hp->(St->Hp->Prop)->Prop
abbrev TGs:=List V->St->Hp->(St->Hp->Prop)->Prop
def PG(X:Cx)(target:Expr)(t:TG):Prop :=
 ∀(pins:List (Addr×Obj)) (s:Shared) (σ:St) (H:Hp) (v:V) (u:Value) (Q:St->Hp->Prop),Inv X pins σ H s->RelV v u->t v σ H Q ->
  wpAny (model X.prog X.w) X.A (assign target X.env u) (fun _ s'=>∃σ' H',Inv X pins σ' H' s'/\Q σ' H') X.xe s
def PGs(X:Cx)(ts:List Expr)(t:TGs):Prop :=
 ∀(pins:List (Addr×Obj)) (s:Shared) (σ:St) (H:Hp) (vs:List V) (us:List Value) (Q:St->Hp->Prop),Inv X pins σ H s->Vals vs us->t vs σ H Q ->
  wpAny (model X.prog X.w) X.A (assignInOrder ((assignEach ts X.env).map (·.2)) us) (fun _ s'=>∃σ' H',Inv X pins σ' H' s'/\Q σ' H') X.xe s
abbrev TSet:=V->V->V->Hp->(Hp->Prop)->Prop
def Wy(X:Cx)(t:TSet):Prop :=
 ∀(pins:List (Addr×Obj)) (s:Shared) (σ:St) (H:Hp) (o i v:V) (ov iv u:Value) (Q:Hp->Prop),Inv X pins σ H s->RelV o ov->RelV i iv->RelV v u->t o i v H Q ->
  wpAny (model X.prog X.w) X.A (setItem ov iv u) (fun _ s'=>∃H',Inv X pins σ H' s'/\Q H') X.xe s
section
variable{X:Cx}{pos:Pos}
def Z5(i:Nat):TG:=fun v σ H Q=>Q (σ.set i (some v)) H
theorem D8{i:Nat}{x:Str}(hN:X.N.Nodup)(hi:X.N[i]?=some x)(hx:Loc X.env.scope x)(hf:X.fn x=true\/X.env.scope.names.lookup x=some .local:=by first | exact .inl rfl | exact .inr rfl | assumption):PG X (.Name x pos) (Z5 i):=by
 intro pins s σ H v u Q I r h;exact wpAny_assign_Name (b8 I hN hi hx r (fun s' I'=>⟨_,H,I',h⟩) hf)
def Xr:TGs:=fun vs σ H Q=>vs = []/\Q σ H
def Vz(t:TG)(u:TGs):TGs:=fun vs σ H Q=>∃v r,vs=v::r/\t v σ H fun σ' H'=>u r σ' H' Q
theorem X7:PGs X [] Xr:=by
 intro pins s σ H vs us Q I r h;obtain⟨e,h⟩:=h;subst e;cases r;exact assignInOrder_nil ⟨σ,H,I,h⟩
theorem E1{e:Expr}{es:List Expr}{t:TG}{u:TGs}(h1:PG X e t)(h2:PGs X es u)
  (hs:(assignEach (e::es) X.env).map (·.2)=assign e X.env ::(assignEach es X.env).map (·.2):=by rfl):PGs X (e::es) (Vz t u):=by
 intro pins s σ H vs us Q I r h;obtain⟨v,vr,e1,h⟩:=h;subst e1;cases r with
 | cons r rr =>
  rw[hs];refine assignInOrder_cons (thn (h1 pins s σ H _ _ _ I r h) fun _ s1 ⟨σ1,H1,I1,q1⟩=>?_);exact h2 pins s1 σ1 H1 _ _ Q I1 rr q1
def Wp(K:PySem.W.Frag)(n:Nat)(t:TGs):TG:=fun v σ H Q=>∃a xs,v = .ref a/\SqT K H a xs/\xs.length=n/\t xs σ H Q
theorem Uz{es:List Expr}{k:Nat}{t:TGs}{n:Nat}(hc:X.calm=true)(h:PGs X es t)
  (hn:(assignEach es X.env).length=n:=by rfl) (hst:(assignEach es X.env).findIdx? (·.1)=none:=by rfl):PG X (.Tuple es k pos) (Wp X.K n t):=by
 intro pins s σ H v u Q I r hw;obtain⟨a,xs,e1,hq,hl,hw⟩:=hw;subst e1;cases r;obtain⟨its,rv,ht,hz⟩:=I.tuple hq;refine assign_Tuple_tuple (I.ok.hd hc) ht (by simp[hn,<-hl,rv.length]) hst fun h' hx=>?_;have I1:Inv X pins σ H { s with heap:=h' }:=I.kept (t':=s.toks) fun b o e=>hx b o (AY (AF e)) e;exact h pins _ σ H xs _ Q I1 (by simpa using rv) hw
def Xl(to ti:TE)(t:TSet):TG:=fun v σ H Q=>to σ H fun o H1=>ti σ H1 fun i H2=>t o i v H2 fun H3=>Q σ H3
theorem Iu{o i:Expr}{to ti:TE}{t:TSet}(ho:PE X o to)(hi:PE X i ti)(hs:Wy X t)
  (ha:∀v,assign (.Subscript o i pos) X.env v =(do
   let ov <-holding [v] (eval o X.env)
   let iv <-holding [v,ov] (eval i X.env)
   standAt pos
   holding [v,ov,iv] (setItem ov iv v)
   release [v,ov,iv] []):=by intro _;rfl):PG X (.Subscript o i pos) (Xl to ti t):=by
 intro pins s σ H v u Q I r h;rw[ha];refine AA (BZ (thn (ho pins s σ H _ I h) fun ov s1 ⟨x,H1,I1,r1,q1⟩=>?_));refine AA (BZ (thn (hi pins s1 σ H1 _ I1 q1) fun iv s2 ⟨y,H2,I2,r2,q2⟩=>?_));refine AA (DX (AA (BZ (thn (hs pins s2 σ H2 x y v ov iv u _ I2 r1 r2 r q2) fun _ s3 ⟨H3,I3,q3⟩=>?_))));exact wpAny_release ⟨σ,H3,I3,q3⟩
def Tc(te:TE)(g:TG):TS:=fun D σ H=>te σ H fun x H1=>g x σ H1 D.nx
theorem Jl{tg e:Expr}{te:TE}{g:TG}(he:PE X e te)(hg:PG X tg g)(hs:swapsWithSole [tg] e pos.line X.env=pure false:=by rfl)(hw:swappedStores [tg] e X.env=pure none:=by rfl)
  (h1:(assignEach [tg] X.env).map (·.2) = [assign tg X.env]:=by rfl):PS X (.Assign [tg] e pos) (Tc te g):=by
 intro pins s σ H D I h;refine wpAny_Assign_stores (thn (he pins s σ H _ I h) fun v s1 ⟨x,H1,I1,r1,q1⟩=>?_) hs hw;rw[h1];exact thn (hg pins s1 σ H1 x v _ I1 r1 q1) fun _ s2 q=>q
theorem C2{i:Nat}{x:Str}{e:Expr}{te:TE}{pos':Pos}(hN:X.N.Nodup)(hi:X.N[i]?=some x)(hx:Loc X.env.scope x)(he:PE X e te)(hs:swapsWith e (some (.Name x pos')) pos.line X.env=pure false:=by rfl)(hf:X.fn x=true\/X.env.scope.names.lookup x=some .local:=by first | exact .inl rfl | exact .inr rfl | assumption) :
  PS X (.Assign [.Name x pos'] e pos) (Tc te (Z5 i)):=by
 intro pins s σ H D I h;refine wpAny_Assign_Name (thn (he pins s σ H _ I h) fun v s1 ⟨y,H1,I1,r1,q1⟩=>?_) hs;exact b8 I1 hN hi hx r1 (fun s2 I2=>⟨_,H1,I2,q1⟩) hf
def Ry(c:TT)(tb:TS):TS:=fun D σ H=>∃W:Nat->St->Hp->Prop,(∃m,W m σ H)/\∀m σ H,W m σ H ->
 c σ H fun b H1=>if b=true then ∃N:St->Hp->Prop,(∀σ' H',N σ' H'->∃m',m' < m/\W m' σ' H')/\tb { D with nx:=N,ct:=N,bk:=D.nx } σ H1 else D.nx σ H1
theorem Gr{c:Expr}{body:List Stmt}{tc:TT}{tb:TS}(hp:PassesOwn (model X.prog X.w) X.A X.env X.xe)(hc:PT X c tc)(hb:PSs X body tb):PS X (.While c body [] pos) (Ry tc tb):=by
 intro pins s σ H D I h;obtain⟨W,⟨m0,w0⟩,turn⟩:=h;refine wpAny_While (codeAny_whileLoop (fun n s'=>∃σ' H',Inv X pins σ' H' s'/\W n σ' H') ?_ m0 ⟨σ,H,I,w0⟩);rintro n s1 ⟨σ1,H1,I1,w1⟩;refine EG hp (thn (hc pins s1 σ1 H1 _ I1 (turn n σ1 H1 w1)) fun b s2 ⟨H2,I2,q2⟩=>?_);cases b with
 | true =>
  obtain⟨N,hN,q2⟩:=q2;rw[AZ rfl];refine EG hp (thn (hb pins s2 σ1 H2 _ I2 q2) fun f s3 q3=>?_);cases f with
  | next =>
   obtain⟨σ3,H3,I3,n3⟩:=q3;obtain⟨m',hm,w3⟩:=hN σ3 H3 n3;exact⟨m',hm,σ3,H3,I3,w3⟩
  | cont =>
   obtain⟨σ3,H3,I3,n3⟩:=q3;obtain⟨m',hm,w3⟩:=hN σ3 H3 n3;exact⟨m',hm,σ3,H3,I3,w3⟩
  | brk=>exact q3
  | ret v=>exact q3
 | false =>
  rw[AR AU];exact EU ⟨σ1,H2,I2,q2⟩
end
structure It where
 go:Nat->Hp->Prop
 yld:Nat->Hp->V->Hp->Prop
 stop:Nat->Hp->Prop
def Z9(X:Cx)(pins:List (Addr×Obj))(H:Hp)(b:Addr):Prop :=
 H b=none/\b≠X.env.locals/\b∉X.fs/\(b∈X.ex\/X.s₀.heap.objs.size<=b)/\(∀x c,X.env.cells.lookup x=some c->c≠b)/\∀p∈X.pn++pins,p.1≠b
theorem Inv.fpOk{X:Cx}{pins:List (Addr×Obj)}{σ:St}{H H':Hp}{s:Shared}{b:Addr}(I:Inv X pins σ H s)(hb:s.heap.objs.size<=b)(hn:H' b=none):Z9 X pins H' b:=by
 refine⟨hn,Nat.ne_of_gt (AX I.lt hb),I.nofs hb,.inr (Nat.le_trans I.sz hb),fun x c e z=>?_,fun p hp z=>?_⟩
 .obtain⟨v,q⟩:=I.cell x c e;exact absurd (AX q.lt (by rw[z];exact hb)) (CD _)
 .exact absurd (AX (AF (I.pin p hp).1) (by rw[z];exact hb)) (CD _)
structure Turn(P:Program)(w:World)(K:PySem.W.Frag)(tg:Expr)(J:It)(fp:List Addr)(it:Addr)(tn:Nat->Heap->Prop):Prop where
 mem:it∈fp
 obj:∀i h,tn i h->∀b∈fp,∃o,h.get? b=some o/\∀v,o.data≠ .cell v
 keep:∀i h h',tn i h->(∀b∈fp,∀o,h.get? b=some o->h'.get? b=some o)->tn i h'
 item:∀(X:Cx),X.prog=P->X.w=w->X.K=K->X.calm=true->∀(i:Nat) (pins:List (Addr×Obj)) (s:Shared) (σ:St) (H:Hp) (E:Value->Shared->Prop),Inv X pins σ H s->(∀b∈fp,Z9 X pins H b)->tn i s.heap->J.go i H ->
  wpAny (model P w) X.A (pyNext (.ref it)) (fun r s1=>∃u,r=some u /\
   wpAny (model P w) X.A (letOwnedTupleGo tg (.ref it) u) (fun _ s2=>∃x H',Inv X pins σ H' s2/\RelV x u/\J.yld i H x H'/\tn (i+1) s2.heap/\∀b∈fp,H' b=none) E s1) E s
 done:∀(X:Cx),X.prog=P->X.w=w->X.K=K->X.calm=true->∀(i:Nat) (pins:List (Addr×Obj)) (s:Shared) (σ:St) (H:Hp) (E:Value->Shared->Prop),Inv X pins σ H s->(∀b∈fp,Z9 X pins H b)->tn i s.heap->J.stop i H ->
  wpAny (model P w) X.A (pyNext (.ref it)) (fun r s1=>r=none/\Inv X pins σ H s1) E s
 self:∀(A:Around) (i:Nat) (s:Shared) (Q:Value->Shared->Prop) (E:Value->Shared->Prop),tn i s.heap->Q (.ref it) s->wpAny (model P w) A (pyIter (.ref it)) Q E s
abbrev TI:=St->Hp->(It->Hp->Prop)->Prop
def PIE(X:Cx)(pins:List (Addr×Obj))(σ:St)(tg:Expr)(R:It->Hp->Prop)(itv:Value)(s2:Shared):Prop :=
 ∃(it:Addr) (fp:List Addr) (tn:Nat->Heap->Prop) (J:It) (H':Hp),itv = .ref it/\Inv X pins σ H' s2/\Turn X.prog X.w X.K tg J fp it tn/\tn 0 s2.heap/\(∀b∈fp,Z9 X pins H' b)/\R J H'
def PI(X:Cx)(tg iter:Expr)(wi:TI):Prop :=
 ∀(pins:List (Addr×Obj)) (s:Shared) (σ:St) (H:Hp) (R:It->Hp->Prop),Inv X pins σ H s->wi σ H R ->
  wpAny (model X.prog X.w) X.A (eval iter X.env) (fun v s1=>wpAny (model X.prog X.w) X.A (pyIter v) (PIE X pins σ tg R) X.xe s1) X.xe s
theorem Qi{M:Model}{A:Around}{E:Value->Shared->Prop}{s:Shared}{tg:Expr}{it:Addr}{u:Value}{o:Obj}{n:String}{vs:Array Value}{Q:Unit->Shared->Prop}(ho:s.heap.get? it=some o)(hc:o.cls = .type n)(hd:o.data = .fields vs)
    (hn:["enumerate", "zip", "dict_itemiterator", "dict_reverseitemiterator", "odict_iterator", "itertools.zip_longest", "itertools.pairwise"].contains n=false) (hQ:Q () s):wpAny M A (letOwnedTupleGo tg (.ref it) u) Q E s:=by
  unfold letOwnedTupleGo;cases tg<;>first
    | exact AE hQ
    | (cases u<;>first
        | exact AE hQ
        | (refine AA (wpAny_load ho ?_)
           rw[hc,hd];show wpAny M A (if(["enumerate", "zip", "dict_itemiterator", "dict_reverseitemiterator", "odict_iterator", "itertools.zip_longest", "itertools.pairwise"].contains n&&vs[0]? == some (rawInt _))=true then _ else _) Q E s;rw[AR (by intro h;rw[hn,FE]at h;cases h)];exact AE hQ))
def Itl(K:PySem.W.Frag)(a:Addr):It :=
 ⟨fun i H=>∃xs x,SqL K H a xs/\xs[i]?=some x,fun i H x H'=>H'=H/\∀xs,SqL K H a xs->xs[i]?=some x,fun i H=>∃xs,SqL K H a xs/\xs.length<=i⟩
def Itr(lo:Int)(n:Nat):It:=⟨fun i _=>i<n,fun i H x H'=>H'=H/\x = .int (lo+i),fun i _=>n<=i⟩
theorem Ip{P:Program}{w:World}{K:PySem.W.Frag}{tg:Expr}(a it:Addr):Turn P w K tg (Itl K a) [it] it (fun i h=>h.IsListIter it a i) where
 mem:=by simp
 obj:=fun i h st b hb=>by
  have e:b=it:=by simpa using hb
  subst e;obtain⟨o,e,c,d⟩:=st;exact⟨o,e,fun v z=>by rw[d]at z;cases z⟩
 keep:=fun i h h' st k=>st.at fun o e=>k it (by simp) o e
 item:=by
  intro X hP hw hK hc i pins s σ H E I hf st hg;subst hP hw hK;obtain⟨xs,x,hq,hx⟩:=hg;obtain⟨its,rv,p,hz⟩:=I.list hq;obtain⟨u,hu,ru⟩:=rv.get hx;obtain⟨f0,f1,f2,f3,f4,f5⟩:=hf it (by simp);refine wpAny_pyNext_list_item st p.isList (x:=u) (by simpa using hu) fun h' st' sb=>?_;have I1:Inv X pins σ H { s with heap:=h' }:=I.turned (t':=s.toks) (fun b o hb e=>(sb.2 b hb).trans e) f0 f1 f3 f4 f5;obtain⟨o,e,c,d⟩:=id st';exact⟨u,rfl,Qi (s:={ s with heap:=h' }) e c d (by decide) ⟨x,H,I1,ru,⟨rfl,fun ys hy=>by rw[I.list_inj hy hq];exact hx⟩,st',fun b hb=>(hf b hb).1⟩⟩
 done:=by
  intro X hP hw hK hc i pins s σ H E I hf st hg;subst hP hw hK;obtain⟨xs,hq,hx⟩:=hg;obtain⟨its,rv,p,hz⟩:=I.list hq;obtain⟨f0,f1,f2,f3,f4,f5⟩:=hf it (by simp);have hl:=rv.length;exact wpAny_pyNext_list_end (I.ok.hd hc) st p.isList (by simp;omega) fun h' eb=>⟨rfl,I.turned (t':=s.toks) (fun b o hb e=>eb b o hb e) f0 f1 f3 f4 f5⟩
 self:=fun _ _ _ _ _ st h=>wpAny_pyIter_listiter st h
theorem Ie{P:Program}{w:World}{K:PySem.W.Frag}{tg:Expr}(it:Addr)(lo:Int)(n:Nat):Turn P w K tg (Itr lo n) [it] it (fun i h=>IsRangeIter h it (lo +(i:Nat)*1) ((n:Int)-(i:Nat)) 1) where
 mem:=by simp
 obj:=fun i h st b hb=>by
  have e:b=it:=by simpa using hb
  subst e;exact⟨_,st,fun v z=>by
   have z':Data.fields _=Data.cell v:=z;cases z'⟩
 keep:=fun i h h' st k=>k it (by simp) _ st
 item:=by
  intro X hP hw hK hc i pins s σ H E I hf st hg;subst hP hw hK;obtain⟨f0,f1,f2,f3,f4,f5⟩:=hf it (by simp);have W:=Walks.range (prog:=X.prog) (w:=X.w) (I.ok.hd hc) it lo 1 n;refine W.item i s _ _ hg st fun v h' tk hv st' kk=>?_;obtain⟨t,rfl⟩:=hv;have I1:Inv X pins σ H { s with heap:=h',toks:=tk }:=I.turned (fun b o hb e=>kk b o (by simpa using hb) e) f0 f1 f3 f4 f5;refine⟨_,rfl,Qi (s:={ s with heap:=h',toks:=tk }) (n := "range_iterator") st' rfl rfl (by decide) ⟨.int (lo+i),H,I1,⟨t,?_⟩,⟨rfl,rfl⟩,st',fun b hb=>(hf b hb).1⟩⟩;rw[Int.mul_one]
 done:=by
  intro X hP hw hK hc i pins s σ H E I hf st hg;subst hP hw hK;obtain⟨f0,f1,f2,f3,f4,f5⟩:=hf it (by simp);exact wpAny_pyNext_range_end (I.ok.hd hc) st (by have:n<=i:=hg;omega) fun h' eb=>⟨rfl,I.turned (t':=s.toks) (fun b o hb e=>eb b o hb e) f0 f1 f3 f4 f5⟩
 self:=fun _ _ _ _ _ st h=>wpAny_pyIter_rangeiter st h
section
variable{X:Cx}{tg:Expr}
def Ux(K:PySem.W.Frag)(tl:TE):TI:=fun σ H R=>tl σ H fun x H1=>∃a,x = .ref a/\(∃xs,SqL K H1 a xs)/\R (Itl K a) H1
theorem Ql{l:Expr}{tl:TE}(hl:PE X l tl):PI X tg l (Ux X.K tl):=by
 intro pins s σ H R I h;refine thn (hl pins s σ H _ I h) fun v s1 ⟨x,H1,I1,r1,q1⟩=>?_;obtain⟨a,e,⟨xs,hq⟩,q⟩:=q1;subst e;cases r1;obtain⟨its,rv,p,hz⟩:=I1.list hq;refine wpAny_pyIter_list p.isList ?_;refine⟨s1.heap.objs.size,[s1.heap.objs.size],_,_,H1,rfl,I1.kept (t':=s1.toks) fun b o e=>AD _ e,Ip a _,⟨_,AW _ rfl,rfl,rfl⟩,fun b hb=>?_,q⟩;have e:b=s1.heap.objs.size:=by simpa using hb
 subst e;exact I1.fpOk (Nat.le_refl _) (I1.hok.fresh (Nat.le_refl _))
theorem Od{pins:List (Addr×Obj)}{σ:St}{H:Hp}{s:Shared}{R:It->Hp->Prop}{E:Value->Shared->Prop}{lo hi:Int}{t u v:Tok}{tk:Nat}(I:Inv X pins σ H s)(h1:-(2^62)<=lo)(h2:lo<2^62)(h3:-(2^62)<=hi)(h4:hi<2^62)
  (q:R (Itr lo (hi-lo).toNat) H):wpAny (model X.prog X.w) X.A (pyIter (.ref s.heap.objs.size)) (PIE X pins σ tg R) E { s with heap:=s.heap.push { cls:=.type "range",data:=.fields #[.int lo t,.int hi u,.int 1 v] },toks:=tk }:=by
 refine wpAny_pyIter_range (IsRange.new ..) (small_one h1 h2 h3 h4) ?_;have I1:Inv X pins σ H { s with heap:=s.heap.push { cls:=.type "range",data:=.fields #[.int lo t,.int hi u,.int 1 v] },toks:=tk }:=I.kept fun b o e=>AD _ e;refine⟨(s.heap.push { cls:=.type "range",data:=.fields #[.int lo t,.int hi u,.int 1 v] }).objs.size,[(s.heap.push { cls:=.type "range",data:=.fields #[.int lo t,.int hi u,.int 1 v] }).objs.size],_,_,H,rfl,
  I1.kept (t':=tk) fun b o e=>AD _ e,Ie _ lo (hi-lo).toNat,?_,fun b hb=>?_,q⟩
 .have e1:lo +((0:Nat):Int)*1=lo:=by simp
  have e2:(((hi-lo).toNat:Nat):Int)-((0:Nat):Int)=Builtin.Range.rangeSize lo hi 1:=by rw[rangeSize_one];split<;>omega
  show IsRangeIter _ _ (lo +((0:Nat):Int)*1) ((((hi-lo).toNat:Nat):Int)-((0:Nat):Int)) 1;rw[e1,e2];exact AW _ rfl
 .have e:b =(s.heap.push { cls:=.type "range",data:=.fields #[.int lo t,.int hi u,.int 1 v] }).objs.size:=by simpa using hb
  subst e;exact I1.fpOk (Nat.le_refl _) (I1.hok.fresh (Nat.le_refl _))
def Ty(ta:TA):TI:=fun σ H R=>ta σ H fun vs H1=>∃j:Int,vs = [.int j]/\-(2^62)<=j/\j<2^62/\R (Itr 0 j.toNat) H1
theorem Ki{a:Expr}{ta:TA}{p pos:Pos}(hg:Gl X "range")(hm:X.mg "range" = none)(ha:PA X [a] ta)(hs:starEach [a] X.env = [(false,eval a X.env)]:=by rfl):PI X tg (.Call (.Name "range" p) [a] [] pos) (Ty ta):=by
 intro pins s σ H R I h;refine Call_ (Ag I hg hm boot_range (PyProof.Rows.callWith_type1 (thn (ha pos pins s σ H _ I h) fun us s1 ⟨vs,H1,I1,r1,q1⟩=>?_) hs rfl));obtain⟨j,e,q1,q2,q⟩:=q1;subst e;cases r1 with
 | cons r rr =>
  cases rr;obtain⟨t,rfl⟩:=r;exact call_range_1 (Od I1 (by omega) (by omega) q1 q2 (by simpa using q))
def Xw(wi:TI)(g:TG)(tb:TS):TS:=fun D σ H=>wi σ H fun J H1=>∃W:Nat->Nat->St->Hp->Prop,(∃m,W 0 m σ H1)/\∀i m σ H,W i m σ H ->
 (J.stop i H/\D.nx σ H)\/(J.go i H/\∃N:St->Hp->Prop,(∀σ' H',N σ' H'->∃m',m' < m/\W (i+1) m' σ' H')/\∀x H',J.yld i H x H'->g x σ H' fun σ2 H2=>tb { D with nx:=N,ct:=N,bk:=D.nx } σ2 H2)
def Dn(fp:List Addr)(h:Heap):List (Addr×Obj):=fp.filterMap fun b=>(h.get? b).map fun o=>(b,o)
theorem P5{fp:List Addr}{h:Heap}{b:Addr}{o:Obj}(hb:b∈fp)(e:h.get? b=some o):(b,o)∈Dn fp h:=List.mem_filterMap.mpr ⟨b,hb,by rw[e];rfl⟩
theorem Lv{fp:List Addr}{h:Heap}{p:Addr×Obj}(hp:p∈Dn fp h):p.1∈fp/\h.get? p.1=some p.2:=by
 obtain⟨b,hb,e⟩:=List.mem_filterMap.mp hp;cases q:h.get? b with
 | none=>rw[q]at e;cases e
 | some o =>
  rw[q]at e;have e':(b,o)=p:=BV e;subst e';exact⟨hb,q⟩
theorem Inv.pinned{pins:List (Addr×Obj)}{σ:St}{H:Hp}{s:Shared}{fp:List Addr}(I:Inv X pins σ H s)(hf:∀b∈fp,Z9 X pins H b)(ho:∀b∈fp,∃o,s.heap.get? b=some o/\∀v,o.data≠ .cell v):Inv X (pins++Dn fp s.heap) σ H s :=
 I.pins_of fun p hp=>(AK.mp hp).elim (fun z=>I.pin p (BE _ z)) fun z=>by
  obtain⟨hb,e⟩:=Lv z;obtain⟨f0,f1,f2,_⟩:=hf p.1 hb;obtain⟨o,e',d⟩:=ho p.1 hb;rw[e]at e';cases e';exact⟨e,f0,f1,f2,d⟩
theorem Inv.unpinned{pins pl:List (Addr×Obj)}{σ:St}{H:Hp}{s:Shared}(I:Inv X (pins++pl) σ H s):Inv X pins σ H s:=I.pins_of fun p hp=>I.pin p (BE _ (BN _ hp))
theorem L6{iter:Expr}{body:List Stmt}{wi:TI}{g:TG}{tb:TS}{pos:Pos}(hp:PassesOwn (model X.prog X.w) X.A X.env X.xe)(hc:X.calm=true)(hi:PI X tg iter wi)(hg:PG X tg g)(hb:PSs X body tb)
  (hs:∀x,foldedSetIterable iter X.env x=pure x:=by intro _;rfl):PS X (.For tg iter body [] pos) (Xw wi g tb):=by
 intro pins s σ H D I h;refine wpAny_For (thn (hi pins s σ H _ I h) fun v s1 h1=>thn h1 fun itv s2 h2=>?_) hs;obtain⟨it,fp,tn,J,H2,e,I2,T,st2,f2,W,⟨m0,w0⟩,turn⟩:=h2;subst e;have stat:∀{H':Hp},(∀b∈fp,H' b=none)->∀b∈fp,Z9 X pins H' b:=fun hn b hb=>⟨hn b hb,(f2 b hb).2⟩;refine codeAny_forLoop_any (fun n s'=>∃i σ' H',Inv X pins σ' H' s'/\tn i s'.heap/\(∀b∈fp,H' b=none)/\W i n σ' H') ?_ m0 ⟨0,σ,H2,I2,st2,fun b hb=>(f2 b hb).1,w0⟩;rintro n s3 ⟨i,σ3,H3,I3,st3,fr3,w3⟩;rcases turn i n σ3 H3 w3 with⟨stop,qn⟩ | ⟨go,N,hN,step⟩
 .refine EG hp (thn (T.done X rfl rfl rfl hc i pins s3 σ3 H3 X.xe I3 (stat fr3) st3 stop) fun r s4 ⟨hr,I4⟩=>?_);subst hr;exact EU ⟨σ3,H3,I4,qn⟩
 .refine EG hp (thn (T.item X rfl rfl rfl hc i pins s3 σ3 H3 X.xe I3 (stat fr3) st3 go) fun r s4 ⟨u,hr,h4⟩=>?_);subst hr;refine EG hp (thn h4 fun _ s5 ⟨x,H5,I5,r5,y5,st5,fr5⟩=>?_);have I5':=I5.pinned (stat fr5) (T.obj _ _ st5);refine EG hp (thn (hg _ s5 σ3 H5 x u _ I5' r5 (step x H5 y5)) fun _ s6 ⟨σ6,H6,I6,q6⟩=>?_);refine EG hp (thn (hb _ s6 σ6 H6 _ I6 q6) fun f s7 q7=>?_);have again:∀{σ7:St} {H7:Hp},Inv X (pins++Dn fp s5.heap) σ7 H7 s7->N σ7 H7->∃m,m<n/\∃i σ' H',Inv X pins σ' H' s7/\tn i s7.heap/\(∀b∈fp,H' b=none)/\W i m σ' H':=fun{σ7 H7} I7 n7=>by
   obtain⟨m',hm,w7⟩:=hN σ7 H7 n7;refine⟨m',hm,i+1,σ7,H7,I7.unpinned,T.keep _ _ _ st5 fun b hb o e=>(I7.pin (b,o) (BE _ (BE _ (P5 hb e)))).1,fun b hb=>?_,w7⟩;obtain⟨o,e,d⟩:=T.obj _ _ st5 b hb;exact(I7.pin (b,o) (BE _ (BE _ (P5 hb e)))).2.1
  cases f with
  | next=>obtain⟨σ7,H7,I7,n7⟩:=q7;exact again I7 n7
  | cont=>obtain⟨σ7,H7,I7,n7⟩:=q7;exact again I7 n7
  | brk=>obtain⟨σ7,H7,I7,q7⟩:=q7;exact⟨σ7,H7,I7.unpinned,q7⟩
  | ret v=>obtain⟨x7,σ7,H7,I7,r7,q7⟩:=q7;exact⟨x7,σ7,H7,I7.unpinned,r7,q7⟩
end
theorem Lw{lo:Int}{n:Nat}{g:TG}{tb:TS}{D:Ends}{σ:St}{H:Hp}(Pv:Nat->St->Hp->Prop)(h0:Pv 0 σ H)
  (hs:∀i σ H,i<n->Pv i σ H->g (.int (lo+i)) σ H fun σ2 H2=>tb { D with nx:=Pv (i+1),ct:=Pv (i+1),bk:=D.nx } σ2 H2) (hd:∀σ H,Pv n σ H->D.nx σ H) :
  ∃W:Nat->Nat->St->Hp->Prop,(∃m,W 0 m σ H)/\∀i m σ H,W i m σ H ->
   ((Itr lo n).stop i H/\D.nx σ H)\/((Itr lo n).go i H/\∃N:St->Hp->Prop,(∀σ' H',N σ' H'->∃m',m' < m/\W (i+1) m' σ' H')/\∀x H',(Itr lo n).yld i H x H'->g x σ H' fun σ2 H2=>tb { D with nx:=N,ct:=N,bk:=D.nx } σ2 H2):=by
 refine⟨fun i m σ H=>m=n-i/\i<=n/\Pv i σ H,⟨n,by simp,B_ _,h0⟩,?_⟩;rintro i m σ H ⟨rfl,hi,p⟩;by_cases hlt:i<n
 .refine .inr ⟨hlt,Pv (i+1),fun σ' H' p'=>⟨n-(i+1),by omega,rfl,hlt,p'⟩,fun x H' y=>?_⟩;obtain⟨e,y⟩:=y;subst e y;exact hs i σ _ hlt p
 .have e:i=n:=by omega
  subst e;exact .inl ⟨Nat.le_refl _,hd σ H p⟩
abbrev R2:=V->V->Hp->VK->Prop
def OpR(X:Cx)(f:Value->Value->Sem Value)(r:R2):Prop :=
 ∀(pins:List (Addr×Obj)) (s:Shared) (σ:St) (H:Hp) (x y:V) (v u:Value) (Q:VK),Inv X pins σ H s->RelV x v->RelV y u->r x y H Q ->
  wpAny (model X.prog X.w) X.A (f v u) (EP X pins σ Q) X.xe s
def F9(X:Cx)(f:Value)(r:List V->Hp->VK->Prop):Prop :=
 ∀(pins:List (Addr×Obj)) (s:Shared) (σ:St) (H:Hp) (xs:List V) (us:List Value) (Q:VK),Inv X pins σ H s->Vals xs us->r xs H Q ->
  wpAny (model X.prog X.w) X.A (call f us) (EP X pins σ Q) X.xe s
def Xg(X:Cx)(r:V->Hp->(Bool->Hp->Prop)->Prop):Prop :=
 ∀(pins:List (Addr×Obj)) (s:Shared) (σ:St) (H:Hp) (x:V) (v:Value) (Q:Bool->Hp->Prop),Inv X pins σ H s->RelV x v->r x H Q ->
  wpAny (model X.prog X.w) X.A (truthy v) (TP X pins σ Q) X.xe s
def tOp(r:R2)(ta tb:TE):TE:=fun σ H Q=>ta σ H fun x H1=>tb σ H1 fun y H2=>r x y H2 Q
def rI(C:Int->Int->Prop)(g:Int->Int->V):R2:=fun x y H Q=>∃i j,x = .int i/\y = .int j/\C i j/\Q (g i j) H
def rI0(g:Int->Int->V):R2:=fun x y H Q=>∃i j,x = .int i/\y = .int j/\Q (g i j) H
section
variable{X:Cx}{a b c:Expr}{ta tb tc:TE}{pos:Pos}
theorem Wh(ha:PE X a ta)(hb:PE X b tb){pins:List (Addr×Obj)}{s:Shared}{σ:St}{H:Hp}{R:V->V->Hp->Prop}(I:Inv X pins σ H s)
  (h:ta σ H fun x H1=>tb σ H1 fun y H2=>R x y H2) {Q:Value->Shared->Prop} {f:Value->Value->Sem Value}
  (hf:∀v u s2 x y H2,Inv X pins σ H2 s2->RelV x v->RelV y u->R x y H2->wpAny (model X.prog X.w) X.A (f v u) Q X.xe s2) :
  wpAny (model X.prog X.w) X.A (eval a X.env) (fun v s₁=>wpAny (model X.prog X.w) X.A (eval b X.env) (fun u s₂=>wpAny (model X.prog X.w) X.A (f v u) Q X.xe s₂) X.xe s₁) X.xe s:=by
 refine thn (ha pins s σ H _ I h) fun v s1 ⟨x,H1,I1,r1,q1⟩=>?_;refine thn (hb pins s1 σ H1 _ I1 q1) fun u s2 ⟨y,H2,I2,r2,q2⟩=>?_;exact hf v u s2 x y H2 I2 r1 r2 q2
theorem E3{op:Operator}{r:R2}(ho:OpR X (binaryOp op) r)(ha:PE X a ta)(hb:PE X b tb):PE X (.BinOp a op b pos) (tOp r ta tb):=by
 intro pins s σ H Q I h;exact wpAny_BinOp (Wh ha hb I h fun v u s2 x y H2 I2 rx ry q=>ho pins s2 σ H2 x y v u Q I2 rx ry q)
theorem opI{f:Value->Value->Sem Value}{C:Int->Int->Prop}{g:Int->Int->Int}
  (rule:∀(i j:Int) (t u:Tok) (s:Shared) (Q:Value->Shared->Prop) (E:Value->Shared->Prop),C i j->Q (.int (g i j) s.toks) { s with toks:=s.toks+1 }->wpAny (model X.prog X.w) X.A (f (.int i t) (.int j u)) Q E s) :
  OpR X f (rI C fun i j=>.int (g i j)):=by
 intro pins s σ H x y v u Q I rx ry h;obtain⟨i,j,rfl,rfl,hc,q⟩:=h;obtain⟨t,rfl⟩:=rx;obtain⟨t',rfl⟩:=ry;exact rule i j t t' s _ _ hc ⟨.int (g i j),H,I.tok _,⟨_,rfl⟩,q⟩
theorem Ws{f:Value->Value->Sem Value}{g:Int->Int->Int}
  (rule:∀(i j:Int) (t u:Tok) (s:Shared) (Q:Value->Shared->Prop) (E:Value->Shared->Prop),Q (.int (g i j) s.toks) { s with toks:=s.toks+1 }->wpAny (model X.prog X.w) X.A (f (.int i t) (.int j u)) Q E s) :
  OpR X f (rI0 fun i j=>.int (g i j)):=by
 intro pins s σ H x y v u Q I rx ry h;obtain⟨i,j,rfl,rfl,q⟩:=h;obtain⟨t,rfl⟩:=rx;obtain⟨t',rfl⟩:=ry;exact rule i j t t' s _ _ ⟨.int (g i j),H,I.tok _,⟨_,rfl⟩,q⟩
theorem Vi{f:Value->Value->Sem Value}{g:Int->Int->Bool}
  (rule:∀(i j:Int) (t u:Tok) (s:Shared) (Q:Value->Shared->Prop) (E:Value->Shared->Prop),Q (.bool (g i j)) s->wpAny (model X.prog X.w) X.A (f (.int i t) (.int j u)) Q E s) :
  OpR X f (rI0 fun i j=>.bl (g i j)):=by
 intro pins s σ H x y v u Q I rx ry h;obtain⟨i,j,rfl,rfl,q⟩:=h;obtain⟨t,rfl⟩:=rx;obtain⟨t',rfl⟩:=ry;exact rule i j t t' s _ _ ⟨.bl (g i j),H,I,rfl,q⟩
def Xy(i j:Int):Prop:=0<j/\j<1073741824
def Xj(i j:Int):Prop:=0<=j/\j<=1000000/\i.natAbs<2^64
def CMul(i j:Int):Prop:=(-(2^64)<i/\i<2^64)\/(-(2^64)<j/\j<2^64)
theorem CMul.ok{i j:Int}(h:CMul i j):IntMulOk i j:=by
 rcases h with⟨h1,h2⟩ | ⟨h1,h2⟩
 .exact .of_left (intBits_le_64 h1 h2)
 .exact .of_right (intBits_le_64 h1 h2)
theorem U1:OpR X (binaryOp .Add) (rI0 fun i j=>.int (i+j)):=Ws fun _ _ _ _ _ _ _ q=>add_int q
theorem Mb:OpR X (binaryOp .Sub) (rI0 fun i j=>.int (i-j)):=Ws fun _ _ _ _ _ _ _ q=>sub_int q
theorem Aa:OpR X (binaryOp .Mult) (rI CMul fun i j=>.int (i*j)):=opI fun _ _ _ _ _ _ _ hc q=>mul_int q hc.ok
theorem Lb:OpR X (binaryOp .FloorDiv) (rI Xy fun i j=>.int (i / j)):=opI fun i j _ _ _ _ _ hc q=>by
 have h1:(0:Int)<j:=hc.1;have h2:j<1073741824:=hc.2;exact floordiv_int (by omega) (by rw[Int.fdiv_eq_ediv_of_nonneg i (by omega)];exact q) (.inl (PyProof.noPylong_small (by omega)))
theorem Di:OpR X (binaryOp .Mod) (rI (fun _ j=>0<j) fun i j=>.int (i % j)):=opI fun i j _ _ _ _ _ hc q=>by
 have h1:(0:Int)<j:=hc;exact mod_int' (by omega) (by rw[Int.fmod_eq_emod_of_nonneg i (by omega)];exact q)
theorem Ud:OpR X (binaryOp .Pow) (rI Xj fun i j=>.int (i^j.toNat)):=opI fun _ _ _ _ _ _ _ hc q=>pow_int_small hc.1 hc.2.1 hc.2.2 q
end
def Wn:V->V->Bool
 | .non,.non=>true | .non,.int _=>true | .int _,.non=>true | .non,.bl _=>true | .bl _,.non=>true | .non,.str _=>true | .str _,.non=>true
 | .int _,.int _=>true | .bl _,.bl _=>true | .str _,.str _=>true | .byt _,.byt _=>true
 | .int _,.str _=>true | .str _,.int _=>true | .bl _,.str _=>true | .str _,.bl _=>true
 | _,_=>false
def rEq:R2:=fun x y H Q=>Wn x y=true/\Q (.bl (decide (x=y))) H
def rNe:R2:=fun x y H Q=>Wn x y=true/\Q (.bl (!decide (x=y))) H
theorem Ke{i j:Int}:decide (V.int i=V.int j) =(i == j):=by
 rw[FQ];simp
theorem Oz{i j:Bool}:decide (V.bl i=V.bl j) =(i == j):=by
 rw[FQ];simp
theorem Lx{i j:Str}:decide (V.str i=V.str j) =(i == j):=by
 rw[FQ];simp
theorem Im{i j:Array UInt8}:decide (V.byt i=V.byt j) =(i.toList == j.toList):=by
 rw[FQ];cases i;cases j;simp
section
variable{X:Cx}{a b c:Expr}{ta tb tc:TE}{pos:Pos}
theorem D5{pins:List (Addr×Obj)}{σ:St}{H:Hp}{s:Shared}{Q:VK}{k k':Bool}(I:Inv X pins σ H s)(q:Q (.bl k) H)(e:k=k'):EP X pins σ Q (.bool k') s:=by
 subst e;exact⟨.bl k,H,I,rfl,q⟩
theorem w5:OpR X (compareOp .Eq) rEq:=by
 intro pins s σ H x y v u Q I rx ry h;obtain⟨hs,q⟩:=h;cases x with
 | non =>
  cases rx;cases y with
  | non=>cases ry;exact PySem.EqNone.eq_none_none (D5 I q (by simp))
  | bl j=>cases ry;exact PySem.EqNone.eq_none_bool (D5 I q (by simp))
  | int j=>obtain⟨t',rfl⟩:=ry;exact PySem.EqNone.eq_none_int (D5 I q (by simp))
  | str j=>obtain⟨t',rfl⟩:=ry;exact PySem.EqNone.eq_none_str (D5 I q (by simp))
  | _=>exact absurd (show false=true from hs) AU
 | bl i =>
  cases rx;cases y with
  | non=>cases ry;exact PySem.EqNone.eq_bool_none (D5 I q (by simp))
  | bl j=>cases ry;exact eq_bool (D5 I q Oz)
  | str j=>obtain⟨t',rfl⟩:=ry;exact PySem.EqMixed.eq_bool_str (D5 I q (by simp))
  | _=>exact absurd (show false=true from hs) AU
 | int i =>
  obtain⟨t,rfl⟩:=rx;cases y with
  | non=>cases ry;exact PySem.EqNone.eq_int_none (D5 I q (by simp))
  | int j=>obtain⟨t',rfl⟩:=ry;exact eq_int (D5 I q Ke)
  | str j=>obtain⟨t',rfl⟩:=ry;exact PySem.EqMixed.eq_int_str (D5 I q (by simp))
  | _=>exact absurd (show false=true from hs) AU
 | str i =>
  obtain⟨t,rfl⟩:=rx;cases y with
  | non=>cases ry;exact PySem.EqNone.eq_str_none (D5 I q (by simp))
  | bl j=>cases ry;exact PySem.EqMixed.eq_str_bool (D5 I q (by simp))
  | int j=>obtain⟨t',rfl⟩:=ry;exact PySem.EqMixed.eq_str_int (D5 I q (by simp))
  | str j=>obtain⟨t',rfl⟩:=ry;exact eq_str (D5 I q Lx)
  | _=>exact absurd (show false=true from hs) AU
 | byt i =>
  obtain⟨t,rfl⟩:=rx;cases y with
  | byt j=>obtain⟨t',rfl⟩:=ry;exact PySem.W.eq_bytes (D5 I q Im)
  | _=>exact absurd (show false=true from hs) AU
 | _=>cases y<;>exact absurd (show false=true from hs) AU
theorem Hc:OpR X (compareOp .NotEq) rNe:=by
 intro pins s σ H x y v u Q I rx ry h;obtain⟨hs,q⟩:=h;cases x with
 | non =>
  cases rx;cases y with
  | non=>cases ry;exact PySem.EqNone.ne_none_none (D5 I q (by simp))
  | bl j=>cases ry;exact PySem.EqNone.ne_none_bool (D5 I q (by simp))
  | int j=>obtain⟨t',rfl⟩:=ry;exact PySem.EqNone.ne_none_int (D5 I q (by simp))
  | str j=>obtain⟨t',rfl⟩:=ry;exact PySem.EqNone.ne_none_str (D5 I q (by simp))
  | _=>exact absurd (show false=true from hs) AU
 | bl i =>
  cases rx;cases y with
  | non=>cases ry;exact PySem.EqNone.ne_bool_none (D5 I q (by simp))
  | bl j=>cases ry;exact ne_bool (D5 I q (congrArg not Oz))
  | str j=>obtain⟨t',rfl⟩:=ry;exact PySem.EqMixed.ne_bool_str (D5 I q (by simp))
  | _=>exact absurd (show false=true from hs) AU
 | int i =>
  obtain⟨t,rfl⟩:=rx;cases y with
  | non=>cases ry;exact PySem.EqNone.ne_int_none (D5 I q (by simp))
  | int j=>obtain⟨t',rfl⟩:=ry;exact ne_int (D5 I q (congrArg not Ke))
  | str j=>obtain⟨t',rfl⟩:=ry;exact PySem.EqMixed.ne_int_str (D5 I q (by simp))
  | _=>exact absurd (show false=true from hs) AU
 | str i =>
  obtain⟨t,rfl⟩:=rx;cases y with
  | non=>cases ry;exact PySem.EqNone.ne_str_none (D5 I q (by simp))
  | bl j=>cases ry;exact PySem.EqMixed.ne_str_bool (D5 I q (by simp))
  | int j=>obtain⟨t',rfl⟩:=ry;exact PySem.EqMixed.ne_str_int (D5 I q (by simp))
  | str j=>obtain⟨t',rfl⟩:=ry;exact ne_str (D5 I q (congrArg not Lx))
  | _=>exact absurd (show false=true from hs) AU
 | byt i =>
  obtain⟨t,rfl⟩:=rx;cases y with
  | byt j=>obtain⟨t',rfl⟩:=ry;exact PySem.W.ne_bytes (D5 I q (congrArg not Im))
  | _=>exact absurd (show false=true from hs) AU
 | _=>cases y<;>exact absurd (show false=true from hs) AU
theorem Td:OpR X (compareOp .Lt) (rI0 fun i j=>.bl (decide (i<j))):=Vi fun _ _ _ _ _ _ _ q=>lt_int q
theorem Ob:OpR X (compareOp .LtE) (rI0 fun i j=>.bl (decide (i<=j))):=Vi fun _ _ _ _ _ _ _ q=>le_int q
theorem Sy:OpR X (compareOp .Gt) (rI0 fun i j=>.bl (decide (j<i))):=Vi fun _ _ _ _ _ _ _ q=>gt_int q
theorem Vy:OpR X (compareOp .GtE) (rI0 fun i j=>.bl (decide (j<=i))):=Vi fun _ _ _ _ _ _ _ q=>ge_int q
theorem Jx:OpR X (compareOp .In) (fun x y H Q=>∃i j,x = .str i/\y = .str j/\Q (.bl (!(Builtin.Str.occurrences j i 0 j.length 1).isEmpty)) H):=by
 intro pins s σ H x y v u Q I rx ry h;obtain⟨i,j,rfl,rfl,q⟩:=h;obtain⟨t,rfl⟩:=rx;obtain⟨t',rfl⟩:=ry;exact in_str (D5 I q rfl)
theorem c8:OpR X (compareOp .Is) (fun x y H Q=>y = .non/\Q (.bl (decide (x = .non))) H):=by
 intro pins s σ H x y v u Q I rx ry h;obtain⟨rfl,q⟩:=h;cases ry;refine is_none_gen (D5 I q ?_);cases x<;>first
  | (cases rx;rfl)
  | (obtain⟨t,rfl⟩:=rx;rfl)
theorem C8(b:Expr){op:CmpOp}(h:op≠ .In:=by decide)(h2:op≠ .NotIn:=by decide):behindInMarks op b=false:=by
 have e1:(op == CmpOp.In)=false:=by cases op<;>first | rfl | exact absurd rfl h
 have e2:(op == CmpOp.NotIn)=false:=by cases op<;>first | rfl | exact absurd rfl h2
 cases b<;>simp[behindInMarks,e1,e2]
theorem D9{op:CmpOp}{r:R2}(ho:OpR X (compareOp op) r)(ha:PE X a ta)(hb:PE X b tb)(hm:behindInMarks op b=false):PE X (.Compare a [op] [b] pos) (tOp r ta tb):=by
 intro pins s σ H Q I h;exact wpAny_Compare1 (Wh ha hb I h fun v u s2 x y H2 I2 rx ry q=>ho pins s2 σ H2 x y v u Q I2 rx ry q) hm
def Sb(t:TE):TT:=fun σ H Q=>t σ H fun x H'=>∃k,x = .bl k/\Q k H'
theorem C4{op:CmpOp}{r:R2}(ho:OpR X (compareOp op) r)(ha:PE X a ta)(hb:PE X b tb)(hm:behindInMarks op b=false):PT X (.Compare a [op] [b] pos) (Sb (tOp r ta tb)):=by
 intro pins s σ H Q I h;refine wpAny_isTrue_Compare1 (thn (ha pins s σ H _ I h) fun v s1 ⟨x,H1,I1,r1,q1⟩=>thn (hb pins s1 σ H1 _ I1 q1) fun u s2 ⟨y,H2,I2,r2,q2⟩ =>
  thn (ho pins s2 σ H2 x y v u _ I2 r1 r2 q2) fun c s3 ⟨z,H3,I3,r3,k,e,q3⟩=>?_) hm
 subst e;cases r3;exact CO ⟨H3,I3,q3⟩
def On(r r':R2)(ta tb tc:TE):TE:=fun σ H Q=>ta σ H fun x H1=>tb σ H1 fun y H2=>r x y H2 fun z H3=>∃k,z = .bl k /\
 (if k=true then tc σ H3 fun w' H4=>r' y w' H4 Q else Q (.bl false) H3)
theorem Oe{op op':CmpOp}{r r':R2}(ho:OpR X (compareOp op) r)(ho':OpR X (compareOp op') r')(ha:PE X a ta)(hb:PE X b tb)(hc:PE X c tc)
  (hm:lastMarks [op,op'] [b,c]=false:=by with_unfolding_all rfl):PE X (.Compare a [op,op'] [b,c] pos) (On r r' ta tb tc):=by
 intro pins s σ H Q I h;refine Compare_chain (thn (ha pins s σ H _ I h) fun v s1 ⟨x,H1,I1,r1,q1⟩=>chain_link (thn (hb pins s1 σ H1 _ I1 q1) fun u s2 ⟨y,H2,I2,r2,q2⟩ =>
  thn (ho pins s2 σ H2 x y v u _ I2 r1 r2 q2) fun d s3 ⟨z,H3,I3,r3,k,e,q3⟩=>?_)) hm
 subst e;cases r3;refine CO ?_;cases k with
 | false=>exact ite_ff ⟨.bl false,H3,I3,rfl,q3⟩
 | true=>exact ite_tt (chain_last (thn (hc pins s3 σ H3 _ I3 q3) fun w' s4 ⟨z',H4,I4,r4,q4⟩=>ho' pins s4 σ H4 y z' u w' Q I4 r2 r4 q4))
theorem Oi{op op':CmpOp}{r r':R2}(ho:OpR X (compareOp op) r)(ho':OpR X (compareOp op') r')(ha:PE X a ta)(hb:PE X b tb)(hc:PE X c tc)
  (hm:lastMarks [op,op'] [b,c]=false:=by with_unfolding_all rfl):PT X (.Compare a [op,op'] [b,c] pos) (Sb (On r r' ta tb tc)):=by
 intro pins s σ H Q I h;refine isTrue_chain (thn (ha pins s σ H _ I h) fun v s1 ⟨x,H1,I1,r1,q1⟩=>test_link (thn (hb pins s1 σ H1 _ I1 q1) fun u s2 ⟨y,H2,I2,r2,q2⟩ =>
  thn (ho pins s2 σ H2 x y v u _ I2 r1 r2 q2) fun d s3 ⟨z,H3,I3,r3,k,e,q3⟩=>?_)) hm
 subst e;cases r3;refine CO ?_;cases k with
 | false =>
  obtain⟨k',e',q'⟩:=q3;cases e';exact ite_ff ⟨H3,I3,q'⟩
 | true =>
  refine ite_tt (test_last (thn (hc pins s3 σ H3 _ I3 q3) fun w' s4 ⟨z',H4,I4,r4,q4⟩=>thn (ho' pins s4 σ H4 y z' u w' _ I4 r2 r4 q4) fun d' s5 ⟨z2,H5,I5,r5,k2,e2,q5⟩=>?_));subst e2;cases r5;exact CO ⟨H5,I5,q5⟩
def Wi(K:PySem.W.Frag)(x:V)(H:Hp)(k:Bool):Prop :=
 match x with
 | .non=>k=false
 | .bl b=>k=b
 | .int i=>k =(i != 0)
 | .str y=>y.length<=sizeLine/\k =((y.length:Int) != 0)
 | .byt y=>y.size<=sizeLine/\k =((y.size:Int) != 0)
 | .ref p=>(∃xs,SqL K H p xs/\k=!xs.isEmpty)\/(∃xs,SqT K H p xs/\k=!xs.isEmpty)\/∃kvs,H p=some (.dK kvs)/\k=!kvs.isEmpty
 | _=>False
theorem Hd{U:Type}{kvs:List (U×V)}{vs:List (U×Value)}(r:KV kvs vs):(!vs.isEmpty)=!kvs.isEmpty:=by
 cases r<;>rfl
theorem y6{xs:List V}{its:List Value}(r:Vals xs its):(!its.toArray.isEmpty)=!xs.isEmpty:=by
 cases r<;>simp
theorem Ap:(sizeLine:Nat)<2^63:=by rw[sizeLine_eq];decide
theorem Sn:Xg X (fun x H Q=>∃k,Wi X.K x H k/\Q k H):=by
 intro pins s σ H x v Q I rx h;obtain⟨k,e,q⟩:=h;have hl:=Ap;have hs:sizeLine=16777216:=sizeLine_eq;cases x with
 | non =>
  cases rx;have e':k=false:=e;subst e';exact truthy_none ⟨H,I,q⟩
 | bl b =>
  cases rx;have e':k=b:=e;subst e';exact CO ⟨H,I,q⟩
 | int i =>
  obtain⟨t,rfl⟩:=rx;have e':k =(i != 0):=e;subst e';exact PySem.P.truthy_int ⟨H,I,q⟩
 | str y =>
  obtain⟨t,rfl⟩:=rx;obtain⟨hy,e'⟩:y.length<=sizeLine/\k =((y.length:Int) != 0):=e;subst e';exact PySem.P.truthy_str (by omega) ⟨H,I.tok _,q⟩
 | byt y =>
  obtain⟨t,rfl⟩:=rx;obtain⟨hy,e'⟩:y.size<=sizeLine/\k =((y.size:Int) != 0):=e;subst e';exact PySem.W.truthy_bytes (by omega) ⟨H,I.tok _,q⟩
 | ref p =>
  cases rx;have e':(∃xs,SqL X.K H p xs/\k=!xs.isEmpty)\/(∃xs,SqT X.K H p xs/\k=!xs.isEmpty)\/∃kvs,H p=some (.dK kvs)/\k=!kvs.isEmpty:=e;rcases e' with⟨xs,hx,e'⟩ | ⟨xs,hx,e'⟩ | ⟨kvs,hx,e'⟩
  .subst e';obtain⟨its,r,pl,hz⟩:=I.list hx;have hlen:=r.length;exact wpAny_truthy_list pl.isList (by simp only[AN];omega) ⟨H,I.tok _,by rw[y6 r];exact q⟩
  .subst e';obtain⟨its,r,pl,hz⟩:=I.tuple hx;have hlen:=r.length;exact truthy_tuple pl (by simp only[AN];omega) ⟨H,I.tok _,by rw[y6 r];exact q⟩
  .subst e';obtain⟨hz,hS,vs,r,m⟩:kvs.length<=sizeLine/\(p == sysModules)=false/\∃vs,KV kvs vs/\s.heap.DictOf (C9 X.prog X.w) p vs:=I.hok p _ hx;have hlen:kvs.length=vs.length:=Paired.length r;exact wpAny_truthy_dict hS m (by omega) ⟨H,I.tok _,by rw[Hd r];exact q⟩
 | _=>exact(show False from e).elim
theorem Nu(ha:PE X a ta)(he:∀whole,isTrue a X.env whole =(do let v <-whole;standAt a.pos;holding [v] (truthy v))) :
  PT X a (fun σ H Q=>ta σ H fun x H'=>∃k,Wi X.K x H' k/\Q k H'):=by
 intro pins s σ H Q I h;exact isTrue_plain (thn (ha pins s σ H _ I h) fun v s1 ⟨x,H1,I1,r1,q1⟩=>Sn pins s1 σ H1 x v Q I1 r1 q1) (he _)
theorem Z4{x:V}{us:List Value}(r:Vals [x] us):∃u,us = [u]/\RelV x u:=by
 cases r with
 | cons r1 r2=>cases r2;exact⟨_,rfl,r1⟩
theorem Vm{x y:V}{us:List Value}(r:Vals [x,y] us):∃u w',us = [u,w']/\RelV x u/\RelV y w':=by
 cases r with
 | cons r1 r2 =>
  cases r2 with
  | cons r3 r4=>cases r4;exact⟨_,_,rfl,r1,r3⟩
theorem Gq:F9 X (.builtin "abs") (fun xs H Q=>∃i,xs = [.int i]/\Q (.int (if i<0 then -i else i)) H):=by
 intro pins s σ H xs us Q I r h;obtain⟨i,rfl,q⟩:=h;obtain⟨u,rfl,t,rfl⟩:=Z4 r;exact call_abs_int fun u tk=>⟨.int (if i<0 then -i else i),H,I.tok _,⟨_,rfl⟩,q⟩
theorem Lk(hc:X.calm=true):F9 X (.builtin "min") (fun xs H Q=>∃i j,xs = [.int i,.int j]/\Q (.int (if j<i then j else i)) H):=by
 intro pins s σ H xs us Q I r h;obtain⟨i,j,rfl,q⟩:=h;obtain⟨u,w',rfl,⟨t,rfl⟩,⟨t',rfl⟩⟩:=Vm r;refine min_two_ints (I.ok.hd hc) fun h' tk k=>⟨_,H,I.kept k,?_,q⟩;by_cases hj:j<i
 .rw[AZ hj,AZ hj];exact⟨_,rfl⟩
 .rw[AR hj,AR hj];exact⟨_,rfl⟩
theorem Lj:F9 X (.type "int") (fun xs H Q=>(∃i,xs = [.int i]/\Q (.int i) H)\/∃k,xs = [.bl k]/\Q (.int (if k then 1 else 0)) H):=by
 intro pins s σ H xs us Q I r h;rcases h with⟨i,rfl,q⟩ | ⟨k,rfl,q⟩
 .obtain⟨u,rfl,t,rfl⟩:=Z4 r;exact call_int_int ⟨.int i,H,I,⟨_,rfl⟩,q⟩
 .obtain⟨u,rfl,r1⟩:=Z4 r;cases r1;exact call_int_bool ⟨.int (if k then 1 else 0),H,I.tok _,⟨_,rfl⟩,q⟩
end
structure ObjM(h:Heap)(x dx C:Addr)(mA:Str->Option Value):Prop where
 obj:h.get? x=some (PySem.W.instObj C dx)
 ns:h.Ns1 dx mA
 ne:dx≠x
theorem Li{h:Heap}{dx:Addr}{mA:Str->Option Value}(n:h.Ns1 dx mA):∃od,h.get? dx=some od/\∀name,PySem.W.lookIn name od=some (mA name):=by
 obtain⟨o,es,ep,ho,hd,hk,_,hm⟩:=n;refine⟨o,ho,fun name=>?_⟩;have e:=hm name;unfold nsFind findBy at e;rw[<-Array.find?_toList]at e;unfold PySem.W.lookIn;rw[hd];dsimp only;split
 .rename_i y q;rw[q]at e;exact congrArg some e
 .rename_i q;rw[q]at e;have a:es.toList.any (·.refKey)=false:=by
   rw[List.any_eq_false];intro y hy;obtain⟨z,t,hkey⟩:=hk y (Array.mem_toList_iff.mp hy);simp[DictEntry.refKey,hkey]
  have a':¬es.toList.any (·.refKey)=true:=by rw[a];exact AU
  rw[AR a'];exact congrArg some e
theorem ObjM.look{h:Heap}{x dx C:Addr}{mA:Str->Option Value}(I:ObjM h x dx C mA):∃od,PySem.W.InstAt h x (PySem.W.instObj C dx) C (some od)/\∀name,PySem.W.lookIn name od=some (mA name) :=
 let⟨od,ho,hl⟩:=Li I.ns
 ⟨od,⟨I.obj,rfl,rfl,ho⟩,hl⟩
section
variable{prog:Program}{w:World}{A:Around}{E:Value->Shared->Prop}{s:Shared}{K:PySem.W.Frag}{x dx C f:Addr}{mA:Str->Option Value}{name:Str}{v:Value}
theorem Pu{expr:Bool}{Q:Value->Shared->Prop}(X:K.In s.heap)(I:ObjM s.heap x dx C mA)(hg:PySem.W.plainGet K C name=true)(hh:PySem.W.hasDictIn K C=true)
  (ha:PySem.W.findIn K (.ref C) name=some none) (hv:mA name=some v) (hv':PySem.W.handedIn v=true) (h:Q v { s with toks:=s.toks+1 }) :
  wpAny (model prog w) A (getAttr (.ref x) name expr) Q E s:=by
 obtain⟨od,J,hl⟩:=I.look;exact PySem.W.get_value X J (PySem.W.plainGet_of hg).1 (PySem.W.findObj_own hh ha rfl (by rw[hl,hv])) hv' h
theorem Qq{ns:List Str}{Q:Unit->Shared->Prop}(X:K.In s.heap)(I:ObjM s.heap x dx C mA)
  (hs:PySem.W.findIn K (.ref C) "__setattr__" = some (some (.builtin "object.__setattr__"))) (hp:PySem.W.plainOver K C=true) (ht:PySem.W.takerIn K C name=some none) (hh:PySem.W.hasDictIn K C=true)
  (hw:PySem.Within mA ns) (hsz:ns.length<=sizeLine)
  (h:∀h',ObjM h' x dx C (fun y=>if y=name then some v else mA y)->Heap.SameBut dx s.heap h'->Q () { s with heap:=h',toks:=s.toks+2 }) :
  wpAny (model prog w) A (setAttr (.ref x) name v) Q E s:=by
 obtain⟨od,J,hl⟩:=I.look;refine PySem.W.set_plain X J hs (PySem.W.osa_open (s:={ s with toks:=s.toks+1 }) (r:=none) X J hp ht fun b=>?_);obtain⟨cd,hc,hd'⟩:=PySem.W.any_some hh;have hx:s.heap.get? x=some ⟨.ref C,some dx,.plain,#[]⟩:=I.obj;refine AA (AE (AA (AA (wpAny_loadPart hx (AA (PySem.W.Looks.here (s:={ s with toks:=s.toks+1 }) (PySem.W.looks_clsIn X hc) ?_))))));rw[hd'];refine AE (a:=some dx) (AA (AE (AA ?_)));refine wpAny_nsSet1 (s:={ s with toks:=s.toks+1 }) I.ns fun h' hn2 hs2=>?_;obtain⟨oD,esD,epD,hoD,hdD,hcD⟩:=hn2.count (PySem.Within.cons name v hw);refine AA (wpAny_lookBehind hoD (by rw[hdD];exact pastItsLine_dict (Nat.le_trans hcD (by rw[BK];omega))) ?_);exact AE (h _ ⟨(hs2.2 _ (Ne.symm I.ne)).trans I.obj,hn2,I.ne⟩ hs2)
theorem Nc{R:Result->Shared->Prop}{vs:List Value}{kw:List (Str×Value)}(X:K.In s.heap)(hm:PySem.W.makesIn K C=true)
  (hi:PySem.W.findIn K (.ref C) "__init__" = some (some (.ref f))) (hf:PySem.W.typeIn K (.ref f)=some (.type "function"))
  (h:codeAny (model prog w) (A.under (.builtin "type.__call__" ⟨.ref C::vs,kw⟩)) (.call (.ref f) ⟨.ref (s.heap.objs.size+1)::vs,kw⟩) (PySem.W.InitBack (s.heap.objs.size+1) R)
   { s with heap:=(s.heap.push PySem.W.emptyDict).push (PySem.W.instObj C s.heap.objs.size) }) :
  codeAny (model prog w) A (.call (.ref C) ⟨vs,kw⟩) R s:=by
 obtain⟨hh,g,d,t,os⟩:=s;exact PySem.W.make_core (PySem.W.makes_of X hm) (PySem.W.looks_findIn X hi) (fun self=>PySem.W.bind_fn X self hf) (.inl rfl) h
end
def O5(f:Str)(v:V):List (Str×V)->List (Str×V)
 | []=>[(f,v)]
 | (g,x)::r=>if g=f then(g,v)::r else(g,x)::O5 f v r
theorem d0(f g:Str)(v:V):∀fs:List (Str×V),(O5 f v fs).lookup g=if g=f then some v else fs.lookup g
 | []=>by
  show List.lookup g [(f,v)]=_;by_cases h:g=f
  .have hb:(g == f)=true:=beq_iff_eq.mpr h;simp only[List.lookup,hb,AZ h]
  .have hb:(g == f)=false:=beq_eq_false_iff_ne.mpr h;simp only[List.lookup,hb,AR h]
 | (k,x)::r=>by
  have ih:=d0 f g v r;rw[show O5 f v ((k,x)::r) =(if k=f then(k,v)::r else(k,x)::O5 f v r)from rfl];by_cases hk:k=f
  .rw[AZ hk];by_cases h:g=k
   .have hb:(g == k)=true:=beq_iff_eq.mpr h;simp only[List.lookup,hb,AZ (h.trans hk)]
   .have hb:(g == k)=false:=beq_eq_false_iff_ne.mpr h;simp only[List.lookup,hb,AR (fun e:g=f=>h (e.trans hk.symm))]
  .rw[AR hk];by_cases h:g=k
   .have hb:(g == k)=true:=beq_iff_eq.mpr h;simp only[List.lookup,hb,AR (fun e:g=f=>hk (h.symm.trans e))]
   .have hb:(g == k)=false:=beq_eq_false_iff_ne.mpr h;simp only[List.lookup,hb];exact ih
theorem i6(f:Str)(v:V):∀fs:List (Str×V),f∈(O5 f v fs).map (·.1)/\∀g,g∈fs.map (·.1)->g∈(O5 f v fs).map (·.1)
 | []=>⟨by simp[O5],fun g h=>by simp at h⟩
 | (k,x)::r=>by
  obtain⟨i1,i2⟩:=i6 f v r;rw[show O5 f v ((k,x)::r) =(if k=f then(k,v)::r else(k,x)::O5 f v r)from rfl];by_cases hk:k=f
  .rw[AZ hk];subst hk;exact⟨by simp,fun g h=>by simpa using h⟩
  .rw[AR hk];refine⟨?_,fun g h=>?_⟩
   .rw[BS];exact AQ _ i1
   .rw[BS]at h⊢;rcases AS.mp h with e | e
    .exact AS.mpr (.inl e)
    .exact AQ _ (i2 g e)
theorem d9(f:Str)(v:V):∀fs:List (Str×V),(O5 f v fs).length<=fs.length+1
 | []=>by simp[O5]
 | (k,x)::r=>by
  have ih:=d9 f v r;rw[show O5 f v ((k,x)::r) =(if k=f then(k,v)::r else(k,x)::O5 f v r)from rfl];by_cases hk:k=f
  .rw[AZ hk,BK,BK];omega
  .rw[AR hk,BK,BK];omega
theorem RelO.some_of{v:V}{o:Option Value}(r:RelO (some v) o):∃u,o=some u/\RelV v u:=by
 cases o with
 | none=>exact(show False from r).elim
 | some u=>exact⟨u,rfl,r⟩
theorem Kg{v:V}{u:Value}(r:RelV v u):PySem.W.handedIn u=true:=by
 cases v with
 | non=>cases(show u=Value.none from r);rfl
 | bl b=>cases(show u=Value.bool b from r);rfl
 | int i=>obtain⟨t,e⟩:=(show ∃t,u=Value.int i t from r);cases e;rfl
 | str x=>obtain⟨t,e⟩:=(show ∃t,u=Value.str x t from r);cases e;rfl
 | byt b=>obtain⟨t,e⟩:=(show ∃t,u=Value.bytes b t from r);cases e;rfl
 | flt b=>obtain⟨t,e⟩:=(show ∃t,u=Value.float b t from r);cases e;rfl
 | ref a=>cases(show u=Value.ref a from r);rfl
 | ty n=>cases(show u=Value.type n from r);rfl
section
variable{P:Program}{w:World}{H H':Hp}{h h':Heap}{a C dx:Addr}{fs fs':List (Str×V)}
theorem Ey(hok:HOk P w H h)(e:H a=some (.ins C dx fs)):∃mA,ObjM h a dx C mA/\(∀f,RelO (fs.lookup f) (mA f))/\PySem.Within mA (fs.map (·.1))/\fs.length<=1000/\H dx=some (.own a):=by
 obtain⟨d,z,ne,ob,mA,n,r,q⟩:=(show ObjOk P w H h a (.ins C dx fs)from hok a _ e);exact⟨mA,⟨ob,n,ne⟩,r,q,z,d⟩
end
structure Cls(K:PySem.W.Frag)(C:Addr):Prop where
 pg:PySem.W.plainGet K C Str.empty=true
 hd:PySem.W.hasDictIn K C=true
 po:PySem.W.plainOver K C=true
 sa:PySem.W.findIn K (.ref C) "__setattr__" = some (some (.builtin "object.__setattr__"))
theorem Cls.get{K:PySem.W.Frag}{C:Addr}(c:Cls K C)(f:Str):PySem.W.plainGet K C f=true:=c.pg
def NoAttr(K:PySem.W.Frag)(C:Addr)(f:Str):Prop:=PySem.W.findIn K (.ref C) f=some none
theorem NoAttr.taker{K:PySem.W.Frag}{C:Addr}{f:Str}(n:NoAttr K C f):PySem.W.takerIn K C f=some none:=by
 unfold PySem.W.takerIn;rw[show PySem.W.findIn K (.ref C) f=some none from n];rfl
structure Meth(K:PySem.W.Frag)(C:Addr)(m:Str)(f:Addr):Prop where
 at_:PySem.W.findIn K (.ref C) m=some (some (.ref f))
 fn:PySem.W.isFn K (.ref f)=true
 kp:PySem.W.keepIn K (.ref f)=true
section
variable{X:Cx}{pins:List (Addr×Obj)}{σ:St}{H:Hp}{s:Shared}{a C dx:Addr}{fs:List (Str×V)}{f:Str}{v:V}{A:Around}{E:Value->Shared->Prop}
theorem Ht{b:Bool}{Q:Value->Shared->Prop}(I:Inv X pins σ H s)(e:H a=some (.ins C dx fs))(c:Cls X.K C)(n:NoAttr X.K C f)(l:fs.lookup f=some v)
  (h:∀u s',Inv X pins σ H s'->RelV v u->Q u s'):wpAny (model X.prog X.w) A (getAttr (.ref a) f b) Q E s:=by
 obtain⟨mA,O,r,_,_,_⟩:=Ey I.hok e;obtain⟨u,hu,ru⟩:=RelO.some_of (v:=v) (o:=mA f) (by rw[<-l];exact r f);exact Pu I.kIn O (c.get f) c.hd n hu (Kg ru) (h u _ (I.tok _) ru)
theorem Hq{y:V}{u:Value}{Q:Unit->Shared->Prop}(I:Inv X pins σ H s)(e:H a=some (.ins C dx fs))(c:Cls X.K C)(n:NoAttr X.K C f)(hl:fs.length<1000)(ry:RelV y u)
  (h:∀s',Inv X pins σ (upd H a (.ins C dx (O5 f y fs))) s'->Q () s'):wpAny (model X.prog X.w) A (setAttr (.ref a) f u) Q E s:=by
 obtain⟨mA,O,r,wi,_,ho⟩:=Ey I.hok e;have hz:(fs.map (·.1)).length<=sizeLine:=by rw[AB,sizeLine_eq];omega
 refine Qq I.kIn O c.sa c.po n.taker c.hd wi hz fun h' O' sb=>h _ ?_;have hd:∃o,h'.get? dx=some o:=let⟨o,_,_,e',_⟩:=O'.ns;⟨o,e'⟩;refine I.write (x:=a) (e:=dx) (by rw[e];exact True.intro) (.inr ho) (fun b q hb z=>(sb.2 b hb).trans z) hd ?_;refine⟨by rw[B7 O.ne];exact ho,?_,O.ne,O'.obj,_,O'.ns,fun g=>?_,fun g hg=>?_⟩
 .have:=d9 f y fs;omega
 .show RelO ((O5 f y fs).lookup g) (if g=f then some u else mA g);rw[d0];by_cases q:g=f
  .rw[AZ q,AZ q];exact ry
  .rw[AR q,AR q];exact r g
 .by_cases q:g=f
  .rw[q];exact(i6 f y fs).1
  .refine(i6 f y fs).2 g (wi g fun z=>hg ?_);show(if g=f then some u else mA g)=none;rw[AR q];exact z
theorem Inv.made(I:Inv X pins σ H s):Inv X pins σ (upd (upd H s.heap.objs.size (.own (s.heap.objs.size+1))) (s.heap.objs.size+1) (.ins C s.heap.objs.size []))
  { s with heap:=(s.heap.push PySem.W.emptyDict).push (PySem.W.instObj C s.heap.objs.size) }:=by
 have e1:(s.heap.push PySem.W.emptyDict).get? s.heap.objs.size=some PySem.W.emptyDict:=AW s.heap rfl;have e2:((s.heap.push PySem.W.emptyDict).push (PySem.W.instObj C s.heap.objs.size)).get? (s.heap.objs.size+1)=some (PySem.W.instObj C s.heap.objs.size):=by
  have:=AW (s.heap.push PySem.W.emptyDict) (o:=PySem.W.instObj C s.heap.objs.size) rfl
  rwa [BW]at this
 have e3:(s.heap.push PySem.W.emptyDict).Ns s.heap.objs.size (fun _=>none):=⟨PySem.W.emptyDict,#[],_,e1,rfl,(fun e he=>absurd he (by simp)),fun _=>rfl⟩;have I1:=I.laid (a:=s.heap.objs.size) (o:=.own (s.heap.objs.size+1)) (h':=s.heap.push PySem.W.emptyDict) (t':=s.toks) (fun b u q=>AD _ q) (Nat.le_refl _) ⟨_,e1⟩;refine I1.laid (a:=s.heap.objs.size+1) (o:=.ins C s.heap.objs.size []) (t':=s.toks) (fun b u q=>AD _ q) (Nat.le_of_eq (BW _ _)) ?_;have ne:s.heap.objs.size≠s.heap.objs.size+1:=AY (D_ _);refine⟨by rw[B7 ne,A7],B_ _,ne,e2,fun _=>none,(Heap.Ns1.of_empty e3).at fun o q=>AD _ q,fun _=>True.intro,fun y hy=>absurd rfl hy⟩
theorem Qr{prog:Program}{w:World}{env:Env}{e:Expr}{f:Str}{pos:Pos}{s:Shared}{Q:Value->Shared->Prop}(hb:attributeBase e f env (eval e env)=eval e env)
  (h:wpAny (model prog w) A (eval e env) (fun o s₁=>wpAny (model prog w) A (getAttr o f true) Q E s₁) E s):wpAny (model prog w) A (eval (.Attribute e f pos) env) Q E s :=
 Attribute_any_ h (by rw[arm_eval_Attribute,hb])
end
def Wv(K:PySem.W.Frag)(ta:TE)(f:Str):TE:=fun σ H Q=>ta σ H fun x H1=>∃a C dx fs v,x = .ref a/\H1 a=some (.ins C dx fs)/\Cls K C/\NoAttr K C f/\fs.lookup f=some v/\Q v H1
def Wl(K:PySem.W.Frag)(ta tv:TE)(f:Str):TS:=fun D σ H=>tv σ H fun y H1=>ta σ H1 fun x H2=>∃a C dx fs,x = .ref a/\H2 a=some (.ins C dx fs)/\Cls K C/\NoAttr K C f/\fs.length<1000 /\
 D.nx σ (upd H2 a (.ins C dx (O5 f y fs)))
section
variable{X:Cx}{o e value:Expr}{f:Str}{pos pos' tpos:Pos}{ta tv:TE}
theorem Ss(he:PE X e ta)(hb:attributeBase e f X.env (eval e X.env)=eval e X.env):PE X (.Attribute e f pos) (Wv X.K ta f):=by
 intro pins s σ H Q I h;refine Qr hb (thn (he pins s σ H _ I h) fun u s1 ⟨x,H1,I1,rx,a,C,dx,fs,v,ex,ea,c,n,l,q⟩=>?_);subst ex;obtain rfl:u=Value.ref a:=rx;exact Ht I1 ea c n l fun u' s2 I2 ru=>⟨v,H1,I2,ru,q⟩
theorem Uf(ha:PE X o ta)(hv:PE X value tv)(hs:swapsWith value (some (.Attribute o f pos')) pos.line X.env=pure false):PS X (.Assign [.Attribute o f pos'] value pos) (Wl X.K ta tv f):=by
 intro pins s σ H D I h;refine plainObj_wpAny_Assign_Attribute (thn (hv pins s σ H _ I h) fun u s1 ⟨y,H1,I1,ry,q⟩=>thn (ha pins s1 σ H1 _ I1 q) fun ov s2 ⟨x,H2,I2,rx,a,C,dx,fs,ex,ea,c,n,l,q2⟩=>?_) hs;subst ex;obtain rfl:ov=Value.ref a:=rx;exact Hq I2 ea c n l ry fun s3 I3=>⟨σ,_,I3,q2⟩
end
section
variable{X:Cx}{pins:List (Addr×Obj)}{σ:St}{H:Hp}{s:Shared}{A:Around}{E:Value->Shared->Prop}{Q:Value->Shared->Prop}{c:Value}{b:Bool}
inductive TyOf(K:PySem.W.Frag)(H:Hp):V->Value->Prop where
 | non:TyOf K H .non (.type "NoneType")
 | bl (x:Bool):TyOf K H (.bl x) (.type "bool")
 | int (i:Int):TyOf K H (.int i) (.type "int")
 | str (x:Str):TyOf K H (.str x) (.type "str")
 | flt (x:UInt64):TyOf K H (.flt x) (.type "float")
 | lst {a:Addr} {xs:List V} (e:H a=some (.lst xs)):TyOf K H (.ref a) (.type "list")
 | frz {a:Addr} {o:Obj} {xs:List V} (e:H a=some (.frz o (.lst xs))):TyOf K H (.ref a) (.type "list")
 | tup {a:Addr} {xs:List V} (e:H a=some (.tup xs)):TyOf K H (.ref a) (.type "tuple")
 | dK {a:Addr} {kvs:List (Key×V)} (e:H a=some (.dK kvs)):TyOf K H (.ref a) (.type "dict")
 | dT {a:Addr} {kvs:List (List Key×V)} (e:H a=some (.dT kvs)):TyOf K H (.ref a) (.type "dict")
 | ins {a C dx:Addr} {fs:List (Str×V)} (e:H a=some (.ins C dx fs)) (cl:Cls K C) (ha:PySem.W.findIn K (.ref C) "__class__" = some (some (.builtin "object.__class__")))
   (hn:PySem.W.specialIn K (.builtin "object.__class__") "__get__" = some (some (.builtin "getset_descriptor.__get__"))) (htk:PySem.W.takesIn K (.builtin "object.__class__")=some true)
   (hm:PySem.W.mroIn K C (.type "object")=some true):TyOf K H (.ref a) (.ref C)
theorem Ku{x:V}{u t:Value}(I:Inv X pins σ H s)(rx:RelV x u)(ty:TyOf X.K H x t)(e:PySem.W.kitOne X.K t c=some b)(h:∀tk,Q (.bool b) { s with toks:=tk }) :
  wpAny (model X.prog X.w) A (call (.builtin "isinstance") [u,c]) Q E s:=by
 cases ty with
 | non=>cases(show u=Value.none from rx);exact PySem.W.kia_one PySem.W.kitx_none I.kIn True.intro e (fun z=>nomatch z) h
 | bl y=>cases(show u=Value.bool y from rx);exact PySem.W.kia_one PySem.W.kitx_bool I.kIn True.intro e (fun z=>nomatch z) h
 | int i=>obtain⟨t,q⟩:=(show ∃t,u=Value.int i t from rx);cases q;exact PySem.W.kia_one PySem.W.kitx_int I.kIn True.intro e (fun z=>nomatch z) h
 | str y=>obtain⟨t,q⟩:=(show ∃t,u=Value.str y t from rx);cases q;exact PySem.W.kia_one PySem.W.kitx_str I.kIn True.intro e (fun z=>nomatch z) h
 | flt y=>obtain⟨t,q⟩:=(show ∃t,u=Value.float y t from rx);cases q;exact PySem.W.kia_one PySem.W.kitx_float I.kIn True.intro e (fun z=>nomatch z) h
 | @lst a xs ea =>
  cases(show u=Value.ref a from rx);obtain⟨_,_,n,_,h1⟩:=(show ObjOk X.prog X.w H s.heap a (.lst xs)from I.hok a _ ea);exact PySem.W.kia_one PySem.W.kitx_list I.kIn ⟨_,h1,rfl⟩ e (fun z=>nomatch z) h
 | @frz a ob xs ea =>
  cases(show u=Value.ref a from rx);obtain⟨_,_,_,n,_,h1⟩:=(show ObjOk X.prog X.w H s.heap a (.frz ob (.lst xs))from I.hok a _ ea);exact PySem.W.kia_one PySem.W.kitx_list I.kIn ⟨_,h1,rfl⟩ e (fun z=>nomatch z) h
 | @tup a xs ea =>
  cases(show u=Value.ref a from rx);obtain⟨_,_,_,p⟩:=(show ObjOk X.prog X.w H s.heap a (.tup xs)from I.hok a _ ea);obtain⟨o,h1,h2,_⟩:=p;exact PySem.W.kia_one PySem.W.kitx_tuple I.kIn ⟨o,h1,h2⟩ e (fun z=>nomatch z) h
 | @dK a kvs ea =>
  cases(show u=Value.ref a from rx);obtain⟨_,_,vs,_,p⟩:=(show ObjOk X.prog X.w H s.heap a (.dK kvs)from I.hok a _ ea);obtain⟨o,es,ep,h1,h2,_⟩:=p;exact PySem.W.kia_one PySem.W.kitx_dict I.kIn ⟨o,h1,h2.1⟩ e (fun z=>nomatch z) h
 | @dT a kvs ea =>
  cases(show u=Value.ref a from rx);obtain⟨_,_,xs,_,o,es,ep,h1,h2,_⟩:=(show ObjOk X.prog X.w H s.heap a (.dT kvs)from I.hok a _ ea);exact PySem.W.kia_one PySem.W.kitx_dict I.kIn ⟨o,h1,h2.1⟩ e (fun z=>nomatch z) h
 | @ins a C dx fs ea cl ha hn htk hm =>
  cases(show u=Value.ref a from rx);obtain⟨mA,O,_⟩:=Ey I.hok ea;obtain⟨od,J,_⟩:=O.look;exact PySem.W.kia_one (PySem.W.kitx_own (cl.get _) cl.hd ha hn htk hm) I.kIn J e (fun z=>nomatch z) h
end
structure Room(k:Nat)(A:Around):Prop where
 hd:A.handled=none
 dp:A.depth+3*k+5<recursionLimit
 un:A.units+16*k+200<cLine
theorem Room.mono{j k:Nat}{A:Around}(r:Room k A)(h:j<=k):Room j A:=⟨r.hd,by have:=r.dp;omega,by have:=r.un;omega⟩
theorem Room.deeper{k:Nat}{A:Around}(r:Room (k+1) A)(env:Env):Room k (A.deeper env) :=
 ⟨r.hd,by have:=r.dp;show A.depth+1+3*k+5<_;omega,by have:=r.un;show A.units+3+16*k+200<_;omega⟩
theorem Hf{A:Around}{C:Addr}{us:List Value}{kw:List (Str×Value)}:(A.under (.builtin "type.__call__" ⟨.ref C::us,kw⟩)).depth=A.depth+1:=by
 first | rfl | simp[Around.under,Code.weight,Code.isCreation,Code.isGuard,Code.isCaller,Code.frames,Code.isFrame,guardIds]
theorem Hy{A:Around}{C:Addr}{us:List Value}{kw:List (Str×Value)}:(A.under (.builtin "type.__call__" ⟨.ref C::us,kw⟩)).units=A.units+1:=by
 first | rfl | simp[Around.under,Code.cUnits,Code.frames,Code.isFrame]
theorem Room.make{k:Nat}{A:Around}(r:Room (k+1) A)(C:Addr)(us:List Value)(kw:List (Str×Value)):Room k (A.under (.builtin "type.__call__" ⟨.ref C::us,kw⟩)) :=
 ⟨r.hd,by have:=r.dp;rw[Hf];omega,by have:=r.un;rw[Hy];omega⟩
theorem Room.depth{k:Nat}{A:Around}(r:Room k A):A.depth<recursionLimit:=by have:=r.dp;omega
theorem Room.units{k:Nat}{A:Around}(r:Room k A):A.units+64<cLine:=by have:=r.un;omega
def Vk:TA:=fun _ H Q=>Q [] H
def Ms(ta:TE)(tr:TA):TA:=fun σ H Q=>ta σ H fun x H1=>tr σ H1 fun xs H2=>Q (x::xs) H2
section
variable{X:Cx}{e:Expr}{es:List Expr}{te:TE}{t:TA}{pos:Pos}
theorem A8:PA X [] Vk:=fun _ _ _ _ H Q I h=>Calls.spliced_nil ⟨[],H,I,.nil,h⟩
theorem A6(ha:PE X e te)(hr:PA X es t)(hs:starEach (e::es) X.env =(false,eval e X.env)::starEach es X.env:=by rfl):PA X (e::es) (Ms te t):=by
 intro pos pins s σ H Q I h;rw[hs];show wpAny _ _ (spliced ((false,eval e X.env)::backTo pos (starEach es X.env))) _ _ s;refine Calls.spliced_cons (thn (ha pins s σ H _ I h) fun u s1 ⟨x,H1,I1,r1,q1⟩=>?_);exact thn (hr pos pins s1 σ H1 _ I1 q1) fun us s2 ⟨xs,H2,I2,r2,q2⟩=>⟨x::xs,H2,I2,.cons r1 r2,q2⟩
def Xd(t:TA):TE:=fun σ H Q=>t σ H fun xs H1=>xs.length<=sizeLine/\∀p,H1 p=none->Q (.ref p) (upd H1 p (.tup xs))
def Xx(t:TA):TE:=fun σ H Q=>t σ H fun xs H1=>xs.length<=sizeLine/\∀p,H1 p=none->Q (.ref p) (upd H1 p (.lst xs))
theorem G9{x1}(h:PA X es t):PE X (.Tuple es x1 pos) (Xd t):=by
 intro pins s σ H Q I hq;refine wpAny_Tuple_spliced (thn (h pos pins s σ H _ I hq) fun us s1 ⟨xs,H1,I1,r,z,q⟩=>⟨by rw[<-r.length];exact z,?_⟩);have hf:H1 s1.heap.objs.size=none:=I1.hok.fresh (Nat.le_refl _);refine⟨.ref s1.heap.objs.size,upd H1 s1.heap.objs.size (.tup xs),I1.laid (t':=s1.toks) (fun b u e=>AD _ e) (Nat.le_refl _) ?_,rfl,q _ hf⟩;exact⟨z,us,r,⟨_,AW _ rfl,rfl,_,rfl⟩⟩
theorem D7(h:PA X es t):PE X (.List es pos) (Xx t):=by
 intro pins s σ H Q I hq;refine wpAny_List_spliced (thn (h pos pins s σ H _ I hq) fun us s1 ⟨xs,H1,I1,r,z,q⟩=>⟨by rw[<-r.length];exact z,?_⟩);have hf:H1 s1.heap.objs.size=none:=I1.hok.fresh (Nat.le_refl _);refine⟨.ref s1.heap.objs.size,upd H1 s1.heap.objs.size (.lst xs),I1.laid (t':=s1.toks) (fun b u e=>AD _ e) (Nat.le_refl _) ?_,rfl,q _ hf⟩;exact⟨z,us,0,r,AW _ rfl⟩
end
abbrev Sp:=List V->Hp->VK->XK->Prop
abbrev CXT:=List Env->Hp->Shared->XK->Value->Shared->Prop
structure Env0(P:Program)(w:World)(K:PySem.W.Frag)(mg:Str->Option Value)(base:Heap)(A:Around)(outer:List Env)(s:Shared)(H:Hp):Prop where
 frames:A.frames=some outer
 mod:Mod K mg base
 bs:∀b o,base.get? b=some o->s.heap.get? b=some o/\H b=none
 bsz:base.objs.size<=s.heap.objs.size
 funs:s.heap.FunFrames base outer
 frf:∀b∈frs outer,H b=none
 hok:HOk P w H s.heap
 bare:AllBare s.gens
def CE(outer:List Env)(P:Program)(w:World)(H:Hp)(s:Shared)(Q:VK)(u:Value)(s':Shared):Prop :=
 ∃v H',s'.os=s.os/\AllBare s'.gens/\Un (frs outer) [] H H' s.heap s'.heap/\HOk P w H' s'.heap/\RelV v u/\Q v H'
def CR(CX:CXT)(outer:List Env)(P:Program)(w:World)(H:Hp)(s:Shared)(Q:VK)(E:XK)(r:Result)(s':Shared):Prop :=
 match r with
 | .ok (.ret u)=>CE outer P w H s Q u s'
 | .ok _=>False
 | .error e=>CX outer H s E e s'
structure FnOk(P:Program)(w:World)(K:PySem.W.Frag)(mg:Str->Option Value)(base:Heap)(CX:CXT)(k:Nat)(f:Addr)(fd:FuncData)(ps:List Str)(sp:Sp):Prop where
 len:∀vs H Q E,sp vs H Q E->vs.length=ps.length
 run:∀(A:Around) (outer:List Env) (s:Shared) (H:Hp) (args:Args) (us:List Value) (vs:List V) (Q:VK) (E:XK),Room k A->Env0 P w K mg base A outer s H->BindsTo s fd args (ps.zip us)->Vals vs us->sp vs H Q E ->
  codeAny (model P w) A (.call (.ref f) args) (CR CX outer P w H s Q E) s
theorem FnOk.mono{P:Program}{w:World}{K:PySem.W.Frag}{mg:Str->Option Value}{base:Heap}{CX:CXT}{j k:Nat}{f:Addr}{fd:FuncData}{ps:List Str}{sp:Sp}(F:FnOk P w K mg base CX j f fd ps sp)(h:j<=k) :
  FnOk P w K mg base CX k f fd ps sp:=⟨F.len,fun A outer s H args us vs Q E hr=>F.run A outer s H args us vs Q E (hr.mono h)⟩
theorem Env0.make{P:Program}{w:World}{K:PySem.W.Frag}{mg:Str->Option Value}{base:Heap}{A:Around}{outer:List Env}{s:Shared}{H:Hp}(e:Env0 P w K mg base A outer s H)(C:Addr)(us:List Value)(kw:List (Str×Value)) :
  Env0 P w K mg base (A.under (.builtin "type.__call__" ⟨.ref C::us,kw⟩)) outer s H:=⟨by first | exact e.frames | (simpa [Around.under,Code.envs,Code.isFrame,pushEnvs] using e.frames),e.mod,e.bs,e.bsz,e.funs,e.frf,e.hok,e.bare⟩
section
variable{X:Cx}{pins:List (Addr×Obj)}{σ:St}{H:Hp}{s s':Shared}
theorem Inv.env0(I:Inv X pins σ H s):Env0 X.prog X.w X.K X.mg X.base X.A X.stack s H :=
 ⟨I.ok.frames,I.ok.mod,I.bs,Nat.le_trans I.ok.bsz I.sz,I.stack,I.stkFree,I.hok,I.bare⟩
theorem Inv.after{Q:VK}{u:Value}(I:Inv X pins σ H s)(h:CE X.stack X.prog X.w H s Q u s'):EP X pins σ Q u s':=by
 obtain⟨v,H',os,bare,un,hok,r,q⟩:=h;obtain⟨hh,g,d,t,os'⟩:=s';obtain rfl:os'=s.os:=os;exact⟨v,H',I.call (h':=hh) (g':=g) (d':=d) (t':=t) (ch:=[]) un hok bare (fun b z=>absurd z (by simp)),r,q⟩
end
def Mx(sp:Sp)(dvs:List V)(E:XK)(t:TA):TE:=fun σ H Q=>t σ H fun vs H1=>sp (vs++dvs) H1 Q E
def Wg(C:Addr)(sp:Sp)(dvs:List V)(E:XK)(t:TA):TE:=fun σ H Q=>t σ H fun vs H1=>∀x dx,H1 x=none->H1 dx=none->dx≠x ->
 sp (.ref x ::(vs++dvs)) (upd (upd H1 dx (.own x)) x (.ins C dx [])) (fun v H2=>v = .non/\Q (.ref x) H2) E
def Binds(K:PySem.W.Frag)(fd:FuncData)(ps:List Str)(ds:List Value):Prop :=
 ∀(s:Shared) (us:List Value),K.In s.heap->(us++ds).length=ps.length->BindsTo s fd ⟨us,[]⟩ (ps.zip (us++ds))
theorem Binds.all{K:PySem.W.Frag}{fd:FuncData}{ps:List Str}(h:∀us:List Value,us.length=ps.length->bindArgs fd ⟨us,[]⟩=pure (ps.zip us)):Binds K fd ps []:=fun s us _ hl=>by
 rw[CQ]at hl⊢;exact .of_eq (h us hl)
def Ai(CX:CXT)(X:Cx)(E:XK):Prop:=∀(pins:List (Addr×Obj)) (σ:St) (H:Hp) (s:Shared) (e:Value) (s':Shared),Inv X pins σ H s->CX X.stack H s E e s'->X.xe e s'
section
variable{X:Cx}{CX:CXT}{k:Nat}{f C:Addr}{fd:FuncData}{ps:List Str}{sp:Sp}{dvs:List V}{ds:List Value}{E:XK}{x m:Str}{p pos apos:Pos}{e o:Expr}{es:List Expr}{ta:TE}{t:TA}
theorem Ow{pins:List (Addr×Obj)}{σ:St}{H:Hp}{s:Shared}{Q:VK}{us:List Value}{vs:List V}(F:FnOk X.prog X.w X.K X.mg X.base CX k f fd ps sp)(hr:Room k X.A)(hb:Binds X.K fd ps ds)(hd:Vals dvs ds)(hx:Ai CX X E)
  (I:Inv X pins σ H s) (r:Vals vs us) (h:sp (vs++dvs) H Q E):wpAny (model X.prog X.w) X.A (call (.ref f) us) (EP X pins σ Q) X.xe s:=by
 have r2:Vals (vs++dvs) (us++ds):=r.append hd;have hl:(us++ds).length=ps.length:=by rw[<-r2.length];exact F.len _ _ _ _ h
 refine FF (EK (F.run X.A X.stack s H ⟨us,[]⟩ (us++ds) (vs++dvs) Q E hr I.env0 (hb s us I.kIn hl) r2 h) fun r s' hq=>?_);cases r with
 | error e=>exact hx pins σ H s e s' I hq
 | ok fl =>
  cases fl with
  | ret u=>exact I.after hq
  | next=>exact False.elim hq
  | brk=>exact False.elim hq
  | cont=>exact False.elim hq
theorem Io(F:FnOk X.prog X.w X.K X.mg X.base CX k f fd ps sp)(hr:Room k X.A)(hg:Gl X x)(hm:X.mg x=some (.ref f))(hk:PySem.W.keepIn X.K (.ref f)=true)(hb:Binds X.K fd ps ds)(hd:Vals dvs ds)(hx:Ai CX X E)
  (ha:PA X (e::es) t) (hdb:(x ==("__debug__":Str))=false:=by decide) (he:starEach (e::es) X.env =(false,eval e X.env)::starEach es X.env:=by rfl) (hpl:(backTo pos (starEach es X.env)).any (·.1)=false:=by rfl) :
  PE X (.Call (.Name x p) (e::es) [] pos) (Mx sp dvs E t):=by
 intro pins s σ H Q I h;refine DC (X0 I hg hm ?_ hdb);refine PySem.W.callWith_K (h₀:=X.base) I.ok.mod.kin hk (thn (ha pos pins s σ H _ I h) fun us s1 ⟨vs,H1,I1,r,q⟩=>⟨I1.kIn,?_⟩) he hpl;exact Ow F hr hb hd hx I1 r q
structure Mk(K:PySem.W.Frag)(C f:Addr):Prop where
 makes:PySem.W.makesIn K C=true
 init:PySem.W.findIn K (.ref C) "__init__" = some (some (.ref f))
 fn:PySem.W.isFn K (.ref f)=true
 kp:PySem.W.keepIn K (.ref C)=true
theorem Nm{pins:List (Addr×Obj)}{σ:St}{H:Hp}{s:Shared}{Q:VK}{us:List Value}{vs:List V}(M:Mk X.K C f)(F:FnOk X.prog X.w X.K X.mg X.base CX k f fd ps sp)(hr:Room (k+1) X.A)(hb:Binds X.K fd ps ds)(hd:Vals dvs ds)
  (hx:Ai CX X E) (I:Inv X pins σ H s) (r:Vals vs us)
  (h:∀x dx,H x=none->H dx=none->dx≠x->sp (.ref x ::(vs++dvs)) (upd (upd H dx (.own x)) x (.ins C dx [])) (fun v H2=>v = .non/\Q (.ref x) H2) E) :
  wpAny (model X.prog X.w) X.A (call (.ref C) us) (EP X pins σ Q) X.xe s:=by
 have hq:=h (s.heap.objs.size+1) s.heap.objs.size (I.hok.fresh (CL _)) (I.hok.fresh (Nat.le_refl _)) (AY (D_ _));have I2:=Inv.made (C:=C) I;have r2:Vals (V.ref (s.heap.objs.size+1) ::(vs++dvs)) (Value.ref (s.heap.objs.size+1) ::(us++ds)):=.cons rfl (r.append hd);have hl:(Value.ref (s.heap.objs.size+1)::us++ds).length=ps.length:=by
  have e:=r2.length;rw[F.len _ _ _ _ hq]at e;exact e.symm
 refine FF (Nc (f:=f) I.kIn M.makes M.init (beq_iff_eq.mp M.fn) (EK (F.run _ X.stack _ _ ⟨Value.ref (s.heap.objs.size+1)::us,[]⟩ (Value.ref (s.heap.objs.size+1) ::(us++ds)) _ _ E (hr.make C us [])
  (I2.env0.make C us []) (hb _ (Value.ref (s.heap.objs.size+1)::us) I2.kIn hl) r2 hq) fun r s' hq'=>?_))
 cases r with
 | error e=>exact hx pins σ _ _ e s' I2 hq'
 | ok fl =>
  cases fl with
  | ret u =>
   obtain⟨v,H',I3,rv,ev,q3⟩:=I2.after hq';subst ev;exact⟨rv,⟨V.ref (s.heap.objs.size+1),H',I3,rfl,q3⟩⟩
  | next=>exact False.elim hq'
  | brk=>exact False.elim hq'
  | cont=>exact False.elim hq'
theorem Rk(M:Mk X.K C f)(F:FnOk X.prog X.w X.K X.mg X.base CX k f fd ps sp)(hr:Room (k+1) X.A)(hg:Gl X x)(hm:X.mg x=some (.ref C))(hb:Binds X.K fd ps ds)(hd:Vals dvs ds)(hx:Ai CX X E)
  (ha:PA X (e::es) t) (hdb:(x ==("__debug__":Str))=false:=by decide) (he:starEach (e::es) X.env =(false,eval e X.env)::starEach es X.env:=by rfl) (hpl:(backTo pos (starEach es X.env)).any (·.1)=false:=by rfl) :
  PE X (.Call (.Name x p) (e::es) [] pos) (Wg C sp dvs E t):=by
 intro pins s σ H Q I h;refine DC (X0 I hg hm ?_ hdb);refine PySem.W.callWith_K (h₀:=X.base) I.ok.mod.kin M.kp (thn (ha pos pins s σ H _ I h) fun us s1 ⟨vs,H1,I1,r,q⟩=>⟨I1.kIn,?_⟩) he hpl;exact Nm M F hr hb hd hx I1 r q
end
structure FnScope(N P:List Str)(sc:Scope):Prop where
 kind:sc.kind = .function
 co:sc.isCoroutine=false
 gen:sc.isGenerator=false
 nd:N.Nodup
 pre:N.take P.length=P
 par:∀x∈P,sc.names.lookup x=some .local\/sc.names.lookup x=some .cell
 nofree:∀y∈sc.names,y.2≠ .free
theorem Du{kindOf:Str->Option NameKind}{x:Str}:∀{binds:List (Str×Value)} {m:Str->Option Value},(∀v,(x,v)∉binds)->bindL kindOf binds m x=m x
 | [],_,_=>rfl
 | (n,v)::r,m,h=>by
  unfold bindL;rw[Du fun w hw=>h w (AQ _ hw)];split
  .have:x≠n:=by rintro rfl;exact h v BB
   simp[this]
  .rfl
theorem Cr{kindOf:Str->Option NameKind}{x:Str}:∀{binds:List (Str×Value)} {m:Str->Option Value},(∀v,(x,v)∉binds)->bindC kindOf binds m x=m x
 | [],_,_=>rfl
 | (n,v)::r,m,h=>by
  unfold bindC;rw[Cr fun w hw=>h w (AQ _ hw)];split
  .rfl
  .have:x≠n:=by rintro rfl;exact h v BB
   simp[this]
theorem Dw{kindOf:Str->Option NameKind}{x:Str}{v:Value}:∀{P:List Str} {vs:List Value} {i:Nat} {m:Str->Option Value},P.Nodup->P[i]?=some x->vs[i]?=some v->kindOf x=some .local ->
  bindL kindOf (P.zip vs) m x=some v
 | [],_,_,_,_,h,_,_=>by simp at h
 | _::_,[],_,_,_,_,h,_=>by simp at h
 | p::P,w::vs,0,m,nd,h1,h2,hk=>by
  simp at h1 h2;subst h1;subst h2;show bindL kindOf ((p,w)::P.zip vs) m p=_;unfold bindL;rw[Du fun v hv=>(BP.mp nd).1 (FR hv).1,AZ hk];simp
 | p::P,w::vs,i+1,m,nd,h1,h2,hk=>by
  show bindL kindOf ((p,w)::P.zip vs) m x=_;unfold bindL;exact Dw (i:=i) (BP.mp nd).2 (by simpa using h1) (by simpa using h2) hk
theorem Cn{kindOf:Str->Option NameKind}{x:Str}{v:Value}:∀{P:List Str} {vs:List Value} {i:Nat} {m:Str->Option Value},P.Nodup->P[i]?=some x->vs[i]?=some v->kindOf x≠some .local ->
  bindC kindOf (P.zip vs) m x=some v
 | [],_,_,_,_,h,_,_=>by simp at h
 | _::_,[],_,_,_,_,h,_=>by simp at h
 | p::P,w::vs,0,m,nd,h1,h2,hk=>by
  simp at h1 h2;subst h1;subst h2;show bindC kindOf ((p,w)::P.zip vs) m p=_;unfold bindC;rw[Cr fun v hv=>(BP.mp nd).1 (FR hv).1,AR hk];simp
 | p::P,w::vs,i+1,m,nd,h1,h2,hk=>by
  show bindC kindOf ((p,w)::P.zip vs) m x=_;unfold bindC;exact Cn (i:=i) (BP.mp nd).2 (by simpa using h1) (by simpa using h2) hk
def u8(N:List Str)(vs:List V):St:=vs.map some++List.replicate (N.length-vs.length) none
def Mr(CX:CXT)(P:Program)(w:World)(K:PySem.W.Frag)(mg:Str->Option Value)(base:Heap)(N:List Str)(qual:Str)(scope:Scope)(f:Addr)(cd:Value)(A:Around)(outer:List Env)(s:Shared)(H:Hp)(E:XK):Cx where
 prog:=P
 w:=w
 K:=K
 mg:=mg
 base:=base
 A:=A.deeper (envOfC qual scope s.heap.objs.size f cd)
 N:=N
 s₀:=s
 H₀:=H
 env:=envOfC qual scope s.heap.objs.size f cd
 outer:=outer
 stack:=envOfC qual scope s.heap.objs.size f cd::outer
 ex:=[]
 calm:=true
 fn:=fun _=>true
 pn:=[]
 xe:=fun e s'=>wpAny (model P w) (A.deeper (envOfC qual scope s.heap.objs.size f cd)) (leaving (envOfC qual scope s.heap.objs.size f cd) e) (fun _ s''=>CX outer H s E e s'') (fun e' s''=>CX outer H s E e' s'') s'
theorem Gf{sc:Scope}{n:Nat}{x:Str}(h:sc.names.lookup x=some .cell):∃c,(cellsFrom n sc.names []).lookup x=some c:=by
 have q:=PySem.W.cellsFrom_some sc.names n [] (.inl h);exact CK.mp q
theorem Ky{CX:CXT}{P:Program}{w:World}{K:PySem.W.Frag}{mg:Str->Option Value}{base:Heap}{N ps:List Str}{qual:Str}{scope:Scope}{f:Addr}{cd:Value}{A:Around}{outer:List Env}{s s1:Shared}{H:Hp}{E:XK}{us:List Value}{vs:List V}
  (S:FnScope N ps scope) (hd:A.handled=none) (e0:Env0 P w K mg base A outer s H) (hl:vs.length=ps.length) (r:Vals vs us)
  (x:InCallC s s.heap.objs.size (bindL (envOfC qual scope s.heap.objs.size f cd).kindOf (ps.zip us) fun _=>none) (cellsFrom (s.heap.objs.size+1) scope.names []) (bindC (envOfC qual scope s.heap.objs.size f cd).kindOf (ps.zip us) fun _=>none) s1) :
  Inv (Mr CX P w K mg base N qual scope f cd A outer s H E) [] (u8 N vs) H s1:=by
 have hpl:ps.length<=N.length:=by have:=congrArg List.length S.pre;rw[AL]at this;omega
 obtain⟨h1,tk,rfl,hk⟩:=x.done;have noA:∀b:Addr,b∉(Mr CX P w K mg base N qual scope f cd A outer s H E).ex:=fun b z=>absurd (show b∈([]:List Addr)from z) (by simp);refine⟨⟨e0.mod,S.kind,rfl,rfl,Nat.le_refl _,fun y z c h1 h2=>?_,fun y hy=>?_,fun y c _ h=>?_,fun _=>hd,Around.frames_deeper e0.frames,.inr ⟨rfl,rfl⟩,fun b z=>absurd z (noA b),e0.bs,e0.bsz,fun b _ _=>noA b,fun b z=>absurd z (noA b),e0.funs,e0.frf⟩,
  rfl,e0.bare,Un.kept hk,⟨_,x.toInCall.ns,fun i y v h1 h2 h3=>?_⟩,fun y c h=>⟨_,x.cell y c h⟩,e0.hok.fresh (Nat.le_refl _),fun y c h=>?_,fun p hp=>absurd (show p∈([]:List (Addr×Obj))from hp) (by simp),e0.hok.kept hk,?_⟩
 .exact name_of_addr x.apart (PySem.mem_of_lookup h1) (PySem.mem_of_lookup h2)
 .have hy:scope.names.lookup y=some .cell\/scope.names.lookup y=some .free:=hy;rcases hy with hy | hy
  .exact Gf hy
  .exact absurd rfl (S.nofree _ (PySem.mem_of_lookup hy))
 .exact CT (x.above y c (PySem.mem_of_lookup h))
 .have hi:i<vs.length:=by
   unfold u8 at h2;by_cases hi:i<vs.length
   .exact hi
   .rw[DI (by simpa using hi)]at h2;rw[List.getElem?_replicate]at h2;split at h2<;>cases h2
  have ha:vs[i]?=some v:=by
   unfold u8 at h2;rw[DP (by simpa using hi),AG]at h2;cases e:vs[i]? with
   | none=>rw[e]at h2;cases h2
   | some a=>rw[e]at h2;cases h2;rfl
  obtain⟨u,hu,rv⟩:=r.get ha;have hp:ps[i]?=some y:=by
   rw[<-S.pre,CJ (by omega)];exact h1
  have ndP:ps.Nodup:=by rw[<-S.pre];exact S.nd.sublist (DF _ _)
  refine⟨u,rv,?_⟩;rcases S.par y (AH hp)with k | k
  .exact .inl ⟨k,Dw ndP hp hu k⟩
  .obtain⟨c,e⟩:=Gf (n:=s.heap.objs.size+1) k;refine .inr ⟨.inl k,c,e,?_⟩;have q:=x.cell y c e;rw[Cn ndP hp hu (by show scope.names.lookup y≠_;rw[k];decide)]at q;exact q
 .exact e0.hok.fresh (CT (x.above y c (PySem.mem_of_lookup h)))
 .unfold u8;show _=N.length;rw[BA,AB,List.length_replicate];omega
theorem Qc{CX:CXT}{P:Program}{w:World}{K:PySem.W.Frag}{mg:Str->Option Value}{base:Heap}{k:Nat}{f:Addr}{name qual:Str}{params:Arguments}{body:List Stmt}{scope:Scope}{dV kV doc pm cdv ct oc:Value}{an od:Option Addr}
  {osl:Array (Option Value)} {N ps:List Str} {sp:Sp} (lk:K.lookup f=some ⟨oc,od,.func (PySem.W.fnOf name qual params body scope dV kV doc pm an cdv ct),osl⟩) (hcd:PySem.W.codeIn K cdv qual=true) (S:FnScope N ps scope)
  (len:∀vs H Q E,sp vs H Q E->vs.length=ps.length)
  (hbody:∀(A:Around) (outer:List Env) (s:Shared) (H:Hp) (vs:List V) (Q:VK) (E:XK),Room k (A.deeper (envOfC qual scope s.heap.objs.size f cdv))->sp vs H Q E ->
   ∃t,PSs (Mr CX P w K mg base N qual scope f cdv A outer s H E) body t/\t { nx:=fun _ H'=>Q .non H',rt:=Q } (u8 N vs) H) :
  FnOk P w K mg base CX (k+1) f (PySem.W.fnOf name qual params body scope dV kV doc pm an cdv ct) ps sp:=by
 refine⟨len,fun A outer s H args us vs Q E hr e0 hb r hsp=>?_⟩;have hl:=len _ _ _ _ hsp;have KX:K.In s.heap:=e0.mod.kin.keeps fun b o e=>(e0.bs b o e).1;have lim:s.heap.NoLimit:=e0.mod.nolimit.keeps fun b o e=>(e0.bs b o e).1;have hkind:∀y∈ps.zip us,scope.names.lookup y.1=some .local\/(scope.names.lookup y.1=some .cell/\((cellsFrom (s.heap.objs.size+1) scope.names []).lookup y.1).isSome=true):=fun⟨n,v⟩ hy=>by
  rcases S.par n (FR hy).1 with q | q
  .exact .inl q
  .exact .inr ⟨q,PySem.W.cellsFrom_some _ _ _ (.inl q)⟩
 refine codeAny_call_function hr.depth (KX _ _ lk) rfl S.co S.gen rfl (PySem.W.codeRec_of KX hcd) (hb _ _ _ _ ?_);refine wpAny_newFunctionEnv_cells S.kind hkind fun env he s1 x=>?_;subst he;refine⟨lim.keeps x.toInCall.keep,codeAny_func ?_⟩;obtain⟨t,ht,hq⟩:=hbody A outer s H vs Q E (hr.deeper _) hsp;have I:Inv (Mr CX P w K mg base N qual scope f cdv A outer s H E) [] (u8 N vs) H s1:=Ky S hr.hd e0 hl r x;refine BR (ht [] s1 (u8 N vs) H _ I hq) (fun fl s' hs=>?_) fun e s' hs=>hs;have fin:∀{σ':St} {H':Hp} {v:V} {u:Value},Inv (Mr CX P w K mg base N qual scope f cdv A outer s H E) [] σ' H' s'->RelV v u->Q v H'->CE outer P w H s Q u s' :=
  fun{σ' H' v u} J rv q=>⟨v,H',J.os,J.bare,J.base,J.hok,rv,q⟩
 cases fl with
 | ret u =>
  obtain⟨v,σ',H',J,rv,q⟩:=hs;exact fin J rv q
 | next =>
  obtain⟨σ',H',J,q⟩:=hs;exact fin (v:=V.non) (u:=Value.none) J rfl q
 | brk =>
  obtain⟨_,_,_,q⟩:=hs;exact False.elim q
 | cont =>
  obtain⟨_,_,_,q⟩:=hs;exact False.elim q
section
variable{X:Cx}{x:Str}{p pos:Pos}{e:Expr}{es:List Expr}{t:TA}{id T:String}{r:List V->Hp->VK->Prop}
def tCB(r:List V->Hp->VK->Prop)(t:TA):TE:=fun σ H Q=>t σ H fun vs H1=>r vs H1 Q
theorem Ni(hc:F9 X (.builtin id) r)(hg:Gl X x)(hm:X.mg x=none)(hv:bootBuiltins x=some (.builtin id))(ha:PA X (e::es) t)(hn:x≠ "__name__":=by decide)(hdb:(x ==("__debug__":Str))=false:=by decide)
  (he:starEach (e::es) X.env =(false,eval e X.env)::starEach es X.env:=by rfl) (hpl:(backTo pos (starEach es X.env)).any (·.1)=false:=by rfl):PE X (.Call (.Name x p) (e::es) [] pos) (tCB r t):=by
 intro pins s σ H Q I h;refine DC (Ag I hg hm hv ?_ hn hdb);exact PyProof.Rows.callWith_builtin1 (thn (ha pos pins s σ H _ I h) fun us s1 ⟨vs,H1,I1,r1,q1⟩=>hc pins s1 σ H1 vs us Q I1 r1 q1) he hpl
theorem Jv(hc:F9 X (.type T) r)(hg:Gl X x)(hm:X.mg x=none)(hv:bootBuiltins x=some (.type T))(ha:PA X (e::es) t)(hn:x≠ "__name__":=by decide)(hdb:(x ==("__debug__":Str))=false:=by decide)
  (he:starEach (e::es) X.env =(false,eval e X.env)::starEach es X.env:=by rfl) (hpl:(backTo pos (starEach es X.env)).any (·.1)=false:=by rfl):PE X (.Call (.Name x p) (e::es) [] pos) (tCB r t):=by
 intro pins s σ H Q I h;refine DC (Ag I hg hm hv ?_ hn hdb);exact PyProof.Rows.callWith_type1 (thn (ha pos pins s σ H _ I h) fun us s1 ⟨vs,H1,I1,r1,q1⟩=>hc pins s1 σ H1 vs us Q I1 r1 q1) he hpl
end
end L2
namespace HT
open PySem PyProof.Rows
section
variable{prog:Program}{w:World}{A:Around}{E:Value->Shared->Prop}{s:Shared}
def sIx(n d:Nat):Option Int->Nat
 | none=>d
 | some v=>if v<0 then(v +(n:Int)).toNat else min v.toNat n
theorem sIx_none(n d:Nat):sIx n d none=d:=rfl
theorem sIx_nat(n d k:Nat):sIx n d (some (k:Int))=min k n:=by
 show(if(k:Int)<0 then((k:Int) +(n:Int)).toNat else min (k:Int).toNat n)=min k n;rw[AR (by omega),CY]
end
end HT
namespace L2
open PySem PySem.Spec PyProof.Rows
abbrev TO:=St->Hp->(Option Int->Hp->Prop)->Prop
def PO(X:Cx)(e:Option Expr)(t:TO):Prop :=
 ∀(pins:List (Addr×Obj)) (s:Shared) (σ:St) (H:Hp) (Q:Option Int->Hp->Prop),Inv X pins σ H s->t σ H Q ->
  wpAny (model X.prog X.w) X.A (evalPart e X.env) (fun u s'=>∃o H',Inv X pins σ H' s'/\IsPart u o/\Q o H') X.xe s
def Py:TO:=fun _ H Q=>Q none H
def Wf(t:TE):TO:=fun σ H Q=>t σ H fun x H1=>∃i,x = .int i/\Q (some i) H1
section
variable{X:Cx}{e:Expr}{te:TE}{lo hi:Option Expr}{tl th:TO}{pos p2:Pos}
theorem Bx:PO X none Py:=by
 intro pins s σ H Q I h;rw[evalPart_none];exact AE ⟨none,H,I,.none,h⟩
theorem Bv(h:PE X e te):PO X (some e) (Wf te):=by
 intro pins s σ H Q I hw;rw[evalPart_some];refine thn (h pins s σ H _ I hw) fun u s1 ⟨x,H1,I1,r1,q1⟩=>?_;obtain⟨i,rfl,q⟩:=q1;obtain⟨t,rfl⟩:=r1;exact⟨some i,H1,I1,.int i t,q⟩
def SlR(X:Cx)(r:V->Option Int->Option Int->Hp->VK->Prop):Prop :=
 ∀(pins:List (Addr×Obj)) (s:Shared) (σ:St) (H:Hp) (x:V) (v vl vu:Value) (lo hi:Option Int) (sl:Addr) (Q:VK),Inv X pins σ H s->RelV x v->s.heap.IsSliceOf sl vl vu .none->IsPart vl lo->IsPart vu hi->r x lo hi H Q ->
  ∃T id,typeLookup (.type T) "__getitem__" = pure (some (.builtin id))/\s.TypeIs v T/\wpAny (model X.prog X.w) X.A (getItem v (.ref sl)) (EP X pins σ Q) X.xe s
def tSl(r:V->Option Int->Option Int->Hp->VK->Prop)(te:TE)(tl th:TO):TE:=fun σ H Q=>te σ H fun x H1=>tl σ H1 fun l H2=>th σ H2 fun u H3=>r x l u H3 Q
theorem Z7{r:V->Option Int->Option Int->Hp->VK->Prop}(hr:SlR X r)(he:PE X e te)(hl:PO X lo tl)(hu:PO X hi th):PE X (.Subscript e (.Slice lo hi none p2) pos) (tSl r te tl th):=by
 intro pins s σ H Q I h;refine Subscript_ (thn (he pins s σ H _ I h) fun v s1 ⟨x,H1,I1,r1,q1⟩=>?_);refine wpAny_Slice (thn (hl pins s1 σ H1 _ I1 q1) fun vl s2 ⟨l,H2,I2,pl,q2⟩=>thn (hu pins s2 σ H2 _ I2 q2) fun vu s3 ⟨u,H3,I3,pu,q3⟩=>?_);rw[evalPart_none];refine AE ?_;have I4:Inv X pins σ H3 { s3 with heap:=s3.heap.push { cls:=.type "slice",data:=.fields #[vl,vu,.none] } }:=I3.kept (t':=s3.toks) fun b ob q=>AD _ q;obtain⟨T,id,hT,ht,hg⟩:=hr pins { s3 with heap:=s3.heap.push { cls:=.type "slice",data:=.fields #[vl,vu,.none] } } σ H3 x v vl vu l u s3.heap.objs.size Q I4 r1 (Heap.IsSliceOf.new ..) pl pu q3;show wpAny (model X.prog X.w) X.A (subscriptTail e (.Slice lo hi none p2) v (.ref s3.heap.objs.size)) (EP X pins σ Q) X.xe { s3 with heap:=s3.heap.push { cls:=.type "slice",data:=.fields #[vl,vu,.none] } };exact tail_any (ops:=[.ref s3.heap.objs.size,v]) ht hT hg (by with_unfolding_all rfl)
def w4(xs:List V)(lo hi:Option Int):List V:=(xs.drop (HT.sIx xs.length 0 lo)).take (HT.sIx xs.length xs.length hi-HT.sIx xs.length 0 lo)
theorem Fb(xs:List V)(lo hi:Option Int):(w4 xs lo hi).length<=xs.length:=by
 unfold w4;rw[AL,CB];omega
end
def ixN(n:Nat)(i:Int):Option Nat:=if 0<=i then(if i<n then some i.toNat else none)else if -(n:Int)<=i then some (i+n).toNat else none
def atI{α:Type}(xs:List α)(i:Int):Option α:=(ixN xs.length i).bind fun j=>xs[j]?
theorem Je{n:Nat}{i:Int}{j:Nat}(h:ixN n i=some j):seqIndex? i n=some j/\j<n/\-(n:Int)<=i/\i<n:=by
 unfold ixN at h;by_cases h0:0<=i
 .rw[AZ h0]at h;by_cases h1:i<n
  .rw[AZ h1]at h;have e:i.toNat=j:=BV h;exact⟨by rw[seqIndex_of h0 h1,e],by omega,by omega,h1⟩
  .rw[AR h1]at h;cases h
 .rw[AR h0]at h;by_cases h1:-(n:Int)<=i
  .rw[AZ h1]at h;have e:(i+n).toNat=j:=BV h;exact⟨by rw[seqIndex_neg (by omega) h1,e],by omega,h1,by omega⟩
  .rw[AR h1]at h;cases h
theorem Ll{α:Type}{xs:List α}{i:Int}{v:α}(h:atI xs i=some v):∃j,seqIndex? i xs.length=some j/\xs[j]?=some v/\j<xs.length/\-(xs.length:Int)<=i/\i<xs.length:=by
 unfold atI at h;cases e:ixN xs.length i with
 | none=>rw[e]at h;cases h
 | some j =>
  rw[e]at h;obtain⟨h1,h2,h3,h4⟩:=Je e;exact⟨j,h1,h,h2,h3,h4⟩
theorem B9{α:Type}{xs:List α}{j:Nat}{v:α}(h:xs[j]?=some v):atI xs (j:Int)=some v:=by
 have hj:j<xs.length:=(AM.mp h).1;have e:ixN xs.length (j:Int)=some j:=by
  unfold ixN;rw[AZ (by omega),AZ (by omega)];simp
 unfold atI;rw[e];exact h
def Qg(b:Expr):Prop:=∀o i,subscripted b false o i=operate [o,i] (getItem o i)
def IxR(X:Cx)(r:R2):Prop :=
 ∀(value slice:Expr) (pins:List (Addr×Obj)) (s:Shared) (σ:St) (H:Hp) (x y:V) (v u:Value) (Q:VK),Inv X pins σ H s->RelV x v->RelV y u->r x y H Q ->
  subscripted slice false v u=operate [v,u] (getItem v u)->wpAny (model X.prog X.w) X.A (subscriptTail value slice v u) (EP X pins σ Q) X.xe s
def MtR(X:Cx)(id:String)(r:V->List V->Hp->VK->Prop):Prop :=
 ∀(pins:List (Addr×Obj)) (s:Shared) (σ:St) (H:Hp) (x:V) (xs:List V) (v:Value) (us:List Value) (Q:VK),Inv X pins σ H s->RelV x v->Vals xs us->r x xs H Q ->
  wpAny (model X.prog X.w) X.A (call (.builtin id) (v::us)) (EP X pins σ Q) X.xe s
section
variable{X:Cx}{a b:Expr}{ta tb:TE}{pos:Pos}
theorem C6{r:R2}(hr:IxR X r)(ha:PE X a ta)(hb:PE X b tb)(hs:Qg b):PE X (.Subscript a b pos) (tOp r ta tb):=by
 intro pins s σ H Q I h;exact Subscript_ (Wh ha hb I h fun v u s2 x y H2 I2 rx ry q=>hr a b pins s2 σ H2 x y v u Q I2 rx ry q (hs _ _))
def Wx(K:PySem.W.Frag):R2:=fun x y H Q=>∃p xs i v,x = .ref p/\y = .int i/\SqL K H p xs/\atI xs i=some v/\Q v H
def Wu(K:PySem.W.Frag):R2:=fun x y H Q=>∃p xs i v,x = .ref p/\y = .int i/\SqT K H p xs/\atI xs i=some v/\Q v H
theorem Qn:IxR X (Wx X.K):=by
 intro value slice pins s σ H x y v u Q I rx ry h hs;obtain⟨p,xs,i,z,rfl,rfl,hq,he,q⟩:=h;cases rx;obtain⟨t,rfl⟩:=ry;obtain⟨its,r,pl,hz⟩:=I.list hq;obtain⟨j,h1,h2,h3,h4,h5⟩:=Ll he;obtain⟨w,ew,rw'⟩:=r.get h2;have hl:=r.length;have hn:=Ap;have fin:EP X pins σ Q w s:=⟨z,H,I,rw',q⟩;by_cases h0:0<=i
 .have hj:i.toNat=j:=by
   rw[seqIndex_of h0 h5]at h1;exact BV h1
  exact item_listR pl.isList h0 (by omega) (by rw[hj];simpa using ew) fin hs
 .have hj:(i +(its.toArray.size:Int)).toNat=j:=by
   rw[seqIndex_neg (by omega) h4]at h1;rw[AN,<-hl];exact BV h1
  exact subscriptTail_builtinR (x:=w) pl.isList.typeIs slot_list_getitem.lookup
   (wpAny_getItem_list_neg (Q:=fun r s'=>r=w/\EP X pins σ Q r s') pl.isList (by omega) (by rw[AN]<;>omega) (by omega) (by rw[hj];simpa using ew) ⟨rfl,fin⟩) hs
theorem Ta:IxR X (Wu X.K):=by
 intro value slice pins s σ H x y v u Q I rx ry h hs;obtain⟨p,xs,i,z,rfl,rfl,hq,he,q⟩:=h;cases rx;obtain⟨t,rfl⟩:=ry;obtain⟨its,r,pl,hz⟩:=I.tuple hq;obtain⟨j,h1,h2,h3,h4,h5⟩:=Ll he;obtain⟨w,ew,rw'⟩:=r.get h2;have hl:=r.length;have hn:=Ap;have fin:EP X pins σ Q w s:=⟨z,H,I,rw',q⟩;exact subscriptTail_builtinR (x:=w) pl.typeIs slot_tuple_getitem.lookup
  (getItem_tuple (j:=j) (Q:=fun r s'=>r=w/\EP X pins σ Q r s') pl (by omega) (by omega) (by rw[AN,<-hl];exact h1) (by simpa using ew) ⟨rfl,fin⟩) hs
theorem Hz(its:List Value)(n j:Nat)(u:Value):Obj.mapSeq (·.setIfInBounds j u) { cls:=.type "list",data:=.seq its.toArray n } ={ cls:=.type "list",data:=.seq (its.set j u).toArray n }:=by
 simp[Obj.mapSeq]
theorem Inv.lst{pins:List (Addr×Obj)}{σ:St}{H:Hp}{s:Shared}{p:Addr}{xs:List V}(I:Inv X pins σ H s)(h:H p=some (.lst xs)) :
  ∃(its:List Value) (n:Nat),Vals xs its/\s.heap.get? p=some { cls:=.type "list",data:=.seq its.toArray n }/\xs.length<=sizeLine:=by
 obtain⟨z,its,n,r,e⟩:=I.hok p _ h;exact⟨its,n,r,e,z⟩
theorem Inv.lstUpd{pins:List (Addr×Obj)}{σ:St}{H:Hp}{s:Shared}{p:Addr}{xs ys:List V}{its its':List Value}{n n':Nat}{f:Obj->Obj}(I:Inv X pins σ H s)(h:H p=some (.lst xs))
  (ho:s.heap.get? p=some { cls:=.type "list",data:=.seq its.toArray n }) (hf:f { cls:=.type "list",data:=.seq its.toArray n } ={ cls:=.type "list",data:=.seq its'.toArray n' }) (r:Vals ys its') (hz:ys.length<=sizeLine) (t:Nat) :
  Inv X pins σ (upd H p (.lst ys)) { s with heap:=s.heap.update p f,toks:=t }:=by
 have e:(s.heap.update p f).get? p=some { cls:=.type "list",data:=.seq its'.toArray n' }:=by
  rw[BT f ho (by rw[hf]<;>rfl),hf]
 refine I.write (x:=p) (e:=p) (by rw[h];trivial) (.inl rfl) (fun b u hb q=>(BJ _ _ (Ne.symm hb)).trans q) ⟨_,e⟩ ?_;exact⟨hz,its',n',r,e⟩
def Vq:V->V->V->Hp->(Hp->Prop)->Prop:=fun o i v H Q=>∃p xs k j,o = .ref p/\i = .int k/\H p=some (.lst xs)/\ixN xs.length k=some j/\Q (upd H p (.lst (xs.set j v)))
theorem Bl:Wy X Vq:=by
 intro pins s σ H o i v ov iv u Q I ro ri rv h;obtain⟨p,xs,k,j,rfl,rfl,hp,hj,q⟩:=h;cases ro;obtain⟨t,rfl⟩:=ri;obtain⟨its,n,r,ho,hz⟩:=I.lst hp;obtain⟨h1,h2,h3,h4⟩:=Je hj;have hl:=r.length;have hn:=Ap;have I':Inv X pins σ (upd H p (.lst (xs.set j v))) { s with heap:=s.heap.update p (Obj.mapSeq (·.setIfInBounds j u)) } :=
  I.lstUpd hp ho (Hz its n j u) (r.set rv j) (by rw[List.length_set];exact hz) s.toks
 by_cases h0:0<=k
 .have hk:k.toNat=j:=by
   rw[seqIndex_of h0 h4]at h1;exact BV h1
  exact PySem.W.ki_setAt ho h0 (by omega) (by rw[AN,<-hl];exact h4) (by rw[hk];exact⟨_,I',q⟩)
 .have hk:(k +(its.toArray.size:Int)).toNat=j:=by
   rw[seqIndex_neg (by omega) h3]at h1;rw[AN,<-hl];exact BV h1
  exact PySem.W.ki_setBack ho (by omega) (by rw[AN,<-hl];exact h3) (by omega) (by rw[hk];exact⟨_,I',q⟩)
theorem Cz(lo hi:Option Int)(n:Nat):(sliceBounds lo hi none n).1 =((HT.sIx n 0 lo:Nat):Int)/\(sliceBounds lo hi none n).2.1 =((HT.sIx n n hi:Nat):Int)/\(sliceBounds lo hi none n).2.2=1:=by
 refine⟨?_,?_,rfl⟩
 .cases lo with
  | none=>simp[sliceBounds,HT.sIx]
  | some i =>
   simp only[sliceBounds,HT.sIx,Option.getD_none,show(1:Int)>0 by decide,FO];by_cases h:i<0
   .simp only[h,FO]<;>omega
   .simp only[h,DR]<;>omega
 .cases hi with
  | none=>simp[sliceBounds,HT.sIx]
  | some i =>
   simp only[sliceBounds,HT.sIx,Option.getD_none,show(1:Int)>0 by decide,FO];by_cases h:i<0
   .simp only[h,FO]<;>omega
   .simp only[h,DR]<;>omega
theorem Bd(its:List Value)(lo hi:Option Int):slicePick its.toArray lo hi none =((its.drop (HT.sIx its.length 0 lo)).take (HT.sIx its.length its.length hi-HT.sIx its.length 0 lo)).toArray:=by
 obtain⟨h1,h2,h3⟩:=Cz lo hi its.toArray.size;unfold slicePick;rw[h1,h2,h3];simp only[sliceRange_one,pick_run,AN]<;>rfl
def Xa(K:PySem.W.Frag):V->Option Int->Option Int->Hp->VK->Prop:=fun x lo hi H Q=>∃a xs,x = .ref a/\SqL K H a xs/\∀p,H p=none->Q (.ref p) (upd H p (.lst (w4 xs lo hi)))
theorem Qp:SlR X (Xa X.K):=by
 intro pins s σ H x v vl vu lo hi sl Q I rx hs pl pu h;obtain⟨a,xs,rfl,hx,q⟩:=h;cases rx;obtain⟨its,r,ht,hz⟩:=I.list hx;have hlen:=r.length;refine⟨"list",_,slot_list_getitem.lookup,ht.isList.typeIs,?_⟩;refine wpAny_getItem_list_slice ht.isList hs pl pu .none (by simp) ?_ (by rw[AN]<;>omega);rw[Bd,<-hlen];refine⟨.ref s.heap.objs.size,_,I.laid (t':=s.toks) (o:=.lst (w4 xs lo hi)) (fun b ob q=>AD _ q) (Nat.le_refl _) ?_,rfl,q _ (I.hok.fresh (Nat.le_refl _))⟩;exact⟨Nat.le_trans (Fb xs lo hi) hz,_,0,(r.drop (HT.sIx xs.length 0 lo)).take (HT.sIx xs.length xs.length hi-HT.sIx xs.length 0 lo),AW _ rfl⟩
def As:V->Bool
 | .non=>true
 | .bl _=>true
 | .int _=>true
 | .str _=>true
 | _=>false
def eqV:V->V->Bool
 | .non,.non=>true
 | .bl a,.bl b=>a == b
 | .bl a,.int b=>(if a then 1 else 0) == b
 | .int a,.bl b=>a ==(if b then 1 else 0)
 | .int a,.int b=>a == b
 | .str a,.str b=>a == b
 | _,_=>false
theorem Vb{A:Around}{s:Shared}{y x:V}{u v:Value}(ry:RelV y u)(rx:RelV x v)(fy:As y=true)(fx:As x=true):SeqAt.EqAt A s u v (eqV y x):=by
 cases y with
 | non =>
  cases ry;cases x with
  | non=>cases rx;exact SeqAt.EqAt.same _
  | bl b=>cases rx;exact SeqAt.EqAt.none_bool b
  | int b=>obtain⟨t,rfl⟩:=rx;exact SeqAt.EqAt.none_int b t
  | str b=>obtain⟨t,rfl⟩:=rx;exact SeqAt.EqAt.none_str b t
  | _=>exact absurd (show false=true from fx) AU
 | bl a =>
  cases ry;cases x with
  | non=>cases rx;exact SeqAt.EqAt.bool_none a
  | bl b=>cases rx;exact SeqAt.EqAt.bool_bool a b
  | int b=>obtain⟨t,rfl⟩:=rx;exact SeqAt.EqAt.bool_int a b t
  | str b=>obtain⟨t,rfl⟩:=rx;exact SeqAt.EqAt.bool_str a b t
  | _=>exact absurd (show false=true from fx) AU
 | int a =>
  obtain⟨t',rfl⟩:=ry;cases x with
  | non=>cases rx;exact SeqAt.EqAt.int_none a t'
  | bl b=>cases rx;exact SeqAt.EqAt.int_bool a t' b
  | int b=>obtain⟨t,rfl⟩:=rx;exact SeqAt.EqAt.int_int a t' b t
  | str b=>obtain⟨t,rfl⟩:=rx;exact SeqAt.EqAt.int_str a t' b t
  | _=>exact absurd (show false=true from fx) AU
 | str a =>
  obtain⟨t',rfl⟩:=ry;cases x with
  | non=>cases rx;exact SeqAt.EqAt.str_none a t'
  | bl b=>cases rx;exact SeqAt.EqAt.str_bool a t' b
  | int b=>obtain⟨t,rfl⟩:=rx;exact SeqAt.EqAt.str_int a t' b t
  | str b=>obtain⟨t,rfl⟩:=rx;exact SeqAt.EqAt.str_str a t' b t
  | _=>exact absurd (show false=true from fx) AU
 | _=>exact absurd (show false=true from fy) AU
def eqU(x:V)(u:Value):Bool:=match u with
 | .none=>eqV .non x
 | .bool b=>eqV (.bl b) x
 | .int i _=>eqV (.int i) x
 | .str z _=>eqV (.str z) x
 | _=>false
theorem Pf{x y:V}{u:Value}(r:RelV y u)(f:As y=true):eqU x u=eqV y x:=by
 cases y with
 | non=>cases r;rfl
 | bl b=>cases r;rfl
 | int i=>obtain⟨t,rfl⟩:=r;rfl
 | str z=>obtain⟨t,rfl⟩:=r;rfl
 | _=>exact absurd (show false=true from f) AU
theorem j9{x:V}:∀{xs:List V} {us:List Value},Vals xs us->xs.all As=true->us.any (eqU x)=xs.any fun y=>eqV y x
 | _,_,.nil,_=>rfl
 | y::xs,u::us,.cons r t,f=>by
  rw[List.all_cons,CF]at f;rw[EY,EY,Pf r f.1,j9 t f.2]
theorem V2{A:Around}{s:Shared}{x:V}{v:Value}(rx:RelV x v)(fx:As x=true):∀{xs:List V} {us:List Value},Vals xs us->xs.all As=true->∀u∈us,SeqAt.EqAt A s u v (eqU x u)
 | _,_,.nil,_=>fun u hu=>by cases hu
 | y::xs,u::us,.cons r t,f=>fun u' hu=>by
  rw[List.all_cons,CF]at f;rcases AS.mp hu with rfl | hu
  .rw[Pf r f.1];exact Vb r rx f.1 fx
  .exact V2 rx fx t f.2 u' hu
def inV(x:V)(xs:List V):Bool:=xs.any fun y=>eqV y x
def rIn(K:PySem.W.Frag)(neg:Bool):R2:=fun x y H Q=>∃p xs,y = .ref p/\(SqL K H p xs\/SqT K H p xs)/\As x=true/\xs.all As=true/\Q (.bl (if neg then !inV x xs else inV x xs)) H
theorem Md:OpR X (compareOp .In) (rIn X.K false):=by
 intro pins s σ H x y v u Q I rx ry h;obtain⟨p,xs,rfl,hq,fx,fs,q⟩:=h;cases ry;rcases hq with hq | hq
 .obtain⟨its,r,pl,hz⟩:=I.list hq;refine SeqAt.in_listAt (eqU x) pl.isList (fun w hw=>V2 rx fx r fs w (by simpa using hw)) ⟨.bl _,H,I,rfl,?_⟩;rw[show its.toArray.any (eqU x)=its.any (eqU x) by simp,j9 r fs];exact q
 .obtain⟨its,r,pl,hz⟩:=I.tuple hq;refine SeqAt.in_tupleAt (eqU x) pl (fun w hw=>V2 rx fx r fs w (by simpa using hw)) ⟨.bl _,H,I,rfl,?_⟩;rw[show its.toArray.any (eqU x)=its.any (eqU x) by simp,j9 r fs];exact q
theorem Cp:OpR X (compareOp .NotIn) (rIn X.K true):=by
 intro pins s σ H x y v u Q I rx ry h;obtain⟨p,xs,rfl,hq,fx,fs,q⟩:=h;cases ry;rcases hq with hq | hq
 .obtain⟨its,r,pl,hz⟩:=I.list hq;refine SeqAt.notIn_listAt (eqU x) pl.isList (fun w hw=>V2 rx fx r fs w (by simpa using hw)) ⟨.bl _,H,I,rfl,?_⟩;rw[show its.toArray.any (eqU x)=its.any (eqU x) by simp,j9 r fs];exact q
 .obtain⟨its,r,pl,hz⟩:=I.tuple hq;refine SeqAt.notIn_tupleAt (eqU x) pl (fun w hw=>V2 rx fx r fs w (by simpa using hw)) ⟨.bl _,H,I,rfl,?_⟩;rw[show its.toArray.any (eqU x)=its.any (eqU x) by simp,j9 r fs];exact q
theorem Cw:F9 X (.builtin "len") (fun xs H Q=>∃p ys,xs = [.ref p]/\(SqL X.K H p ys\/SqT X.K H p ys)/\Q (.int ys.length) H):=by
 intro pins s σ H xs us Q I r h;obtain⟨p,ys,rfl,hq,q⟩:=h;obtain⟨u,rfl,rx⟩:=Z4 r;cases rx;have hn:=Ap;rcases hq with hq | hq
 .obtain⟨its,r',pl,hz⟩:=I.list hq;have hlen:=r'.length;exact Calls.call_len_list pl.isList (by simp only[AN]<;>omega) ⟨.int ys.length,H,I.tok _,⟨s.toks+1,by rw[AN,hlen]⟩,q⟩
 .obtain⟨its,r',pl,hz⟩:=I.tuple hq;have hlen:=r'.length;exact len_tuple pl (by simp only[AN]<;>omega) ⟨.int ys.length,H,I.tok _,⟨s.toks+1,by rw[AN,hlen]⟩,q⟩
theorem Cj:F9 X (.builtin "len") (fun xs H Q=>∃z,xs = [.str z]/\z.length<=sizeLine/\Q (.int z.length) H):=by
 intro pins s σ H xs us Q I r h;obtain⟨z,rfl,hz,q⟩:=h;obtain⟨u,rfl,t,rfl⟩:=Z4 r;have hn:=Ap;exact len_str (by omega) ⟨.int z.length,H,I.tok _,⟨_,rfl⟩,q⟩
theorem Cg:F9 X (.type "list") (fun xs H Q=>∃p ys,xs = [.ref p]/\(SqL X.K H p ys\/SqT X.K H p ys)/\∀l,H l=none->Q (.ref l) (upd H l (.lst ys))):=by
 intro pins s σ H xs us Q I r h;obtain⟨p,ys,rfl,hq,q⟩:=h;obtain⟨u,rfl,rx⟩:=Z4 r;cases rx;have fin:∀(its:List Value),Vals ys its->ys.length<=sizeLine->∀(h':Heap) (c':Nat),(∀b o',s.heap.get? b=some o'->h'.get? b=some o') ->
   h'.get? s.heap.objs.size=some { cls:=.type "list",dict:=none,data:=.seq its.toArray c',slots:=#[] }->EP X pins σ Q (.ref s.heap.objs.size) { s with heap:=h' }:=fun its r' hz h' c' kp e =>
  ⟨.ref s.heap.objs.size,_,I.laid (t':=s.toks) kp (Nat.le_refl _) (show ObjOk X.prog X.w _ h' _ (.lst ys)from⟨hz,its,c',r',e⟩),rfl,q _ (I.hok.fresh (Nat.le_refl _))⟩
 rcases hq with hq | hq
 .obtain⟨its,r',pl,hz⟩:=I.list hq;have hlen:=r'.length;obtain⟨o,ho,hc,n,hd⟩:=pl.isList;exact call_list_seq p (.inl rfl) ho hc hd (fun h' c' kp e=>fin its r' hz h' c' kp e) (by simp only[AN]<;>omega)
 .obtain⟨its,r',pl,hz⟩:=I.tuple hq;have hlen:=r'.length;obtain⟨o,ho,hc,n,hd⟩:=pl;exact call_list_seq p (.inr rfl) ho hc hd (fun h' c' kp e=>fin its r' hz h' c' kp e) (by simp only[AN]<;>omega)
def tyV(K:PySem.W.Frag)(T:String)(x:V)(H:Hp):Prop:=match x with
 | .str _=>T = "str"
 | .int _=>T = "int"
 | .ref p=>(T = "list"/\∃xs,SqL K H p xs)\/(T = "tuple"/\∃o,K.lookup p=some o/\o.cls = .type "tuple"/\o.dict=none) \/
   (T = "dict"/\((∃kvs,H p=some (.dK kvs))\/∃kvs,H p=some (.dT kvs)))\/(T = "set"/\∃S n,H p=some (.set S n))
 | _=>False
theorem Pc{pins:List (Addr×Obj)}{σ:St}{H:Hp}{s:Shared}{T:String}{x:V}{v:Value}(I:Inv X pins σ H s)(r:RelV x v)(ty:tyV X.K T x H) :
  s.TypeIs v T/\∀a,v = .ref a->∃ob,s.heap.get? a=some ob/\ob.dict=none:=by
 cases x with
 | str z =>
  obtain⟨t,rfl⟩:=r;cases(show T = "str" from ty);exact⟨typeIs_str s z t,fun _ e=>nomatch e⟩
 | int i =>
  obtain⟨t,rfl⟩:=r;cases(show T = "int" from ty);exact⟨typeIs_int s i t,fun _ e=>nomatch e⟩
 | ref p =>
  cases r;rcases ty with⟨rfl,xs,hq⟩ | ⟨rfl,o,hk,hc,hd⟩ | ⟨rfl,hk⟩ | ⟨rfl,S,n,hk⟩
  .obtain⟨its,_,pl,_⟩:=I.list hq;refine⟨pl.isList.typeIs,fun a e=>?_⟩;cases e;obtain⟨o,n,e,c,hd,_⟩:=pl;exact⟨o,e,hd⟩
  .refine⟨⟨o,I.kIn p o hk,hc⟩,fun a e=>?_⟩;cases e;exact⟨o,I.kIn _ o hk,hd⟩
  .have z:∃o,s.heap.get? p=some o/\o.ExactDict:=by
    rcases hk with⟨kvs,hk⟩ | ⟨kvs,hk⟩
    .obtain⟨_,_,_,_,o,_,_,e,ex,_⟩:=I.hok p _ hk;exact⟨o,e,ex⟩
    .obtain⟨_,_,_,_,o,_,_,e,ex,_⟩:=I.hok p _ hk;exact⟨o,e,ex⟩
   obtain⟨o,e,ex⟩:=z;refine⟨⟨o,e,ex.1⟩,fun a e2=>?_⟩;cases e2;exact⟨o,e,ex.2.1⟩
  .obtain⟨o,_,_,_,e,ex,_⟩:=I.hok p _ hk;refine⟨⟨o,e,ex.1⟩,fun a e2=>?_⟩;cases e2;exact⟨o,e,ex.2.1⟩
 | _=>exact False.elim ty
def Ww(K:PySem.W.Frag)(T:String)(r:V->List V->Hp->VK->Prop)(to:TE):TE:=fun σ H Q=>to σ H fun x H1=>tyV K T x H1/\r x [] H1 Q
def tBM(K:PySem.W.Frag)(T:String)(r:V->List V->Hp->VK->Prop)(to:TE)(t:TA):TE:=fun σ H Q=>to σ H fun x H1=>tyV K T x H1/\t σ H1 fun xs H2=>r x xs H2 Q
variable{o e:Expr}{es:List Expr}{to:TE}{t:TA}{name:Str}{apos cpos:Pos}{T id:String}{r:V->List V->Hp->VK->Prop}
theorem Tj(pa:PlainAttrs T)(slot:Slot T name id)(hty:typeOf (.builtin id)=pure (.type "method_descriptor"))(hm:MtR X id r)(ho:PE X o to)
  (hbase:attributeBase o name X.env (eval o X.env)=eval o X.env:=by rfl) (hline:(apos.endLine == cpos.line)=true:=by rfl):PE X (.Call (.Attribute o name apos) [] [] cpos) (Ww X.K T r to):=by
 intro pins s σ H Q I h;refine wpAny_Call_method0_late hbase hline (thn (ho pins s σ H _ I h) fun v s1 ⟨x,H1,I1,r1,ty,q1⟩=>?_);obtain⟨h1,h2⟩:=Pc I1 r1 ty;exact⟨T,id,pa,slot,hty,h1,h2,Calls.callWith_builtin rfl (PySem.evalArgs_none (hm pins s1 σ H1 x [] v [] Q I1 r1 .nil q1))⟩
theorem Wa(pa:PlainAttrs T)(slot:Slot T name id)(hty:typeOf (.builtin id)=pure (.type "method_descriptor"))(hm:MtR X id r)(ho:PE X o to)(ha:PA X (e::es) t)
  (hbase:attributeBase o name X.env (eval o X.env)=eval o X.env:=by rfl)
  (hfew:((backTo cpos (starEach (e::es) X.env)).all (fun x=>!x.1) &&(backToKw cpos (keywordEach [] X.env)).all (fun x=>x.1.isSome)
   && decide ((e::es).length +([]:List Keyword).length +(if([]:List Keyword).isEmpty then 0 else 1)<30))=true:=by rfl)
  (hline:(apos.endLine == cpos.line)=true:=by rfl) (hs:starEach (e::es) X.env =(false,eval e X.env)::starEach es X.env:=by rfl) (hplain:(backTo cpos (starEach es X.env)).any (·.1)=false:=by rfl) :
  PE X (.Call (.Attribute o name apos) (e::es) [] cpos) (tBM X.K T r to t):=by
 intro pins s σ H Q I h;refine wpAny_Call_method_late hbase hfew hline rfl (thn (ho pins s σ H _ I h) fun v s1 ⟨x,H1,I1,r1,ty,q1⟩=>?_);obtain⟨h1,h2⟩:=Pc I1 r1 ty;refine⟨T,id,pa,slot,hty,h1,h2,?_⟩;have hA:=ha cpos pins s1 σ H1 _ I1 q1;rw[hs]at hA⊢;refine Calls.callWith_builtin (by show(false||(backTo cpos (starEach es X.env)).any (·.1))=false;rw[hplain]<;>rfl) (Calls.evalArgs_plain ?_);exact thn hA fun us s2 ⟨vs,H2,I2,r2,q2⟩=>hm pins s2 σ H2 x vs v us Q I2 r1 r2 q2
end
def MtM(X:Cx)(id:String)(r:V->List V->Hp->VK->Prop):Prop :=
 ∀(pins:List (Addr×Obj)) (s:Shared) (σ:St) (H:Hp) (x:V) (xs:List V) (v:Value) (us:List Value) (Q:VK),Inv X pins σ H s->RelV x v->Vals xs us->r x xs H Q ->
  wpAny (model X.prog X.w) X.A (call (.builtin id) (v::us)) (EP X pins σ Q) X.xe s
theorem Vals.one:∀{x:V} {us:List Value},Vals [x] us->∃u,us = [u]/\RelV x u
 | _,_,.cons r .nil=>⟨_,rfl,r⟩
theorem Vals.two:∀{x y:V} {us:List Value},Vals [x,y] us->∃u v,us = [u,v]/\RelV x u/\RelV y v
 | _,_,_,.cons r (.cons q .nil)=>⟨_,_,rfl,r,q⟩
theorem Vals.zero:∀{us:List Value},Vals [] us->us = []
 | _,.nil=>rfl
theorem Vals.dropLast{xs:List V}{us:List Value}(h:Vals xs us):Vals xs.dropLast us.dropLast:=by
 induction h with
 | nil=>exact .nil
 | cons r t ih =>
  cases t with
  | nil=>exact .nil
  | cons q t'=>exact .cons r ih
theorem Vals.eraseIdx:∀{xs:List V} {us:List Value} (i:Nat),Vals xs us->Vals (xs.eraseIdx i) (us.eraseIdx i)
 | _,_,_,.nil=>.nil
 | _,_,0,.cons _ t=>t
 | _,_,i+1,.cons r t=>.cons r (Vals.eraseIdx i t)
theorem Hk{α:Type}(l:List α):l.eraseIdx (l.length-1)=l.dropLast:=by
 induction l with
 | nil=>rfl
 | cons a r ih =>
  cases r with
  | nil=>rfl
  | cons b r =>
   have e:(a::b::r).length-1 =((b::r).length-1)+1:=by
    have h1:(a::b::r).length=r.length+2:=rfl;have h2:(b::r).length=r.length+1:=rfl;omega
   rw[e,List.eraseIdx_cons_succ,ih]
   all_goals rfl
theorem Dk{α:Type}:∀(l:List α) (i:Nat),(l.eraseIdx i).length<=l.length
 | [],_=>Nat.le_refl _
 | _::_,0=>CL _
 | _::r,i+1=>Nat.succ_le_succ (Dk r i)
section
variable{X:Cx}{pins:List (Addr×Obj)}{σ:St}{H:Hp}{s:Shared}{l b:Addr}{xs ys zs:List V}
theorem Inv.lset{its its':List Value}{n:Nat}{f:Array Value->Array Value}{t':Nat}(I:Inv X pins σ H s)(hH:H l=some (.lst xs))
  (e:s.heap.get? l=some { cls:=.type "list",data:=.seq its.toArray n }) (hf:f its.toArray=its'.toArray) (hv:Vals ys its') (hz:ys.length<=sizeLine) :
  Inv X pins σ (upd H l (.lst ys)) { s with heap:=s.heap.update l (Obj.mapSeq f),toks:=t' }:=by
 have q:=PySem.IsL.update e f;rw[hf]at q;refine I.write (x:=l) (e:=l) (by rw[hH];exact trivial) (.inl rfl) (fun b' u hb hu=>(BJ s.heap (Obj.mapSeq f) (Ne.symm hb)).trans hu) ⟨_,q⟩ ?_;exact⟨hz,its',_,hv,q⟩
theorem Inv.lnew{its:List Value}{t':Nat}(I:Inv X pins σ H s)(hv:Vals ys its)(hz:ys.length<=sizeLine) :
  Inv X pins σ (upd H s.heap.objs.size (.lst ys)) { s with heap:=s.heap.push { cls:=.type "list",data:=.seq its.toArray },toks:=t' } :=
 I.laid (fun _ _ q=>AD _ q) (Nat.le_refl _) ⟨hz,its,0,hv,AW _ rfl⟩
theorem Inv.fresh(I:Inv X pins σ H s):H s.heap.objs.size=none:=I.hok.fresh (Nat.le_refl _)
theorem Inv.lstM(I:Inv X pins σ H s)(hH:H l=some (.lst xs)):xs.length<=sizeLine/\∃(its:List Value) (n:Nat),Vals xs its/\xs.length=its.length/\s.heap.get? l=some { cls:=.type "list",data:=.seq its.toArray n }:=by
 obtain⟨z,its,n,r,e⟩:=I.hok l _ hH;exact⟨z,its,n,r,r.length,e⟩
end
section
variable{X:Cx}
def Pq:V->List V->Hp->VK->Prop:=fun x vs H Q=>∃l xs y,x = .ref l/\vs = [y]/\H l=some (.lst xs)/\xs.length<sizeLine/\Q .non (upd H l (.lst (xs ++ [y])))
theorem J5:MtM X "list.append" Pq:=by
 intro pins s σ H x vs v us Q I rx rv h;obtain⟨l,xs,y,rfl,rfl,hH,hz,q⟩:=h;cases rx;obtain⟨u,rfl,ru⟩:=rv.one;obtain⟨z,its,n,r,hl,e⟩:=I.lstM hH;refine call_meets F.slot_list_append ⟨_,e,rfl⟩ F.entry_list_append (F.args_list_append_2 _ _) (PySem.list_append l its.toArray n u (by rw[AN];omega)) ⟨e,?_⟩;refine⟨.non,_,I.lset (its':=its ++ [u]) hH e (by simp) (r.append (.cons ru .nil)) ?_,rfl,q⟩;rw[BA,DQ];omega
def Yf:V->List V->Hp->VK->Prop:=fun x vs H Q=>∃l xs y,x = .ref l/\vs = []/\H l=some (.lst xs)/\xs[xs.length-1]?=some y/\Q y (upd H l (.lst xs.dropLast))
theorem Se:MtM X "list.pop" Yf:=by
 intro pins s σ H x vs v us Q I rx rv h;obtain⟨l,xs,y,rfl,rfl,hH,hy,q⟩:=h;cases rx;have hus:=rv.zero;subst hus;obtain⟨z,its,n,r,hl,e⟩:=I.lstM hH;obtain⟨u,hu,ru⟩:=r.get hy;have hy':its.toArray[its.toArray.size-1]?=some u:=by
  show its.toArray[its.length-1]?=some u;rw[<-BG,<-hl];exact hu
 refine call_meets F.slot_list_pop ⟨_,e,rfl⟩ F.entry_list_pop (F.args_list_pop_1 _) (MeetsSeq.list_pop_last l its.toArray n u hy' (by rw[AN];omega)) ⟨e,?_⟩;refine⟨y,_,I.lset (its':=its.dropLast) hH e ?_ r.dropLast ?_,ru,q⟩
 .show its.toArray.eraseIdxIfInBounds (its.toArray.size-1)=its.dropLast.toArray;rw[AN,List.eraseIdxIfInBounds_toArray,Hk]
 .rw[List.length_dropLast];omega
def Up:V->List V->Hp->VK->Prop:=fun x vs H Q=>∃l xs i k y,x = .ref l/\vs = [.int i]/\H l=some (.lst xs)/\-(2^63)<=i/\i<2^63/\seqIndex? i xs.length=some k/\xs[k]?=some y/\Q y (upd H l (.lst (xs.eraseIdx k)))
theorem Mt:MtM X "list.pop" Up:=by
 intro pins s σ H x vs v us Q I rx rv h;obtain⟨l,xs,i,k,y,rfl,rfl,hH,h1,h2,hk,hy,q⟩:=h;cases rx;obtain⟨u,rfl,ru⟩:=rv.one;obtain⟨t,rfl⟩:=ru;obtain⟨z,its,n,r,hl,e⟩:=I.lstM hH;obtain⟨w,hw,rw'⟩:=r.get hy;refine call_meets F.slot_list_pop ⟨_,e,rfl⟩ F.entry_list_pop (F.args_list_pop_2 _ _)
  (MeetsSeq.list_pop_at l its.toArray n i t k w (fitsIndex_both h1 h2) (by rw[AN,<-hl];exact hk) (by rw[<-BG];exact hw) (by rw[AN];omega)) ⟨e,?_⟩
 refine⟨y,_,I.lset (its':=its.eraseIdx k) hH e ?_ (r.eraseIdx k) ?_,rw',q⟩
 .show its.toArray.eraseIdxIfInBounds k =(its.eraseIdx k).toArray;rw[List.eraseIdxIfInBounds_toArray]
 .have:=Dk xs k;omega
def Ug:V->List V->Hp->VK->Prop:=fun x vs H Q=>∃l xs,x = .ref l/\vs = []/\H l=some (.lst xs)/\Q .non (upd H l (.lst []))
theorem Ol:MtM X "list.clear" Ug:=by
 intro pins s σ H x vs v us Q I rx rv h;obtain⟨l,xs,rfl,rfl,hH,q⟩:=h;cases rx;have hus:=rv.zero;subst hus;obtain⟨z,its,n,r,hl,e⟩:=I.lstM hH;refine call_meets F.slot_list_clear ⟨_,e,rfl⟩ F.entry_list_clear (F.args_list_clear_1 _) (AutoSeq1.list_clear_list_0 l its.toArray n (by rw[AN];omega)) ⟨e,?_⟩;exact⟨.non,_,I.lset (its':=[]) (ys:=[]) hH e rfl .nil (B_ _),rfl,q⟩
def Xc:R2:=fun x y H Q=>∃l b xs zs,x = .ref l/\y = .ref b/\H l=some (.lst xs)/\H b=some (.lst zs)/\xs.length+zs.length<=sizeLine/\∀p,H p=none->Q (.ref p) (upd H p (.lst (xs++zs)))
theorem T0:OpR X (binaryOp .Add) Xc:=by
 intro pins s σ H x y v u Q I rx ry h;obtain⟨l,b,xs,zs,rfl,rfl,hH,hB,hz,q⟩:=h;cases rx;cases ry;obtain⟨z,its,n,r,hl,e⟩:=I.lstM hH;obtain⟨z2,its2,n2,r2,hl2,e2⟩:=I.lstM hB;refine PySem.P.add_list e e2 ?_ (by rw[AN,AN];omega);have ea:its.toArray++its2.toArray =(its++its2).toArray:=by simp
 rw[ea];exact⟨.ref _,_,I.lnew (t':=s.toks) (r.append r2) (by rw[BA];omega),rfl,q _ I.fresh⟩
end
section
variable{U:Type}[DecidableEq U]
def b9(kvs:List (U×V))(k:U):Option V:=(kvs.find? fun kv=>decide (kv.1=k)).map (·.2)
def Ml(kvs:List (U×V))(k:U)(v:V):List (U×V) :=
 if(kvs.any fun kv=>decide (kv.1=k))=true then kvs.map (fun kv=>if kv.1=k then(kv.1,v)else kv)else kvs ++ [(k,v)]
theorem F4{p:U×V}{r:List (U×V)}{k:U}(e:p.1=k):b9 (p::r) k=some p.2:=by simp[b9,EV,e]
theorem F5{p:U×V}{r:List (U×V)}{k:U}(e:¬p.1=k):b9 (p::r) k=b9 r k:=by simp[b9,EV,e]
theorem Ay(k:U):∀kvs:List (U×V),(kvs.any fun kv=>decide (kv.1=k)) =(b9 kvs k).isSome
 | []=>rfl
 | p::r=>by
  rw[EY];by_cases e:p.1=k
  .simp only[F4 e,AI e,Bool.true_or,Option.isSome_some]
  .rw[F5 e,A_ e,Bool.false_or];exact Ay k r
theorem Fo(k j:U)(y:V):∀kvs:List (U×V),b9 (kvs.map fun kv=>if kv.1=k then(kv.1,y)else kv) j =(b9 kvs j).map fun x=>if j=k then y else x
 | []=>rfl
 | p::r=>by
  have ih:=Fo k j y r;rw[BS];by_cases h:p.1=k
  .rw[AZ h];by_cases e:p.1=j
   .rw[F4 (p:=(p.1,y)) e,F4 e,Option.map_some,AZ (e.symm.trans h)]
   .rw[F5 (p:=(p.1,y)) e,F5 e,ih]
  .rw[AR h];by_cases e:p.1=j
   .rw[F4 (p:=p) e,F4 e,Option.map_some,AR (fun z=>h (e.trans z))]
   .rw[F5 (p:=p) e,F5 e,ih]
theorem Co(k j:U)(y:V):∀kvs:List (U×V),b9 kvs k=none->b9 (kvs ++ [(k,y)]) j=if j=k then some y else b9 kvs j
 | [],_=>by
  by_cases e:k=j
  .rw[AZ e.symm];exact F4 (p:=(k,y)) e
  .rw[AR (fun z=>e z.symm)];exact F5 (p:=(k,y)) e
 | p::r,hn=>by
  rw[List.cons_append];have hk:¬p.1=k:=fun z=>by rw[F4 z]at hn;cases hn
  rw[F5 hk]at hn;have ih:=Co k j y r hn;by_cases e:p.1=j
  .rw[F4 e,F4 e,AR (fun z=>hk (e.trans z))]
  .rw[F5 e,F5 e,ih]
theorem Mu(kvs:List (U×V))(k j:U)(y:V):b9 (Ml kvs k y) j=if j=k then some y else b9 kvs j:=by
 unfold Ml;by_cases a:(kvs.any fun kv=>decide (kv.1=k))=true
 .rw[AZ a,Fo];rw[Ay]at a;by_cases e:j=k
  .obtain⟨x,hx⟩:=CK.mp a;rw[AZ e,e,hx,Option.map_some,AZ rfl]
  .rw[AR e];cases b9 kvs j with
   | none=>rfl
   | some x=>rw[Option.map_some,AR e]
 .rw[AR a];refine Co k j y kvs ?_;rw[Ay]at a;cases q:b9 kvs k with
  | none=>rfl
  | some x=>rw[q]at a;exact(a rfl).elim
theorem g7(kvs:List (U×V))(k:U)(v:V):(Ml kvs k v).length<=kvs.length+1:=by
 unfold Ml;split
 .rw[AB];omega
 .rw[BA,BK,List.length_nil];omega
theorem KV.val{kvs:List (U×V)}{vs:List (U×Value)}(r:KV kvs vs)(k:U):RelO (b9 kvs k) (valueAt vs k):=by
 unfold KV at r
 induction r with
 | nil=>exact True.intro
 | @cons p q ps qs h t ih =>
  obtain⟨h1,h2⟩:=h;by_cases e:p.1=k
  .have e':q.1=k:=h1.symm.trans e;have b:valueAt (q::qs) k=some q.2:=by simp[valueAt,EV,e']
   rw[F4 e,b];exact h2
  .have e':¬q.1=k:=fun z=>e (h1.trans z);have b:valueAt (q::qs) k=valueAt qs k:=by simp[valueAt,EV,e']
   rw[F5 e,b];exact ih
theorem KV.any{kvs:List (U×V)}{vs:List (U×Value)}(r:KV kvs vs)(k:U):(kvs.any fun kv=>decide (kv.1=k))=vs.any fun kv=>decide (kv.1=k):=by
 unfold KV at r
 induction r with
 | nil=>rfl
 | cons h t ih=>rw[EY,EY,ih,h.1]
theorem KV.repl{kvs:List (U×V)}{vs:List (U×Value)}(r:KV kvs vs)(k:U){y:V}{u:Value}(ry:RelV y u) :
  KV (kvs.map fun kv=>if kv.1=k then(kv.1,y)else kv) (vs.map fun kv=>if kv.1=k then(kv.1,u)else kv):=by
 unfold KV at r⊢
 induction r with
 | nil=>exact .nil
 | @cons p q ps qs h t ih =>
  rw[BS,BS];refine .cons ?_ ih;obtain⟨h1,h2⟩:=h;by_cases e:p.1=k
  .rw[AZ e,AZ (h1.symm.trans e)];exact⟨h1,ry⟩
  .rw[AR e,AR (fun z=>e (h1.trans z))];exact⟨h1,h2⟩
theorem KV.put{kvs:List (U×V)}{vs:List (U×Value)}(r:KV kvs vs)(k:U){y:V}{u:Value}(ry:RelV y u):KV (Ml kvs k y) (stored vs k u):=by
 unfold Ml stored;rw[r.any k];by_cases e:(vs.any fun kv=>decide (kv.1=k))=true
 .rw[AZ e,AZ e];exact r.repl k ry
 .rw[AR e,AR e];exact Paired.snoc r ⟨rfl,ry⟩
theorem KV.length{kvs:List (U×V)}{vs:List (U×Value)}(r:KV kvs vs):kvs.length=vs.length:=Paired.length r
end
theorem Pj{P:Program}{w:World}{k:Key}{u:Value}(r:RelV (kV k) u):(C9 P w).is k u=true:=by
 cases k with
 | inl i=>obtain⟨t,e⟩:=(show ∃t,u=Value.int i t from r);subst e;exact Eo P w i t
 | inr x=>obtain⟨t,e⟩:=(show ∃t,u=Value.str x t from r);subst e;exact Fc P w x t
theorem Do{P:Program}{w:World}:∀{ks:List Key} {us:List Value},Vals (ks.map kV) us->ItemsAre (C9 P w) ks us
 | [],_,r=>by rw[List.map_nil]at r;cases r;exact .nil
 | k::ks,_,r=>by
  rw[BS]at r;cases r with
  | cons h t=>exact .cons (Pj h) (Do t)
abbrev KT(H:Hp):List (List Key×V)->List (List Key×Addr×Value)->Prop:=Paired fun p q=>p.1=q.1/\H q.2.1=some (.tup (p.1.map kV))/\RelV p.2 q.2.2
theorem KT.val{H:Hp}{kvs:List (List Key×V)}{xs:List (List Key×Addr×Value)}(r:KT H kvs xs)(k:List Key):RelO (b9 kvs k) ((atKey xs k).map (·.2)):=by
 induction r with
 | nil=>exact True.intro
 | @cons p q ps qs h t ih =>
  obtain⟨h1,_,h2⟩:=h;by_cases e:p.1=k
  .have e':q.1=k:=h1.symm.trans e;have b:atKey (q::qs) k=some q.2:=by simp[atKey,EV,e']
   rw[F4 e,b];exact h2
  .have e':¬q.1=k:=fun z=>e (h1.trans z);have b:atKey (q::qs) k=atKey qs k:=by simp[atKey,EV,e']
   rw[F5 e,b];exact ih
section
variable{P:Program}{w:World}{H:Hp}{h:Heap}{a:Addr}
theorem Sx{u:HO}(ok:HOk P w H h)(e:Rd H a u):ObjOk P w H h a u:=e.ok ok
theorem Qz{kvs:List (Key×V)}(ok:HOk P w H h)(e:Rd H a (.dK kvs)):kvs.length<=sizeLine/\(a == sysModules)=false/\∃vs,KV kvs vs/\h.DictOf (C9 P w) a vs :=
 show ObjOk P w H h a (.dK kvs)from Sx ok e
theorem Vn{kvs:List (Key×V)}(ok:HOk P w H h)(e:H a=some (.dK kvs)):kvs.length<=sizeLine/\(a == sysModules)=false/\∃vs,KV kvs vs/\h.DictOf (C9 P w) a vs:=Qz ok (.inl e)
theorem Os{ks:List Key}(ok:HOk P w H h)(e:H a=some (.tup (ks.map kV))):(tupleKind (C9 P w)).is h ks a:=by
 obtain⟨_,its,r,o,h1,h2,n,h3⟩:=(show ObjOk P w H h a (.tup (ks.map kV))from ok a _ e);exact⟨o,its.toArray,n,h1,h2,h3,by simpa using Do r⟩
theorem Tr{kvs:List (List Key×V)}(ok:HOk P w H h)(e:Rd H a (.dT kvs)):kvs.length<=sizeLine/\(a == sysModules)=false /\
  ∃xs,KT H kvs xs/\h.DictOfH (tupleKind (C9 P w)) a xs:=by
 obtain⟨z,y,xs,r,o,es,ep,h1,h2,h3,h4,h5⟩:=(show ObjOk P w H h a (.dT kvs)from Sx ok e);refine⟨z,y,xs,r,o,es,ep,h1,h2,h3,h4,fun x hx=>?_,h5⟩;have all:∀{l:List (List Key×V)} {m:List (List Key×Addr×Value)},KT H l m->∀x∈m,(tupleKind (C9 P w)).is h x.1 x.2.1:=by
  intro l m q
  induction q with
  | nil=>intro x hx;exact nomatch hx
  | @cons p q ps qs hq t ih =>
   intro x hx;rcases AS.mp hx with e | hx
   .subst e;exact Os ok (by rw[<-hq.1];exact hq.2.1)
   .exact ih x hx
 exact all r x hx
end
def DGet(H:Hp)(a:Addr)(y:V)(r:Option V):Prop :=
 (∃kvs k,Rd H a (.dK kvs)/\y=kV k/\r=b9 kvs k)\/∃kvs k b,Rd H a (.dT kvs)/\y = .ref b/\H b=some (.tup (k.map kV))/\r=b9 kvs k
theorem DGet.k{H:Hp}{a:Addr}{kvs:List (Key×V)}{k:Key}(e:H a=some (.dK kvs)):DGet H a (kV k) (b9 kvs k):=.inl ⟨kvs,k,.inl e,rfl,rfl⟩
section
variable{X:Cx}{pins:List (Addr×Obj)}{σ:St}{H:Hp}{s:Shared}{a:Addr}{y v:V}{u r:Value}{o:Option V}{A:Around}{E:Value->Shared->Prop}
theorem Inv.big(I:Inv X pins σ H s):sysModules<s.heap.objs.size:=by
 have h:mainGlobals<s.heap.objs.size:=(I.mod.glob.keeps I.bk).lt;exact Nat.lt_trans (by decide) h
theorem Lh{Q:Value->Shared->Prop}(hu:A.units+1<cLine)(I:Inv X pins σ H s)(g:DGet H a y (some v))(ry:RelV y u)(h:∀w' s',Inv X pins σ H s'->RelV v w'->Q w' s') :
  wpAny (model X.prog X.w) A (getItem (.ref a) u) Q E s:=by
 rcases g with⟨kvs,k,e,ey,l⟩ | ⟨kvs,k,b,e,ey,eb,l⟩
 .subst ey;obtain⟨z,hd,vs,rel,dd⟩:=Qz I.hok e;obtain⟨w',hw,rw'⟩:=RelO.some_of (v:=v) (o:=valueAt vs k) (by rw[l];exact rel.val k);exact wpAny_getItem_of (Pj ry) dd.mapOf hw (h w' _ (I.tok _) rw')
 .subst ey;cases(show u=Value.ref b from ry);obtain⟨z,hd,xs,rel,dd⟩:=Tr I.hok e;obtain⟨w',hw,rw'⟩:=RelO.some_of (v:=v) (o:=(atKey xs k).map (·.2)) (by rw[l];exact rel.val k);obtain⟨p,hp,hp2⟩:=BC.mp hw;refine wpAny_getItem_heap (tupleKind_room_in1 hu) (Os I.hok eb) dd hp ?_;rw[hp2];exact h w' _ (I.tok _) rw'
theorem Qt{h':Heap}{t':Nat}{ob:HO}(I:Inv X pins σ H s)(mu:Mut (H a))(hs:Heap.SameBut a s.heap h')(he:∃q,h'.get? a=some q)(new:ObjOk X.prog X.w (upd H a ob) h' a ob) :
  Inv X pins σ (upd H a ob) { s with heap:=h',toks:=t' } :=
 I.write (x:=a) (e:=a) mu (.inl rfl) (fun b q hb z=>(hs.2 b hb).trans z) he new
theorem Uu{P:Program}{w:World}{H':Hp}{h':Heap}{kvs:List (Key×V)}{vs:List (Key×Value)}(z:kvs.length<=sizeLine)(hd:(a == sysModules)=false)(rel:KV kvs vs)(dd:h'.DictOf (C9 P w) a vs) :
  ObjOk P w H' h' a (.dK kvs):=⟨z,hd,vs,rel,dd⟩
end
def Wr(i:Expr):Prop:=∀ov iv,subscripted i false ov iv=operate [ov,iv] (getItem ov iv)
theorem Qk{prog:Program}{w:World}{A:Around}{E:Value->Shared->Prop}{s:Shared}{env:Env}{value slice:Expr}{pos:Pos}{T id:String}{Q:Value->Shared->Prop}
  (hl:typeLookup (.type T) "__getitem__" = pure (some (.builtin id))) (hs:Wr slice)
  (h:wpAny (model prog w) A (eval value env) (fun o s₁=>wpAny (model prog w) A (eval slice env) (fun i s₂=>s₂.TypeIs o T/\wpAny (model prog w) A (getItem o i) Q E s₂) E s₁) E s) :
  wpAny (model prog w) A (eval (.Subscript value slice pos) env) Q E s:=by
 refine Subscript_ (BR h (fun o s₁ h₁=>BR h₁ (fun i s₂ h₂=>?_) fun _ _ x=>x) fun _ _ x=>x);obtain⟨hT,h₂⟩:=h₂;unfold subscriptTail;refine AA ?_;rw[getitemInPython_of_ne hT.not_modules];refine AA (wpAny_specialOf hT hl ?_);have fin:wpAny (model prog w) A (subscripted slice false o i) (fun r s₃=>wpAny (model prog w) A (letTemporaryGo value o r >>= fun _=>pure r) Q E s₃) E s₂:=by
  rw[hs o i];exact wpAny_operating (BR h₂ (fun r s₃ h₃=>AA (wpAny_letTemporaryGo (AE h₃))) fun _ _ x=>x)
 first
  | exact AE (AA fin)
  | exact AA (AE (AA fin))
  | exact AA fin
theorem Ef{X:Cx}{pins:List (Addr×Obj)}{σ:St}{H:Hp}{s:Shared}{a:Addr}{y:V}{o:Option V}(I:Inv X pins σ H s)(g:DGet H a y o):s.TypeIs (.ref a) "dict":=by
 rcases g with⟨kvs,k,e,_,_⟩ | ⟨kvs,k,b,e,_,_,_⟩
 .obtain⟨_,_,vs,_,dd⟩:=Qz I.hok e;exact dd.typeIs
 .obtain⟨_,_,xs,_,dd⟩:=Tr I.hok e;exact dd.typeIs
def Vt(td ty:TE):TE:=fun σ H Q=>td σ H fun x H1=>ty σ H1 fun y H2=>∃a v,x = .ref a/\DGet H2 a y (some v)/\Q v H2
section
variable{X:Cx}{o i e value:Expr}{pos pos' tpos:Pos}{td ty tv:TE}
theorem Rn(hu:X.A.units+1<cLine)(ho:PE X o td)(hi:PE X i ty)(hs:Wr i):PE X (.Subscript o i pos) (Vt td ty):=by
 intro pins s σ H Q I h;refine Qk PySem.F.slot_dict_getitem.lookup hs (thn (ho pins s σ H _ I h) fun u s1 ⟨x,H1,I1,rx,q1⟩=>thn (hi pins s1 σ H1 _ I1 q1) fun iv s2 ⟨y,H2,I2,ry,a,v,ex,g,q2⟩=>?_);subst ex;obtain rfl:u=Value.ref a:=rx;exact⟨Ef I2 g,Lh hu I2 g ry fun w' s3 I3 rw'=>⟨v,H2,I3,rw',q2⟩⟩
end
theorem Mv{P:Program}{w:World}{H:Hp}(h:Heap)(hb:sysModules<h.objs.size):ObjOk P w H (h.push { cls:=.type "dict",data:=.dict #[] }) h.objs.size (.dK []) :=
 ⟨B_ _,beq_eq_false_iff_ne.mpr (Ne.symm (AY hb)),[],.nil,Heap.DictOf.new h⟩
end L2
namespace Att
open PySem PySem.W PySem.Calls PyProof.Rows
theorem j7{P:Params}{h:Heap}:∀(ns:List Int) (vs:List Value),WellAll P h vs (ns.map WData.int)->IntsAre vs ns:=by
 intro ns
 induction ns with
 | nil =>
  intro vs w;rw[List.map_nil]at w;cases w;exact .nil
 | cons n ns ih =>
  intro vs w;rw[BS]at w;cases w with
  | cons a b =>
   cases a;exact .cons _ _ (ih _ b)
theorem Kl{l:OpenLaw}{n:Nat}(hn:l.most=some n){P:Params}{h:Heap}{args:List WData}{vals:List Value}
  (hpre:l.row.toRowW.claim.pre args=true) (hwl:WellAll P h vals args) :
  ∃a vs ns,vals = [Value.ref a]/\args = [WData.list (ns.map WData.int)]/\h.get? a=some { cls:=.type "list",data:=.seq vs.toArray }/\IntsAre vs ns/\ns.length<=n:=by
 have hsh:WShape.hasAll [] args [.list .int]=true:=(pre_splitW hpre).1;have hc:l.pre.holds [] { args:=args }=true:=(pre_splitW hpre).2;obtain⟨d,r,rfl,h1,h2⟩:=hasAllW_cons hsh;obtain rfl:=hasAllW_nil h2;obtain⟨xs,rfl,h3⟩:=hasW_list h1;obtain⟨ns,rfl⟩:=items_int h3;have hlen:ns.length<=n:=by
  unfold OpenLaw.pre at hc;have h4:(WTm.not (.lt (.lit (.int (n:Int))) (.len (.arg 0)))).holds [] { args:=[.list (ns.map .int)] }=true:=by
   have h4:=(holds_andW hc).1;rw[hn]at h4;exact h4
  have h5:=condW_of h4 (w_not (w_lt w_lit (w_len_list (w_arg rfl))));rw[AB]at h5;refine Nat.le_of_not_lt fun q=>?_;have q':(n:Int) <((ns.length:Nat):Int):=by omega
  first
   | (rw[AI q']at h5;exact absurd h5 (by decide))
   | (simp at h5;omega)
 cases hwl with
 | cons w1 w2 =>
  cases w2;cases w1 with
  | list ho hall=>exact⟨_,_,ns,rfl,rfl,ho,j7 ns _ hall,hlen⟩
theorem Iq(l:OpenLaw)(args:List WData):l.row.toRowW.claim.post args (.bool true) args=true :=
 postW_of (r:=l.row.toRowW) (X:=(true == true))
  (show WShape.has [] (.bool true) .bool=true by first | rfl | decide | simp[WShape.has,WShape.arms,WShape.armsAll])
  (show(WTm.eq .res (.lit (.bool true))).value [] { args:=args,res:=some (.bool true),after:=args }=some (.bool (true == true))from w_eq_bool (w_res rfl) w_lit) rfl
theorem attach_call{l:OpenLaw}{n:Nat}{q:Program}{loose:List Str}{XP:(Str->Option Value)->Heap->Prop}{YP:World->Heap->Prop}{d:DefRec}
  (hn:l.most=some n) (hdf:d.params.defaults = [])
  (call:∀(w:World) (s₀ s₁:Shared) (mg mb:Str->Option Value) (fa:Addr) (o:Obj) (pm cd doc:Value) (a:Addr) (vs:List Value) (ns:List Int),
   Ground q loose [] XP w s₀ mg mb s₁.heap->YP w s₁.heap ->
   s₁.heap.get? fa=some o->o.data = .func (docDef d.name d.params d.body d.scope pm cd doc)->s₁.heap.CodeRec cd d.name->mg d.name=some (.ref fa) ->
   s₁.heap.get? a=some { cls:=.type "list",data:=.seq vs.toArray }->IntsAre vs ns->ns.length<=n->s₁.gens = #[] ->
   codeAny (model l.prog w) callerA (.call (.ref fa) ⟨[.ref a],[]⟩) (fun r s'=>r = .ok (.ret (.bool true))/\OldK s₁.heap s'.heap/\s'.os=s₁.os/\AllBare s'.gens) s₁) :
  WalkO q loose XP YP l.row.toRowW d [] (fun f vs=>PySem.call f vs):=by
 intro w s₀ s₁ mg mb G Y fa o pm cd doc dV kV ho hd hcd hD hmg hg args vals as hpre hlay hrd hwl hlo;obtain rfl:dV = .none:=Dflts.none hD hdf;obtain rfl:kV = .none:=Dflts.noKw hD;obtain⟨a,vs,ns,rfl,rfl,hobj,hints,hlen⟩:=Kl hn hpre hwl;refine enter_call (EK (call w s₀ s₁ mg mb fa o pm cd doc a vs ns G Y ho (fd_plain hd) hcd hmg hobj hints hlen hg) fun r s' hq=>?_);obtain⟨rfl,h2,h3,h4⟩:=hq;exact⟨.inl ⟨.bool true,.bool true,[],rfl,fun _=>rfl,.bool true,Iq l _,fun _=>⟨List.Pairwise.nil,fun _ hm=>(nomatch hm)⟩⟩,h2,h3,h4⟩
end Att
namespace L2
open PySem PySem.Spec PyProof.Rows
theorem Cs:∀{vs:List Value} {ns:List Int},IntsAre vs ns->Vals (ns.map V.int) vs
 | _,_,.nil=>.nil
 | _,_,.cons n t h=>.cons ⟨t,rfl⟩ (Cs h)
def Ma(s:Stmt)(j:Nat):Stmt:=match s with
 | .ClassDef _ _ _ body _ _ _ _ _ _ _=>body.getD j (.Pass ⟨0,0,0,0⟩)
 | _=>.Pass ⟨0,0,0,0⟩
def O9(s:Stmt):Arguments:=match s with
 | .FunctionDef _ a _ _ _ _ _ _ _ _=>a
 | _=>{ posonlyargs:=[],args:=[],vararg:=none,kwonlyargs:=[],kw_defaults:=[],kwarg:=none,defaults:=[] }
def J4(s:Stmt):List Stmt:=match s with
 | .FunctionDef _ _ b _ _ _ _ _ _ _=>b
 | _=>[]
def B6(s:Stmt):Scope:=match s with
 | .FunctionDef _ _ _ _ _ _ sc _ _ _=>sc
 | _=>{ kind:=.function,names:=[],isGenerator:=false,isCoroutine:=false }
abbrev CX0:CXT:=fun _ _ _ _ _ _=>False
abbrev E0:XK:=fun _ _ _=>False
theorem Rt{X:Cx}:Ai CX0 X E0:=fun _ _ _ _ _ _ _ h=>h.elim
structure Fun(K:PySem.W.Frag)(x qual:Str)(st:Stmt)(f:Addr)(fd:FuncData):Prop where
 ex:∃(oc:Value) (od:Option Addr) (kV doc pm:Value) (an:Option Addr) (cdv ct:Value) (osl:Array (Option Value)),
  fd=PySem.W.fnOf x qual (O9 st) (J4 st) (B6 st) .none kV doc pm an cdv ct/\K.lookup f=some ⟨oc,od,.func fd,osl⟩/\PySem.W.codeIn K cdv qual=true
 kp:PySem.W.keepIn K (.ref f)=true
section
variable{P:Program}{w:World}{K:PySem.W.Frag}{mg:Str->Option Value}{base:Heap}
theorem Fun.ok{x qual:Str}{st:Stmt}{f:Addr}{fd:FuncData}{N ps:List Str}{k:Nat}{sp:Sp}(F:Fun K x qual st f fd)(S:FnScope N ps (B6 st))(len:∀vs H Q E,sp vs H Q E->vs.length=ps.length)
  (hbody:∀(cdv:Value) (A:Around) (outer:List Env) (s:Shared) (H:Hp) (vs:List V) (Q:VK) (E:XK),Room k (A.deeper (envOfC qual (B6 st) s.heap.objs.size f cdv))->sp vs H Q E ->
   ∃t,PSs (Mr CX0 P w K mg base N qual (B6 st) f cdv A outer s H E).nox (J4 st) t/\t { nx:=fun _ H'=>Q .non H',rt:=Q } (u8 N vs) H):FnOk P w K mg base CX0 (k+1) f fd ps sp:=by
 obtain⟨oc,od,kV,doc,pm,an,cdv,ct,osl,rfl,lk,hcd⟩:=F.ex;refine Qc lk hcd S len fun A outer s H vs Q E hr hsp=>?_;obtain⟨t,h,q⟩:=hbody cdv A outer s H vs Q E hr hsp;exact⟨t,h.nox,q⟩
theorem Fun.binds{x qual:Str}{st:Stmt}{f:Addr}{fd:FuncData}{ps:List Str}(F:Fun K x qual st f fd)
  (h:∀(kV doc pm:Value) (an:Option Addr) (cdv ct:Value) (us:List Value),us.length=ps.length->bindArgs (PySem.W.fnOf x qual (O9 st) (J4 st) (B6 st) .none kV doc pm an cdv ct) ⟨us,[]⟩=pure (ps.zip us)):Binds K fd ps []:=by
 obtain⟨oc,od,kV,doc,pm,an,cdv,ct,osl,rfl,lk,hcd⟩:=F.ex;exact .all (h kV doc pm an cdv ct)
theorem fun_mk{x qual:Str}{st:Stmt}{f:Addr}{oc:Value}{od an:Option Addr}{osl:Array (Option Value)}{kV doc pm cdv ct:Value}(l:K.lookup f=some ⟨oc,od,.func (PySem.W.fnOf x qual (O9 st) (J4 st) (B6 st) .none kV doc pm an cdv ct),osl⟩)
  (c:PySem.W.codeIn K cdv qual=true) (k:PySem.W.keepIn K (.ref f)=true):Fun K x qual st f (PySem.W.fnOf x qual (O9 st) (J4 st) (B6 st) .none kV doc pm an cdv ct):=⟨⟨oc,od,kV,doc,pm,an,cdv,ct,osl,rfl,l,c⟩,k⟩
end
theorem Jn{A:Around}{k:Nat}(hr:Room k A):A.units+1<cLine:=Nat.lt_of_le_of_lt (EM (by decide:1<=64) _) hr.units
section
variable{X:Cx}
theorem pv(i:Nat){x:Str}{pos:Pos}(hN:X.N[i]?=some x:=by rfl)(hv:Vis X.env.scope x:=by first | exact Or.inl rfl | exact Or.inr (Or.inl rfl) | exact Or.inr (Or.inr rfl))(hd:(x ==("__debug__":Str))=false:=by decide)
  (hcd:(x ==("__classdict__":Str))=false:=by decide):PE X (.Name x pos) (Vo i):=Jw hN hv hd hcd
end
theorem Q1{A B:Prop}(h:B):if false=true then A else B:=by
 rw[AR AU];exact h
theorem Y5{A B:Prop}(h:A):if true=true then A else B:=by
 rw[AZ rfl];exact h
theorem Ak{c A B:Prop}[Decidable c](h1:c->A)(h2:¬c->B):if c then A else B:=by
 by_cases h:c
 .rw[AZ h];exact h1 h
 .rw[AR h];exact h2 h
def Same(H H':Hp):Prop:=∀b o,H b=some o->H' b=some o
theorem Same.refl(H:Hp):Same H H:=fun _ _ h=>h
theorem Same.trans{H H1 H2:Hp}(a:Same H H1)(b:Same H1 H2):Same H H2:=fun c o h=>b c o (a c o h)
theorem Same.free{H H':Hp}(e:Same H H'){l:Addr}(h:H' l=Option.none):H l=Option.none:=by
 cases q:H l with
 | none=>rfl
 | some o =>
  rw[e l o q]at h;cases h
section
variable{U:Type}[DecidableEq U]
theorem Kq:∀{l:List U} {k:U},l.Nodup->¬k∈l->(l ++ [k]).Nodup
 | [],k,_,_=>by simp
 | a::r,k,h,hk=>by
  obtain⟨h1,h2⟩:=BP.mp h;show(a ::(r ++ [k])).Nodup;refine BP.mpr ⟨fun m=>?_,Kq h2 fun m=>hk (AS.mpr (Or.inr m))⟩;rcases AK.mp m with q | q
  .exact h1 q
  .exact hk (AS.mpr (Or.inl (AC.mp q).symm))
end
def cxC(X:Cx)(scope:Scope)(cl:List (Str×Addr))(N':List Str)(pins:List (Addr×Obj))(ex:List Addr)(s3:Shared)(H3:Hp):Cx where
 prog:=X.prog
 w:=X.w
 K:=X.K
 mg:=X.mg
 base:=X.base
 A:=X.A
 N:=N'
 s₀:=s3
 H₀:=H3
 env:=compEnvC scope cl s3.heap.objs.size X.env
 outer:=X.stack
 stack:=X.stack
 ex:=ex
 fn:=fun _=>false
 calm:=X.calm
 pn:=X.pn++pins
 xe:=fun _ _=>False
def Caps(X:Cx)(scope:Scope)(cl:List (Str×Addr)):List Str->List (Option Nat)->Prop
 | [],[]=>True
 | _::N,none::c=>Caps X scope cl N c
 | x::N,some j::c=>(X.N[j]?=some x/\X.env.scope.names.lookup x=some .cell/\(relabel scope X.env).names.lookup x=some .cell/\cl.lookup x=X.env.cells.lookup x)/\Caps X scope cl N c
 | _,_=>False
def ClIn(X:Cx):List (Str×Addr)->Prop
 | []=>True
 | p::r=>X.env.cells.lookup p.1=some p.2/\ClIn X r
structure CScope(X:Cx)(scope:Scope)(cl:List (Str×Addr))(N':List Str)(cap:List (Option Nat)):Prop where
 kind:scope.kind = .function
 nocell:∀y∈scope.names,y.2≠ .cell
 loc:∀y∈scope.names,y.2 = .local->scope.names.lookup y.1=some .local
 clos:closureFor scope X.env=pure cl
 cin:ClIn X cl
 has:((relabel scope X.env).names.all fun y=>!(y.2 == .cell||y.2 == .free)||(cl.lookup y.1).isSome)=true
 caps:Caps X scope cl N' cap
def Il(cap:List (Option Nat))(σ:St):St:=cap.map fun o=>o.bind fun j=>(σ[j]?).join
theorem ClIn.get{X:Cx}:∀{cl:List (Str×Addr)} {x:Str} {c:Addr},ClIn X cl->cl.lookup x=some c->X.env.cells.lookup x=some c
 | [],_,_,_,h=>by simp at h
 | (y,d)::r,x,c,⟨h1,h2⟩,h=>by
  rw[EN]at h;cases e:x == y with
  | true =>
   rw[e]at h;cases h;rw[beq_iff_eq.mp e];exact h1
  | false =>
   rw[e]at h;exact ClIn.get h2 h
theorem Caps.len{X:Cx}{scope:Scope}{cl:List (Str×Addr)}:∀{N:List Str} {cap:List (Option Nat)},Caps X scope cl N cap->cap.length=N.length
 | [],[],_=>rfl
 | _::N,none::c,h=>by rw[BK,BK,Caps.len (N:=N) (cap:=c) h]
 | _::N,some j::c,h=>by rw[BK,BK,Caps.len h.2]
 | [],_::_,h=>h.elim
 | _::_,[],h=>h.elim
theorem Caps.get{X:Cx}{scope:Scope}{cl:List (Str×Addr)}{j:Nat}{x:Str}:∀{N:List Str} {cap:List (Option Nat)} {i:Nat},Caps X scope cl N cap->N[i]?=some x->cap[i]?=some (some j) ->
  X.N[j]?=some x/\X.env.scope.names.lookup x=some .cell/\(relabel scope X.env).names.lookup x=some .cell/\cl.lookup x=X.env.cells.lookup x
 | [],_,_,_,h,_=>by simp at h
 | _::_,[],_,_,_,h=>by simp at h
 | y::N,none::c,0,_,_,h=>by simp at h
 | y::N,none::c,i+1,h,h1,h2=>Caps.get (N:=N) (cap:=c) (i:=i) h (by simpa using h1) (by simpa using h2)
 | y::N,some k::c,0,h,h1,h2=>by
  simp at h1 h2;subst h1;subst h2;exact h.1
 | y::N,some k::c,i+1,h,h1,h2=>Caps.get (N:=N) (cap:=c) (i:=i) h.2 (by simpa using h1) (by simpa using h2)
section
variable{X:Cx}{scope:Scope}{cl:List (Str×Addr)}{N':List Str}{cap:List (Option Nat)}{pins:List (Addr×Obj)}{σ:St}{H3:Hp}{s3:Shared}{ex:List Addr}
theorem V4{p:NameKind->Bool}:∀{names:List (Str×NameKind)} {q:Str->NameKind->Bool} {x:Str} {k:NameKind},(names.all fun y=>q y.1 y.2)=true->names.lookup x=some k->q x k=true
 | [],_,_,_,_,h=>by simp at h
 | (y,d)::r,q,x,k,ha,h=>by
  rw[List.all_cons,CF]at ha;rw[EN]at h;cases e:x == y with
  | true =>
   rw[e]at h;cases h;rw[beq_iff_eq.mp e];exact ha.1
  | false =>
   rw[e]at h;exact V4 (p:=p) (names:=r) (q:=q) ha.2 h
theorem Inv.block(I:Inv X pins σ H3 s3)(S:CScope X scope cl N' cap)(hc:X.calm=true)(hex:∀b∈ex,Z9 X pins H3 b/\∃o,s3.heap.get? b=some o){h1:Heap}{tk:Nat}
  (hns:h1.Ns s3.heap.objs.size (fun _=>none)) (hk:∀b o,s3.heap.get? b=some o->h1.get? b=some o) :
  Inv (cxC X scope cl N' pins ex s3 H3) [] (Il cap σ) H3 { s3 with heap:=h1,toks:=tk }:=by
 have lt3:∀b o,s3.heap.get? b=some o->b≠s3.heap.objs.size:=fun b o e=>AY (AF e);have hcell:∀x c,cl.lookup x=some c->∃v,s3.heap.IsCell c v:=fun x c e=>I.cell x c (S.cin.get e);have hfree:H3 s3.heap.objs.size=none:=I.hok.fresh (Nat.le_refl _);refine⟨⟨I.ok.mod,?_,I.ok.glob,I.ok.blt,Nat.le_refl _,fun x y c e1 e2=>I.ok.inj x y c (S.cin.get e1) (S.cin.get e2),fun x hx=>?_,fun x c h _=>absurd h AU,I.ok.hd,I.ok.frames,.inl rfl,fun b hb=>?_,I.bs,Nat.le_trans I.ok.bsz I.sz,fun b o e hb=>?_,fun b hb=>?_,I.stack,I.stkFree⟩,
  rfl,I.bare,Un.kept hk,⟨_,hns,fun i x v e1 e2 e3=>?_⟩,fun x c e=>?_,hfree,fun x c e=>I.freeC x c (S.cin.get e),fun p hp=>?_,I.hok.kept hk,?_⟩
 .exact S.kind
 .have q:∀k,(relabel scope X.env).names.lookup x=some k->(!(k == .cell||k == .free)||(cl.lookup x).isSome)=true:=fun k e=>V4 (p:=fun _=>true) (q:=fun a k=>!(k == .cell||k == .free)||(cl.lookup a).isSome) S.has e;have hx':(relabel scope X.env).names.lookup x=some .cell\/(relabel scope X.env).names.lookup x=some .free:=hx;have:(cl.lookup x).isSome=true:=by
   rcases hx' with e | e
   .exact q _ e
   .exact q _ e
  exact CK.mp this
 .obtain⟨⟨_,_,_,_,f4,_⟩,o,e⟩:=hex b hb;exact⟨lt3 b o e,fun x c ec=>f4 x c (S.cin.get ec)⟩
 .obtain⟨⟨f0,f1,f2,f3,_⟩,_⟩:=hex b hb;rcases f3 with f3 | f3
  .exact I.ok.noex b o e f3
  .have:=(I.ok.bs b o e).1;exact absurd (AX (AF this) f3) (CD _)
 .intro hf;obtain⟨⟨_,f1,f2,_⟩,_⟩:=hex b hb;rcases AS.mp (I.stkSub b hf)with z | z
  .exact f1 z
  .exact f2 z
 .unfold Il at e2;rw[AG]at e2;cases ec:cap[i]? with
  | none=>rw[ec]at e2;cases e2
  | some o =>
   rw[ec]at e2;cases o with
   | none=>cases e2
   | some j =>
    have e2':(σ[j]?).join=some v:=BV e2;obtain⟨c1,c2,c3,c4⟩:=S.caps.get e1 ec;have ej:σ[j]?=some (some v):=by
     cases ej:σ[j]? with
     | none=>rw[ej]at e2';cases e2'
     | some z=>rw[ej]at e2';cases z with
      | none=>cases e2'
      | some z=>cases e2';rfl
    obtain⟨m,hn,hl⟩:=I.loc;obtain⟨u,r,l⟩:=hl j x v c1 ej (.inr (.inl c2));refine⟨u,r,?_⟩;rcases l with⟨k,_⟩ | ⟨_,c,hc',hcell'⟩
    .have:X.env.scope.names.lookup x=some .local:=k;rw[c2]at this;cases this
    .exact .inr ⟨.inl c3,c,c4.trans hc',let⟨o,ho,hd⟩:=hcell';⟨o,hk _ _ ho,hd⟩⟩
 .obtain⟨v,o,ho,hd⟩:=hcell x c e;exact⟨v,o,hk _ _ ho,hd⟩
 .have hp':p∈X.pn++pins:=by simpa [cxC] using hp
  obtain⟨e,n,ne,nf,d⟩:=I.pin p hp';refine⟨hk _ _ e,n,lt3 _ _ e,fun hf=>?_,d⟩;rcases AS.mp (I.stkSub p.1 hf)with z | z
  .exact ne z
  .exact nf z
 .unfold Il;rw[AB];exact S.caps.len
theorem Inv.unblock{σ':St}{H':Hp}{s':Shared}{h':Heap}(I:Inv X pins σ H3 s3)(hex:∀b∈ex,Z9 X pins H3 b)(J:Inv (cxC X scope cl N' pins ex s3 H3) [] σ' H' s')(hb:Heap.SameBut s3.heap.objs.size s'.heap h') :
  Inv X pins σ H' { s' with heap:=h' }:=by
 have hfr:H' s3.heap.objs.size=none:=J.free;refine I.call' (ch:=ex) J.os ⟨fun b o e n h1 h2=>?_,fun b o e n h1 h2=>?_,fun b o e n h2=>?_,fun b o e h2=>?_,J.base.tups,J.base.frzs,J.base.tbls⟩ (fun b ob e=>?_) J.bare fun b hbx=>?_
 .exact(hb.2 b (AY (AF e))).trans (J.base.keep b o e n h1 h2)
 .obtain⟨sl,q⟩:=J.base.slot b o e n h1 h2;exact⟨sl,(hb.2 b (AY (AF e))).trans q⟩
 .exact J.base.free b o e n h2
 .obtain⟨o',q⟩:=J.base.there b o e h2;exact⟨o',(hb.2 b (AY (AF e))).trans q⟩
 .refine(J.hok b ob e).stay (fun c w' hc q=>(hb.2 c ?_).trans q) (fun _ q=>q) fun _ _ q=>q;rintro rfl;rcases hc with z | z
  .rw[<-z,hfr]at e;cases e
  .rw[hfr]at z;cases z
 .obtain⟨_,f1,_,f3,f4,f5⟩:=hex b hbx;exact⟨f3,f1,f4,f5⟩
end
def Fy(e:Expr)(d:Nat)(iter tg:Expr)(ifs:List Expr)(emit:Sem Fin->Sem Fin)(it acc:Value)(env:Env):Sem Fin:=do
 standAt iter.pos
 match <-pyNext it with
 | none=>pure (.done .next)
 | some v =>
  letOwnedTupleGo tg it v
  assign tg env v
  let mut ok:=true
  for c in ifs do
   if ok then ok <-isTrue c env (eval c env)
  if ok then emit (again (.compLoop e d it acc env))else again (.compLoop e d it acc env)
def emL(elt:Expr)(acc:Value)(env:Env)(k:Sem Fin):Sem Fin:=(do let _ <-call (.builtin "list.append") [acc,<-eval elt env]:Sem Unit) >>= fun _=>k
def emD(a b:Expr)(D:Addr)(env:Env)(k:Sem Fin):Sem Fin:=(do
   let kv <-eval a env
   let vv <-holding [kv] (eval b env)
   standAt { a.pos with endLine:=b.pos.endLine,endCol:=b.pos.endCol }
   holding [kv,vv] (dictSet D kv vv):Sem Unit) >>= fun _=>k
theorem Ab(elt tg iter:Expr)(ifs:List Expr)(scope:Scope)(pos:Pos)(it acc:Value)(env:Env) :
  compTurn (.ListComp elt [⟨tg,iter,ifs,0⟩] scope pos) 0 it acc env=Fy (.ListComp elt [⟨tg,iter,ifs,0⟩] scope pos) 0 iter tg ifs (emL elt acc env) it acc env:=rfl
theorem Ik(k v tg iter:Expr)(ifs:List Expr)(scope:Scope)(pos:Pos)(it:Value)(D:Addr)(env:Env) :
  compTurn (.DictComp k v [⟨tg,iter,ifs,0⟩] scope pos) 0 it (.ref D) env=Fy (.DictComp k v [⟨tg,iter,ifs,0⟩] scope pos) 0 iter tg ifs (emD k v D env) it (.ref D) env:=rfl
abbrev TEm:=St->Hp->(St->Hp->Prop)->Prop
def PEm(X:Cx)(emit:Sem Fin->Sem Fin)(t:TEm):Prop :=
 ∀(pins:List (Addr×Obj)) (s:Shared) (σ:St) (H:Hp) (Q:St->Hp->Prop) (k:Sem Fin) (F:Fin->Shared->Prop) (E:Value->Shared->Prop),Inv X pins σ H s->t σ H Q ->
  (∀s' σ' H',Inv X pins σ' H' s'->Q σ' H'->wpAny (model X.prog X.w) X.A k F E s')->wpAny (model X.prog X.w) X.A (emit k) F E s
def PTs(X:Cx)(ifs:List Expr)(t:TT):Prop :=
 ∀(pins:List (Addr×Obj)) (s:Shared) (σ:St) (H:Hp) (Q:Bool->Hp->Prop),Inv X pins σ H s->t σ H Q ->
  wpAny (model X.prog X.w) X.A (forIn ifs true fun c r=>if r=true then do let ok <-isTrue c X.env (eval c X.env);pure (ForInStep.yield ok)else pure (ForInStep.yield r)) (TP X pins σ Q) X.xe s
def Nk:TT:=fun _ H Q=>Q true H
theorem G0{X:Cx}:PTs X [] Nk:=fun _ _ _ H _ I h=>wpAny_tests_nil ⟨H,I,h⟩
theorem S0{X:Cx}{c:Expr}{t:TT}(h:PT X c t):PTs X [c] t:=fun pins s σ H Q I q=>wpAny_tests_one (h pins s σ H Q I q)
def Mi(g:TG)(tc:TT)(em:TEm)(J:It)(σ:St)(H:Hp)(Q:St->Hp->Prop):Prop :=
 ∃W:Nat->Nat->St->Hp->Prop,(∃m,W 0 m σ H)/\∀i m σ H,W i m σ H->(J.stop i H/\Q σ H)\/(J.go i H/\∀x H',J.yld i H x H'->g x σ H' fun σ2 H2=>tc σ2 H2 fun b H3 =>
  if b=true then em σ2 H3 fun σ3 H4=>∃m',m' < m/\W (i+1) m' σ3 H4 else ∃m',m' < m/\W (i+1) m' σ2 H3)
section
variable{X:Cx}{e tg iter:Expr}{d:Nat}{ifs:List Expr}{emit:Sem Fin->Sem Fin}{it:Addr}{acc:Value}{g:TG}{tc:TT}{em:TEm}{J:It}{fp:List Addr}{tn:Nat->Heap->Prop}{R:Result->Shared->Prop}
theorem i9(hun:X.A.under (.compLoop e d (.ref it) acc X.env)=X.A)(hden:(model X.prog X.w).den (.compLoop e d (.ref it) acc X.env) =(compTurn e d (.ref it) acc X.env).onRaise (fun x=>do noteFrame x X.env;theTreesLotGoes x))(hc:X.calm=true)(hxe:X.xe=fun _ _=>False)(hct:compTurn e d (.ref it) acc X.env=Fy e d iter tg ifs emit (.ref it) acc X.env)(hg:PG X tg g)(ht:PTs X ifs tc)(hem:PEm X emit em)
  (T:Turn X.prog X.w X.K tg J fp it tn) {pins:List (Addr×Obj)} {s:Shared} {σ:St} {H:Hp} {Q:St->Hp->Prop} (I:Inv X pins σ H s) (st:tn 0 s.heap) (hf:∀b∈fp,Z9 X pins H b) (h:Mi g tc em J σ H Q)
  (hR:∀s' σ' H',Inv X pins σ' H' s'->Q σ' H'->R (.ok .next) s'):codeAny (model X.prog X.w) X.A (.compLoop e d (.ref it) acc X.env) R s:=by
 obtain⟨W,⟨m0,w0⟩,turn⟩:=h;have stat:∀{H':Hp},(∀b∈fp,H' b=none)->∀b∈fp,Z9 X pins H' b:=fun hn b hb=>⟨hn b hb,(hf b hb).2⟩;have no:∀{α:Type} {m:Sem α} {P:α->Shared->Prop} {E:Value->Shared->Prop} {s:Shared},wpAny (model X.prog X.w) X.A m P X.xe s->wpAny (model X.prog X.w) X.A m P E s:=fun q=>by
  rw[hxe]at q;exact BR q (fun _ _ z=>z) fun _ _ z=>z.elim
 refine codeAny_loop rfl (fun n s'=>∃i σ' H',Inv X pins σ' H' s'/\tn i s'.heap/\(∀b∈fp,H' b=none)/\W i n σ' H') (fun n s3 hI=>?_) m0 ⟨0,σ,H,I,st,fun b hb=>(hf b hb).1,w0⟩;obtain⟨i,σ3,H3,I3,st3,fr3,w3⟩:=hI;rw[hun,hden];refine wpAny_noted ?_;rw[hct];unfold Fy;refine AA (DX (AA ?_));rcases turn i n σ3 H3 w3 with⟨stop,qn⟩ | ⟨go,step⟩
 .refine BR (T.done X rfl rfl rfl hc i pins s3 σ3 H3 _ I3 (stat fr3) st3 stop) (fun r s4 ⟨hr,I4⟩=>?_) fun _ _ z=>z;subst hr;exact AE (hR s4 σ3 H3 I4 qn)
 .refine BR (T.item X rfl rfl rfl hc i pins s3 σ3 H3 _ I3 (stat fr3) st3 go) (fun r s4 ⟨u,hr,h4⟩=>?_) fun _ _ z=>z;subst hr;refine AA (BR h4 (fun _ s5 ⟨x,H5,I5,r5,y5,st5,fr5⟩=>?_) fun _ _ z=>z);have I5':=I5.pinned (stat fr5) (T.obj _ _ st5);have again:∀{σ7:St} {H7:Hp} {s7:Shared},Inv X (pins++Dn fp s5.heap) σ7 H7 s7->(∃m',m' < n/\W (i+1) m' σ7 H7)->∃m,m<n/\∃i σ' H',Inv X pins σ' H' s7/\tn i s7.heap/\(∀b∈fp,H' b=none)/\W i m σ' H':=fun{σ7 H7 s7} I7 n7=>by
   obtain⟨m',hm,w7⟩:=n7;refine⟨m',hm,i+1,σ7,H7,I7.unpinned,T.keep _ _ _ st5 fun b hb o e=>(I7.pin (b,o) (BE _ (BE _ (P5 hb e)))).1,fun b hb=>?_,w7⟩;obtain⟨o,e,d⟩:=T.obj _ _ st5 b hb;exact(I7.pin (b,o) (BE _ (BE _ (P5 hb e)))).2.1
  refine AA (BR (no (hg _ s5 σ3 H5 x u _ I5' r5 (step x H5 y5))) (fun _ s6 ⟨σ6,H6,I6,q6⟩=>?_) fun _ _ z=>z);refine AA (BR (no (ht _ s6 σ6 H6 _ I6 q6)) (fun ok s7 ⟨H7,I7,q7⟩=>?_) fun _ _ z=>z);cases ok with
  | false=>exact AE ⟨rfl,again I7 q7⟩
  | true =>
   exact hem _ s7 σ6 H7 _ _ _ _ I7 q7 fun s8 σ8 H8 I8 q8=>AE ⟨rfl,again I8 q8⟩
theorem X4(hun:X.A.under (.compStart e d (.ref it) acc X.env)=X.A)(hden:(model X.prog X.w).den (.compStart e d (.ref it) acc X.env) =(compStart e d (.ref it) acc X.env).onRaise (fun x=>do noteFrame x X.env;standAt theWindowsPlace)){gs:List Comprehension}(hgs:clausesOf e=gs)(hd:gs[d]?=some ⟨tg,iter,ifs,0⟩){s:Shared}(T:Turn X.prog X.w X.K tg J fp it tn)(st:tn 0 s.heap)
  (h:codeAny (model X.prog X.w) X.A (.compLoop e d (.ref it) acc X.env) R s):codeAny (model X.prog X.w) X.A (.compStart e d (.ref it) acc X.env) R s:=by
 refine codeAny_of_tree ?_;rw[hun,hden];refine wpAny_notedAt ?_;unfold compStart;rw[hgs,hd];show wpAny _ X.A (ask >>= _) _ _ s;refine AA (FH (wpAny_ite ?_));have h1:=T.self X.A 0 s (fun it' s'=>codeAny (model X.prog X.w) X.A (.compLoop e d it' acc X.env) R s') (notedBy (model X.prog X.w) X.A X.env fun x s'=>R (.error x) s') st h;split
 .first
   | exact AA (AE (AE (And.intro rfl h)))
   | exact AE (And.intro rfl h)
 .first
   | exact AA (DG (AA (DX (AA (BR h1 (fun it' s' h'=>AE (And.intro rfl h')) fun _ _ x=>x)))))
   | (refine AA (DG ?_);show wpAny _ _ (standAt iter.pos >>= _) _ _ s;exact AA (DX (AA (BR h1 (fun it' s' h'=>AE (And.intro rfl h')) fun _ _ x=>x))))
end
section
variable{X:Cx}{tg iter:Expr}{ifs:List Expr}{g:TG}{tc:TT}{em:TEm}{scope:Scope}{cl:List (Str×Addr)}{N':List Str}{cap:List (Option Nat)}{pos:Pos}{wi:TI}
def Ih(wi:TI)(o:Addr->HO)(cap:List (Option Nat))(lp:Addr->It->St->Hp->(St->Hp->Prop)->Prop):TE:=fun σ H Q=>wi σ H fun J H1=>∀D,H1 D=none->lp D J (Il cap σ) (upd H1 D (o D)) fun _ H2=>Q (.ref D) H2
theorem Mq{e:Expr}{gs:List Comprehension}{newAcc:Sem Value}{p2:Pos}(hcl:clausesOf e =⟨tg,iter,ifs,0⟩::gs)(o:Addr->HO)(hs:∀x,foldedSetIterable iter X.env x=pure x)(S:CScope X scope cl N' cap)(hc:X.calm=true)(hi:PI X tg iter wi)
  {lp:Addr->It->St->Hp->(St->Hp->Prop)->Prop}
  (hnew:∀(pins:List (Addr×Obj)) (s:Shared) (σ:St) (H:Hp) (Q:Value->Shared->Prop) (E:Value->Shared->Prop),Inv X pins σ H s->(∀s',Inv X pins σ (upd H s.heap.objs.size (o s.heap.objs.size)) s'->(∀b ob,s.heap.get? b=some ob->s'.heap.get? b=some ob)->Q (.ref s.heap.objs.size) s')->wpAny (model X.prog X.w) X.A newAcc Q E s)
  (hlp:∀(pins:List (Addr×Obj)) (ex:List Addr) (s3:Shared) (H3:Hp) (D it:Addr) (fp:List Addr) (tn:Nat->Heap->Prop) (J:It) (σ:St) (s:Shared) (H:Hp) (Q:St->Hp->Prop) (R:Result->Shared->Prop),
   Turn X.prog X.w X.K tg J fp it tn->Inv (cxC X scope cl N' pins ex s3 H3) [] σ H s->tn 0 s.heap->(∀b∈fp,Z9 (cxC X scope cl N' pins ex s3 H3) [] H b)->lp D J σ H Q ->
   (∀s' σ' H',Inv (cxC X scope cl N' pins ex s3 H3) [] σ' H' s'->Q σ' H'->R (.ok .next) s') ->
   codeAny (model X.prog X.w) X.A (.compLoop e 0 (.ref it) (.ref D) (compEnvC scope cl s3.heap.objs.size X.env)) R s)
  (hun:∀it D env,X.A.under (.compStart e 0 (.ref it) (.ref D) env)=X.A) (hden:∀it D env,(model X.prog X.w).den (.compStart e 0 (.ref it) (.ref D) env) =(compStart e 0 (.ref it) (.ref D) env).onRaise (fun x=>do noteFrame x env;standAt theWindowsPlace))
  (hev:∀E Q s,wpAny (model X.prog X.w) X.A (comprehension e scope X.env p2 newAcc false (eval iter X.env)) Q E s->wpAny (model X.prog X.w) X.A (eval e X.env) Q E s) :
  PE X e (Ih wi o cap lp):=by
 intro pins s σ H Q I h;refine hev _ _ _ (FN (use:=none) hcl hs S.clos S.kind S.loc (thn (hi pins s σ H _ I h) fun v s1 h1=>thn h1 fun itv s2 h2=>?_));obtain⟨it,fp,tn,J,H2,eit,I2,T,st2,f2,R2⟩:=h2;subst eit;refine hnew pins s2 σ H2 _ _ I2 fun s3 I3 k3=>?_;have hD:H2 s2.heap.objs.size=none:=I2.hok.fresh (Nat.le_refl _);have fok:∀b∈fp,Z9 X pins (upd H2 s2.heap.objs.size (o s2.heap.objs.size)) b/\∃ob,s3.heap.get? b=some ob:=fun b hb=>by
  obtain⟨ob,e,_⟩:=T.obj _ _ st2 b hb;obtain⟨f0,fr⟩:=f2 b hb;exact⟨⟨by rw[B7 (AY (AF e))];exact f0,fr⟩,ob,k3 b ob e⟩
 refine wpAny_newFunctionEnv S.nocell (by intro y hy;simp at hy) (fun h1 hns hsb=>?_) S.kind;have hk:∀b ob,s3.heap.get? b=some ob->h1.get? b=some ob:=fun b ob e=>(hsb.2 b (AY (AF e))).trans (AD _ e);have I4:Inv (cxC X scope cl N' pins fp s3 (upd H2 s2.heap.objs.size (o s2.heap.objs.size))) [] (Il cap σ) (upd H2 s2.heap.objs.size (o s2.heap.objs.size)) { s3 with heap:=h1,toks:=s3.toks +([]:List (Str×Value)).length } :=
  I3.block S hc fok hns hk
 have st4:tn 0 h1:=T.keep 0 _ _ st2 fun b hb ob e=>hk b ob (k3 b ob e);refine X4 (X:=cxC X scope cl N' pins fp s3 (upd H2 s2.heap.objs.size (o s2.heap.objs.size))) (gs:=⟨tg,iter,ifs,0⟩::gs) (e:=e) (d:=0) (tg:=tg) (iter:=iter) (ifs:=ifs) (hun _ _ _) (hden _ _ _) hcl rfl T st4 ?_;refine hlp pins fp s3 _ s2.heap.objs.size it fp tn J (Il cap σ) _ _ _ _ T I4 st4 (fun b hb=>?_) (R2 _ hD) fun s' σ' H' I' q'=>?_
 .obtain⟨⟨f0,f1,f2',f3,f4,f5⟩,ob,eo⟩:=fok b hb;refine⟨f0,AY (AF eo),fun hf=>?_,.inl hb,fun x c e=>f4 x c (S.cin.get e),fun p hp=>f5 p (by simpa [cxC] using hp)⟩;rcases AS.mp (I3.stkSub b hf)with z | z
  .exact f1 z
  .exact f2' z
 .obtain⟨m,hn,_⟩:=I'.loc;exact⟨m,hn,fun h' hb=>⟨.ref _,H',I3.unblock (fun b hb=>(fok b hb).1) I' hb,rfl,q'⟩⟩
end
section
variable{X:Cx}{tg iter elt:Expr}{ifs:List Expr}{g:TG}{tc:TT}{te:TE}{scope:Scope}{cl:List (Str×Addr)}{N':List Str}{cap:List (Option Nat)}{pos:Pos}{wi:TI}
def Ia(D:Addr)(te:TE):TEm:=fun σ H Q=>te σ H fun y H1=>∃ys,H1 D=some (.lst ys)/\ys.length<sizeLine/\Q σ (upd H1 D (.lst (ys ++ [y])))
theorem Gv{α:Type}{X:Cx}(hxe:X.xe=fun _ _=>False){m:Sem α}{P:α->Shared->Prop}{E:Value->Shared->Prop}{s:Shared}(q:wpAny (model X.prog X.w) X.A m P X.xe s):wpAny (model X.prog X.w) X.A m P E s:=by
 rw[hxe]at q;exact BR q (fun _ _ z=>z) fun _ _ z=>z.elim
theorem Go{D:Addr}(hxe:X.xe=fun _ _=>False)(he:PE X elt te):PEm X (emL elt (.ref D) X.env) (Ia D te):=by
 intro pins s σ H Q k F E I h hk;unfold emL;refine AA (AA (BR (Gv hxe (he pins s σ H _ I h)) (fun u s1 ⟨y,H1,I1,r1,ys,e1,z1,q1⟩=>?_) fun _ _ z=>z));refine AA (BR (Gv hxe (J5 pins s1 σ H1 (.ref D) [y] (.ref D) [u] (fun v H2=>v = .non/\Q σ H2) I1 rfl (.cons r1 .nil) ⟨D,ys,y,rfl,rfl,e1,z1,rfl,q1⟩)) (fun v s2 ⟨y2,H2,I2,r2,_,q2⟩=>?_) fun _ _ z=>z);exact AE (hk s2 σ H2 I2 q2)
theorem Q7(S:CScope X scope cl N' cap)(hc:X.calm=true)(hi:PI X tg iter wi)
  (hb:∀(pins:List (Addr×Obj)) (ex:List Addr) (s3:Shared) (H3:Hp),PG (cxC X scope cl N' pins ex s3 H3) tg g/\PTs (cxC X scope cl N' pins ex s3 H3) ifs tc/\PE (cxC X scope cl N' pins ex s3 H3) elt te)
  (hs:∀x,foldedSetIterable iter X.env x=pure x:=by intro _;rfl) :
  PE X (.ListComp elt [⟨tg,iter,ifs,0⟩] scope pos) (Ih wi (fun _=>.lst []) cap fun D J σ H Q=>Mi g tc (Ia D te) J σ H Q):=by
 refine Mq (newAcc:=newList []) (p2:=firstIterPos [⟨tg,iter,ifs,0⟩] pos) rfl (fun _=>.lst []) hs S hc hi (fun pins s σ H Q E I h=>?_) (fun pins ex s3 H3 D it fp tn J σ s H Q R T I st hf h hR=>?_) (fun _ _ _=>rfl) (fun _ _ _=>rfl) (fun E Q s h=>h)
 .refine wpAny_newList ?_;exact h _ (I.lnew (t':=s.toks) (its:=[]) .nil (B_ _)) fun b ob e=>AD _ e
 .obtain⟨b1,b2,b3⟩:=hb pins ex s3 H3;exact i9 (X:=cxC X scope cl N' pins ex s3 H3) rfl rfl hc rfl (Ab elt tg iter ifs scope pos _ _ _) b1 b2 (Go rfl b3) T I st hf h hR
def Qh(D:Addr)(tk tv:TE):TEm:=fun σ H Q=>tk σ H fun y H1=>tv σ H1 fun v H2=>∃kvs k,H2 D=some (.dK kvs)/\y=kV k/\kvs.length<sizeLine/\Q σ (upd H2 D (.dK (Ml kvs k v)))
theorem Ng{D:Addr}{a b:Expr}{ta tb:TE}(hxe:X.xe=fun _ _=>False)(ha:PE X a ta)(hb:PE X b tb):PEm X (emD a b D X.env) (Qh D ta tb):=by
 intro pins s σ H Q k F E I h hk;unfold emD;refine AA (AA (BR (Gv hxe (ha pins s σ H _ I h)) (fun u s1 ⟨y,H1,I1,r1,q1⟩=>?_) fun _ _ z=>z));refine AA (BZ (BR (Gv hxe (hb pins s1 σ H1 _ I1 q1)) (fun r s2 ⟨v,H2,I2,rv,kvs,kk,e,ey,l,q2⟩=>?_) fun _ _ z=>z));refine AA (DX (BZ ?_));subst ey;obtain⟨z,hd,vs,rel,dd⟩:=Vn I2.hok e;have hz:vs.length<=sizeLine:=by rw[<-rel.length];exact z
 have hl:(Ml kvs kk v).length<=sizeLine:=by have:=g7 kvs kk v;omega
 refine wpAny_dictSet_pairs (hsz:=hz) (Pj r1) dd fun h' dd' hs=>?_;have he:∃q,h'.get? D=some q:=let⟨q,_,_,hq,_⟩:=dd';⟨q,hq⟩;exact hk _ σ _ (Qt (t':=s2.toks+1) I2 (by rw[e];exact True.intro) hs he (Uu hl hd (rel.put kk rv) dd')) q2
end
instance:LawfulBEq Key where
 rfl {a}:=by cases a with
  | inl i=>show(i == i)=true;simp
  | inr x=>show(x == x)=true;simp
 eq_of_beq {a b} h:=by
  cases a with
  | inl i=>cases b with
   | inl j=>exact congrArg Sum.inl (eq_of_beq (show(i == j)=true from h))
   | inr j=>exact absurd h (by intro z;cases z)
  | inr i=>cases b with
   | inl j=>exact absurd h (by intro z;cases z)
   | inr j=>exact congrArg Sum.inr (eq_of_beq (show(i == j)=true from h))
def Wk(P:Program)(w:World)(a:Addr)(l:List Key):HO:=.ext fun h=>h.SetOf (C9 P w) a (fun k=>decide (k∈l)) l.length
section
variable{X:Cx}{pins:List (Addr×Obj)}{σ:St}{H:Hp}{s:Shared}{a:Addr}{l:List Key}
theorem Inv.set(I:Inv X pins σ H s)(e:H a=some (Wk X.prog X.w a l)):s.heap.SetOf (C9 X.prog X.w) a (fun k=>decide (k∈l)) l.length:=by
 obtain⟨z,_⟩:=(show ObjOk X.prog X.w H s.heap a (Wk X.prog X.w a l)from I.hok a _ e);exact z
end
def Its(x:Str):It:=⟨fun i _=>i<x.cps.size,fun i H v H'=>H'=H/\∃c,x.cps[i]?=some c/\v = .str ⟨#[c]⟩,fun i _=>i=x.cps.size⟩
theorem Gh{P:Program}{w:World}{K:PySem.W.Frag}{tg:Expr}(it:Addr)(x:Str)(t:Tok)(ty:String)(hty:["enumerate", "zip", "dict_itemiterator", "dict_reverseitemiterator", "odict_iterator", "itertools.zip_longest", "itertools.pairwise"].contains ty=false)
  (W:∀A':Around,A'.handled=none->Walks P w A' it [it] [it] x.cps.size (SignAt x) (fun i h=>h.IsStrIter it ty x t i))
  (hself:∀(A:Around) (i:Nat) (s:Shared) (Q:Value->Shared->Prop) (E:Value->Shared->Prop),s.heap.IsStrIter it ty x t i->Q (.ref it) s->wpAny (model P w) A (pyIter (.ref it)) Q E s):Turn P w K tg (Its x) [it] it (fun i h=>h.IsStrIter it ty x t i) where
 mem:=by simp
 obj:=fun i h st b hb=>by
  have e:b=it:=by simpa using hb
  subst e;obtain⟨o,e,c,d⟩:=st;exact⟨o,e,fun v z=>by rw[d]at z;cases z⟩
 keep:=fun i h h' st k=>let⟨o,e,r⟩:=st;⟨o,k it (by simp) o e,r⟩
 item:=by
  intro X hP hw hK hc i pins s σ H E I hf st hg;subst hP hw hK;obtain⟨f0,f1,f2,f3,f4,f5⟩:=hf it (by simp);refine(W X.A (I.ok.hd hc)).item i s _ _ hg st fun v h' tk hv st' k=>?_;obtain⟨c,u,ec,ev⟩:=hv;have I1:Inv X pins σ H { s with heap:=h',toks:=tk }:=I.turned (fun b o hb e=>k b o (by simpa using hb) e) f0 f1 f3 f4 f5;obtain⟨o,e,c',d⟩:=id st';exact⟨v,rfl,Qi (s:={ s with heap:=h',toks:=tk }) e c' d hty ⟨.str ⟨#[c]⟩,H,I1,⟨u,ev⟩,⟨rfl,c,ec,rfl⟩,st',fun b hb=>(hf b hb).1⟩⟩
 done:=by
  intro X hP hw hK hc i pins s σ H E I hf st hg;subst hP hw hK;obtain⟨f0,f1,f2,f3,f4,f5⟩:=hf it (by simp);have hg':i=x.cps.size:=hg;subst hg';exact(W X.A (I.ok.hd hc)).done s _ _ st fun h' tk k=>⟨rfl,I.turned (fun b o hb e=>k b o (by simpa using hb) e) f0 f1 f3 f4 f5⟩
 self:=fun A i s Q E st h=>hself A i s Q E st h
section
variable{X:Cx}{tg:Expr}
def Xn(te:TE):TI:=fun σ H R=>te σ H fun x H1=>∃z,x = .str z/\R (Its z) H1
theorem Va{l:Expr}{tl:TE}(hl:PE X l tl):PI X tg l (Xn tl):=by
 intro pins s σ H R I h;refine thn (hl pins s σ H _ I h) fun v s1 ⟨x,H1,I1,r1,q1⟩=>?_;obtain⟨z,e,q⟩:=q1;subst e;obtain⟨t,rfl⟩:=r1;have fin:∀(o:Obj) (ty:String),o.cls = .type ty->o.data = .fields #[.str z t,.int (0:Nat) 0]->o.isFreed=false->Turn X.prog X.w X.K tg (Its z) [s1.heap.objs.size] s1.heap.objs.size (fun i h=>h.IsStrIter s1.heap.objs.size ty z t i) ->
   PIE X pins σ tg R (.ref s1.heap.objs.size) { s1 with heap:=s1.heap.push o }:=fun o ty c d hf T=>by
  refine⟨s1.heap.objs.size,[s1.heap.objs.size],_,_,H1,rfl,I1.kept (t':=s1.toks) fun b o e=>AD _ e,T,⟨o,AW _ hf,c,d⟩,fun b hb=>?_,q⟩;have e:b=s1.heap.objs.size:=by simpa using hb
  subst e;exact I1.fpOk (Nat.le_refl _) (I1.hok.fresh (Nat.le_refl _))
 cases ha:z.cps.all (· < 128)
 .exact wpAny_pyIter_wide ha (fin _ _ rfl rfl rfl (Gh _ z t "str_iterator" (by decide) (fun A' hA=>Walks.strWide hA _ z t) fun A i s Q E st h=>wpAny_pyIter_striter_wide st h))
 .exact wpAny_pyIter_ascii ha (fin _ _ rfl rfl rfl (Gh _ z t "str_ascii_iterator" (by decide) (fun A' hA=>Walks.strAscii hA _ z t) fun A i s Q E st h=>wpAny_pyIter_striter_ascii st h))
end
section
variable{X:Cx}
theorem Nb(hc:X.calm=true):F9 X (.builtin "all") (fun xs H Q=>∃(p:Addr) (bs:List Bool),xs = [.ref p]/\SqL X.K H p (bs.map V.bl)/\Q (.bl (bs.all id)) H):=by
 intro pins s σ H xs us Q I r h;obtain⟨p,bs,rfl,hq,q⟩:=h;obtain⟨u,rfl,ru⟩:=Z4 r;cases ru;obtain⟨its,rv,pl,hz⟩:=I.list hq;refine call_all_walk (wpAny_pyIter_list pl.isList ?_);have hne:p≠s.heap.objs.size:=by
  obtain⟨o,n,e,_⟩:=pl;exact AY (AF e)
 refine⟨s.heap.objs.size,_,_,_,_,_,fun i=>bs.getD i true,rfl,Walks.list (A:=X.A.in1) (show X.A.in1.handled=none from I.ok.hd hc) _ p hne its.toArray,⟨⟨_,AW _ rfl,rfl,rfl⟩,?_⟩,fun i v s' Q' E' hv q'=>?_,fun h' tk k=>?_⟩
 .obtain⟨o,n,e,c,d,e2⟩:=pl;exact⟨o,AD _ e,c,n,e2⟩
 .have hb:(bs.map V.bl)[i]?=some (V.bl (bs.getD i true))/\RelV (V.bl (bs.getD i true)) v:=by
   have hv':its[i]?=some v:=by simpa using hv
   have hi:i<its.length:=(AM.mp hv').1;have hl:=rv.length;rw[AB]at hl;have e:(bs.map V.bl)[i]?=some (V.bl (bs.getD i true)):=by
    rw[AG,AJ (by omega)];simp[FG,AJ (show i<bs.length by omega)]
   obtain⟨u,hu,ru⟩:=rv.get e;rw[hv']at hu;cases hu;exact⟨e,ru⟩
  cases hb.2;exact CO q'
 .have hl:=rv.length;rw[AB]at hl;have e:(List.range its.toArray.size).all (fun i=>bs.getD i true)=bs.all id:=by
   rw[AN,<-hl];rw[FQ,EA,EA];constructor
   .intro z b hb;obtain⟨i,hi,rfl⟩:=FA.mp hb;have:=z i (FD.mpr hi);simpa [FG,AJ hi] using this
   .intro z i hi;have hi':=FD.mp hi;have:=z bs[i] (List.getElem_mem hi');simpa [FG,AJ hi'] using this
  rw[e];exact⟨.bl (bs.all id),H,I.kept fun b o eb=>k b o (by
   intro hb;have:b=s.heap.objs.size:=by simpa using hb
   exact absurd (AF eb) (by rw[this];exact CD _)) (AD _ eb),rfl,q⟩
theorem y8:∀{ss:List Str} {us:List Value},Vals (ss.map V.str) us->StrsAre us ss
 | [],_,.nil=>.nil
 | _::_,_,.cons ⟨t,e⟩ r=>by subst e;exact .cons _ _ (y8 r)
def leS(a b:Str):Prop:=¬b.cps.toList<a.cps.toList
theorem Dx:F9 X (.builtin "sorted") (fun xs H Q=>∃(p:Addr) (ss:List Str),xs = [.ref p]/\SqL X.K H p (ss.map V.str)/\∀(l:Addr) (ss':List Str),H l=none->ss'.Perm ss->ss'.Pairwise leS->Q (.ref l) (upd H l (.lst (ss'.map V.str)))):=by
 intro pins s σ H xs us Q I r h;obtain⟨p,ss,rfl,hq,q⟩:=h;obtain⟨u,rfl,ru⟩:=Z4 r;cases ru;obtain⟨its,rv,pl,hz⟩:=I.list hq;have hS:=y8 rv;have hl:=rv.length;refine TS.sorted_gen (collect_list (vs:=its) pl.isList ?_ (by omega));refine⟨rfl,by omega,strKind,oneType',fun s2 _=>TS.keys_strs hS,fun out h' e ho k hg=>?_⟩;have hsz:((s.heap.push (seqObj "list" #[] 0)).update s.heap.objs.size (Obj.mapSeq (· ++ its.toArray))).objs.size=s.heap.objs.size+1:=by rw[Heap.size_update,size_push']
 obtain⟨hp,hs⟩:=ho;have hm:∀v∈out.toList,∃x t,v = .str x t:=fun v hv=>hS.all v (hp.mem_iff.mp hv);have hv:Vals ((out.toList.map strOf).map V.str) out.toList:=by
  have:∀us:List Value,(∀v∈us,∃x t,v = .str x t)->Vals ((us.map strOf).map V.str) us:=by
   intro us
   induction us with
   | nil=>exact fun _=>.nil
   | cons v r ih =>
    intro h;obtain⟨x,t,rfl⟩:=h v (BB ..);exact .cons ⟨t,rfl⟩ (ih fun u hu=>h u (AQ _ hu))
  exact this _ hm
 have hperm:(out.toList.map strOf).Perm ss:=by
  have:=hp.map strOf
  rwa [hS.strs]at this
 have hpw:(out.toList.map strOf).Pairwise leS:=by
  rw[List.pairwise_map];refine(List.Pairwise.and_mem.mp hs).imp fun{u v} ⟨hu,hv',q⟩=>?_;obtain⟨x,t,rfl⟩:=hm u hu;obtain⟨y,t',rfl⟩:=hm v hv';have q':decide (y.cps.toList<x.cps.toList)=false:=q;exact of_decide_eq_false q'
 have hk0:∀b o,s.heap.get? b=some o->h'.get? b=some o:=fun b o eb=>k b o (by
  rw[Heap.get?_update_ne _ _ _ _ (AY (AF eb))];exact AD _ eb)
 have hn:H (s.heap.objs.size+1)=none:=I.hok.fresh (CL _);have hg':h'.get? (s.heap.objs.size+1)=some (seqObj "list" out e):=by rw[<-hsz];exact hg
 refine⟨.ref (s.heap.objs.size+1),upd H (s.heap.objs.size+1) (.lst ((out.toList.map strOf).map V.str)),?_,by show Value.ref _=_;rw[<-hsz],q _ _ hn hperm hpw⟩;refine I.laid (t':=s.toks) hk0 (CL _) ⟨?_,out.toList,e,hv,by simpa using hg'⟩;rw[AB,AB,hp.length_eq];omega
end
abbrev PA2:=Addr×Str×Str
def Q5(H:Hp)(q:PA2):Prop:=H q.1=some (.tup [.str q.2.1,.str q.2.2])
theorem Inv.turnLaid{X:Cx}{pins:List (Addr×Obj)}{σ:St}{H:Hp}{s:Shared}{h':Heap}{t':Nat}{fp:List Addr}{T:Addr}{o:HO}(I:Inv X pins σ H s)(k:∀b ob,b∉fp->s.heap.get? b=some ob->h'.get? b=some ob)
  (hf:∀b∈fp,Z9 X pins H b) (hfo:∀b∈fp,∃ob,s.heap.get? b=some ob) (hT:s.heap.objs.size<=T) (new:ObjOk X.prog X.w (upd H T o) h' T o):Inv X pins σ (upd H T o) { s with heap:=h',toks:=t' }:=by
 have hn:=I.hok.fresh hT;have nT:∀b ob,s.heap.get? b=some ob->b≠T:=fun b ob e=>AY (AX (AF e) hT);have nf:∀b u,H b=some u->b∉fp:=fun b u e hb=>by rw[(hf b hb).1]at e;cases e
 refine I.step (g':=s.gens) (d':=s.drawn) (ch:=fp) (fun b hb=>let⟨_,f1,_,f3,f4,f5⟩:=hf b hb;⟨f3,f1,f4,f5⟩) (fun b ob _ _ hc e _=>k b ob hc e) (fun b ob _ _ hc e _=>⟨ob.slots,k b ob hc e⟩) (fun b ob _ e n=>by rw[B7 (nT b ob e)];exact n)
  (fun b ob hc e=>⟨ob,k b ob hc e⟩) (fun b xs e=>by rw[B7 (B4 e hn)];exact e) (fun b u xs e=>by rw[B7 (B4 e hn)];exact e) (fun b ps e=>⟨#[],by rw[B7 (B4 e hn),e];simp⟩) (fun m hm=>?_) (fun b u e=>?_) I.bare
 .obtain⟨ob,es,ep,ho,r⟩:=hm;exact⟨ob,es,ep,k _ ob (fun hb=>(hf _ hb).2.1 rfl) ho,r⟩
 .by_cases hb:b=T
  .subst hb;rw[A7]at e;cases e;exact new
  .rw[B7 hb]at e;refine(I.hok b u e).stay (fun c v hc q=>k c v ?_ q) (fun c q=>by rw[B7 (B4 q hn)];exact q) fun c xs q=>by rw[B7 (B4 q hn)];exact q
   rcases hc with z | z
   .rw[z];exact nf b u e
   .exact nf c _ z
def Ite(K:PySem.W.Frag)(a:Addr):It :=
 ⟨fun i H=>∃xs x,SqL K H a xs/\xs[i]?=some x,fun i H v H'=>∃T x,v = .ref T/\H T=none/\H'=upd H T (.tup [.int i,x])/\∀xs,SqL K H a xs->xs[i]?=some x,fun i H=>∃xs,SqL K H a xs/\xs.length=i⟩
theorem Jj{P:Program}{w:World}{K:PySem.W.Frag}{elts:List Expr}{kk:Nat}{tp:Pos}(a it e:Addr)(hei:e≠it):Turn P w K (.Tuple elts kk tp) (Ite K a) [e,it] e (fun i h=>(∃old,IsEnum h e it i old)/\h.IsListIter it a i) where
 mem:=by simp
 obj:=fun i h st b hb=>by
  obtain⟨⟨old,h1⟩,o,h2,c,d⟩:=st;rcases AS.mp hb with rfl | hb
  .exact⟨_,h1,fun v z=>by cases z⟩
  .rw[AC.mp hb];exact⟨o,h2,fun v z=>by rw[d]at z;cases z⟩
 keep:=fun i h h' st k=>⟨let⟨old,h1⟩:=st.1;⟨old,k e (by simp) _ h1⟩,st.2.at fun o x=>k it (by simp) o x⟩
 item:=by
  intro X hP hw hK hc i pins s σ H E I hf st hg;subst hP hw hK;obtain⟨xs,x,hq,hx⟩:=hg;obtain⟨its,rv,p,hz⟩:=I.list hq;obtain⟨u,hu,ru⟩:=rv.get hx;obtain⟨f0,f1,f2,f3,f4,f5⟩:=hf e (by simp);obtain⟨g0,g1,g2,g3,g4,g5⟩:=hf it (by simp);have hae:a≠e:=fun z=>by
   obtain⟨old,h1⟩:=st.1;obtain⟨o,n,e1,c,_⟩:=p;rw[z,h1]at e1;cases e1;exact absurd c (by show ¬Value.type "enumerate" = Value.type "list";decide)
  have hai:a≠it:=fun z=>by
   obtain⟨o2,h2,c2,d2⟩:=st.2;obtain⟨o,n,e1,c,_⟩:=p;rw[z,h2]at e1;cases e1;rw[c2]at c;exact absurd c (by decide)
  have hi:i<its.toArray.size:=by
   rw[AN];exact(AM.mp hu).1
  have W:=WalksT.enumerate (prog:=X.prog) (w:=X.w) (A:=X.A) (I.ok.hd hc) e it a hei hae hai its.toArray;refine W.item i s _ _ hi ⟨st.1,st.2,p.isList⟩ fun T vals h' tk hv hT ht hm k=>?_;obtain⟨t,x',hx',rfl⟩:=hv;have:x'=u:=by
   have:its.toArray[i]?=some u:=by simpa using hu
   rw[this]at hx';exact(BV hx').symm
  subst this;refine⟨.ref T,rfl,W.go elts kk tp i T _ _ _ hm fun h2 st2 k2=>?_⟩;have hTn:H T=none:=I.hok.fresh hT;have hTe:T≠e:=fun z=>W.apart i T h' hm (by simp[z]);have hTi:T≠it:=fun z=>W.apart i T h' hm (by simp[z]);have kk2:∀b o,b≠e->b≠it->s.heap.get? b=some o->h2.get? b=some o:=fun b o b1 b2 eb=>k2 b o (by simp[b1,b2]) (k b o (by simp[b1,b2]) eb);have hT2:h2.IsTuple T #[.int i t,x']:=by
   obtain⟨o,e1,r⟩:=ht;exact⟨o,k2 T o (by simp[hTe,hTi]) e1,r⟩
  refine⟨.ref T,upd H T (.tup [.int i,x]),I.turnLaid (fp:=[e,it]) (fun b o hb eb=>kk2 b o (fun z=>hb (by simp[z])) (fun z=>hb (by simp[z])) eb) hf (fun b hb=>?_) hT ⟨?_,[.int i t,x'],.cons ⟨t,rfl⟩ (.cons ru .nil),hT2⟩,rfl,⟨T,x,rfl,hTn,rfl,fun ys hy=>by rw[I.list_inj hy hq];exact hx⟩,⟨st2.1,st2.2.1⟩,fun b hb=>?_⟩
  .rcases AS.mp hb with rfl | hb
   .obtain⟨old,h1⟩:=st.1;exact⟨_,h1⟩
   .rw[AC.mp hb];obtain⟨o,h1,_⟩:=st.2;exact⟨o,h1⟩
  .show 2<=sizeLine;decide
  .rcases AS.mp hb with rfl | hb
   .rw[B7 (Ne.symm hTe)];exact f0
   .rw[AC.mp hb,B7 (Ne.symm hTi)];exact g0
 done:=by
  intro X hP hw hK hc i pins s σ H E I hf st hg;subst hP hw hK;obtain⟨xs,hq,hx⟩:=hg;obtain⟨its,rv,p,hz⟩:=I.list hq;obtain⟨f0,f1,f2,f3,f4,f5⟩:=hf e (by simp);obtain⟨g0,g1,g2,g3,g4,g5⟩:=hf it (by simp);have hae:a≠e:=fun z=>by
   obtain⟨old,h1⟩:=st.1;obtain⟨o,n,e1,c,_⟩:=p;rw[z,h1]at e1;cases e1;exact absurd c (by show ¬Value.type "enumerate" = Value.type "list";decide)
  have hai:a≠it:=fun z=>by
   obtain⟨o2,h2,c2,d2⟩:=st.2;obtain⟨o,n,e1,c,_⟩:=p;rw[z,h2]at e1;cases e1;rw[c2]at c;exact absurd c (by decide)
  have W:=WalksT.enumerate (prog:=X.prog) (w:=X.w) (A:=X.A) (I.ok.hd hc) e it a hei hae hai its.toArray;have hl:=rv.length;have hi:i=its.toArray.size:=by rw[AN];omega
  rw[hi]at st;refine W.done s _ _ ⟨st.1,st.2,p.isList⟩ fun h' tk k=>⟨rfl,?_⟩;have I1:=I.step (h':=h') (H':=H) (t':=tk) (g':=s.gens) (d':=s.drawn) (ch:=[e,it]) (fun b hb=>let⟨_,f1,_,f3,f4,f5⟩:=hf b hb;⟨f3,f1,f4,f5⟩) (fun b ob _ _ hc e _=>k b ob hc e) (fun b ob _ _ hc e _=>⟨ob.slots,k b ob hc e⟩) (fun _ _ _ _ n=>n)
   (fun b ob hc e=>⟨ob,k b ob hc e⟩) (fun _ _ e=>e) (fun _ _ _ e=>e) (fun b ps e=>⟨#[],by rw[e];simp⟩) (fun m hm=>?_) (fun b u eb=>?_) I.bare
  .exact I1
  .obtain⟨ob,es,ep,ho,r⟩:=hm;exact⟨ob,es,ep,k _ ob (fun hb=>(hf _ hb).2.1 rfl) ho,r⟩
  .have nf:∀b u,H b=some u->b∉[e,it]:=fun b u e hb=>by rw[(hf b hb).1]at e;cases e
   refine(I.hok b u eb).stay (fun c v hc q=>k c v ?_ q) (fun _ q=>q) fun _ _ q=>q;rcases hc with z | z
   .rw[z];exact nf b u eb
   .exact nf c _ z
 self:=fun A i s Q E st h=>by
  obtain⟨old,he⟩:=st.1;exact wpAny_pyIter_enum he h
section
variable{X:Cx}{elts:List Expr}{kk:Nat}{tp:Pos}
def Ul(K:PySem.W.Frag)(ta:TA):TI:=fun σ H R=>ta σ H fun vs H1=>∃a xs,vs = [.ref a]/\SqL K H1 a xs/\R (Ite K a) H1
theorem Pm{a:Expr}{ta:TA}{p pos:Pos}(hg:Gl X "enumerate")(hm:X.mg "enumerate" = none)(hv:bootBuiltins "enumerate" = some (.type "enumerate"))(ha:PA X [a] ta)(hs:starEach [a] X.env = [(false,eval a X.env)]:=by rfl):PI X (.Tuple elts kk tp) (.Call (.Name "enumerate" p) [a] [] pos) (Ul X.K ta):=by
 intro pins s σ H R I h;refine Call_ (Ag I hg hm hv (PyProof.Rows.callWith_type1 (thn (ha pos pins s σ H _ I h) fun us s1 ⟨vs,H1,I1,r1,q1⟩=>?_) hs rfl));obtain⟨l,xs,e,hq,q⟩:=q1;subst e;obtain⟨u,rfl,ru⟩:=Z4 r1;cases ru;obtain⟨its,rv,pl,hz⟩:=I1.list hq;refine call_enumerate_list pl.isList fun h' he hit hsz k=>wpAny_pyIter_enum he ?_;have I2:Inv X pins σ H1 { s1 with heap:=h' }:=I1.kept (t':=s1.toks) k;refine⟨s1.heap.objs.size+1,[s1.heap.objs.size+1,s1.heap.objs.size],_,_,H1,rfl,I2,Jj l s1.heap.objs.size (s1.heap.objs.size+1) (Nat.succ_ne_self _),⟨⟨_,he⟩,hit⟩,fun b hb=>?_,q⟩;rcases AS.mp hb with z | hb
 .rw[z];exact I1.fpOk (CL _) (I1.hok.fresh (CL _))
 .rw[AC.mp hb];exact I1.fpOk (Nat.le_refl _) (I1.hok.fresh (Nat.le_refl _))
end
end L2
namespace ST
open PySem
def Msk(mask:Nat):Prop:=mask=7\/mask=31\/mask=127\/mask=511
section
variable{prog:Program}{w:World}{K:Type}[DecidableEq K]{knd:KeyKind prog w K}{A:Around}{E:Value->Shared->Prop}{s:Shared}
structure Tab(t:SetTable)(n:Nat):Prop where
 dm:t.dummies = #[]
 pl:t.place.size=n
 mm:Msk t.mask
 rm:n*5<t.mask*3
def Els(knd:KeyKind prog w K)(es:Array (Int×Value))(ks:List (List K×Addr)):Prop:=es.toList.Perm (ks.map fun q=>((tupleKind knd).hash q.1,Value.ref q.2))
def TSet(knd:KeyKind prog w K)(h:Heap)(a:Addr)(ks:List (List K×Addr)):Prop:=∃o es ep t,h.get? a=some o/\o.ExactSet/\o.data = .set es ep t/\Els knd es ks/\Tab t es.size
theorem Ly{h:Heap}{a:Addr}{o:Obj}{es:Array (Int×Value)}{ep:Nat}{t:SetTable}(ho:h.get? a=some o)(hd:o.data = .set es ep t)(es':Array (Int×Value))(t':SetTable) :
  (h.update a (Obj.putSet es' t')).get? a=some { o with data:=.set es' (ep+1) t' }:=by
 have:=BT (Obj.putSet es' t') ho (by rw[putSet_of es' t' hd];rfl);rw[putSet_of es' t' hd]at this;exact this
end
theorem Fv:Manifest.owners.lookup (String.ofList ['r','o','t','a','r','e','t','i','_','t','e','s'].reverse)=some Manifest.sig_set_iterator:=by kernel_rfl
theorem slot_si_next:Slot "set_iterator" "__next__" "set_iterator.__next__" :=
 .of (owner := "set_iterator") (n := "__next__") (by rw[typeLookup_type,builtinLookup_eq_fast];kernel_rfl) (by decide +kernel) (by decide +kernel) (by decide +kernel) (by first | exact .inl (by decide +kernel) | exact .inr (by decide +kernel)) (by rw[isSubtype_type];kernel_rfl)
theorem U0:entryFor table "set_iterator.__next__" = some Builtin.«set_iterator.__next__»:=entryFor_of_tree (by kernel_rfl)
theorem Y3(a:Value):argsOk "set_iterator.__next__" ⟨[a],[]⟩:=by
 unfold argsOk;rw[signature?_of (id := "set_iterator.__next__") (n:=['_','_','t','x','e','n','_','_']) (o:=['r','o','t','a','r','e','t','i','_','t','e','s']) (by kernel_rfl) Fv];kernel_rfl
theorem Y0:Slot "set_iterator" "__iter__" "set_iterator.__iter__" :=
 .of (owner := "set_iterator") (n := "__iter__") (by rw[typeLookup_type,builtinLookup_eq_fast];kernel_rfl) (by decide +kernel) (by decide +kernel) (by decide +kernel) (by first | exact .inl (by decide +kernel) | exact .inr (by decide +kernel)) (by rw[isSubtype_type];kernel_rfl)
theorem Dy(a:Value):argsOk "set_iterator.__iter__" ⟨[a],[]⟩:=by
 unfold argsOk;rw[signature?_of (id := "set_iterator.__iter__") (n:=['_','_','r','e','t','i','_','_']) (o:=['r','o','t','a','r','e','t','i','_','t','e','s']) (by kernel_rfl) Fv];kernel_rfl
theorem Av:entryFor table "set_iterator.__iter__" = some Builtin.«dict_keyiterator.__iter__» :=
 entryFor_alias (id' := "dict_keyiterator.__iter__") (by kernel_rfl) (by first | rfl | decide +kernel | (unfold String.splitOn;simp +decide [String.splitOnAux])) (by decide +kernel) (by kernel_rfl)
theorem Ed:entryFor table "set.__iter__" = some Builtin.«frozenset.__iter__» :=
 entryFor_alias (id' := "frozenset.__iter__") (by kernel_rfl) rfl (by decide +kernel) (by kernel_rfl)
theorem Vw:typeLookup (.type "set") "__len__" = pure (some (.builtin "set.__len__")):=by rw[typeLookup_type,builtinLookup_eq_fast];kernel_rfl
section
variable{prog:Program}{w:World}{A:Around}{E:Value->Shared->Prop}{s:Shared}
theorem Kc{n:Nat}{Q:Nat->Shared->Prop}(hn:n≠0)(h:∀i d,i<n->Q i { s with drawn:=d }):wpAny (model prog w) A (choose .order n) Q E s:=fun Γ p hΓ=>by
 unfold choose;rw[Sem.wp_choose];exact⟨hn,h _ _ (Nat.mod_lt _ (Nat.pos_of_ne_zero hn))⟩
theorem erase_perm{α:Type}:∀{l:List α} {i:Nat} {x:α},l[i]?=some x->(x::l.eraseIdx i).Perm l
 | [],i,x,h=>by simp at h
 | y::l,0,x,h=>by
  have:y=x:=by simpa using h
  subst this;exact .refl _
 | y::l,i+1,x,h=>by
  have h':l[i]?=some x:=by simpa using h
  exact(List.Perm.swap y x _).trans ((erase_perm h').cons y)
theorem Ce{α:Type}{l:List α}{i:Nat}{x:α}(h:l[i]?=some x):(l.eraseIdx i).length+1=l.length:=(erase_perm h).length_eq
theorem Lg{α:Type}:∀(n:Nat) (l:List α) (s:Shared) (Q:List α->Shared->Prop),l.length=n->(∀l' d,l'.Perm l->Q l' { s with drawn:=d })->wpAny (model prog w) A (drawOrder n l) Q E s
 | 0,l,s,Q,hl,h=>by
  unfold drawOrder;obtain rfl:=List.length_eq_zero_iff.mp hl;exact AE (h [] s.drawn (.refl _))
 | n+1,[],s,Q,hl,h=>by simp at hl
 | n+1,x::xs,s,Q,hl,h=>by
  unfold drawOrder;refine AA (Kc (by simp) fun i d hi=>?_);have e:(x::xs)[i]?=some ((x::xs)[i]):=AJ hi;rw[e];dsimp only;have hp:=erase_perm e;refine AA (Lg n _ _ _ (by have:=Ce e;omega) fun l' d' hp'=>?_);exact AE (h _ d' ((hp'.cons _).trans hp))
theorem Jf{α:Type}(nx:Nat->Nat):∀(f k:Nat) (left:List α) (out:Array α),left.length=f->(pickOrder.go nx f k left out).toList.Perm (out.toList++left)
 | 0,k,left,out,h=>by
  obtain rfl:=List.length_eq_zero_iff.mp h;unfold pickOrder.go;simp
 | f+1,k,left,out,h=>by
  have hlt:nx k % left.length<left.length:=Nat.mod_lt _ (by omega);have e:left[nx k % left.length]?=some left[nx k % left.length]:=AJ hlt;unfold pickOrder.go;rw[e];dsimp only;have hp:=erase_perm e;refine(Jf nx f (k+1) _ _ (by have:=Ce e;omega)).trans ?_;rw[CN,BF];exact hp.append_left _
theorem o7{α:Type}(nx:Nat->Nat)(xs:Array α):(pickOrder nx xs).toList.Perm xs.toList:=by
 unfold pickOrder;have:=Jf nx xs.size 0 xs.toList #[] (AV ..);simpa using this
structure SAt(w:World)(h:Heap)(a:Addr)(o:Obj)(es:Array (Int×Value))(ep:Nat)(t:SetTable):Prop where
 ho:h.get? a=some o
 ex:o.ExactSet
 hd:o.data = .set es ep t
 ft:t.fits es.size=true
 led:t.led=!(w.params.followText "set-order")
 pln:t.plain=true->es.size=0
 few:es.size<4096
def sIt(first:Value)(i n ep:Nat)(a:Addr):Obj:={ cls:=.type "set_iterator",data:=.fields #[first,rawInt i,.ref a,rawInt n,rawInt ep] }
theorem J6{Q:Bool->Shared->Prop}(h:Q (w.params.followText "set-order") s):wpAny (model prog w) A setsByText Q E s:=by
 unfold setsByText;exact AA (FH (AE h))
variable{a it:Addr}{o:Obj}{es:Array (Int×Value)}{ep:Nat}{t:SetTable}
theorem b7{i sl:Nat}{r:Option (Value×Nat)}{Q:Option Value->Shared->Prop}(hh:A.handled=none)(S:SAt w s.heap a o es ep t)(hne:it≠a)(hi:s.heap.get? it=some (sIt (rawInt sl) i es.size ep a))
  (hin:∀(Q':Option (Value×Nat)->Shared->Prop) (A':Around) (E':Value->Shared->Prop),Q' r s->wpAny (model prog w) A' (setNext a sl i ep) Q' E' s)
  (hQ1:∀x nx h',r=some (x,nx)->h'.get? it=some (sIt (rawInt nx) (i+1) es.size ep a)->Heap.SameBut it s.heap h'->Q (some x) { s with heap:=h' })
  (hQ0:r=none->∀h',Heap.ExtBut it s.heap h'->Q none { s with heap:=h' }):wpAny (model prog w) A (pyNext (.ref it)) Q E s:=by
 have hT:s.TypeIs (.ref it) "set_iterator":=⟨_,hi,rfl⟩;unfold pyNext;refine AA (EX (DE (name:=Str.ofString "__next__") hT slot_si_next (CU slot_si_next hT U0 ?_ (Y3 _))));unfold Builtin.«set_iterator.__next__»;refine AA (DY (a:=(Value.ref it,[])) rfl ?_);dsimp only;refine AA (wpAny_fieldsOf hi rfl ?_);dsimp only[rawInt];refine AA (wpAny_setEntries_of S.ho S.hd S.ft ?_);rw[AR (by simp)];simp only[CY];refine AA (hin _ _ _ ?_);cases r with
 | some p =>
  obtain⟨x,nx⟩:=p;dsimp only;refine AA (DJ hi rfl (by simp) ?_);have h1:=BT (Obj.mapFields (·.setIfInBounds 0 (rawInt (nx:Nat)))) hi rfl;refine AA (DJ h1 rfl (by simp) ?_);have h2:=BT (Obj.mapFields (·.setIfInBounds 1 (rawInt ((i:Int)+1)))) h1 rfl;refine AE ⟨x,rfl,AE (hQ1 x nx _ rfl ?_ ((DL ..).trans (DL ..)))⟩;exact h2
 | none =>
  dsimp only;refine AA (DJ hi rfl (by simp) ?_);refine AA ?_;simp only[newExc,newTuple];refine AA (CG ?_ (by size_fits));refine AA (m:=firstArgMember _ _) (DY (a:=Value.none) (by first | rfl | (simp only[firstArgMember];rfl)) ?_);refine CG ?_ (by size_fits);simp only[raiseNew];refine AA (wpAny_handled ?_)
  first | rw[show A.in1.handled=none from hh] | rw[hh]
  refine AA (AE (wpAny_throw ?_));refine AA (FY (T := "StopIteration") (b:=true) ⟨_,AW _ rfl,rfl⟩ isSubtype_stop ?_);exact AE (hQ0 rfl _ ((FZ (FZ (fun b o hb e=>(BJ _ _ (Ne.symm hb)).trans e) _)) _))
end
def Sc(ps:List Nat):Obj:={ cls:=.type "tuple",data:=.seq (ps.map fun(i:Nat)=>rawInt i).toArray }
section
variable{prog:Program}{w:World}{A:Around}{E:Value->Shared->Prop}{s:Shared}{a it T:Addr}{o:Obj}{es:Array (Int×Value)}{ep:Nat}{t:SetTable}
theorem Gk{i:Nat}{ps:List Nat}{Q:Option Value->Shared->Prop}(hh:A.handled=none)(S:SAt w s.heap a o es ep t)(hi:s.heap.get? it=some (sIt (.ref T) i es.size ep a))(hT:s.heap.get? T=some (Sc ps))
  (hQ1:∀p x h',ps[i]?=some p->es[p]?=some x->h'.get? it=some (sIt (.ref T) (i+1) es.size ep a)->Heap.SameBut it s.heap h'->Q (some x.2) { s with heap:=h' }) (hps:∀p∈ps,p<es.size)
  (hQ0:ps.length<=i->∀h',Heap.ExtBut it s.heap h'->Q none { s with heap:=h' }):wpAny (model prog w) A (pyNext (.ref it)) Q E s:=by
 have hTy:s.TypeIs (.ref it) "set_iterator":=⟨_,hi,rfl⟩;unfold pyNext;refine AA (EX (DE (name:=Str.ofString "__next__") hTy slot_si_next (CU slot_si_next hTy U0 ?_ (Y3 _))));unfold Builtin.«set_iterator.__next__»;refine AA (DY (a:=(Value.ref it,[])) rfl ?_);dsimp only;refine AA (wpAny_fieldsOf hi rfl ?_);dsimp only[rawInt];refine AA (wpAny_setEntries_of S.ho S.hd S.ft ?_);rw[AR (by simp)];simp only[CY];refine AA (EC hT rfl ?_);dsimp only;cases e:ps[i]? with
 | some p =>
  have e':(ps.map fun(i:Nat)=>Value.int (i:Int) 0).toArray[i]?=some (.int (p:Int) 0):=by
   rw[ED,AG,e];rfl
  have e'':(ps.map fun(i:Nat)=>rawInt i).toArray[i]?=some (.int (p:Int) 0):=e';rw[e''];have hp:p<es.size:=hps p (AH e);obtain⟨x,hx⟩:∃x,es[p]?=some x:=⟨es[p],CP.mpr ⟨hp,rfl⟩⟩;dsimp only;simp only[CY];unfold setNextDrawn;refine AA (AA (CZ S.ho S.hd S.ft ?_));dsimp only;rw[AR (by simp),hx];dsimp only;refine AE ?_;refine AA (DJ hi rfl (by simp) ?_);have h2:=BT (Obj.mapFields (·.setIfInBounds 1 (rawInt ((i:Int)+1)))) hi rfl;exact AE ⟨x.2,rfl,AE (hQ1 p x _ e hx h2 (DL ..))⟩
 | none =>
  have e'':(ps.map fun(i:Nat)=>rawInt i).toArray[i]?=none:=by
   rw[ED,AG,e];rfl
  rw[e''];dsimp only;refine AA (DJ hi rfl (by simp) ?_);have h1:=BT (Obj.mapFields (·.setIfInBounds 0 (rawInt 0))) hi rfl;refine AA (DJ h1 rfl (by simp) ?_);refine AA ?_;simp only[newExc,newTuple];refine AA (CG ?_ (by size_fits));refine AA (m:=firstArgMember _ _) (DY (a:=Value.none) (by first | rfl | (simp only[firstArgMember];rfl)) ?_);refine CG ?_ (by size_fits);simp only[raiseNew];refine AA (wpAny_handled ?_);rw[show A.in1.handled=none from hh];refine AA (AE (wpAny_throw ?_));refine AA (FY (T := "StopIteration") (b:=true) ⟨_,AW _ rfl,rfl⟩ isSubtype_stop ?_);refine AE (hQ0 (FI.mp e) _ (FZ (FZ (fun b ob hb eb=>?_) _) _));exact(BJ _ _ (Ne.symm hb)).trans ((BJ _ _ (Ne.symm hb)).trans eb)
def Wo(w:World)(a T:Addr)(es:Array (Int×Value))(ep:Nat)(t:SetTable)(order:List Value)(i:Nat)(h:Heap)(first:Value):Prop :=
 (w.params.followText "set-order" = true/\first=rawInt (0:Nat)/\order =(pickOrder (w.params.setOrder a ep) es).toList.map (·.2)) \/
 (w.params.followText "set-order" = false/\∃ps:List Nat,first = .ref T/\h.get? T=some (Sc ps)/\ps.Perm (List.range es.size)/\order=ps.filterMap fun p=>es[p]?.map (·.2)) \/
 (w.params.followText "set-order" = false/\es.size<=1/\order=es.toList.map (·.2)/\∃sl:Nat,first=rawInt sl/\(i=0->sl=0)/\(i=1->∃j,t.place = #[j]/\sl=j+1))
def SSt(w:World)(a it T:Addr)(o:Obj)(es:Array (Int×Value))(ep:Nat)(t:SetTable)(order:List Value)(i:Nat)(h:Heap):Prop :=
 SAt w h a o es ep t/\∃first,h.get? it=some (sIt first i es.size ep a)/\Wo w a T es ep t order i h first
theorem SAt.at{h h':Heap}(S:SAt w h a o es ep t)(e:h'.get? a=some o):SAt w h' a o es ep t:=⟨e,S.ex,S.hd,S.ft,S.led,S.pln,S.few⟩
theorem To(j:Nat):SetTable.below #[j] 0=0:=by simp[SetTable.below,SetTable.below.go]
theorem Ub(j:Nat):SetTable.below #[j] (j+1)=1:=by simp[SetTable.below,SetTable.below.go]
theorem Oa(S:SAt w s.heap a o es ep t):t.place.size=es.size:=by
 have:=S.ft;unfold SetTable.fits at this;rw[CF]at this;simpa using this.1
theorem Mf(hh:A.handled=none){order:List Value}(hia:it≠a)(hiT:it≠T):Walks prog w A it [it,a,T] [it] es.size (fun i v=>order[i]?=some v) (SSt w a it T o es ep t order) where
 sub:=fun b hb=>by simp at hb;simp[hb]
 frame:=fun i h h' ⟨S,first,hi,hm⟩ k=>by
  refine⟨S.at (k a (by simp) _ S.ho),first,k it (by simp) _ hi,?_⟩;rcases hm with z | ⟨z1,ps,z2,z3,z4,z5⟩ | z
  .exact .inl z
  .exact .inr (.inl ⟨z1,ps,z2,k T (by simp) _ z3,z4,z5⟩)
  .exact .inr (.inr z)
 item:=fun i s Q E hlt ⟨S,first,hi,hm⟩ hQ=>by
  have keep:∀h',Heap.SameBut it s.heap h'->∀b ob,b∉[it]->s.heap.get? b=some ob->h'.get? b=some ob:=fun h' hs b ob hb e=>(hs.2 b (by simpa using hb)).trans e;rcases hm with⟨z1,rfl,z3⟩ | ⟨z1,ps,rfl,z3,z4,z5⟩ | ⟨z1,z2,z3,sl,rfl,z5,z6⟩
  .have hpk:=o7 (w.params.setOrder a ep) es;have hlen:(pickOrder (w.params.setOrder a ep) es).size=es.size:=by rw[<-AV,hpk.length_eq,AV]
   obtain⟨x,hx⟩:∃x,(pickOrder (w.params.setOrder a ep) es)[i]?=some x:=⟨_,CP.mpr ⟨by rw[hlen];exact hlt,rfl⟩⟩;refine b7 (r:=some (x.2,0)) hh S hia hi (fun Q' A' E' q=>?_) (fun y nx h' e1 e2 hs=>?_) (fun e=>nomatch e)
   .unfold setNext setWalk;refine AA (CZ S.ho S.hd S.ft ?_);dsimp only;refine AA (J6 ?_);rw[z1,AZ rfl,AR (by simp)];refine AA (AA (CZ S.ho S.hd S.ft ?_));dsimp only;refine AA (J6 ?_);rw[z1,AZ rfl];refine AA (FH (AE (AE ?_)));show Q' (((pickOrder (w.params.setOrder a ep) es)[i]?).map fun e=>(e.2,0)) s;rw[hx];exact q
   .cases e1;have:=hQ x.2 h' s.toks (by rw[z3,AG,BG,hx];rfl) ⟨S.at ((hs.2 a (Ne.symm hia)).trans S.ho),_,e2,.inl ⟨z1,rfl,z3⟩⟩ (keep h' hs);exact this
  .refine Gk hh S hi z3 (fun p x h' e1 e2 e3 hs=>?_) (fun p hp=>FD.mp (z4.mem_iff.mp hp)) (fun hle=>?_)
   .have hall:∀q∈ps,(es[q]?.map (·.2)).isSome=true:=fun q hq=>by
     have:q<es.size:=FD.mp (z4.mem_iff.mp hq);rw[CP.mpr ⟨this,rfl⟩];rfl
    refine hQ x.2 h' s.toks ?_ ⟨S.at ((hs.2 a (Ne.symm hia)).trans S.ho),_,e3,.inr (.inl ⟨z1,ps,rfl,(hs.2 T (Ne.symm hiT)).trans z3,z4,z5⟩)⟩ (keep h' hs);have gen:∀(l:List Nat) (i p:Nat),(∀q∈l,(es[q]?.map (·.2)).isSome=true)->l[i]?=some p->(l.filterMap fun p=>es[p]?.map (·.2))[i]?=es[p]?.map (·.2):=by
     intro l
     induction l with
     | nil=>intro i p _ e;simp at e
     | cons q r ih =>
      intro i p hl e;obtain⟨v,hv⟩:=CK.mp (hl q (BB ..));rw[CW,hv];dsimp only;cases i with
      | zero =>
       have:q=p:=by simpa using e
       subst this;simpa using hv.symm
      | succ i=>simpa using ih i p (fun q hq=>hl q (AQ _ hq)) (by simpa using e)
    rw[z5,gen ps i p hall e1,e2];rfl
   .have:=z4.length_eq;rw[FX]at this;omega
  .have h0:i=0:=by omega
   have h1:es.size=1:=by omega
   obtain⟨j,hj⟩:∃j,t.place = #[j]:=Array.size_eq_one_iff.mp ((Oa S).trans h1);obtain⟨x,hx⟩:∃x,es = #[x]:=Array.size_eq_one_iff.mp h1;have hs0:=z5 h0;subst hs0;have hx0:es[0]?=some x:=by rw[hx];rfl
   refine b7 (r:=some (x.2,j+1)) hh S hia hi (fun Q' A' E' q=>?_) (fun y nx h' e1 e2 hs=>?_) (fun e=>nomatch e)
   .unfold setNext;refine AA (CZ S.ho S.hd S.ft ?_);dsimp only;refine AA (J6 ?_);rw[z1,AR (by decide)];show wpAny _ _ (if(!t.plain&&decide (es.size>1))=true then _ else _) _ _ _;rw[AR (by rw[h1];simp)];show wpAny _ _ (do (if(!t.led&&!es.isEmpty)=true then unsupported "set:maker-not-led" else pure ());_) _ _ _;rw[S.led,z1,AR (by simp)];refine AA (AE ?_);rw[hj,To,hx0];exact AE q
   .cases e1;refine hQ x.2 h' s.toks (by rw[z3,h0,hx];rfl) ⟨S.at ((hs.2 a (Ne.symm hia)).trans S.ho),_,e2,.inr (.inr ⟨z1,z2,z3,j+1,rfl,fun e=>by omega,fun _=>⟨j,hj,rfl⟩⟩)⟩ (keep h' hs)
 done:=fun s Q E ⟨S,first,hi,hm⟩ hQ=>by
  have keep:∀h',Heap.ExtBut it s.heap h'->∀b ob,b∉[it]->s.heap.get? b=some ob->h'.get? b=some ob:=fun h' hs b ob hb e=>hs b ob (by simpa using hb) e;rcases hm with⟨z1,rfl,z3⟩ | ⟨z1,ps,rfl,z3,z4,z5⟩ | ⟨z1,z2,z3,sl,rfl,z5,z6⟩
  .have hpk:=o7 (w.params.setOrder a ep) es;have hlen:(pickOrder (w.params.setOrder a ep) es).size=es.size:=by rw[<-AV,hpk.length_eq,AV]
   refine b7 (r:=none) hh S hia hi (fun Q' A' E' q=>?_) (fun y nx h' e1=>nomatch e1) (fun _ h' hs=>hQ h' s.toks (keep h' hs));unfold setNext setWalk;refine AA (CZ S.ho S.hd S.ft ?_);dsimp only;refine AA (J6 ?_);rw[z1,AZ rfl,AR (by simp)];refine AA (AA (CZ S.ho S.hd S.ft ?_));dsimp only;refine AA (J6 ?_);rw[z1,AZ rfl];refine AA (FH (AE (AE ?_)));show Q' (((pickOrder (w.params.setOrder a ep) es)[es.size]?).map fun e=>(e.2,0)) s;rw[DW (by rw[hlen];exact Nat.le_refl _)];exact q
  .have hl:=z4.length_eq;rw[FX]at hl;refine Gk hh S hi z3 (fun p x h' e1 e2 e3 hs=>?_) (fun p hp=>FD.mp (z4.mem_iff.mp hp)) (fun _ h' hs=>hQ h' s.toks (keep h' hs));have:=(AM.mp e1).1;omega
  .refine b7 (r:=none) hh S hia hi (fun Q' A' E' q=>?_) (fun y nx h' e1=>nomatch e1) (fun _ h' hs=>hQ h' s.toks (keep h' hs));unfold setNext;refine AA (CZ S.ho S.hd S.ft ?_);dsimp only;refine AA (J6 ?_);rw[z1,AR (by decide)];show wpAny _ _ (if(!t.plain&&decide (es.size>1))=true then _ else _) _ _ _;rw[AR (by simp;intro _;omega)];show wpAny _ _ (do (if(!t.led&&!es.isEmpty)=true then unsupported "set:maker-not-led" else pure ());_) _ _ _;rw[S.led,z1,AR (by simp)];refine AA (AE ?_);have hnone:es[SetTable.below t.place sl]?=none:=by
    by_cases h0:es.size=0
    .exact DW (by rw[h0];exact B_ _)
    .obtain⟨j,hj,rfl⟩:=z6 (by omega);rw[hj,Ub];exact DW (by omega)
   rw[hnone];exact AE q
 self:=fun i s Q E ⟨S,first,hi,hm⟩ h=>by
  have hT:s.TypeIs (.ref it) "set_iterator":=⟨_,hi,rfl⟩;refine wpAny_pyIter_slot hT Y0 (CU Y0 hT Av ?_ (Dy _));show wpAny _ _ (ret (.ref it)) _ _ s;exact AE ⟨_,rfl, "set_iterator",_,hT,slot_si_next.lookup,h⟩
theorem Nn{Q:Value->Shared->Prop}(S:SAt w s.heap a o es ep t)
  (h:∀(it T:Addr) (order:List Value) (h':Heap) (d:Drawn),it≠a->it≠T->(T=a\/s.heap.objs.size<=T)->s.heap.objs.size<=it->(∀b ob,s.heap.get? b=some ob->h'.get? b=some ob)->order.Perm (es.toList.map (·.2))->SSt w a it T o es ep t order 0 h'->(∀b∈[it,a,T],b<h'.objs.size) ->
   (∀A':Around,A'.handled=none->Walks prog w A' it [it,a,T] [it] es.size (fun i v=>order[i]?=some v) (SSt w a it T o es ep t order))->Q (.ref it) { s with heap:=h',drawn:=d }):wpAny (model prog w) A (pyIter (.ref a)) Q E s:=by
 have hT:s.TypeIs (.ref a) "set":=⟨_,S.ho,S.ex.1⟩;have ha:=AF S.ho;refine wpAny_pyIter_slot hT F.slot_set_iter (CU F.slot_set_iter hT Ed ?_ (F.args_set_iter_1 _));unfold Builtin.«frozenset.__iter__» Builtin.Frozenset.slot0 Builtin.Frozenset.sizeOf;refine AA (AA (DY (a:=(Value.ref a,[])) rfl ?_));dsimp only;refine DY (a:=a) rfl ?_;refine AA (AA (wpAny_setEntries_of S.ho S.hd S.ft (AE ?_)));have fin:∀(first:Value) (T:Addr) (order:List Value) (h1:Heap) (d:Drawn),(∀b ob,s.heap.get? b=some ob->h1.get? b=some ob)->s.heap.objs.size<=h1.objs.size->order.Perm (es.toList.map (·.2))->T<h1.objs.size->(T=a\/s.heap.objs.size<=T) ->
   (∀h2:Heap,(∀b ob,h1.get? b=some ob->h2.get? b=some ob)->Wo w a T es ep t order 0 h2 first) ->
   wpAny (model prog w) A.in1 (do let e <-setEpoch a;let x <-newFields "set_iterator" [first,rawInt 0,.ref a,rawInt (es.size:Nat),rawInt (e:Nat)];ret x) (fun r s'=>∃v,r=Fin.done (Flow.ret v)/\∃T' r,s'.TypeIs v T'/\typeLookup (Value.type T') (Str.ofString "__next__")=pure (some r)/\Q v s') E { s with heap:=h1,drawn:=d }:=by
  intro first T order h1 d k hsz hp hTl hTa hm
  refine AA (wpAny_setEpoch_of (s:={ s with heap:=h1,drawn:=d }) (k a o S.ho) S.hd S.ft ?_);refine AA (CG ?_);have hg:(h1.push (sIt first 0 es.size ep a)).get? h1.objs.size=some (sIt first 0 es.size ep a):=AW _ rfl;have k2:∀b ob,h1.get? b=some ob->(h1.push (sIt first 0 es.size ep a)).get? b=some ob:=fun b ob e=>AD _ e;have hia:h1.objs.size≠a:=fun e=>absurd (AX ha hsz) (by rw[<-e];exact CD _);have hiT:h1.objs.size≠T:=fun e=>absurd hTl (by rw[<-e];exact CD _);refine AE ⟨.ref h1.objs.size,rfl, "set_iterator",_,⟨_,hg,rfl⟩,slot_si_next.lookup,?_⟩;refine h h1.objs.size T order (h1.push (sIt first 0 es.size ep a)) d hia hiT hTa hsz (fun b ob e=>k2 b ob (k b ob e)) hp ⟨S.at (k2 a o (k a o S.ho)),first,hg,hm _ k2⟩ (fun b hb=>?_) fun A' hh=>Mf hh hia hiT;rw[BW];simp only[AS,AO,or_false]at hb;rcases hb with rfl | rfl | rfl
  .exact D_ _
  .exact EJ (AX ha hsz)
  .exact EJ hTl
 unfold setDrawn;refine AA (AA (CZ S.ho S.hd S.ft ?_));dsimp only;refine AA (J6 (AE ?_));cases hb:w.params.followText "set-order" with
 | true =>
  show wpAny _ _ (if(!true &&(!t.plain&&decide (es.size>1)))=true then _ else _) _ _ _;rw[GB,FE,AR (by decide)];refine AA (AE ?_);exact fin _ a _ s.heap s.drawn (fun _ _ e=>e) (Nat.le_refl _) ((o7 _ es).map _) ha (.inl rfl) fun h2 _=>.inl ⟨hb,rfl,rfl⟩
 | false =>
  show wpAny _ _ (if(!false &&(!t.plain&&decide (es.size>1)))=true then _ else _) _ _ _;by_cases hdr:(!t.plain&&decide (es.size>1))=true
  .rw[Bool.not_false,Bool.true_and,AZ hdr];refine AA (Lg es.size (List.range es.size) s _ (FX ..) fun ps d hp=>AA ?_);unfold newTuple;refine CG ?_ ?_
   .have hg:(s.heap.push (Sc ps)).get? s.heap.objs.size=some (Sc ps):=AW _ rfl;refine fin _ s.heap.objs.size (ps.filterMap fun p=>es[p]?.map (·.2)) (s.heap.push (Sc ps)) d (fun b ob e=>AD _ e) (by rw[BW];exact CL _) ?_ (by rw[BW];exact D_ _) (.inr (Nat.le_refl _)) fun h2 k2=>.inr (.inl ⟨hb,ps,rfl,k2 _ _ hg,hp,rfl⟩);refine(hp.filterMap _).trans (List.Perm.of_eq ?_);have:=filterMap_getElem?_range es;rw[<-this,List.map_filterMap]
   .have h1:=hp.length_eq;have h2:=S.few;rw[FX]at h1;show(List.map _ ps).toArray.size<=sizeLine;rw[AN,AB,sizeLine_eq];omega
  .rw[Bool.not_false,Bool.true_and,AR hdr];refine AA (AE ?_);have hle:es.size<=1:=by
    by_cases hp:t.plain=true
    .have:=S.pln hp;omega
    .have hp':t.plain=false:=by simpa using hp
     rw[hp']at hdr;simp at hdr;omega
   exact fin _ a _ s.heap s.drawn (fun _ _ e=>e) (Nat.le_refl _) (.refl _) ha (.inl rfl) fun h2 _=>.inr (.inr ⟨hb,hle,rfl,0,rfl,fun _=>rfl,fun e=>absurd e (by decide)⟩)
end
section
variable{prog:Program}{w:World}{A:Around}{E:Value->Shared->Prop}{s:Shared}{a:Addr}{o:Obj}{es:Array (Int×Value)}{ep:Nat}{t:SetTable}
theorem Na{order:List Value}{acc:Array Value}(h:ItemsOf (fun i v=>order[i]?=some v) acc order.length):acc.toList=order:=by
 refine E_ fun i=>?_;rw[BG];by_cases hi:i<acc.size
 .have e:acc[i]?=some acc[i]:=CP.mpr ⟨hi,rfl⟩;rw[e,h.2 i _ e]
 .rw[DW (by omega),List.getElem?_eq_none (by have:=h.1;omega)]
theorem collect_set{Q:List Value->Shared->Prop}(hh:A.handled=none)(S:SAt w s.heap a o es ep t)
  (hQ:∀s' acc,(∀b ob,s.heap.get? b=some ob->s'.heap.get? b=some ob)->s'.gens=s.gens->s'.os=s.os->s.heap.objs.size<s'.heap.objs.size->acc.Perm (es.toList.map (·.2))->Q acc s'):wpAny (model prog w) A (collect (.ref a)) Q E s:=by
 have ha:=AF S.ho;unfold collect;refine AA (wpAny_runValue (EW F.entry_proto_collect ?_));rw[Around.under_plainId F.plain_proto_collect _];show wpAny _ A.in1 (newList [] >>= fun l=>again (.builtin "list.__iadd__" ⟨[l,.ref a],[]⟩)) _ _ s;refine AA (CG ?_);refine AE ⟨plainId_quiet F.plain_list_iadd _,EW F.entry_list_iadd ?_⟩;rw[Around.under_plainId F.plain_list_iadd _];show wpAny _ A.in1 (Builtin.List.listExtendWith (.ref s.heap.objs.size) (.ref a) (.ref s.heap.objs.size)) _ _ _;unfold Builtin.List.listExtendWith;have hne:s.heap.objs.size≠a:=fun e=>absurd ha (by rw[<-e];exact CD _);generalize hH:s.heap.push { cls:=.type "list",data:=.seq ([]:List Value).toArray }=H;have kH:∀b ob,s.heap.get? b=some ob->H.get? b=some ob:=fun b ob e=>by rw[<-hH];exact AD _ e
 have hHs:H.objs.size=s.heap.objs.size+1:=by rw[<-hH,BW]
 have hS:H.get? s.heap.objs.size=some { cls:=.type "list",data:=.seq ([]:List Value).toArray }:=by rw[<-hH];exact AW _ rfl
 have hT:Shared.TypeIs { s with heap:=H } (.ref a) "set":=⟨o,kH a o S.ho,S.ex.1⟩;refine AA (wpAny_typeOf hT ?_);have h1:Builtin.List.listSameRef (.ref s.heap.objs.size) (.ref a)=false:=by simp[Builtin.List.listSameRef,hne]
 have h2:(Value.type "set" == Value.type "list")=false:=by decide
 have h3:(Value.type "set" == Value.type "tuple")=false:=by decide
 simp only[h1,h2,h3,Bool.or_false,BQ,DR];refine AA (Nn (s:={ s with heap:=H }) (S.at (kH a o S.ho)) fun it T order h' d hia hiT hTa hsz k hp st hlt W=>?_);have hT':Shared.TypeIs { s with heap:=h',drawn:=d } (.ref a) "set":=⟨o,k a o (kH a o S.ho),S.ex.1⟩;refine AA (BZ ?_);unfold Builtin.List.listLengthHint;refine AA (wpAny_specialOf hT' Vw ?_);wp_delta;refine AA (FY hT' (b:=true) (by rw[isSubtype_type];kernel_rfl) ?_);show wpAny _ A.in1 (typeOf (Value.ref a) >>= _) _ _ _;refine AA (wpAny_typeOf hT' ?_);refine AE ?_;rw[AZ (by decide)];refine AA (DG ?_);have hS1:h'.get? s.heap.objs.size=some { cls:=.type "list",data:=.seq ([]:List Value).toArray }:=k _ _ hS;refine AA ?_;show wpAny _ A.in1 (updateSeq s.heap.objs.size (·.push .none) >>= fun _=>updateSeq s.heap.objs.size (·.pop)) _ _ _;refine AA (wpAny_updateSeq hS1 rfl ?_);have hS2:=BT (Obj.mapSeq (·.push Value.none)) hS1 rfl;refine wpAny_updateSeq hS2 rfl ?_;have hS3:=BT (Obj.mapSeq (·.pop)) hS2 rfl;have oth:∀b ob,b≠s.heap.objs.size->h'.get? b=some ob->((h'.update s.heap.objs.size (Obj.mapSeq (·.push Value.none))).update s.heap.objs.size (Obj.mapSeq (·.pop))).get? b=some ob :=
  fun b ob hb e=>(BJ _ _ (Ne.symm hb)).trans ((BJ _ _ (Ne.symm hb)).trans e)
 have hSf:s.heap.objs.size∉[it,a,T]:=by
  have e1:s.heap.objs.size≠it:=fun e=>absurd hsz (by
   show ¬H.objs.size<=it;rw[hHs,<-e];exact Nat.not_succ_le_self _)
  have e2:s.heap.objs.size≠T:=fun e=>by
   rcases hTa with z | z
   .exact hne (e.trans z)
   .exact absurd z (by
     show ¬H.objs.size<=T;rw[hHs,<-e];exact Nat.not_succ_le_self _)
  simp only[AS,AO,or_false,not_or];exact⟨e1,hne,e2⟩
 have hle:es.size=order.length:=by
  have:=hp.length_eq;rw[AB,AV]at this;exact this.symm
 have hfew:=S.few;refine AE ⟨plainId_quiet F.plain_extend_loop _,codeAny_extend_loopS (W A.in1 hh).toS (by rw[sizeLine_eq];omega) _ hSf _ es.size 0 _ _ _ rfl (B_ _)
  ((W A.in1 hh).frame 0 h' _ st fun b hb ob e=>oth b ob (fun z=>hSf (z▸hb)) e) hS3 (ItemsOf.nil _) fun s' acc' c' hm hS' hacc=>?_⟩
 show wpAny _ A (load s.heap.objs.size >>= _) _ _ s';refine AA (wpAny_load hS' ?_);rw[hle]at hacc;refine AE (hQ s' acc'.toList (fun b ob e=>hm.heap b ob (fun hb=>?_) (oth b ob (fun z=>?_) (k b ob (kH b ob e)))) hm.gens hm.os (AF hS') (by rw[Na hacc];exact hp))
 .have hbl:=AF e;rcases AS.mp hb with z | z
  .exact absurd hbl (by rw[z];exact CD _)
  .rw[AC.mp z]at hbl;have:H.objs.size<=it:=hsz;rw[hHs]at this;exact absurd (AX hbl (DH this)) (CD _)
 .exact absurd (AF e) (by rw[z];exact CD _)
end
end ST
namespace ST
open PySem L2
theorem Ui(t:SetTable)(n:Nat):(t.orStandIn n).led=t.led:=by
 unfold SetTable.orStandIn;split<;>rfl
theorem Re(t:SetTable)(es:Array (Int×Value))(h:Int)(x:Value):(layNew t es h x).2.1.led=t.led:=by
 unfold layNew;split
 .rename_i sl wd e;show((t.put sl).1.orStandIn _).led=_;rw[Ui];rfl
 .rfl
theorem Hx{t t':SetTable}{hs:Array Int}{n:Nat}{ord:Array Nat}(h:t.relaid hs n=some (t',ord)):t'.led=t.led/\t'.plain=t.plain:=by
 unfold SetTable.relaid SetTable.laid at h;cases e:SetTable.layClean (SetTable.sizeAbove n-1) hs with
 | none=>rw[e]at h;cases h
 | some ow =>
  rw[e]at h;cases h;exact⟨rfl,rfl⟩
theorem Ka(t:SetTable)(es:Array (Int×Value))(n:Nat)(hp:t.plain=false):(relayAll t es n).2.1.led=t.led/\(relayAll t es n).2.1.plain=false:=by
 unfold relayAll;split
 .rename_i t' ord e;obtain⟨e1,e2⟩:=Hx e;dsimp only;split
  .exact⟨e1,e2.trans hp⟩
  .exact⟨rfl,rfl⟩
 .exact⟨rfl,rfl⟩
def Ye:Value->Str
 | .str x _=>x
 | _=>Str.empty
section
variable{prog:Program}{w:World}{A:Around}{E:Value->Shared->Prop}{s:Shared}{a:Addr}
structure TxtEs(w:World)(es:Array (Int×Value))(ss:List Str):Prop where
 el:∀e∈es.toList,∃x tk,e =(hashStr w x,Value.str x tk)
 pm:(es.toList.map fun e=>Ye e.2).Perm ss
 nd:ss.Nodup
def WS(w:World)(h:Heap)(a:Addr)(ss:List Str):Prop:=∃o es ep t,SAt w h a o es ep t/\TxtEs w es ss
theorem TxtEs.elems{es:Array (Int×Value)}{ss:List Str}(h:TxtEs w es ss):ElemsOf (C9 prog w) es.toList:=fun e he=>by
 obtain⟨x,tk,rfl⟩:=h.el e he;exact⟨⟨.inr x,P0 x tk,rfl⟩,rfl⟩
theorem TxtEs.mem{es:Array (Int×Value)}{ss:List Str}(h:TxtEs w es ss)(x:Str):x∈ss↔∃e∈es.toList,(C9 prog w).is (.inr x) e.2=true:=by
 rw[<-h.pm.mem_iff];constructor
 .intro hm;obtain⟨e,he,rfl⟩:=BL.mp hm;obtain⟨y,tk,rfl⟩:=h.el e he;exact⟨_,he,P0 y tk⟩
 .rintro⟨e,he,hk⟩;obtain⟨y,tk,rfl⟩:=h.el e he;have:y=x:=by
   rcases D6 (show Cm (.inr x) (.str y tk)=true from hk)with⟨i,t,e1,e2⟩ | ⟨z,t,e1,e2⟩
   .cases e2
   .cases e1;cases e2;rfl
  subst this;exact BL.mpr ⟨_,he,rfl⟩
theorem TxtEs.int{es:Array (Int×Value)}{ss:List Str}(h:TxtEs w es ss)(i:Int):¬∃e∈es.toList,(C9 prog w).is (.inl i) e.2=true:=by
 rintro⟨e,he,hk⟩;obtain⟨y,tk,rfl⟩:=h.el e he;rcases D6 (show Cm (.inl i) (.str y tk)=true from hk)with⟨i,t,e1,e2⟩ | ⟨z,t,e1,e2⟩
 .cases e2
 .cases e1
theorem TxtEs.len{es:Array (Int×Value)}{ss:List Str}(h:TxtEs w es ss):es.size=ss.length:=by
 have:=h.pm.length_eq;rw[AB,AV]at this;exact this
def inS(ss:List Str):Key->Bool
 | .inl _=>false
 | .inr x=>decide (x∈ss)
theorem WS.setOf{h:Heap}{ss:List Str}(S:WS w h a ss):h.SetOf (C9 prog w) a (inS ss) ss.length:=by
 obtain⟨o,es,ep,t,S,T⟩:=S;refine⟨o,es,ep,t,S.ho,S.ex,S.hd,T.elems,fun k=>?_,S.few,S.ft,T.len⟩;cases k with
 | inl i=>exact⟨fun z=>Bool.noConfusion (show false=true from z),fun z=>absurd z (T.int i)⟩
 | inr x =>
  show decide (x∈ss)=true↔_;rw[decide_eq_true_eq];exact T.mem x
theorem add_txt{ss:List Str}{x:Str}{tk:Tok}{Q:Bool->Shared->Prop}(S:WS w s.heap a ss)(hl:ss.length+1<4096)
  (h:∀h' b,Heap.SameBut a s.heap h'->WS w h' a (if x∈ss then ss else ss ++ [x])->Q b { s with heap:=h' }) :
  wpAny (model prog w) A (setAddHashed a (.str x tk) (hashStr w x)) Q E s:=by
 obtain⟨o,es,ep,t,S,T⟩:=id S;have hkey:(C9 prog w).is (.inr x) (.str x tk)=true:=P0 x tk;have hsz:=T.len;unfold setAddHashed setAddHashedIn;refine BZ (AA (CZ S.ho S.hd S.ft ?_));dsimp only;rw[byScan_of (knd:=C9 prog w) rfl S.few T.elems,AZ rfl];unfold setAddByScan;refine AA (AA (DG ?_));refine AA (wpAny_setScan_of hkey S.ho S.hd S.ft T.elems ?_);cases hr:List.findIdx? (fun e=>(C9 prog w).is (.inr x) e.2) es.toList with
 | some j =>
  dsimp only;obtain⟨hj,hpj,_⟩:=List.findIdx?_eq_some_iff_getElem.mp hr;have hx:x∈ss:=(T.mem (prog:=prog) x).mpr ⟨es.toList[j],List.getElem_mem hj,hpj⟩;refine AE (AE ?_);have:=h s.heap false (Heap.SameBut.refl a s.heap) (by rw[AZ hx];exact⟨o,es,ep,t,S,T⟩);exact this
 | none =>
  dsimp only;have hx:¬x∈ss:=fun hx=>by
   obtain⟨e,he,hp⟩:=(T.mem (prog:=prog) x).mp hx;have:=List.findIdx?_eq_none_iff.mp hr e he;rw[hp]at this;exact Bool.noConfusion this
  have hgw:∀(b:Bool) {s1:Shared} {Q':Unit->Shared->Prop},Q' () s1->wpAny (model prog w) A (match b with | true=>rule "set.scan.the-table-gave-way" | false=>pure ()) Q' E s1 :=
   fun b s1 Q' hq=>by cases b<;>first | exact AE hq | exact DG hq
  have hperm:=layNew_perm t es (hashStr w x) (.str x tk);have hfits:=layNew_fits t es (hashStr w x) (.str x tk);have hled:=Re t es (hashStr w x) (.str x tk);show wpAny _ _ (match layNew t es (hashStr w x) (.str x tk)with | (es,t,wasDummy,gave)=>_) _ _ _;generalize layNew t es (hashStr w x) (.str x tk)=L at hperm hfits hled⊢;obtain⟨es1,t1,wasDummy,gave⟩:=L;dsimp only at hperm hfits hled⊢;rw[CN]at hperm;have hT1:∀es2:Array (Int×Value),es2.toList.Perm es1.toList->TxtEs w es2 (ss ++ [x]):=fun es2 hp2=>by
   refine⟨fun e he=>?_,?_,?_⟩
   .rcases AK.mp (hperm.mem_iff.mp (hp2.mem_iff.mp he))with z | z
    .exact T.el e z
    .exact⟨x,tk,AC.mp z⟩
   .refine((hp2.trans hperm).map _).trans ?_;rw[BD];exact T.pm.append (.refl _)
   .rw[CC];refine⟨T.nd,by simp,fun y hy z hz=>?_⟩;rw[AC.mp hz];rintro rfl;exact hx hy
  have hsz1:es1.size=ss.length+1:=by
   have:=(hT1 es1 (.refl _)).len;rw[BA]at this;exact this
  refine AA (hgw _ ?_);have key:∀t2:SetTable,t2.led=t.led->t2.plain=false->t2.fits es1.size=true->wpAny (model prog w) A (do
    storeSet a es1 t2
    if(!wasDummy&&t2.tooFull)=true then do
      (match(relayAll t2 es1 (SetTable.grown es1.size)).2.2 with | true=>rule "set.scan.the-table-gave-way" | false=>pure ())
      storeSet a (relayAll t2 es1 (SetTable.grown es1.size)).1 (relayAll t2 es1 (SetTable.grown es1.size)).2.1
      pure (some true)
     else pure (some true)) (fun r s'=>wpAny (model prog w) A (match r with | some added=>pure added | none=>setAddHashedIn a (.str x tk) (hashStr w x) 99999) Q E s') E s:=by
   intro t2 l2 p2 f2;refine AA (wpAny_storeSet_of S.ho S.hd ?_ (by rw[hsz1,sizeLine_eq];omega));have ho1:=Ly S.ho S.hd es1 t2;have sb1:=DL s.heap a (Obj.putSet es1 t2);split
   .have hp:=relayAll_perm t2 es1 (SetTable.grown es1.size);have hf:=relayAll_fits t2 es1 (SetTable.grown es1.size);obtain⟨hl3,hp3⟩:=Ka t2 es1 (SetTable.grown es1.size) p2;have hz2:(relayAll t2 es1 (SetTable.grown es1.size)).1.size=es1.size:=by rw[<-AV,hp.length_eq,AV]
    refine AA (hgw _ ?_);refine AA (wpAny_storeSet_of ho1 rfl ?_ (by rw[hz2,hsz1,sizeLine_eq];omega));refine AE (AE (h _ true (sb1.trans (DL _ a _)) ?_));rw[AR hx];exact⟨_,_,_,_,⟨Ly ho1 rfl _ _,S.ex,rfl,hf,hl3.trans (l2.trans S.led),(fun z=>by rw[hp3]at z;cases z),by rw[hz2,hsz1];omega⟩,hT1 _ hp⟩
   .refine AE (AE (h _ true sb1 ?_));rw[AR hx];exact⟨_,es1,_,t2,⟨ho1,S.ex,rfl,f2,l2.trans S.led,(fun z=>by rw[p2]at z;cases z),by rw[hsz1];omega⟩,hT1 _ (.refl _)⟩
  cases hpl:t1.plain with
  | true =>
   rw[AZ rfl,hashByValue_scannable 8 (x:=Value.str x tk) rfl];refine AA (AE ?_);exact key { t1 with plain:=false } hled rfl (SetTable.fits_plain_off hfits)
  | false =>
   rw[AR (by decide)];refine AA (AE ?_);exact key t1 hled hpl hfits
end
end ST
namespace L2
open PySem PySem.Spec PyProof.Rows
def V3(w:World)(a:Addr)(ss:List Str):HO:=.ext fun h=>ST.WS w h a ss
section
variable{X:Cx}{pins:List (Addr×Obj)}{σ:St}{H:Hp}{s:Shared}{a:Addr}{ss:List Str}
theorem Ot{P:Program}{w:World}{H:Hp}{h:Heap}(z:ST.WS w h a ss):ObjOk P w H h a (V3 w a ss) :=
 ⟨z,let⟨o,_,_,_,S,_⟩:=z;⟨o,S.ho⟩,fun h1 h2 ⟨o,es,ep,t,S,r⟩ k=>⟨o,es,ep,t,S.at (k o S.ho),r⟩⟩
theorem Inv.setw(I:Inv X pins σ H s)(e:H a=some (V3 X.w a ss)):ST.WS X.w s.heap a ss:=by
 obtain⟨z,_⟩:=(show ObjOk X.prog X.w H s.heap a (V3 X.w a ss)from I.hok a _ e);exact z
def Op(l:List Str)(x:Str):List Str:=if x∈l then l else l ++ [x]
def Tg(w:World):V->List V->Hp->VK->Prop:=fun x vs H Q=>∃a l k,x = .ref a/\vs = [.str k]/\H a=some (V3 w a l)/\l.length+1<4096/\Q .non (upd H a (V3 w a (Op l k)))
theorem WS.typeIs{ss:List Str}(z:ST.WS X.w s.heap a ss):s.TypeIs (.ref a) "set":=let⟨o,_,_,_,S,_⟩:=z;⟨o,S.ho,S.ex.1⟩
theorem Qw:MtM X "set.add" (Tg X.w):=by
 intro pins s σ H x vs v us Q I rx rv h;obtain⟨a,l,k,rfl,rfl,hH,hz,q⟩:=h;cases rx;obtain⟨u,rfl,⟨tk,rfl⟩⟩:=rv.one;have z:=I.setw hH;refine CU F.slot_set_add (WS.typeIs z) F.entry_set_add ?_ (F.args_set_add_2 _ _);unfold Builtin.«set.add» Builtin.Frozenset.oneOther;simp only[List.isEmpty_nil,bind_assoc];unfold Builtin.Frozenset.addrOf setAdd;refine AA (AE ?_)
 try dsimp only
 refine AA (AE ?_)
 try dsimp only
 refine AA ?_;refine BZ ?_;refine AA (wpAny_pyHash_str ?_);refine ST.add_txt (s:={ s with toks:=s.toks+1 }) z hz fun h' b hsb z'=>?_;show wpAny _ _ (ret Value.none) _ _ _;refine AE ⟨_,rfl,.non,_,I.write (x:=a) (e:=a) (t':=s.toks+1) (by rw[hH];exact True.intro) (.inl rfl) (fun b q hb e=>(hsb.2 b hb).trans e) (let⟨o,_,_,_,S,_⟩:=z';⟨o,S.ho⟩) (Ot z'),rfl,q⟩
def Wm(w:World)(neg:Bool):R2:=fun x y H Q=>∃a l k,y = .ref a/\x = .str k/\H a=some (V3 w a l)/\Q (.bl (if neg then !decide (k∈l)else decide (k∈l))) H
theorem Ca:OpR X (compareOp .NotIn) (Wm X.w true):=by
 intro pins s σ H x y v u Q I rx ry h;obtain⟨a,l,k,rfl,rfl,hH,q⟩:=h;cases ry;obtain⟨tk,rfl⟩:=rx;exact wpAny_notInSet_of (knd:=C9 X.prog X.w) (k:=.inr k) (P0 k tk) rfl (I.setw hH).setOf ⟨.bl (!decide (k∈l)),H,I.tok _,rfl,q⟩
end
theorem Inv.drawn{X:Cx}{pins:List (Addr×Obj)}{σ:St}{H:Hp}{s:Shared}(I:Inv X pins σ H s)(d:Drawn):Inv X pins σ H { s with drawn:=d } :=
 ⟨I.ok,I.os,I.bare,I.base,I.loc,I.cell,I.free,I.freeC,I.pin,I.hok,I.len⟩
section
variable{X:Cx}
theorem Ch(hc:X.calm=true):F9 X (.builtin "sorted") (fun xs H Q=>∃(p:Addr) (ss:List Str),xs = [.ref p]/\H p=some (V3 X.w p ss)/\∀(l:Addr) (ss':List Str),H l=none->ss'.Perm ss->ss'.Pairwise leS->Q (.ref l) (upd H l (.lst (ss'.map V.str)))):=by
 intro pins s σ H xs us Q I r h;obtain⟨p,ss,rfl,hq,q⟩:=h;obtain⟨u,rfl,ru⟩:=Z4 r;cases ru;obtain⟨o,es,ep,t,S,T⟩:=I.setw hq;refine TS.sorted_gen (ST.collect_set (show X.A.in1.handled=none from I.ok.hd hc) S fun s1 its k1 g1 o1 tk1 hpi=>?_);have hS:∀v∈its,∃x tk,v=Value.str x tk:=fun v hv=>by
  obtain⟨e,he,rfl⟩:=BL.mp (hpi.mem_iff.mp hv);obtain⟨x,tk,rfl⟩:=T.el e he;exact⟨x,tk,rfl⟩
 have hstr:StrsAre its (its.map strOf):=by
  have:∀l:List Value,(∀v∈l,∃x tk,v=Value.str x tk)->StrsAre l (l.map strOf):=by
   intro l
   induction l with
   | nil=>exact fun _=>.nil
   | cons v r ih =>
    intro h;obtain⟨x,tk,rfl⟩:=h v (BB ..);exact .cons _ _ (ih fun u hu=>h u (AQ _ hu))
  exact this its hS
 have hlen:its.length=es.size:=by rw[hpi.length_eq,AB,AV]
 have hfew:=S.few;have hss:(its.map strOf).Perm ss:=by
  refine(hpi.map strOf).trans ?_;rw[BH];refine List.Perm.trans (List.Perm.of_eq ?_) T.pm;refine List.map_congr_left fun e he=>?_;obtain⟨x,tk,rfl⟩:=T.el e he;rfl
 refine⟨o1,by rw[sizeLine_eq];omega,strKind,oneType',fun s2 _=>TS.keys_strs hstr,fun out h' e ho k hg=>?_⟩;obtain⟨hp,hs⟩:=ho;have hm:∀v∈out.toList,∃x t,v = .str x t:=fun v hv=>hS v (hp.mem_iff.mp hv);have hv:Vals ((out.toList.map strOf).map V.str) out.toList:=by
  have:∀us:List Value,(∀v∈us,∃x t,v = .str x t)->Vals ((us.map strOf).map V.str) us:=by
   intro us
   induction us with
   | nil=>exact fun _=>.nil
   | cons v r ih =>
    intro h;obtain⟨x,t,rfl⟩:=h v (BB ..);exact .cons ⟨t,rfl⟩ (ih fun u hu=>h u (AQ _ hu))
  exact this _ hm
 have hperm:(out.toList.map strOf).Perm ss:=(hp.map strOf).trans hss;have hpw:(out.toList.map strOf).Pairwise leS:=by
  rw[List.pairwise_map];refine(List.Pairwise.and_mem.mp hs).imp fun{u v} ⟨hu,hv',q⟩=>?_;obtain⟨x,t,rfl⟩:=hm u hu;obtain⟨y,t',rfl⟩:=hm v hv';have q':decide (y.cps.toList<x.cps.toList)=false:=q;exact of_decide_eq_false q'
 have k0:∀b o,s.heap.get? b=some o->h'.get? b=some o:=fun b o eb=>k b o (k1 b o eb);have hge:s.heap.objs.size<=s1.heap.objs.size:=CT tk1;have hn:H s1.heap.objs.size=none:=I.hok.fresh hge;obtain⟨h1,g',d',t',o'⟩:=s1;have eo:o'=s.os:=o1;have eg:g'=s.gens:=g1;subst eo;subst eg;refine⟨.ref h1.objs.size,upd H h1.objs.size (.lst ((out.toList.map strOf).map V.str)),?_,rfl,q _ _ hn hperm hpw⟩;exact(I.laid (a:=h1.objs.size) (o:=.lst ((out.toList.map strOf).map V.str)) (t':=t') k0 hge ⟨by rw[AB,AB,hp.length_eq,sizeLine_eq];omega,out.toList,e,hv,by simpa using hg⟩).drawn d'
end
def Vp(P:Program)(w:World)(a:Addr)(ks:List (List Key×Addr)):HO:=.ext fun h=>ST.TSet (C9 P w) h a ks
section
variable{X:Cx}{pins:List (Addr×Obj)}{σ:St}{H:Hp}{s:Shared}{a:Addr}{ks:List (List Key×Addr)}
theorem Inv.sett(I:Inv X pins σ H s)(e:H a=some (Vp X.prog X.w a ks)):ST.TSet (C9 X.prog X.w) s.heap a ks:=by
 obtain⟨z,_⟩:=(show ObjOk X.prog X.w H s.heap a (Vp X.prog X.w a ks)from I.hok a _ e);exact z
end
section
variable{X:Cx}
theorem Jh:F9 X (.builtin "isinstance") (fun xs H Q=>∃x n t b,xs = [x,.ty n]/\TyOf X.K H x t/\PySem.W.kitOne X.K t (.type n)=some b/\Q (.bl b) H):=by
 intro pins s σ H xs us Q I r h;obtain⟨x,n,t,b,rfl,ht,he,q⟩:=h;obtain⟨u,v,rfl,ru,rv⟩:=r.two;cases rv;exact Ku I ru ht he fun tk=>⟨.bl b,H,I.tok _,rfl,q⟩
end
mutual
def Rp(K:PySem.W.Frag)(H:Hp):PyData->V->Prop
 | .none,v=>v = .non
 | .bool b,v=>v = .bl b
 | .int i,v=>v = .int i
 | .str x,v=>v = .str x
 | .list ds,v=>∃a xs,v = .ref a/\SqL K H a xs/\Rps K H ds xs
 | .tuple ds,v=>∃a xs,v = .ref a/\SqT K H a xs/\Rps K H ds xs
 | .dict _,_=>False
def Rps(K:PySem.W.Frag)(H:Hp):List PyData->List V->Prop
 | [],vs=>vs = []
 | d::ds,vs=>∃v r,vs=v::r/\Rp K H d v/\Rps K H ds r
end
section
variable{X:Cx}{pins:List (Addr×Obj)}{σ:St}{H:Hp}{s:Shared}
mutual
theorem Inv.reads(I:Inv X pins σ H s):∀(d:PyData) (v:V) (u:Value),Rp X.K H d v->RelV v u->∃as,Reads s.heap u d as
 | .none,v,u,h,r=>by
  cases(show v = .non by simpa [Rp] using h);cases r;exact⟨_,.none⟩
 | .bool b,v,u,h,r=>by
  cases(show v = .bl b by simpa [Rp] using h);cases r;exact⟨_,.bool b⟩
 | .int i,v,u,h,r=>by
  cases(show v = .int i by simpa [Rp] using h);obtain⟨t,rfl⟩:=r;exact⟨_,.int i t⟩
 | .str x,v,u,h,r=>by
  cases(show v = .str x by simpa [Rp] using h);obtain⟨t,rfl⟩:=r;exact⟨_,.str x t⟩
 | .list ds,v,u,h,r=>by
  obtain⟨a,xs,e,hq,hs⟩:=(show ∃a xs,v=V.ref a/\SqL X.K H a xs/\Rps X.K H ds xs by simpa [Rp] using h);subst e;cases r;obtain⟨its,rv,⟨o,n,e,hc,hd,hda⟩,_⟩:=I.list hq;obtain⟨as,z⟩:=I.readsAll ds xs its hs rv;exact⟨_,.list e hc hda (by simpa using z)⟩
 | .tuple ds,v,u,h,r=>by
  obtain⟨a,xs,e,hq,hs⟩:=(show ∃a xs,v=V.ref a/\SqT X.K H a xs/\Rps X.K H ds xs by simpa [Rp] using h);subst e;cases r;obtain⟨its,rv,⟨o,e,hc,n,hda⟩,_⟩:=I.tuple hq;obtain⟨as,z⟩:=I.readsAll ds xs its hs rv;exact⟨_,.tuple e hc hda (by simpa using z)⟩
 | .dict _,v,u,h,r=>by simp[Rp]at h
theorem Inv.readsAll(I:Inv X pins σ H s):∀(ds:List PyData) (vs:List V) (us:List Value),Rps X.K H ds vs->Vals vs us->∃as,ReadsAll s.heap us ds as
 | [],vs,us,h,r=>by
  cases(show vs = [] by simpa [Rps] using h);cases r;exact⟨_,.nil⟩
 | d::ds,vs,us,h,r=>by
  obtain⟨v,vr,e,h1,h2⟩:=(show ∃v r,vs=v::r/\Rp X.K H d v/\Rps X.K H ds r by simpa [Rps] using h);subst e;cases r with
  | cons r1 r2 =>
   obtain⟨as,z⟩:=I.reads d v _ h1 r1;obtain⟨bs,z'⟩:=I.readsAll ds vr _ h2 r2;exact⟨_,.cons z z'⟩
end
def Pl(d:PyData):Prop:=d.canLay0=true/\d.depth<=50
def Vh(K:PySem.W.Frag):R2:=fun x y H Q=>∃d e,Rp K H d x/\Rp K H e y/\Pl d/\Pl e/\Q (.bl (PyData.eqv d e)) H
def Vj(K:PySem.W.Frag):R2:=fun x y H Q=>∃d e,Rp K H d x/\Rp K H e y/\Pl d/\Pl e/\Q (.bl (!PyData.eqv d e)) H
theorem Uw(hu:X.A.units+64<cLine):OpR X (compareOp .Eq) (Vh X.K):=by
 intro pins s σ H x y v u Q I rx ry h;obtain⟨d,e,h1,h2,p1,p2,q⟩:=h;obtain⟨as,z1⟩:=I.reads d x v h1 rx;obtain⟨bs,z2⟩:=I.reads e y u h2 ry;exact PySem.SeqAt.compareEq_reads z1 z2 p1.1 p2.1 (by have:=p1.2;have:=p2.2;omega) ⟨.bl (PyData.eqv d e),H,I,rfl,q⟩
theorem Vc(hu:X.A.units+64<cLine):OpR X (compareOp .NotEq) (Vj X.K):=by
 intro pins s σ H x y v u Q I rx ry h;obtain⟨d,e,h1,h2,p1,p2,q⟩:=h;obtain⟨as,z1⟩:=I.reads d x v h1 rx;obtain⟨bs,z2⟩:=I.reads e y u h2 ry;exact PySem.SeqAt.compareNe_reads z1 z2 p1.1 p2.1 (by have:=p1.2;have:=p2.2;omega) ⟨.bl (!PyData.eqv d e),H,I,rfl,q⟩
def Rx(K:PySem.W.Frag)(neg:Bool):R2:=fun x y H Q=>∃d ds,Rp K H d x/\(Rp K H (.list ds) y\/Rp K H (.tuple ds) y)/\Pl d/\PyData.canLayAll0 ds=true/\Q (.bl (if neg then !(ds.any fun z=>PyData.eqv z d)else ds.any fun z=>PyData.eqv z d)) H
theorem Te(hu:X.A.units+64<cLine):OpR X (compareOp .In) (Rx X.K false):=by
 intro pins s σ H x y v u Q I rx ry h;obtain⟨d,ds,h1,h2,p1,p2,q⟩:=h;obtain⟨as,z1⟩:=I.reads d x v h1 rx;have hu':X.A.units+1+min (PyData.depthAll ds) d.depth<cLine:=by have:=p1.2;omega
 rcases h2 with h2 | h2
 .obtain⟨bs,z2⟩:=I.reads (.list ds) y u h2 ry;exact PySem.SeqAt.in_list_reads z2 z1 p2 p1.1 hu' ⟨.bl _,H,I,rfl,q⟩
 .obtain⟨bs,z2⟩:=I.reads (.tuple ds) y u h2 ry;exact PySem.SeqAt.in_tuple_reads z2 z1 p2 p1.1 hu' ⟨.bl _,H,I,rfl,q⟩
theorem Lc(hu:X.A.units+64<cLine):OpR X (compareOp .NotIn) (Rx X.K true):=by
 intro pins s σ H x y v u Q I rx ry h;obtain⟨d,ds,h1,h2,p1,p2,q⟩:=h;obtain⟨as,z1⟩:=I.reads d x v h1 rx;have hu':X.A.units+1+min (PyData.depthAll ds) d.depth<cLine:=by have:=p1.2;omega
 rcases h2 with h2 | h2
 .obtain⟨bs,z2⟩:=I.reads (.list ds) y u h2 ry;exact PySem.SeqAt.notIn_list_reads z2 z1 p2 p1.1 hu' ⟨.bl _,H,I,rfl,q⟩
 .obtain⟨bs,z2⟩:=I.reads (.tuple ds) y u h2 ry;exact PySem.SeqAt.notIn_tuple_reads z2 z1 p2 p1.1 hu' ⟨.bl _,H,I,rfl,q⟩
end
section
variable{X:Cx}
def Fp:V->List V->Hp->VK->Prop:=fun x vs H Q=>∃z y ps,x = .str z/\vs = [.str y]/\(decide (z.length<y.length)||decide (Builtin.Str.strKind z<Builtin.Str.strKind y))=false/\(y.length == 0)=false /\
 (Builtin.Str.occurrences z y 0 z.length (z.length+1)).isEmpty=false/\z.length<=4000/\Builtin.Str.partsBetween z (Builtin.Str.occurrences z y 0 z.length (z.length+1)) y.length=ps/\ps.length<=4000/\∀l,H l=none->Q (.ref l) (upd H l (.lst (ps.map V.str)))
theorem Cc:∀(ps:List Str) (tk:Nat),Vals (ps.map V.str) (strsFrom tk ps)
 | [],_=>.nil
 | _::r,tk=>.cons ⟨tk,rfl⟩ (Cc r (tk+1))
theorem Bc:MtM X "str.split" Fp:=by
 intro pins s σ H x vs v us Q I rx rv h;obtain⟨z,y,ps,rfl,rfl,h1,h2,h3,h4,rfl,h6,q⟩:=h;obtain⟨t,rfl⟩:=rx;obtain⟨u,rfl,⟨tk,rfl⟩⟩:=rv.one;have hz:z.length<=sizeLine:=by rw[sizeLine_eq];omega
 have hp:(Builtin.Str.partsBetween z (Builtin.Str.occurrences z y 0 z.length (z.length+1)) y.length).length<=sizeLine:=by rw[sizeLine_eq];omega
 refine call_meets F.slot_str_split (typeIs_str _ _ _) F.entry_str_split (F.args_str_split_2 _ _) (PySem.meets_str_split_sep z y t tk h1 h2 h3 hz hp) ?_;exact⟨.ref s.heap.objs.size,_,I.lnew (Cc _ _) (by rw[AB];exact hp),rfl,q _ I.fresh⟩
end
end L2
namespace L2
open PySem PySem.Spec PyProof.Rows
structure Fn(K:PySem.W.Frag)(mg:Str->Option Value)(x:Str)(st:Stmt)(ps:List Str) where
 f:Addr
 fd:FuncData
 F:Fun K x x st f fd
 b:Binds K fd ps []
 m:mg x=some (.ref f)
section
variable{X:Cx}
theorem C3{x:Str}{st:Stmt}{ps:List Str}{k:Nat}{sp:Sp}{e:Expr}{es:List Expr}{t:TA}{p pos:Pos}(D:Fn X.K X.mg x st ps)(G:FnOk X.prog X.w X.K X.mg X.base CX0 k D.f D.fd ps sp)(hr:Room k X.A)(ha:PA X (e::es) t)
  (hg:Gl X x:=by rfl) (hdb:(x ==("__debug__":Str))=false:=by decide) (hs:starEach (e::es) X.env =(false,eval e X.env)::starEach es X.env:=by rfl) (hpl:(backTo pos (starEach es X.env)).any (·.1)=false:=by rfl) :
  PE X (.Call (.Name x p) (e::es) [] pos) (Mx sp [] E0 t):=Io G hr hg D.m D.F.kp D.b .nil Rt ha hdb hs hpl
def Km(P:Program)(w:World)(x:V)(H:Hp):Prop:=∃p,x = .ref p/\((∃l,H p=some (Wk P w p l))\/(∃l,H p=some (V3 w p l))\/∃ks,H p=some (Vp P w p ks))
theorem Tw{pins:List (Addr×Obj)}{σ:St}{H:Hp}{s:Shared}{x:V}{v:Value}(I:Inv X pins σ H s)(r:RelV x v)(ty:Km X.prog X.w x H):s.TypeIs v "set"/\∀a,v = .ref a->∃ob,s.heap.get? a=some ob/\ob.dict=none:=by
 obtain⟨p,rfl,h⟩:=ty;cases r;have z:∃o,s.heap.get? p=some o/\o.ExactSet:=by
  rcases h with⟨l,h⟩ | ⟨l,h⟩ | ⟨l,h⟩
  .obtain⟨o,_,_,_,e,ex,_⟩:=I.set h;exact⟨o,e,ex⟩
  .obtain⟨o,_,_,_,S,_⟩:=I.setw h;exact⟨o,S.ho,S.ex⟩
  .obtain⟨o,_,_,_,e,ex,_⟩:=I.sett h;exact⟨o,e,ex⟩
 obtain⟨o,e,ex⟩:=z;refine⟨⟨o,e,ex.1⟩,fun a e2=>?_⟩;cases e2;exact⟨o,e,ex.2.1⟩
def Wt(P:Program)(w:World)(r:V->List V->Hp->VK->Prop)(to:TE)(t:TA):TE:=fun σ H Q=>to σ H fun x H1=>Km P w x H1/\t σ H1 fun xs H2=>r x xs H2 Q
theorem Ri{o e:Expr}{to:TE}{t:TA}{apos cpos:Pos}{r:V->List V->Hp->VK->Prop}(hm:MtM X "set.add" r)(ho:PE X o to)(ha:PA X [e] t)
  (hbase:attributeBase o "add" X.env (eval o X.env)=eval o X.env:=by rfl)
  (hfew:((backTo cpos (starEach [e] X.env)).all (fun x=>!x.1) &&(backToKw cpos (keywordEach [] X.env)).all (fun x=>x.1.isSome)
   && decide ([e].length +([]:List Keyword).length +(if([]:List Keyword).isEmpty then 0 else 1)<30))=true:=by rfl)
  (hline:(apos.endLine == cpos.line)=true:=by rfl) (hs:starEach [e] X.env = [(false,eval e X.env)]:=by rfl) :
  PE X (.Call (.Attribute o "add" apos) [e] [] cpos) (Wt X.prog X.w r to t):=by
 intro pins s σ H Q I h;refine wpAny_Call_method_late hbase hfew hline rfl (thn (ho pins s σ H _ I h) fun v s1 ⟨x,H1,I1,r1,ty,q1⟩=>?_);obtain⟨h1,h2⟩:=Tw I1 r1 ty;refine⟨"set", "set.add",F.plainAttrs_set,F.slot_set_add,F.type_set_add,h1,h2,?_⟩;have hA:=ha cpos pins s1 σ H1 _ I1 q1;rw[hs]at hA⊢;refine Calls.callWith_builtin rfl (Calls.evalArgs_plain ?_);exact thn hA fun us s2 ⟨vs,H2,I2,r2,q2⟩=>hm pins s2 σ H2 x vs v us Q I2 r1 r2 q2
theorem Th{x:Str}{i:Int}{pos:Pos}(h:∃t,X.mg x=some (.int i t))(hg:Gl X x:=by rfl)(hd:(x ==("__debug__":Str))=false:=by decide):PE X (.Name x pos) (tC (.int i)):=by
 obtain⟨t,e⟩:=h;exact Ff hg e ⟨t,rfl⟩ hd
theorem We{x y:Str}{pos:Pos}(h:∃t,X.mg x=some (.str y t))(hg:Gl X x:=by rfl)(hd:(x ==("__debug__":Str))=false:=by decide):PE X (.Name x pos) (tC (.str y)):=by
 obtain⟨t,e⟩:=h;exact Ff hg e ⟨t,rfl⟩ hd
theorem K5{x:Str}{n:String}{pos:Pos}(hm:X.mg x=none)(hv:bootBuiltins x=some (.type n))(hg:Gl X x:=by rfl)(hn:x≠ "__name__":=by decide)(hd:(x ==("__debug__":Str))=false:=by decide):PE X (.Name x pos) (tC (.ty n)) :=
 Qs hg hm hv rfl hn hd
theorem D0{x:Str}{id:String}{r:List V->Hp->VK->Prop}{e:Expr}{es:List Expr}{t:TA}{p pos:Pos}(hc:F9 X (.builtin id) r)(hm:X.mg x=none)(hv:bootBuiltins x=some (.builtin id))(ha:PA X (e::es) t)(hg:Gl X x:=by rfl)(hn:x≠ "__name__":=by decide)(hdb:(x ==("__debug__":Str))=false:=by decide)
  (hs:starEach (e::es) X.env =(false,eval e X.env)::starEach es X.env:=by rfl) (hpl:(backTo pos (starEach es X.env)).any (·.1)=false:=by rfl):PE X (.Call (.Name x p) (e::es) [] pos) (tCB r t):=Ni hc hg hm hv ha hn hdb hs hpl
theorem Be{x:Str}{T:String}{r:List V->Hp->VK->Prop}{e:Expr}{es:List Expr}{t:TA}{p pos:Pos}(hc:F9 X (.type T) r)(hm:X.mg x=none)(hv:bootBuiltins x=some (.type T))(ha:PA X (e::es) t)(hg:Gl X x:=by rfl)(hn:x≠ "__name__":=by decide)(hdb:(x ==("__debug__":Str))=false:=by decide)
  (hs:starEach (e::es) X.env =(false,eval e X.env)::starEach es X.env:=by rfl) (hpl:(backTo pos (starEach es X.env)).any (·.1)=false:=by rfl):PE X (.Call (.Name x p) (e::es) [] pos) (tCB r t):=Jv hc hg hm hv ha hn hdb hs hpl
theorem O7{scope:Scope}{cl:List (Str×Addr)}{N':List Str}{cap:List (Option Nat)}(caps:Caps X scope cl N' cap)(cin:ClIn X cl)(clos:closureFor scope X.env=pure cl:=by rfl)(kind:scope.kind = .function:=by rfl)(nocell:∀y∈scope.names,y.2≠ .cell:=by decide +kernel)
  (loc:∀y∈scope.names,y.2 = .local->scope.names.lookup y.1=some .local:=by decide +kernel) (has:((relabel scope X.env).names.all fun y=>!(y.2 == .cell||y.2 == .free)||(cl.lookup y.1).isSome)=true:=by rfl):CScope X scope cl N' cap:=⟨kind,nocell,loc,clos,cin,has,caps⟩
theorem pgC{scope:Scope}{cl:List (Str×Addr)}{N':List Str}{pins:List (Addr×Obj)}{ex:List Addr}{s3:Shared}{H3:Hp}{x:Str}{pos:Pos}(i:Nat)(hN:N'.Nodup:=by decide +kernel)(hi:N'[i]?=some x:=by rfl)(hx:Loc (cxC X scope cl N' pins ex s3 H3).env.scope x:=by exact Or.inl rfl)
  (hf:(cxC X scope cl N' pins ex s3 H3).env.scope.names.lookup x=some .local:=by rfl):PG (cxC X scope cl N' pins ex s3 H3) (.Name x pos) (Z5 i):=D8 (X:=cxC X scope cl N' pins ex s3 H3) hN hi hx (.inr hf)
end
theorem J0:bootBuiltins "len" = some (.builtin "len"):=by decide +kernel
theorem Ea:bootBuiltins "enumerate" = some (.type "enumerate"):=by decide +kernel
theorem Tz:bootBuiltins "min" = some (.builtin "min"):=by decide +kernel
theorem Ou:bootBuiltins "abs" = some (.builtin "abs"):=by decide +kernel
theorem K9:bootBuiltins "sorted" = some (.builtin "sorted"):=by decide +kernel
theorem Ln:bootBuiltins "int" = some (.type "int"):=by decide +kernel
theorem Fs:bootBuiltins "str" = some (.type "str"):=by decide +kernel
theorem Aw:bootBuiltins "bool" = some (.type "bool"):=by decide +kernel
theorem O3:bootBuiltins "list" = some (.type "list"):=by decide +kernel
theorem U3:bootBuiltins "tuple" = some (.type "tuple"):=by decide +kernel
theorem Iz:bootBuiltins "set" = some (.type "set"):=by decide +kernel
theorem B8:bootBuiltins "isinstance" = some (.builtin "isinstance"):=by decide +kernel
theorem Jr:bootBuiltins "all" = some (.builtin "all"):=by decide +kernel
def KeepAt(a:Addr)(H0 H:Hp):Prop:=∀o,H0 a=some o->H a=some o
def Sm(D:List Addr)(H H':Hp):Prop:=∀b o,H b=some o->b∉D->H' b=some o
theorem Same.at{H0 H:Hp}(h:Same H0 H)(a:Addr):KeepAt a H0 H:=fun o e=>h a o e
theorem Same.new{H:Hp}{p:Addr}{o:HO}(h:H p=none):Same H (upd H p o):=fun b u e=>by rw[B7 (B4 e h)];exact e
theorem Same.upd{H0 H:Hp}{p:Addr}{o:HO}(s:Same H0 H)(h:H0 p=none):Same H0 (upd H p o):=fun b u e=>by rw[B7 (B4 e h)];exact s b u e
theorem Same.sm{D:List Addr}{H H':Hp}(h:Same H H'):Sm D H H':=fun b o e _=>h b o e
theorem Sm.refl(D:List Addr)(H:Hp):Sm D H H:=fun _ _ e _=>e
theorem Sm.trans{D:List Addr}{H H1 H2:Hp}(a:Sm D H H1)(b:Sm D H1 H2):Sm D H H2:=fun c o h n=>b c o (a c o h n) n
theorem Sm.new{D:List Addr}{H H1:Hp}{p:Addr}{o:HO}(a:Sm D H H1)(h:H1 p=none):Sm D H (L2.upd H1 p o):=fun b u e n=>by
 have:=a b u e n;rw[B7 (B4 this h)];exact this
theorem Sm.upd{D:List Addr}{H H1:Hp}{p:Addr}{o:HO}(a:Sm D H H1)(h:p∈D):Sm D H (L2.upd H1 p o):=fun b u e n=>by
 rw[B7 (show b≠p from fun z=>n (by rw[z];exact h))];exact a b u e n
theorem Sm.updN{D:List Addr}{H H1:Hp}{p:Addr}{o:HO}(a:Sm D H H1)(h:H p=none):Sm D H (L2.upd H1 p o):=fun b u e n=>by rw[B7 (B4 e h)];exact a b u e n
theorem KeepAt.seqL{K:PySem.W.Frag}{H H':Hp}{a:Addr}{xs:List V}(e:KeepAt a H H')(h:SqL K H a xs):SqL K H' a xs:=by
 rcases h with(h | ⟨o,h⟩) | h
 .exact .inl (.inl (e _ h))
 .exact .inl (.inr ⟨o,e _ h⟩)
 .exact .inr h
theorem KeepAt.seqT{K:PySem.W.Frag}{H H':Hp}{a:Addr}{xs:List V}(e:KeepAt a H H')(h:SqT K H a xs):SqT K H' a xs:=by
 rcases h with(h | ⟨o,h⟩) | h
 .exact .inl (.inl (e _ h))
 .exact .inl (.inr ⟨o,e _ h⟩)
 .exact .inr h
def Sqs(K:PySem.W.Frag)(H:Hp)(a:Addr)(xs:List V):Prop:=SqL K H a xs\/SqT K H a xs
theorem KeepAt.seq{K:PySem.W.Frag}{H H':Hp}{a:Addr}{xs:List V}(e:KeepAt a H H')(h:Sqs K H a xs):Sqs K H' a xs:=h.imp e.seqL e.seqT
structure AsSeq(J:It)(xs:List V)(a:Addr)(H0:Hp):Prop where
 go:∀H i,KeepAt a H0 H->i<xs.length->J.go i H
 stop:∀H,KeepAt a H0 H->J.stop xs.length H
 yld:∀H i x H',KeepAt a H0 H->i<xs.length->J.yld i H x H'->H'=H/\xs[i]?=some x
theorem asL{K:PySem.W.Frag}{H0:Hp}{a:Addr}{xs:List V}(h:SqL K H0 a xs):AsSeq (Itl K a) xs a H0 :=
 ⟨fun H i k hi=>⟨xs,xs[i],k.seqL h,AJ hi⟩,fun H k=>⟨xs,k.seqL h,Nat.le_refl _⟩,fun H i x H' k hi ⟨e,y⟩=>⟨e,y xs (k.seqL h)⟩⟩
theorem Sh{J:It}{n:Nat}{g:TG}{tb:TS}{D:Ends}{σ:St}{H:Hp}(Pv:Nat->St->Hp->Prop)(h0:Pv 0 σ H)(hgo:∀i σ H,i<n->Pv i σ H->J.go i H)(hst:∀σ H,Pv n σ H->J.stop n H)
  (hs:∀i σ H x H',i<n->Pv i σ H->J.yld i H x H'->g x σ H' fun σ2 H2=>tb { D with nx:=Pv (i+1),ct:=Pv (i+1),bk:=D.nx } σ2 H2) (hd:∀σ H,Pv n σ H->D.nx σ H) :
  ∃W:Nat->Nat->St->Hp->Prop,(∃m,W 0 m σ H)/\∀i m σ H,W i m σ H ->
   (J.stop i H/\D.nx σ H)\/(J.go i H/\∃N:St->Hp->Prop,(∀σ' H',N σ' H'->∃m',m' < m/\W (i+1) m' σ' H')/\∀x H',J.yld i H x H'->g x σ H' fun σ2 H2=>tb { D with nx:=N,ct:=N,bk:=D.nx } σ2 H2):=by
 refine⟨fun i m σ H=>m=n-i/\i<=n/\Pv i σ H,⟨n,by simp,B_ _,h0⟩,?_⟩;rintro i m σ H ⟨rfl,hi,p⟩;by_cases hlt:i<n
 .exact .inr ⟨hgo i σ H hlt p,Pv (i+1),fun σ' H' p'=>⟨n-(i+1),by omega,rfl,hlt,p'⟩,fun x H' y=>hs i σ H x H' hlt p y⟩
 .have e:i=n:=by omega
  subst e;exact .inl ⟨hst σ H p,hd σ H p⟩
theorem Sl{J:It}{xs:List V}{a:Addr}{H0:Hp}(as:AsSeq J xs a H0){g:TG}{tb:TS}{D:Ends}{σ:St}{H:Hp}(Pv:Nat->St->Hp->Prop)(h0:Pv 0 σ H)(hk:∀i σ H,i<=xs.length->Pv i σ H->KeepAt a H0 H)
  (hs:∀i σ H x,xs[i]?=some x->Pv i σ H->g x σ H fun σ2 H2=>tb { D with nx:=Pv (i+1),ct:=Pv (i+1),bk:=D.nx } σ2 H2) (hd:∀σ H,Pv xs.length σ H->D.nx σ H) :
  ∃W:Nat->Nat->St->Hp->Prop,(∃m,W 0 m σ H)/\∀i m σ H,W i m σ H ->
   (J.stop i H/\D.nx σ H)\/(J.go i H/\∃N:St->Hp->Prop,(∀σ' H',N σ' H'->∃m',m' < m/\W (i+1) m' σ' H')/\∀x H',J.yld i H x H'->g x σ H' fun σ2 H2=>tb { D with nx:=N,ct:=N,bk:=D.nx } σ2 H2) :=
 Sh (n:=xs.length) Pv h0 (fun i σ H hi p=>as.go H i (hk i σ H (CT hi) p) hi) (fun σ H p=>as.stop H (hk _ σ H (Nat.le_refl _) p)) (fun i σ H x H' hi p y=>by
  obtain⟨rfl,e⟩:=as.yld H i x H' (hk i σ H (CT hi) p) hi y;exact hs i σ _ x e p) hd
theorem Dt{J:It}{n:Nat}{g:TG}{tc:TT}{em:TEm}{σ:St}{H:Hp}{Q:St->Hp->Prop}(Pv:Nat->St->Hp->Prop)(h0:Pv 0 σ H)(hgo:∀i σ H,i<n->Pv i σ H->J.go i H)(hst:∀σ H,Pv n σ H->J.stop n H)
  (hs:∀i σ H x H' (N:St->Hp->Prop),i<n->Pv i σ H->J.yld i H x H'->(∀σ' H',Pv (i+1) σ' H'->N σ' H')->g x σ H' fun σ2 H2=>tc σ2 H2 fun b H3=>if b=true then em σ2 H3 N else N σ2 H3)
  (hd:∀σ H,Pv n σ H->Q σ H):Mi g tc em J σ H Q:=by
 refine⟨fun i m σ H=>m=n-i/\i<=n/\Pv i σ H,⟨n,by simp,B_ _,h0⟩,?_⟩;rintro i m σ H ⟨rfl,hi,p⟩;by_cases hlt:i<n
 .exact .inr ⟨hgo i σ H hlt p,fun x H' y=>hs i σ H x H' _ hlt p y fun σ3 H4 p'=>⟨n-(i+1),by omega,rfl,hlt,p'⟩⟩
 .have e:i=n:=by omega
  subst e;exact .inl ⟨hst σ H p,hd σ H p⟩
theorem p9{J:It}{xs:List V}{a:Addr}{H0:Hp}(as:AsSeq J xs a H0){g:TG}{tc:TT}{em:TEm}{σ:St}{H:Hp}{Q:St->Hp->Prop}(Pv:Nat->St->Hp->Prop)(h0:Pv 0 σ H)(hk:∀i σ H,i<=xs.length->Pv i σ H->KeepAt a H0 H)
  (hs:∀i σ H x (N:St->Hp->Prop),xs[i]?=some x->Pv i σ H->(∀σ' H',Pv (i+1) σ' H'->N σ' H')->g x σ H fun σ2 H2=>tc σ2 H2 fun b H3=>if b=true then em σ2 H3 N else N σ2 H3)
  (hd:∀σ H,Pv xs.length σ H->Q σ H):Mi g tc em J σ H Q :=
 Dt (n:=xs.length) Pv h0 (fun i σ H hi p=>as.go H i (hk i σ H (CT hi) p) hi) (fun σ H p=>as.stop H (hk _ σ H (Nat.le_refl _) p)) (fun i σ H x H' N hi p y hN=>by
  obtain⟨rfl,e⟩:=as.yld H i x H' (hk i σ H (CT hi) p) hi y;exact hs i σ _ x N e p hN) hd
theorem Ds{em:TEm}{N:St->Hp->Prop}{σ:St}{H:Hp}{i:Nat}{x:V}(h:em (σ.set i (some x)) H N):Z5 i x σ H fun σ2 H2=>Nk σ2 H2 fun b H3=>if b=true then em σ2 H3 N else N σ2 H3:=by
 show if true=true then em (σ.set i (some x)) H N else N (σ.set i (some x)) H
 rw[AZ rfl];exact h
section
variable{X:Cx}(K:PySem.W.Frag)(P:Program)(w:World){tg:Expr}
theorem piL{l:Expr}{tl:TE}(hl:PE X l tl)(hK:X.K=K:=by rfl):PI X tg l (Ux K tl):=by subst hK;exact Ql hl
theorem piE{elts:List Expr}{kk:Nat}{tp:Pos}{a:Expr}{ta:TA}{p pos:Pos}(hm:X.mg "enumerate" = none)(ha:PA X [a] ta)(hg:Gl X "enumerate":=by rfl)(hs:starEach [a] X.env = [(false,eval a X.env)]:=by rfl)(hK:X.K=K:=by rfl) :
  PI X (.Tuple elts kk tp) (.Call (.Name "enumerate" p) [a] [] pos) (Ul K ta):=by subst hK;exact Pm hg hm Ea ha hs
theorem Px{a:Expr}{ta:TA}{p pos:Pos}(hm:X.mg "range" = none)(ha:PA X [a] ta)(hg:Gl X "range":=by rfl)(hs:starEach [a] X.env = [(false,eval a X.env)]:=by rfl):PI X tg (.Call (.Name "range" p) [a] [] pos) (Ty ta):=Ki hg hm ha hs
theorem pgT{es:List Expr}{k:Nat}{t:TGs}{n:Nat}{pos:Pos}(h:PGs X es t)(hc:X.calm=true:=by rfl)(hn:(assignEach es X.env).length=n:=by rfl)(hst:(assignEach es X.env).findIdx? (·.1)=none:=by rfl)(hK:X.K=K:=by rfl):PG X (.Tuple es k pos) (Wp K n t):=by subst hK;exact Uz hc h hn hst
theorem peF{e:Expr}{ta:TE}{f:Str}{pos:Pos}(he:PE X e ta)(hb:attributeBase e f X.env (eval e X.env)=eval e X.env:=by rfl)(hK:X.K=K:=by rfl):PE X (.Attribute e f pos) (Wv K ta f):=by subst hK;exact Ss he hb
theorem psF{o value:Expr}{ta tv:TE}{f:Str}{pos pos':Pos}(ha:PE X o ta)(hv:PE X value tv)(hs:swapsWith value (some (.Attribute o f pos')) pos.line X.env=pure false:=by rfl)(hK:X.K=K:=by rfl):PS X (.Assign [.Attribute o f pos'] value pos) (Wl K ta tv f):=by subst hK;exact Uf ha hv hs
theorem K2(hK:X.K=K:=by rfl):F9 X (.builtin "len") (fun xs H Q=>∃p ys,xs = [.ref p]/\(SqL K H p ys\/SqT K H p ys)/\Q (.int ys.length) H):=by subst hK;exact Cw
theorem j8(hK:X.K=K:=by rfl):F9 X (.type "list") (fun xs H Q=>∃p ys,xs = [.ref p]/\(SqL K H p ys\/SqT K H p ys)/\∀l,H l=none->Q (.ref l) (upd H l (.lst ys))):=by subst hK;exact Cg
theorem Jk(hc:X.calm=true:=by rfl)(hK:X.K=K:=by rfl):F9 X (.builtin "all") (fun xs H Q=>∃(p:Addr) (bs:List Bool),xs = [.ref p]/\SqL K H p (bs.map V.bl)/\Q (.bl (bs.all id)) H):=by subst hK;exact Nb hc
theorem a8(hK:X.K=K:=by rfl):F9 X (.builtin "sorted") (fun xs H Q=>∃(p:Addr) (ss:List Str),xs = [.ref p]/\SqL K H p (ss.map V.str)/\∀(l:Addr) (ss':List Str),H l=none->ss'.Perm ss->ss'.Pairwise leS->Q (.ref l) (upd H l (.lst (ss'.map V.str)))):=by subst hK;exact Dx
theorem Gb(hc:X.calm=true:=by rfl)(hw:X.w=w:=by rfl):F9 X (.builtin "sorted") (fun xs H Q=>∃(p:Addr) (ss:List Str),xs = [.ref p]/\H p=some (V3 w p ss)/\∀(l:Addr) (ss':List Str),H l=none->ss'.Perm ss->ss'.Pairwise leS->Q (.ref l) (upd H l (.lst (ss'.map V.str)))):=by subst hw;exact Ch hc
theorem E8(hK:X.K=K:=by rfl):F9 X (.builtin "isinstance") (fun xs H Q=>∃x n t b,xs = [x,.ty n]/\TyOf K H x t/\PySem.W.kitOne K t (.type n)=some b/\Q (.bl b) H):=by subst hK;exact Jh
theorem Wj(hu:X.A.units+64<cLine)(hK:X.K=K:=by rfl):OpR X (compareOp .In) (Rx K false):=by subst hK;exact Te hu
theorem My(hu:X.A.units+64<cLine)(hK:X.K=K:=by rfl):OpR X (compareOp .NotIn) (Rx K true):=by subst hK;exact Lc hu
theorem Pk(hu:X.A.units+64<cLine)(hK:X.K=K:=by rfl):OpR X (compareOp .Eq) (Vh K):=by subst hK;exact Uw hu
theorem Mm(hu:X.A.units+64<cLine)(hK:X.K=K:=by rfl):OpR X (compareOp .NotEq) (Vj K):=by subst hK;exact Vc hu
theorem t9(hK:X.K=K:=by rfl):OpR X (compareOp .In) (rIn K false):=by subst hK;exact Md
theorem At(hK:X.K=K:=by rfl):OpR X (compareOp .NotIn) (rIn K true):=by subst hK;exact Cp
theorem Tf{o e:Expr}{to:TE}{t:TA}{apos cpos:Pos}{r:V->List V->Hp->VK->Prop}(hm:MtM X "set.add" r)(ho:PE X o to)(ha:PA X [e] t)
  (hbase:attributeBase o "add" X.env (eval o X.env)=eval o X.env:=by rfl)
  (hfew:((backTo cpos (starEach [e] X.env)).all (fun x=>!x.1) &&(backToKw cpos (keywordEach [] X.env)).all (fun x=>x.1.isSome)
   && decide ([e].length +([]:List Keyword).length +(if([]:List Keyword).isEmpty then 0 else 1)<30))=true:=by rfl)
  (hline:(apos.endLine == cpos.line)=true:=by rfl) (hs:starEach [e] X.env = [(false,eval e X.env)]:=by rfl) (hP:X.prog=P:=by rfl) (hw:X.w=w:=by rfl) :
  PE X (.Call (.Attribute o "add" apos) [e] [] cpos) (Wt P w r to t):=by subst hP;subst hw;exact Ri hm ho ha hbase hfew hline hs
theorem ixL(hK:X.K=K:=by rfl):IxR X (Wx K):=by subst hK;exact Qn
theorem ixT(hK:X.K=K:=by rfl):IxR X (Wu K):=by subst hK;exact Ta
theorem slL(hK:X.K=K:=by rfl):SlR X (Xa K):=by subst hK;exact Qp
theorem ptV{a:Expr}{ta:TE}(ha:PE X a ta)(he:∀whole,isTrue a X.env whole =(do let v <-whole;standAt a.pos;holding [v] (truthy v)):=by intro _;rfl)(hK:X.K=K:=by rfl):PT X a (fun σ H Q=>ta σ H fun x H'=>∃k,Wi K x H' k/\Q k H'):=by subst hK;exact Nu ha he
theorem Mj{T id:String}{name:Str}{o e:Expr}{es:List Expr}{to:TE}{t:TA}{apos cpos:Pos}{r:V->List V->Hp->VK->Prop}(pa:PlainAttrs T)(slot:Slot T name id)(hty:typeOf (.builtin id)=pure (.type "method_descriptor"))(hm:MtM X id r)(ho:PE X o to)(ha:PA X (e::es) t)
  (hbase:attributeBase o name X.env (eval o X.env)=eval o X.env:=by rfl)
  (hfew:((backTo cpos (starEach (e::es) X.env)).all (fun x=>!x.1) &&(backToKw cpos (keywordEach [] X.env)).all (fun x=>x.1.isSome)
   && decide ((e::es).length +([]:List Keyword).length +(if([]:List Keyword).isEmpty then 0 else 1)<30))=true:=by rfl)
  (hline:(apos.endLine == cpos.line)=true:=by rfl) (hs:starEach (e::es) X.env =(false,eval e X.env)::starEach es X.env:=by rfl) (hplain:(backTo cpos (starEach es X.env)).any (·.1)=false:=by rfl) (hK:X.K=K:=by rfl) :
  PE X (.Call (.Attribute o name apos) (e::es) [] cpos) (tBM K T r to t):=by subst hK;exact Wa pa slot hty hm ho ha hbase hfew hline hs hplain
theorem Tp{T id:String}{name:Str}{o:Expr}{to:TE}{apos cpos:Pos}{r:V->List V->Hp->VK->Prop}(pa:PlainAttrs T)(slot:Slot T name id)(hty:typeOf (.builtin id)=pure (.type "method_descriptor"))(hm:MtM X id r)(ho:PE X o to)
  (hbase:attributeBase o name X.env (eval o X.env)=eval o X.env:=by rfl) (hline:(apos.endLine == cpos.line)=true:=by rfl) (hK:X.K=K:=by rfl):PE X (.Call (.Attribute o name apos) [] [] cpos) (Ww K T r to):=by subst hK;exact Tj pa slot hty hm ho hbase hline
end
section
variable{X:Cx}
theorem Hu{pins:List (Addr×Obj)}{σ:St}{H:Hp}{s:Shared}{A:Around}{E:Value->Shared->Prop}{Q:Value->Shared->Prop}{b:Bool}{x:V}{u t:Value}{tp:Addr}{its:List Value}(I:Inv X pins σ H s)(rx:RelV x u)(ty:TyOf X.K H x t)(htp:IsTup s.heap tp its.toArray)(e:PySem.W.kitAny X.K t its=some b)(hv:(∃y,x = .str y)\/(∃a xs,x = .ref a/\(H a=some (.lst xs)\/H a=some (.tup xs))))(h:∀tk,Q (.bool b) { s with toks:=tk }) :
  wpAny (model X.prog X.w) A (call (.builtin "isinstance") [u,.ref tp]) Q E s:=by
 obtain⟨⟨oc,od,odt,osl⟩,ho,hc,n,hd⟩:=htp;cases hc;cases hd;rcases hv with⟨y,rfl⟩ | ⟨a,xs,rfl,ea | ea⟩
 .cases ty;obtain⟨t,q⟩:=(show ∃t,u=Value.str y t from rx);cases q;exact PySem.W.kia_tup PySem.W.kitx_str I.kIn True.intro ho e (fun z=>nomatch z) h
 .cases(show u=Value.ref a from rx);have hty:t = .type "list":=by cases ty with
   | lst=>rfl
   | frz=>rfl
   | tup ea'=>rw[ea]at ea';cases ea'
   | dK ea'=>rw[ea]at ea';cases ea'
   | dT ea'=>rw[ea]at ea';cases ea'
   | ins ea'=>rw[ea]at ea';cases ea'
  subst hty;obtain⟨_,_,n,_,h1⟩:=(show ObjOk X.prog X.w H s.heap a (.lst xs)from I.hok a _ ea);exact PySem.W.kia_tup PySem.W.kitx_list I.kIn ⟨_,h1,rfl⟩ ho e (fun z=>nomatch z) h
 .cases(show u=Value.ref a from rx);have hty:t = .type "tuple":=by cases ty with
   | tup=>rfl
   | frz ea'=>rw[ea]at ea';cases ea'
   | lst ea'=>rw[ea]at ea';cases ea'
   | dK ea'=>rw[ea]at ea';cases ea'
   | dT ea'=>rw[ea]at ea';cases ea'
   | ins ea'=>rw[ea]at ea';cases ea'
  subst hty;obtain⟨_,_,_,p⟩:=(show ObjOk X.prog X.w H s.heap a (.tup xs)from I.hok a _ ea);obtain⟨o,h1,h2,_⟩:=p;exact PySem.W.kia_tup PySem.W.kitx_tuple I.kIn ⟨o,h1,h2⟩ ho e (fun z=>nomatch z) h
def Pp(K:PySem.W.Frag):List V->Hp->VK->Prop:=fun xs H Q=>∃(x:V) (p:Addr) (ns:List String) (t:Value) (b:Bool),xs = [x,.ref p]/\H p=some (.tup (ns.map V.ty))/\TyOf K H x t/\((∃y,x = .str y)\/(∃a xs,x = .ref a/\(H a=some (.lst xs)\/H a=some (.tup xs))))/\PySem.W.kitAny K t (ns.map Value.type)=some b/\Q (.bl b) H
theorem Ej:∀{ns:List String} {us:List Value},Vals (ns.map V.ty) us->us=ns.map Value.type
 | [],_,.nil=>rfl
 | _::_,_,.cons r t=>by rw[BS,Ej t];cases r;rfl
theorem Hs:F9 X (.builtin "isinstance") (Pp X.K):=by
 intro pins s σ H xs us Q I r h;obtain⟨x,p,ns,t,b,rfl,hp,ht,hv,he,q⟩:=h;obtain⟨u,v,rfl,ru,rv⟩:=r.two;cases rv;obtain⟨its,rv,pl,hz⟩:=I.tuple (SqT.of hp);rw[Ej rv]at pl;exact Hu I ru ht pl he hv fun tk=>⟨.bl b,H,I.tok _,rfl,q⟩
variable(K:PySem.W.Frag)
theorem Nt(hK:X.K=K:=by rfl):F9 X (.builtin "isinstance") (Pp K):=by subst hK;exact Hs
end
section
variable{prog:Program}{w:World}{A:Around}{E:Value->Shared->Prop}{s:Shared}{it l:Addr}{i:Nat}{items:Array Value}{x:Value}{Q:Value->Shared->Prop}
theorem Qb{α:Type}{Q:α->Shared->Prop}(hA:A.handled=none)(h:∀h' e,(∀b o,s.heap.get? b=some o->h'.get? b=some o)->(∃o,h'.get? e=some o/\o.cls = .type "StopIteration")->E (.ref e) { s with heap:=h' }):wpAny (model prog w) A (Builtin.SmallTypes.stopIteration (α:=α)) Q E s:=by
 refine AA (AA (FW (AA (AE (CG ?_ (sizeOk_excFields ..)))) (by show 0<=sizeLine;decide)));refine AA (wpAny_handled ?_);rw[hA];exact wpAny_throw (h _ _ (fun b o e=>AD _ (AD _ e)) ⟨_,AW _ rfl,rfl⟩)
theorem P3(hit:s.heap.IsTupleIter it l i)(hl:s.heap.IsTuple l items)(hx:items[i]?=some x)
  (hQ:∀h',h'.IsTupleIter it l (i+1)->Heap.SameBut it s.heap h'->Q x { s with heap:=h' }):wpAny (model prog w) A (Builtin.SmallTypes.nextOf (.ref it)) Q E s:=by
 obtain⟨o,ho,hc,hd⟩:=id hit;obtain⟨ol,hol,_,nl,hdl⟩:=hl;refine AA (DE hit.typeIs F.slot_tuple_iterator_next (CU F.slot_tuple_iterator_next hit.typeIs F.entry_tuple_iterator_next ?_ (F.args_tuple_iterator_next_1 _)));refine AA (AE (AA (CH ho hd rfl ?_)));refine DB (c:=(Value.ref l == Value.none)=true) rfl ?_;refine AA (CH ho hd rfl (AA (EC hol hdl ?_)));dsimp only;rw[show items[(i:Int).toNat]?=some x from hx];refine AA (DJ ho hd (D_ 1) (AE ⟨x,rfl,AE (hQ _ ⟨_,BT _ ho (Obj.isFreed_of_fields (Obj.data_mapFields hd _)),(Obj.cls_mapFields o _).trans hc,(Obj.data_mapFields hd _).trans ?_⟩ (DL _ _ _))⟩));rfl
theorem w6(hA:A.handled=none)(hit:s.heap.IsTupleIter it l i)(hl:s.heap.IsTuple l items)(hx:items[i]?=none)
  (hE:∀h' e,Heap.ExtBut it s.heap h'->(∃o,h'.get? e=some o/\o.cls = .type "StopIteration")->E (.ref e) { s with heap:=h' }):wpAny (model prog w) A (Builtin.SmallTypes.nextOf (.ref it)) Q E s:=by
 obtain⟨o,ho,hc,hd⟩:=id hit;obtain⟨ol,hol,_,nl,hdl⟩:=hl;refine AA (DE hit.typeIs F.slot_tuple_iterator_next (CU F.slot_tuple_iterator_next hit.typeIs F.entry_tuple_iterator_next ?_ (F.args_tuple_iterator_next_1 _)));refine AA (AE (AA (CH ho hd rfl ?_)));refine DB (c:=(Value.ref l == Value.none)=true) rfl ?_;refine AA (CH ho hd rfl (AA (EC hol hdl ?_)));dsimp only;rw[show items[(i:Int).toNat]?=none from hx];refine AA (DG (AA (DJ ho hd (EO 1) ?_)));exact Qb hA fun h' e k ho=>hE h' e (fun b o hb e=>k b o (((DL _ _ _).2 b hb).trans e)) ho
theorem Jo{M:Model}{α β:Type}{a b:α}{i u v:β}{f:α->β->Sem (ForInStep β)}{Q:β->Shared->Prop}(h:wpAny M A (f a i) (fun r s'=>r = .yield u/\wpAny M A (f b u) (fun r s'=>r = .yield v/\Q v s') E s') E s):wpAny M A (forIn [a,b] i f) Q E s:=by
 rw[List.forIn_cons];refine AA (BR h (fun r s' z=>?_) fun e s' z=>z);obtain⟨rfl,z⟩:=z;show wpAny M A (forIn [b] u f) Q E s';rw[List.forIn_cons];refine AA (BR z (fun r s' z=>?_) fun e s' z=>z);obtain⟨rfl,z⟩:=z;exact AE z
theorem u0{z TI TO i1 i2 l1 l2:Addr}{k1 k2:Nat}{xs ys:Array Value}{x y a b:Value}(D:ZipApart z TI TO i1 i2 l1 l2)(hz:IsZip s.heap z TI TO .none)(hti:IsPair s.heap TI (.ref i1) (.ref i2))(hto:IsPair s.heap TO a b)
  (h1:s.heap.IsTupleIter i1 l1 k1) (h2:s.heap.IsTupleIter i2 l2 k2) (g1:s.heap.IsTuple l1 xs) (g2:s.heap.IsTuple l2 ys) (hx:xs[k1]?=some x) (hy:ys[k2]?=some y)
  (hQ:∀h',IsZip h' z TI TO (rawInt s.heap.objs.size)->IsPair h' TO x y->h'.IsTupleIter i1 l1 (k1+1)->h'.IsTupleIter i2 l2 (k2+1)->IsPair h' s.heap.objs.size x y->h'.objs.size=s.heap.objs.size+1->(∀c o,c≠z->c≠TO->c≠i1->c≠i2->s.heap.get? c=some o->h'.get? c=some o)->Q (.ref s.heap.objs.size) { s with heap:=h' }) :
  wpAny (model prog w) A (Builtin.«zip.__next__» ⟨[.ref z],[]⟩) (fun fin s'=>∃v,fin = .done (.ret v)/\Q v s') E s:=by
 obtain⟨h0,gg,dd,tt,oo⟩:=s;refine AA (AE (AA (CH hz rfl rfl (AA (CH hz rfl rfl (AA (EC hti rfl ?_)))))));refine DB rfl (AA (AA (CH hz rfl rfl (AE (wpAny_ite_true rfl ?_)))));refine AA (DG (AA (CH hz rfl rfl (AA (ET hz (EO 4) fun h3 z3 s3=>?_)))));have a3:=h1.extBut s3.extBut D.i1z;have b3:=h2.extBut s3.extBut D.i2z;have c3:=g1.extBut s3.extBut D.l1z;have d3:=g2.extBut s3.extBut D.l2z;have e3:=(s3.2 TO D.TOz).trans hto;refine AA ?_;rw[show(#[Value.ref i1,Value.ref i2].toList.zipIdx) = [(Value.ref i1,0),(Value.ref i2,1)]from rfl];refine Jo (u:=(none,())) (v:=(none,())) ?_;refine AA (wpAny_onRaise (DB rfl (AA (P3 a3 c3 hx fun h4 a4 s4=>AE ?_))));have e4:=(s4.2 TO D.TOi1).trans e3;refine AA (EC e4 rfl (AA (wpAny_updateSeq_pair e4 fun h5 e5 s5=>AA (wpAny_letGo (AE ⟨rfl,?_⟩)))));have b5:=(b3.extBut s4.extBut D.i12.symm).extBut s5.extBut D.TOi2.symm;have d5:=(d3.extBut s4.extBut D.l2i1).extBut s5.extBut D.l2TO;refine AA (wpAny_onRaise (DB rfl (AA (P3 b5 d5 hy fun h6 b6 s6=>AE ?_))));have e6:=(s6.2 TO D.TOi2).trans e5;refine AA (EC e6 rfl (AA (wpAny_updateSeq_pair e6 fun h7 e7 s7=>AA (wpAny_letGo (AE ⟨rfl,?_⟩)))));have z7:=(s7.2 z D.TOz.symm).trans ((s6.2 z D.i2z.symm).trans ((s5.2 z D.TOz.symm).trans ((s4.2 z D.i1z.symm).trans z3)));have hs:h7.objs.size=h0.objs.size:=s7.1.trans (s6.1.trans (s5.1.trans (s4.1.trans s3.1)));have n0:∀{c:Addr} {o:Obj},h0.get? c=some o->c≠h7.objs.size:=fun e=>by rw[hs];exact AY (AF e)
 refine AA (EC e7 rfl (AA (FW (AA (AA (ET (AD _ z7) (EO 4) fun h8 z8 s8=>ET z8 (Nat.succ_lt_succ (EO 3)) fun h9 z9 s9=>AE ⟨_,rfl,?_⟩))) (by show 2<=sizeLine;decide))));have k9:∀{c:Addr} {o:Obj},c≠z->h7.get? c=some o->h9.get? c=some o:=fun nz e=>(s9.2 _ nz).trans ((s8.2 _ nz).trans (AD _ e));have sz9:h9.objs.size=h0.objs.size+1:=s9.1.trans (s8.1.trans ((BW ..).trans (congrArg (· + 1) hs)));have tk:h9.get? h7.objs.size=some ⟨.type "tuple",none,.seq #[x,y],#[]⟩:=(s9.2 _ (n0 hz).symm).trans ((s8.2 _ (n0 hz).symm).trans (AW _ rfl));rw[hs]at z9 tk⊢;refine hQ h9 z9 (k9 D.TOz e7) (a4.at fun o e=>?_) (b6.at fun o e=>?_) tk sz9 fun c o nz nt n1 n2 e=>k9 nz ?_
 .exact k9 D.i1z ((s7.2 _ D.TOi1.symm).trans ((s6.2 _ D.i12).trans ((s5.2 _ D.TOi1.symm).trans e)))
 .exact k9 D.i2z ((s7.2 _ D.TOi2.symm).trans e)
 .exact(s7.2 _ nt).trans ((s6.2 _ n2).trans ((s5.2 _ nt).trans ((s4.2 _ n1).trans ((s3.2 _ nz).trans e))))
theorem Bg{z TI TO i1 i2 l1 l2:Addr}{k1:Nat}{xs:Array Value}{Q:PySem.Fin->Shared->Prop}(hA:A.handled=none)(D:ZipApart z TI TO i1 i2 l1 l2)(hz:IsZip s.heap z TI TO .none)(hti:IsPair s.heap TI (.ref i1) (.ref i2))
  (h1:s.heap.IsTupleIter i1 l1 k1) (g1:s.heap.IsTuple l1 xs) (hx:xs[k1]?=none)
  (hE:∀h' e,(∀c o,c≠z->c≠TO->c≠i1->c≠i2->s.heap.get? c=some o->h'.get? c=some o)->(∃o,h'.get? e=some o/\o.cls = .type "StopIteration")->E (.ref e) { s with heap:=h' }) :
  wpAny (model prog w) A (Builtin.«zip.__next__» ⟨[.ref z],[]⟩) Q E s:=by
 obtain⟨h0,gg,dd,tt,oo⟩:=s;refine AA (AE (AA (CH hz rfl rfl (AA (CH hz rfl rfl (AA (EC hti rfl ?_)))))));refine DB rfl (AA (AA (CH hz rfl rfl (AE (wpAny_ite_true rfl ?_)))));refine AA (DG (AA (CH hz rfl rfl (AA (ET hz (EO 4) fun h3 z3 s3=>?_)))));refine AA ?_;rw[show(#[Value.ref i1,Value.ref i2].toList.zipIdx) = [(Value.ref i1,0),(Value.ref i2,1)]from rfl,List.forIn_cons];refine AA (AA (wpAny_onRaise (DB rfl (AA (w6 hA (h1.extBut s3.extBut D.i1z) (g1.extBut s3.extBut D.l1z) hx fun h4 e k4 ho=>?_)))));refine ET (k4 z _ D.i1z.symm z3) (EO 4) fun h5 z5 s5=>hE h5 e (fun c o nz _ n1 _ e=>(s5.2 _ nz).trans (k4 c o n1 ((s3.2 _ nz).trans e))) ?_;obtain⟨o,ho,hc⟩:=ho;have ne:e≠z:=fun q=>by
  subst q;rw[k4 e _ D.i1z.symm z3]at ho;cases ho;exact absurd (show Value.type "zip" = .type "StopIteration" from hc) (by decide)
 exact⟨o,(s5.2 _ ne).trans ho,hc⟩
theorem Ga{z TI TO:Addr}{f0:Value}(hz:IsZip s.heap z TI TO f0):s.TypeIs (.ref z) "zip":=⟨_,hz,rfl⟩
theorem Qd(hA:A.handled=none)(z TI TO i1 i2 l1 l2:Addr)(D:ZipApart z TI TO i1 i2 l1 l2)(xs ys:Array Value)(hl:xs.size<=ys.size) :
  WalksT prog w A z [z,TI,TO,i1,i2,l1,l2] [z,TO,i1,i2] xs.size (fun i vals=>∃x y,xs[i]?=some x/\ys[i]?=some y/\vals = #[x,y])
   (fun i h=>IsZip h z TI TO .none/\IsPair h TI (.ref i1) (.ref i2)/\(∃a b,IsPair h TO a b)/\h.IsTupleIter i1 l1 i/\h.IsTupleIter i2 l2 i/\h.IsTuple l1 xs/\h.IsTuple l2 ys)
   (fun i T h=>IsZip h z TI TO (rawInt T)/\IsPair h TI (.ref i1) (.ref i2)/\(∃a b,IsPair h TO a b)/\h.IsTupleIter i1 l1 (i+1)/\h.IsTupleIter i2 l2 (i+1)/\h.IsTuple l1 xs/\h.IsTuple l2 ys/\T≠z/\T≠TO/\T≠i1/\T≠i2) where
 sub:=by simp
 frame:=fun i h h' ⟨h1,h2,⟨a,b,h3⟩,h4,h5,h6,h7⟩ k=>⟨k z (by simp) _ h1,k TI (by simp) _ h2,⟨a,b,k TO (by simp) _ h3⟩,h4.at (k i1 (by simp)),h5.at (k i2 (by simp)),h6.at (k l1 (by simp)),h7.at (k l2 (by simp))⟩
 item:=fun i s Q E hi ⟨h1,h2,⟨a,b,h3⟩,h4,h5,h6,h7⟩ hQ=>by
  have hx:xs[i]?=some xs[i]:=FJ hi;have hy:ys[i]?=some (ys[i]'(AX hi hl)):=FJ _;refine AA (EX (DE (Ga h1) F.slot_zip_next (CU F.slot_zip_next (Ga h1) F.entry_zip_next (u0 D h1 h2 h3 h4 h5 h6 h7 hx hy fun h' z' o' a' b' t' sz k=>AE ?_) (F.args_zip_next_1 _))));refine hQ _ _ h' s.toks ⟨_,_,hx,hy,rfl⟩ (Nat.le_refl _) ⟨_,t',rfl,_,rfl⟩ ⟨z',k TI _ D.TIz D.TITO D.TIi1 D.TIi2 h2,⟨_,_,o'⟩,a',b',h6.at fun o e=>k l1 o D.l1z D.l1TO D.l1i1 D.l1i2 e,h7.at fun o e=>k l2 o D.l2z D.l2TO D.l2i1 D.l2i2 e,?_,?_,?_,?_⟩ fun b o hb e=>?_
  .exact(AY (AF h1)).symm
  .exact(AY (AF h3)).symm
  .obtain⟨o,e,_⟩:=h4;exact(AY (AF e)).symm
  .obtain⟨o,e,_⟩:=h5;exact(AY (AF e)).symm
  .simp only[AS,AO,or_false,not_or]at hb;exact k b o hb.1 hb.2.1 hb.2.2.1 hb.2.2.2 e
 go:=fun elts k pos i T s Q E ⟨h1,h2,⟨a,b,h3⟩,h4,h5,h6,h7,_⟩ hQ=>wpAny_letOwnedTupleGo_zip h1 fun h' z' k'=>hQ h' ⟨z',(k'.2 _ D.TIz).trans h2,⟨a,b,(k'.2 _ D.TOz).trans h3⟩,h4.extBut k'.extBut D.i1z,h5.extBut k'.extBut D.i2z,h6.extBut k'.extBut D.l1z,h7.extBut k'.extBut D.l2z⟩ fun b o hb e=>(k'.2 b fun q=>hb (by rw[q];exact BB ..)).trans e
 apart:=fun i T h ⟨_,_,_,_,_,_,_,n1,n2,n3,n4⟩ hm=>by
  simp only[AS,AO,or_false]at hm;rcases hm with e | e | e | e
  .exact n1 e
  .exact n2 e
  .exact n3 e
  .exact n4 e
 done:=fun s Q E ⟨h1,h2,⟨a,b,h3⟩,h4,h5,h6,h7⟩ hQ=>by
  have hx:xs[xs.size]?=none:=DW (Nat.le_refl _);refine AA (EX (DE (Ga h1) F.slot_zip_next (CU F.slot_zip_next (Ga h1) F.entry_zip_next (Bg hA D h1 h2 h4 h6 hx fun h' e k ho=>?_) (F.args_zip_next_1 _))));obtain⟨o,ho,hc⟩:=ho;refine AA (FY ⟨o,ho,hc⟩ isSubtype_stop (AE (hQ h' s.toks fun b o hb e=>?_)));simp only[AS,AO,or_false,not_or]at hb;exact k b o hb.1 hb.2.1 hb.2.2.1 hb.2.2.2 e
 self:=fun i s Q E ⟨h1,_⟩ q=>F_ h1 q
end
section
variable{prog:Program}{w:World}{A:Around}{E:Value->Shared->Prop}{s:Shared}
theorem Ck{M:Model}{T:String}{vs:List Value}{Q:Value->Shared->Prop}(h:Q (.ref s.heap.objs.size) { s with heap:=s.heap.push { cls:=.type T,data:=.fields vs.toArray } })(hs:sizeOk (.fields vs.toArray)):wpAny M A (Builtin.SmallTypes.newRecord (.type T) vs) Q E s:=CG h hs
theorem Kk{l1 l2:Addr}{xs ys:Array Value}{Q:Value->Shared->Prop}(g1:s.heap.IsTuple l1 xs)(g2:s.heap.IsTuple l2 ys)
  (hQ:∀h',IsZip h' (s.heap.objs.size+4) (s.heap.objs.size+2) (s.heap.objs.size+3) .none->IsPair h' (s.heap.objs.size+2) (.ref s.heap.objs.size) (.ref (s.heap.objs.size+1))->IsPair h' (s.heap.objs.size+3) .none .none ->
   h'.IsTupleIter s.heap.objs.size l1 0->h'.IsTupleIter (s.heap.objs.size+1) l2 0->(∀c o,s.heap.get? c=some o->h'.get? c=some o)->Q (.ref (s.heap.objs.size+4)) { s with heap:=h' }) :
  wpAny (model prog w) A (call (.type "zip") [.ref l1,.ref l2]) Q E s:=by
 refine callType_new (S:=fun A R s'=>s'=s/\∀h',IsZip h' (s.heap.objs.size+4) (s.heap.objs.size+2) (s.heap.objs.size+3) .none->IsPair h' (s.heap.objs.size+2) (.ref s.heap.objs.size) (.ref (s.heap.objs.size+1))->IsPair h' (s.heap.objs.size+3) .none .none ->
   h'.IsTupleIter s.heap.objs.size l1 0->h'.IsTupleIter (s.heap.objs.size+1) l2 0->(∀c o,s.heap.get? c=some o->h'.get? c=some o)->R (.ok (.ret (.ref (s.heap.objs.size+4)))) { s with heap:=h' }) F.called_zip rfl (F.typeCall_zip_2 _ _) (F.newCall_zip_2 _ _) (fun _=>F.args_object_init_3 _ _ _) F.entry_zip_new (.of_wp fun prog w A R s' hR=>?_) ⟨rfl,fun h' z1 z2 z3 z4 z5 k=>⟨⟨_,z1,rfl⟩,hQ h' z1 z2 z3 z4 z5 k⟩⟩
 obtain⟨rfl,hR⟩:=hR;obtain⟨h0,gg,dd,tt,oo⟩:=s';refine AA (AA (AE (DB rfl (AA (DY sub_zip (DB rfl (AE ?_)))))))
 let h1:=h0.push { cls:=.type "tuple_iterator",data:=.fields #[.ref l1,.int 0 0] }
 let h2:=h1.push { cls:=.type "tuple_iterator",data:=.fields #[.ref l2,.int 0 0] }
 let h3:=h2.push { cls:=.type "tuple",data:=.seq #[.ref h0.objs.size,.ref h1.objs.size] }
 let h4:=h3.push { cls:=.type "tuple",data:=.seq #[.none,.none] }
 have e1:h1.objs.size=h0.objs.size+1:=BW ..;have e2:h2.objs.size=h0.objs.size+2:=(BW ..).trans (congrArg (· + 1) e1);have e3:h3.objs.size=h0.objs.size+3:=(BW ..).trans (congrArg (· + 1) e2);have e4:h4.objs.size=h0.objs.size+4:=(BW ..).trans (congrArg (· + 1) e3);have g2':h1.IsTuple l2 ys:=g2.at fun o e=>AD _ e;have p0:h1.get? h0.objs.size=some { cls:=.type "tuple_iterator",data:=.fields #[.ref l1,.int 0 0] }:=AW _ rfl;have p1:h2.get? h1.objs.size=some { cls:=.type "tuple_iterator",data:=.fields #[.ref l2,.int 0 0] }:=AW _ rfl;have p2:h3.get? h2.objs.size=some { cls:=.type "tuple",data:=.seq #[.ref h0.objs.size,.ref h1.objs.size] }:=AW _ rfl;have p3:h4.get? h3.objs.size=some { cls:=.type "tuple",data:=.seq #[.none,.none] }:=AW _ rfl;have u:∀{h:Heap} {o:Obj} {c:Addr} {q:Obj},h.get? c=some q->(h.push o).get? c=some q:=fun e=>AD _ e;refine DB rfl (AA (AA (Jo (u:=#[.ref h0.objs.size]) (v:=#[.ref h0.objs.size,.ref h1.objs.size]) (AA (BZ (wpAny_pyIter_tuple g1 (AE ⟨rfl,AA (BZ (wpAny_pyIter_tuple g2' (AE ⟨rfl,AE ?_⟩)))⟩)))))));refine AA (FW (AA (FW (AA (Ck (AE ⟨_,rfl,?_⟩) ?_)) (by show 2<=sizeLine;decide))) (by show 2<=sizeLine;decide))
 .have hz:=AW h4 (o:={ cls:=.type "zip",data:=.fields #[.none,.bool false,.bool false,.ref h2.objs.size,.ref h3.objs.size] }) rfl;have q:=hR (h4.push { cls:=.type "zip",data:=.fields #[.none,.bool false,.bool false,.ref h2.objs.size,.ref h3.objs.size] });rw[show(Shared.mk h0 gg dd tt oo).heap.objs.size=h0.objs.size from rfl,<-e1,<-e2,<-e3,<-e4]at q;exact q hz (u (u p2)) (u p3) ⟨_,u (u (u (u p0))),rfl,rfl⟩ ⟨_,u (u (u p1)),rfl,rfl⟩ fun c o e=>u (u (u (u (u e))))
 .show 5<=sizeLine+2;decide
end
def Rw(sq:Hp->Addr->List V->Prop)(a b:Addr):It :=
  ⟨fun i H=>∃xs ys x y,sq H a xs/\sq H b ys/\xs.length<=ys.length/\xs[i]?=some x/\ys[i]?=some y,fun i H v H'=>∃T x y,v = .ref T/\H T=none/\H'=upd H T (.tup [x,y])/\(∀xs,sq H a xs->xs[i]?=some x)/\∀ys,sq H b ys->ys[i]?=some y,
   fun i H=>∃xs ys,sq H a xs/\sq H b ys/\xs.length<=ys.length/\xs.length=i⟩
def Jb(isIt:Heap->Addr->Addr->Nat->Prop)(z TI TO i1 i2 a b:Addr)(i:Nat)(h:Heap):Prop:=IsZip h z TI TO .none/\IsPair h TI (.ref i1) (.ref i2)/\(∃u v,IsPair h TO u v)/\isIt h i1 a i/\isIt h i2 b i
section
variable{P:Program}{w:World}{K:PySem.W.Frag}{elts:List Expr}{kk:Nat}{tp:Pos}{isIt:Heap->Addr->Addr->Nat->Prop}{isq:Heap->Addr->Array Value->Prop}{sq:Hp->Addr->List V->Prop}
theorem Da(oI:∀h c l i,isIt h c l i->∃o,h.get? c=some o/\∀v,o.data≠ .cell v)(kI:∀h h' c l i,isIt h c l i->(∀o,h.get? c=some o->h'.get? c=some o)->isIt h' c l i)
  (gI:∀(X:Cx) pins σ H s c xs,X.K=K->Inv X pins σ H s->sq H c xs->∃its,Vals xs its/\isq s.heap c its.toArray) (uI:∀(X:Cx) pins σ H s c xs ys,X.K=K->Inv X pins σ H s->sq H c xs->sq H c ys->xs=ys)
  (z TI TO i1 i2 a b:Addr) (WI:∀(A:Around),A.handled=none->∀xs ys:Array Value,xs.size<=ys.size->WalksT P w A z [z,TI,TO,i1,i2,a,b] [z,TO,i1,i2] xs.size (fun i vals=>∃x y,xs[i]?=some x/\ys[i]?=some y/\vals = #[x,y])
   (fun i h=>IsZip h z TI TO .none/\IsPair h TI (.ref i1) (.ref i2)/\(∃a b,IsPair h TO a b)/\isIt h i1 a i/\isIt h i2 b i/\isq h a xs/\isq h b ys)
   (fun i T h=>IsZip h z TI TO (rawInt T)/\IsPair h TI (.ref i1) (.ref i2)/\(∃a b,IsPair h TO a b)/\isIt h i1 a (i+1)/\isIt h i2 b (i+1)/\isq h a xs/\isq h b ys/\T≠z/\T≠TO/\T≠i1/\T≠i2)) :
  Turn P w K (.Tuple elts kk tp) (Rw sq a b) [z,TI,TO,i1,i2] z (Jb isIt z TI TO i1 i2 a b) where
 mem:=BB ..
 obj:=fun i h st c hc=>by
  obtain⟨h1,h2,⟨u,v,h3⟩,h4,h5⟩:=st;simp only[AS,AO,or_false]at hc;rcases hc with rfl | rfl | rfl | rfl | rfl
  .exact⟨_,h1,fun v z=>by cases z⟩
  .exact⟨_,h2,fun v z=>by cases z⟩
  .exact⟨_,h3,fun v z=>by cases z⟩
  .exact oI _ _ _ _ h4
  .exact oI _ _ _ _ h5
 keep:=fun i h h' st k=>by
  obtain⟨h1,h2,⟨u,v,h3⟩,h4,h5⟩:=st;exact⟨k z (by simp) _ h1,k TI (by simp) _ h2,⟨u,v,k TO (by simp) _ h3⟩,kI _ _ _ _ _ h4 (k i1 (by simp)),kI _ _ _ _ _ h5 (k i2 (by simp))⟩
 item:=by
  intro X hP hw hK hc i pins s σ H E I hf st hg;subst hP hw;obtain⟨xs,ys,x,y,hq,hr,hle,hx,hy⟩:=hg;obtain⟨its,rv,p⟩:=gI _ _ _ _ _ _ _ hK I hq;obtain⟨jts,rw_,p'⟩:=gI _ _ _ _ _ _ _ hK I hr;obtain⟨u,hu,ru⟩:=rv.get hx;obtain⟨v,hv,rv'⟩:=rw_.get hy;have hl:=rv.length;have hl':=rw_.length;have W:=WI X.A (I.ok.hd hc) its.toArray jts.toArray (by rw[AN,AN,<-hl,<-hl'];exact hle);have hi:i<its.toArray.size:=by rw[AN];exact(AM.mp hu).1
  obtain⟨s1,s2,s3,s4,s5⟩:=id st;refine W.item i s _ _ hi ⟨s1,s2,s3,s4,s5,p,p'⟩ fun T vals h' tk hvs hT ht hm k=>?_;obtain⟨x',y',hx',hy',rfl⟩:=hvs;have ex:x'=u:=BV (hx'.symm.trans ((ED ..).trans hu));have ey:y'=v:=BV (hy'.symm.trans ((ED ..).trans hv));subst ex ey;refine⟨.ref T,rfl,W.go elts kk tp i T _ _ _ hm fun h2 st2 k2=>?_⟩;have kk2:∀b o,b∉[z,TI,TO,i1,i2]->s.heap.get? b=some o->h2.get? b=some o:=fun c o hc' ec=>by
   have n4:c∉[z,TO,i1,i2]:=fun m=>hc' (by
    simp only[AS,AO,or_false]at m⊢;exact m.imp_right .inr)
   exact k2 c o n4 (k c o n4 ec)
  have hT2:h2.IsTuple T #[x',y']:=ht.at fun o e=>k2 T o (W.apart i T h' hm) e;have gone:∀c∈[z,TI,TO,i1,i2],∃ob,s.heap.get? c=some ob:=fun c hc'=>by
   obtain⟨u3,v3,h3⟩:=s3;obtain⟨o4,h4,_⟩:=oI _ _ _ _ s4;obtain⟨o5,h5,_⟩:=oI _ _ _ _ s5;simp only[AS,AO,or_false]at hc';rcases hc' with rfl | rfl | rfl | rfl | rfl
   .exact⟨_,s1⟩
   .exact⟨_,s2⟩
   .exact⟨_,h3⟩
   .exact⟨_,h4⟩
   .exact⟨_,h5⟩
  refine⟨.ref T,upd H T (.tup [x,y]),I.turnLaid (fp:=[z,TI,TO,i1,i2]) kk2 hf gone hT ⟨?_,[x',y'],.cons ru (.cons rv' .nil),hT2⟩,rfl,⟨T,x,y,rfl,I.hok.fresh hT,rfl,fun zs hz=>by rw[uI _ _ _ _ _ _ _ _ hK I hz hq];exact hx,fun zs hz=>by rw[uI _ _ _ _ _ _ _ _ hK I hz hr];exact hy⟩,⟨st2.1,st2.2.1,st2.2.2.1,st2.2.2.2.1,st2.2.2.2.2.1⟩,fun c hc'=>?_⟩
  .show 2<=sizeLine;decide
  .obtain⟨ob,eb⟩:=gone c hc';rw[B7 (AY (AX (AF eb) hT))];exact(hf c hc').1
 done:=by
  intro X hP hw hK hc i pins s σ H E I hf st hg;subst hP hw;obtain⟨xs,ys,hq,hr,hle,hx⟩:=hg;obtain⟨its,rv,p⟩:=gI _ _ _ _ _ _ _ hK I hq;obtain⟨jts,rw_,p'⟩:=gI _ _ _ _ _ _ _ hK I hr;have hl:=rv.length;have hl':=rw_.length;have W:=WI X.A (I.ok.hd hc) its.toArray jts.toArray (by rw[AN,AN,<-hl,<-hl'];exact hle);have hi:i=its.toArray.size:=by rw[AN,<-hl,hx]
  obtain⟨s1,s2,s3,s4,s5⟩:=id st;rw[hi]at s4 s5;refine W.done s _ _ ⟨s1,s2,s3,s4,s5,p,p'⟩ fun h' tk k=>⟨rfl,?_⟩;have nf:∀b u,H b=some u->b∉[z,TI,TO,i1,i2]:=fun b u e hb=>by rw[(hf b hb).1]at e;cases e
  have k':∀c o,c∉[z,TI,TO,i1,i2]->s.heap.get? c=some o->h'.get? c=some o:=fun c o hc' ec=>k c o (fun m=>hc' (by
    simp only[AS,AO,or_false]at m⊢;exact m.imp_right .inr)) ec
  refine I.step (h':=h') (H':=H) (t':=tk) (g':=s.gens) (d':=s.drawn) (ch:=[z,TI,TO,i1,i2]) (fun b hb=>let⟨_,f1,_,f3,f4,f5⟩:=hf b hb;⟨f3,f1,f4,f5⟩) (fun b ob _ _ hc e _=>k' b ob hc e) (fun b ob _ _ hc e _=>⟨ob.slots,k' b ob hc e⟩) (fun _ _ _ _ n=>n)
   (fun b ob hc e=>⟨ob,k' b ob hc e⟩) (fun _ _ e=>e) (fun _ _ _ e=>e) (fun b ps e=>⟨#[],by rw[e];simp⟩) (fun m hm=>?_) (fun b u eb=>?_) I.bare
  .obtain⟨ob,es,ep,ho,r⟩:=hm;exact⟨ob,es,ep,k' _ ob (fun hb=>(hf _ hb).2.1 rfl) ho,r⟩
  .refine(I.hok b u eb).stay (fun c v hc q=>k' c v ?_ q) (fun _ q=>q) fun _ _ q=>q;rcases hc with z | z
   .rw[z];exact nf b u eb
   .exact nf c _ z
 self:=fun A i s Q E st h=>F_ st.1 h
theorem Lf(z TI TO i1 i2 a b:Addr)(D:ZipApart z TI TO i1 i2 a b):Turn P w K (.Tuple elts kk tp) (Rw (SqL K) a b) [z,TI,TO,i1,i2] z (Jb Heap.IsListIter z TI TO i1 i2 a b) :=
 Da (isq:=Heap.IsList) (fun h c l i ⟨o,e,_,d⟩=>⟨o,e,fun v z=>by rw[d]at z;cases z⟩) (fun h h' c l i z k=>z.at k) (fun X pins σ H s c xs hK I hq=>by subst hK;obtain⟨its,rv,p,_⟩:=I.list hq;exact⟨its,rv,p.isList⟩) (fun X pins σ H s c xs ys hK I hq hr=>by subst hK;exact I.list_inj hq hr)
  z TI TO i1 i2 a b fun A hA xs ys hl=>by
   have W:=WalksT.zip2 (prog:=P) (w:=w) hA z TI TO i1 i2 a b D xs ys
   rwa [DM hl]at W
theorem Kj(z TI TO i1 i2 a b:Addr)(D:ZipApart z TI TO i1 i2 a b):Turn P w K (.Tuple elts kk tp) (Rw (SqT K) a b) [z,TI,TO,i1,i2] z (Jb Heap.IsTupleIter z TI TO i1 i2 a b) :=
 Da (isq:=Heap.IsTuple) (fun h c l i ⟨o,e,_,d⟩=>⟨o,e,fun v z=>by rw[d]at z;cases z⟩) (fun h h' c l i z k=>z.at k) (fun X pins σ H s c xs hK I hq=>by subst hK;obtain⟨its,rv,p,_⟩:=I.tuple hq;exact⟨its,rv,p⟩) (fun X pins σ H s c xs ys hK I hq hr=>by subst hK;exact I.tuple_inj hq hr)
  z TI TO i1 i2 a b fun A hA xs ys hl=>Qd hA z TI TO i1 i2 a b D xs ys hl
end
section
variable{X:Cx}{elts:List Expr}{kk:Nat}{tp:Pos}
def Wq(K:PySem.W.Frag)(R:It->Hp->Prop)(a b:Addr)(xs ys:List V)(H:Hp):Prop:=SqL K H a xs/\SqL K H b ys/\R (Rw (SqL K) a b) H\/SqT K H a xs/\SqT K H b ys/\R (Rw (SqT K) a b) H
def Ua(K:PySem.W.Frag)(ta:TA):TI:=fun σ H R=>ta σ H fun vs H1=>∃a b xs ys,vs = [.ref a,.ref b]/\Wq K R a b xs ys H1
theorem Po:bootBuiltins "zip" = some (.type "zip"):=by decide +kernel
theorem Qy{a b:Expr}{ta:TA}{p pos:Pos}(hg:Gl X "zip")(hm:X.mg "zip" = none)(ha:PA X [a,b] ta)(hs:starEach [a,b] X.env =(false,eval a X.env)::starEach [b] X.env:=by rfl)(hpl:(backTo pos (starEach [b] X.env)).any (·.1)=false:=by rfl):PI X (.Tuple elts kk tp) (.Call (.Name "zip" p) [a,b] [] pos) (Ua X.K ta):=by
 intro pins s σ H R I h;refine Call_ (Ag I hg hm Po (PyProof.Rows.callWith_type1 (thn (ha pos pins s σ H _ I h) fun us s1 ⟨vs,H1,I1,r1,q1⟩=>?_) hs hpl));obtain⟨l,m,xs,ys,e,q⟩:=q1;subst e;obtain⟨u,v,rfl,ru,rv⟩:=r1.two;cases ru;cases rv;have fpk:∀c∈[s1.heap.objs.size+4,s1.heap.objs.size+2,s1.heap.objs.size+3,s1.heap.objs.size,s1.heap.objs.size+1],Z9 X pins H1 c:=fun c hc=>by
  have hc':s1.heap.objs.size<=c:=by
   simp only[AS,AO,or_false]at hc;rcases hc with rfl | rfl | rfl | rfl | rfl
   .exact DZ ..
   .exact DZ ..
   .exact DZ ..
   .exact Nat.le_refl _
   .exact DZ ..
  exact I1.fpOk hc' (I1.hok.fresh hc')
 rcases q with⟨hq,hr,q⟩ | ⟨hq,hr,q⟩
 .obtain⟨its,rx,pl,hz⟩:=I1.list hq;obtain⟨jts,ry,pm,hz'⟩:=I1.list hr;have a1:l<s1.heap.objs.size:=by obtain⟨_,e,_⟩:=pl.isList;exact AF e
  have a2:m<s1.heap.objs.size:=by obtain⟨_,e,_⟩:=pm.isList;exact AF e
  refine call_zip_2 pl.isList pm.isList fun h' g1 g2 g3 g4 g5 hsz k=>F_ g1 ?_;exact⟨s1.heap.objs.size+4,_,_,_,H1,rfl,I1.kept (t':=s1.toks) k,Lf _ _ _ _ _ l m (zipApart_new a1 a2),⟨g1,g2,⟨_,_,g3⟩,g4,g5⟩,fpk,q⟩
 .obtain⟨its,rx,pl,hz⟩:=I1.tuple hq;obtain⟨jts,ry,pm,hz'⟩:=I1.tuple hr;have a1:l<s1.heap.objs.size:=by obtain⟨_,e,_⟩:=id pl;exact AF e
  have a2:m<s1.heap.objs.size:=by obtain⟨_,e,_⟩:=id pm;exact AF e
  refine Kk pl pm fun h' g1 g2 g3 g4 g5 k=>F_ g1 ?_;exact⟨s1.heap.objs.size+4,_,_,_,H1,rfl,I1.kept (t':=s1.toks) k,Kj _ _ _ _ _ l m (zipApart_new a1 a2),⟨g1,g2,⟨_,_,g3⟩,g4,g5⟩,fpk,q⟩
variable(K:PySem.W.Frag)
theorem Xi{a b:Expr}{ta:TA}{p pos:Pos}(hm:X.mg "zip" = none)(ha:PA X [a,b] ta)(hg:Gl X "zip":=by rfl)(hs:starEach [a,b] X.env =(false,eval a X.env)::starEach [b] X.env:=by rfl)(hpl:(backTo pos (starEach [b] X.env)).any (·.1)=false:=by rfl)(hK:X.K=K:=by rfl):PI X (.Tuple elts kk tp) (.Call (.Name "zip" p) [a,b] [] pos) (Ua K ta):=by subst hK;exact Qy hg hm ha hs hpl
end
section
variable{X:Cx}{tg iter elt:Expr}{ifs:List Expr}{scope:Scope}{cl:List (Str×Addr)}{N':List Str}{cap:List (Option Nat)}{wi:TI}{pos:Pos}
theorem Jc{e:Expr}{gs:List Comprehension}{newAcc:Sem Value}{p2:Pos}{use:Option (Value->Sem Unit)}{Qv:Value->Shared->Prop}(hcl:clausesOf e =⟨tg,iter,ifs,0⟩::gs)(o:Addr->HO)(hs:∀x,foldedSetIterable iter X.env x=pure x)(S:CScope X scope cl N' cap)(hc:X.calm=true)(hi:PI X tg iter wi)
  {lp:Addr->It->St->Hp->(St->Hp->Prop)->Prop}
  (hnew:∀(pins:List (Addr×Obj)) (s:Shared) (σ:St) (H:Hp) (Q:Value->Shared->Prop) (E:Value->Shared->Prop),Inv X pins σ H s->(∀s',Inv X pins σ (upd H s.heap.objs.size (o s.heap.objs.size)) s'->(∀b ob,s.heap.get? b=some ob->s'.heap.get? b=some ob)->Q (.ref s.heap.objs.size) s')->wpAny (model X.prog X.w) X.A newAcc Q E s)
  (hlp:∀(pins:List (Addr×Obj)) (ex:List Addr) (s3:Shared) (H3:Hp) (D it:Addr) (fp:List Addr) (tn:Nat->Heap->Prop) (J:It) (σ:St) (s:Shared) (H:Hp) (Q:St->Hp->Prop) (R:Result->Shared->Prop),
   Turn X.prog X.w X.K tg J fp it tn->Inv (cxC X scope cl N' pins ex s3 H3) [] σ H s->tn 0 s.heap->(∀b∈fp,Z9 (cxC X scope cl N' pins ex s3 H3) [] H b)->lp D J σ H Q ->
   (∀s' σ' H',Inv (cxC X scope cl N' pins ex s3 H3) [] σ' H' s'->Q σ' H'->R (.ok .next) s') ->
   codeAny (model X.prog X.w) X.A (.compLoop e 0 (.ref it) (.ref D) (compEnvC scope cl s3.heap.objs.size X.env)) R s)
  (hun:∀it D env,X.A.under (.compStart e 0 (.ref it) (.ref D) env)=X.A) (hden:∀it D env,(model X.prog X.w).den (.compStart e 0 (.ref it) (.ref D) env) =(compStart e 0 (.ref it) (.ref D) env).onRaise (fun x=>do noteFrame x env;standAt theWindowsPlace))
  {pins:List (Addr×Obj)} {s:Shared} {σ:St} {H:Hp} {Q:V->Hp->Prop} (I:Inv X pins σ H s) (h:Ih wi o cap lp σ H Q)
  (hend:∀(D:Addr) (fp:List Addr) (H2:Hp) (s3 s':Shared) (σ':St) (H':Hp),Inv X pins σ H2 s3->(∀b∈fp,Z9 X pins H2 b)->Inv (cxC X scope cl N' pins fp s3 H2) [] σ' H' s'->Q (.ref D) H'->compPost (model X.prog X.w) X.A X.xe use Qv (.ref D) s3.heap.objs.size (.ok .next) s') :
  wpAny (model X.prog X.w) X.A (comprehension e scope X.env p2 newAcc false (eval iter X.env) use) Qv X.xe s:=by
 refine FN hcl hs S.clos S.kind S.loc (thn (hi pins s σ H _ I h) fun v s1 h1=>thn h1 fun itv s2 h2=>?_);obtain⟨it,fp,tn,J,H2,eit,I2,T,st2,f2,R2⟩:=h2;subst eit;refine hnew pins s2 σ H2 _ _ I2 fun s3 I3 k3=>?_;have hD:H2 s2.heap.objs.size=none:=I2.hok.fresh (Nat.le_refl _);have fok:∀b∈fp,Z9 X pins (upd H2 s2.heap.objs.size (o s2.heap.objs.size)) b/\∃ob,s3.heap.get? b=some ob:=fun b hb=>by
  obtain⟨ob,e,_⟩:=T.obj _ _ st2 b hb;obtain⟨f0,fr⟩:=f2 b hb;exact⟨⟨by rw[B7 (AY (AF e))];exact f0,fr⟩,ob,k3 b ob e⟩
 refine wpAny_newFunctionEnv S.nocell (by intro y hy;simp at hy) (fun h1 hns hsb=>?_) S.kind;have hk:∀b ob,s3.heap.get? b=some ob->h1.get? b=some ob:=fun b ob e=>(hsb.2 b (AY (AF e))).trans (AD _ e);have I4:Inv (cxC X scope cl N' pins fp s3 (upd H2 s2.heap.objs.size (o s2.heap.objs.size))) [] (Il cap σ) (upd H2 s2.heap.objs.size (o s2.heap.objs.size)) { s3 with heap:=h1,toks:=s3.toks +([]:List (Str×Value)).length } :=
  I3.block S hc fok hns hk
 have st4:tn 0 h1:=T.keep 0 _ _ st2 fun b hb ob e=>hk b ob (k3 b ob e);refine X4 (X:=cxC X scope cl N' pins fp s3 (upd H2 s2.heap.objs.size (o s2.heap.objs.size))) (gs:=⟨tg,iter,ifs,0⟩::gs) (e:=e) (d:=0) (tg:=tg) (iter:=iter) (ifs:=ifs) (hun _ _ _) (hden _ _ _) hcl rfl T st4 ?_;refine hlp pins fp s3 _ s2.heap.objs.size it fp tn J (Il cap σ) _ _ _ _ T I4 st4 (fun b hb=>?_) (R2 _ hD) fun s' σ' H' I' q'=>?_
 .obtain⟨⟨f0,f1,f2',f3,f4,f5⟩,ob,eo⟩:=fok b hb;refine⟨f0,AY (AF eo),fun hf=>?_,.inl hb,fun x c e=>f4 x c (S.cin.get e),fun p hp=>f5 p (by simpa [cxC] using hp)⟩;rcases AS.mp (I3.stkSub b hf)with z | z
  .exact f1 z
  .exact f2' z
 .exact hend _ fp _ s3 s' σ' H' I3 (fun b hb=>(fok b hb).1) I' q'
theorem Bn{i:Nat}{x:Str}{pos' cpos:Pos}{g:TG}{tc:TT}{te:TE}(hN:X.N.Nodup)(hi:X.N[i]?=some x)(hx:Loc X.env.scope x)(S:CScope X scope cl N' cap)(hc:X.calm=true)(hI:PI X tg iter wi)
  (hb:∀(pins:List (Addr×Obj)) (ex:List Addr) (s3:Shared) (H3:Hp),PG (cxC X scope cl N' pins ex s3 H3) tg g/\PTs (cxC X scope cl N' pins ex s3 H3) ifs tc/\PE (cxC X scope cl N' pins ex s3 H3) elt te)
  (hs:∀x,foldedSetIterable iter X.env x=pure x:=by intro _;rfl)
  (hsw:swapsWith (.ListComp elt [⟨tg,iter,ifs,0⟩] scope cpos) (some (.Name x pos')) pos.line X.env=pure true:=by rfl)
  (hf:X.fn x=true\/X.env.scope.names.lookup x=some .local:=by first | exact .inl rfl | exact .inr rfl | assumption) :
  PS X (.Assign [.Name x pos'] (.ListComp elt [⟨tg,iter,ifs,0⟩] scope cpos) pos) (Tc (Ih wi (fun _=>.lst []) cap fun D J σ H Q=>Mi g tc (Ia D te) J σ H Q) (Z5 i)):=by
 intro pins s σ H D I h;rw[exec_Assign];refine AA (DX (AA (DY hsw (wpAny_ite_true rfl (AA (AA ?_))))));refine Jc (newAcc:=newList []) (p2:=firstIterPos [⟨tg,iter,ifs,0⟩] cpos) rfl (fun _=>.lst []) hs S hc hI (fun pins s σ H Q E I h=>?_) (fun pins ex s3 H3 D it fp tn J σ s H Q R T I st hf h hR=>?_) (fun _ _ _=>rfl) (fun _ _ _=>rfl) I h fun E fp H2 s3 s' σ' H' I3 fok I' q=>?_
 .refine wpAny_newList ?_;exact h _ (I.lnew (t':=s.toks) (its:=[]) .nil (B_ _)) fun b ob e=>AD _ e
 .obtain⟨b1,b2,b3⟩:=hb pins ex s3 H3;exact i9 (X:=cxC X scope cl N' pins ex s3 H3) rfl rfl hc rfl (Ab elt tg iter ifs scope cpos _ _ _) b1 b2 (Go rfl b3) T I st hf h hR
 .have IX:Inv X pins σ H' s':=I3.unblock fok I' ⟨rfl,fun _ _=>rfl⟩;have fC:Z9 X pins H' s3.heap.objs.size:=I3.fpOk (Nat.le_refl _) I'.free;obtain⟨m,hn,_⟩:=I'.loc;show wpAny _ _ (assign (.Name x pos') X.env (.ref E)) _ _ _;refine wpAny_assign_Name (g8 (v:=.ref E) IX hN hi hx rfl (fun s2 I2 ⟨a,hsb,ha⟩=>?_) hf);have nC:s3.heap.objs.size≠a:=by
   rcases ha with rfl | ha
   .exact fC.2.1
   .exact(fC.2.2.2.2.1 _ _ ha).symm
  refine⟨m,?_,fun h' hsb'=>AE (AE ?_)⟩
  .obtain⟨ob,es,ep,e1,r⟩:=hn;exact⟨ob,es,ep,(hsb.2 _ nC).trans e1,r⟩
  refine⟨_,H',?_,q⟩;have k:∀b ob,b∉[s3.heap.objs.size]->s2.heap.get? b=some ob->h'.get? b=some ob:=fun b ob hb e=>(hsb'.2 b fun z=>hb (AC.mpr z)).trans e;refine I2.step (h':=h') (H':=H') (t':=s2.toks) (g':=s2.gens) (d':=s2.drawn) (ch:=[s3.heap.objs.size]) (fun b hb=>by rw[AC.mp hb];exact⟨fC.2.2.2.1,fC.2.1,fC.2.2.2.2⟩) (fun b ob _ _ hc e _=>k b ob hc e) (fun b ob _ _ hc e _=>⟨ob.slots,k b ob hc e⟩) (fun _ _ _ _ n=>n)
   (fun b ob hc e=>⟨ob,k b ob hc e⟩) (fun _ _ e=>e) (fun _ _ _ e=>e) (fun b ps e=>⟨#[],by rw[e];simp⟩) (fun m hm=>?_) (fun b u eb=>?_) I2.bare
  .obtain⟨ob,es,ep,ho,r⟩:=hm;exact⟨ob,es,ep,k _ ob (fun hb=>fC.2.1 (AC.mp hb).symm) ho,r⟩
  .have nf:∀b u,H' b=some u->b∉[s3.heap.objs.size]:=fun b u e hb=>by rw[AC.mp hb,fC.1]at e;cases e
   refine(I2.hok b u eb).stay (fun c v hc q=>k c v ?_ q) (fun _ q=>q) fun _ _ q=>q;rcases hc with z | z
   .rw[z];exact nf b u eb
   .exact nf c _ z
end
structure IsC(K:PySem.W.Frag)(C:Addr):Prop where
 ha:PySem.W.findIn K (.ref C) "__class__" = some (some (.builtin "object.__class__"))
 hn:PySem.W.specialIn K (.builtin "object.__class__") "__get__" = some (some (.builtin "getset_descriptor.__get__"))
 htk:PySem.W.takesIn K (.builtin "object.__class__")=some true
 hm:PySem.W.mroIn K C (.type "object")=some true
 one:PySem.W.kitOne K (.ref C) (.ref C)=some true
theorem kit_same(K:PySem.W.Frag)(a:Addr):PySem.W.kitOne K (.ref a) (.ref a)=some true:=AZ (beq_self_eq_true _)
section
variable{X:Cx}
theorem O0{x:Str}{C:Addr}{pos:Pos}(h:X.mg x=some (.ref C))(hg:Gl X x:=by rfl)(hd:(x ==("__debug__":Str))=false:=by decide):PE X (.Name x pos) (tC (.ref C)):=Ff hg h rfl hd
end
def d7(l xs:List Str):List Str:=xs.foldl Op l
theorem Og(l:List Str)(x:Str):(Op l x).length<=l.length+1:=by
 unfold Op;split
 .omega
 .rw[BA];exact Nat.le_refl _
theorem Ve{w:World}{h h':Heap}{a:Addr}{ss:List Str}(z:ST.WS w h a ss)(k:∀o,h.get? a=some o->h'.get? a=some o):ST.WS w h' a ss:=by
 obtain⟨o,es,ep,t,S,r⟩:=z;exact⟨o,es,ep,t,S.at (k o S.ho),r⟩
section
variable{prog:Program}{w:World}{A:Around}{R:Result->Shared->Prop}{I:Addr}{fp wr:List Addr}{G:Array GenState->Array GenState->Prop}{n:Nat}{P:Nat->Value->Prop}{St:Nat->Shared->Prop}
theorem Jg(W:WalksS prog w A.in1 I fp wr G n P St)(S:Addr)(hSf:S∉fp)(xs:List Str)(hn:xs.length=n)(hval:∀i v,P i v->∃x t,xs[i]?=some x/\v = .str x t) :
  ∀(k i:Nat) (s:Shared) (ss:List Str),n-i=k->i<=n->St i s->ST.WS w s.heap S ss->ss.length+k<4096 ->
   (∀s',Moved (S::wr) G s s'->ST.WS w s'.heap S (d7 ss (xs.drop i))->R (.ok (.ret .none)) s') ->
   codeAny (model prog w) A (.builtin "set.update.loop" ⟨[.ref S,.ref I],[]⟩) R s:=by
 have hSw:S∉wr:=fun h=>hSf (W.sub _ h);have hsub:∀b∈wr,b∈S::wr:=fun b hb=>AQ _ hb;intro k
 induction k with
 | zero =>
  intro i s ss hk hi hst hS _ hR;have hin:i=n:=by omega
  subst hin;refine EW F.entry_set_update_loop ?_;rw[Around.under_plainId F.plain_set_update_loop _];refine AA (W.done s _ _ hst fun s' hm=>?_);have q:=hR s' (hm.mono hsub);rw[<-hn,List.drop_length]at q;exact AE (q (Ve hS fun o=>hm.heap S o hSw))
 | succ k ih =>
  intro i s ss hk hi hst hS hz hR;refine EW F.entry_set_update_loop ?_;rw[Around.under_plainId F.plain_set_update_loop _];refine AA (W.item i s _ _ (by omega) hst fun v s' hP hst' hm=>?_);obtain⟨x,t,hx,rfl⟩:=hval i v hP;show wpAny _ A.in1 (holding [Value.str x t] (setAdd S (.str x t)) >>= _) _ _ s';refine AA (BZ ?_);unfold setAdd;refine BZ (AA (wpAny_pyHash_str ?_));refine ST.add_txt (s:={ s' with toks:=s'.toks+1 }) (Ve hS fun o=>hm.heap S o hSw) (by omega) fun h' b hsb z'=>?_;refine AE ⟨plainId_quiet F.plain_set_update_loop _,ih (i+1) _ (Op ss x) (by omega) (by omega) (W.frame _ s' _ _ hst' (CL _) fun b hb o e=>?_) z' (by have:=Og ss x;omega) fun s'' hm'' hS''=>?_⟩
  .rw[hsb.2 b (fun h:b=S=>hSf (by rw[<-h];exact hb))];exact e
  .refine hR s'' (Moved.trans W.gtrans ((hm.mono hsub).then_heap (CL _) fun b o hb e=>?_) hm'') ?_
   .rw[hsb.2 b (fun h:b=S=>hb (by rw[h];exact BB))];exact e
   .have hd:xs.drop i=x::xs.drop (i+1):=by
     obtain⟨hi',ex⟩:=AM.mp hx;rw[<-ex];exact EE hi'
    rw[hd];exact hS''
end
section
variable{prog:Program}{w:World}{A:Around}{E:Value->Shared->Prop}{s:Shared}
abbrev freshW(w:World):Obj:={ cls:=.type "set",dict:=none,data:=.set #[] 0 (.fresh 0 0 (!(w.params.followText "set-order"))) }
theorem Nz{h:Heap}{a:Addr}(e:h.get? a=some (freshW w)):ST.WS w h a [] :=
 ⟨_,#[],0,_,⟨e,⟨rfl,rfl,rfl⟩,rfl,by rfl,rfl,fun _=>rfl,by decide⟩,⟨fun e he=>by simp at he,by simp,DA⟩⟩
theorem Nj(a:Value){Q₁:Value->Shared->Prop}(h:Q₁ (.ref s.heap.objs.size) { s with heap:=s.heap.push (freshW w) }) :
  codeAny (model prog w) A (.call (.builtin "set.__new__") ⟨[.type "set",a],[]⟩) (wants Q₁ E) s:=by
 refine codeAny_of_tree ?_;show wpAny _ A.in1 (do checkBuiltinCall "set.__new__" ⟨[.type "set",a],[]⟩;again (.builtin "set.__new__" ⟨[.type "set",a],[]⟩)) _ _ s;refine AA (DY (F.newCall_set_1 a) (AE ⟨plainId_quiet F.plain_set_new _,EW F.entry_set_new ?_⟩));rw[Around.under_plainId F.plain_set_new _];unfold Builtin.«set.__new__» Builtin.Frozenset.newClass;have hsub:=sub_set_self;obtain⟨hp,g,d,tk,os⟩:=s;dsimp only;wp_walk;refine FH (AE ?_);dsimp only;simp only[newObj];refine AA (wpAny_alloc (AE ?_));exact AE h
set_option maxHeartbeats 3200000 in
theorem Af{l:Addr}{ol it:Obj}{nm:String}{xs:List Str}{n:Nat}{P:Nat->Value->Prop}{St:Addr->Nat->Heap->Prop}{Q:Value->Shared->Prop}(hh:A.handled=none)(hol:s.heap.get? l=some ol)(hcl:ol.cls = .type nm)
  (hs1:isSubtype (.type nm) (.type "set")=pure false) (hs2:isSubtype (.type nm) (.type "frozenset")=pure false) (hne:(Value.type nm == Value.type "dict")=false)
  (hit:∀{A:Around} {E:Value->Shared->Prop} {Q:Value->Shared->Prop} (s1:Shared),s1.heap.get? l=some ol->Q (.ref s1.heap.objs.size) { s1 with heap:=s1.heap.push it }->wpAny (model prog w) A (pyIter (.ref l)) Q E s1)
  (hW:∀(A:Around) (I:Addr),A.handled=none->l≠I->Walks prog w A I [I,l] [I] n P (St I)) (hSt:∀(h:Heap) (I:Addr),h.get? I=some it->h.get? l=some ol->St I 0 h) (hiti:it.isFreed=false)
  (hn:xs.length=n) (hval:∀i v,P i v->∃x t,xs[i]?=some x/\v = .str x t) (hb:n<4096)
  (h:∀(h':Heap) (tk:Nat),ST.WS w h' s.heap.objs.size (d7 [] xs)->(∀b o,s.heap.get? b=some o->h'.get? b=some o)->Q (.ref s.heap.objs.size) { s with heap:=h',toks:=tk }) :
  wpAny (model prog w) A (call (.type "set") [.ref l]) Q E s:=by
 obtain⟨c,tl,hmro⟩:=F.called_set.mro;have hmade:=F.called_set.made;have hsub:=F.called_set.sub;refine FF (codeAny_of_tree ?_);show wpAny _ _ (callAny (.type "set") _) _ _ _;refine AE ⟨Code.quiet_builtin _ (by decide +kernel),EW F.entry_type_call ?_⟩;rw[Around.under_plain (weight_type_call_type "set" [.ref l] []) rfl];have h1:=F.called_set.notType;have h2:=F.called_set.canCreate;have hct:=F.typeCall_set_1 (.ref l)
 repeat (any_goals (first | assumption | wp_step))
 refine EK (Nj (.ref l) (E:=E) (Q₁:=fun obj s₁=>obj = .ref s.heap.objs.size/\s₁ ={ s with heap:=s.heap.push (freshW w) }) ⟨rfl,rfl⟩) fun r s₁ hr=>?_;cases r with
 | error e=>exact hr
 | ok fl =>
  cases fl with
  | ret obj =>
   obtain⟨rfl,rfl⟩:=hr;have hS:(s.heap.push (freshW w)).get? s.heap.objs.size=some (freshW w):=AW _ rfl;have hT:Shared.TypeIs { s with heap:=s.heap.push (freshW w) } (.ref s.heap.objs.size) "set":=⟨_,hS,rfl⟩;have hli:=F.called_set.init.lookup;have hbi:=F.called_set.init.bind (.ref s.heap.objs.size)
   repeat (any_goals (first | assumption | wp_step))
   refine EK (codeAny_call_builtin (R:=wants (fun r s₂=>r = .none/\∃h' tk,s₂ ={ s with heap:=h',toks:=tk }/\ST.WS w h' s.heap.objs.size (d7 [] xs) /\
     (∀b o,s.heap.get? b=some o->h'.get? b=some o)) E) F.called_set.init.plain F.entry_set_init (check_set_init_1 hT ?_)) fun r₂ s₂ hr₂=>?_
   .have hol':(s.heap.push (freshW w)).get? l=some ol:=AD _ hol;obtain⟨ocls,odict,odata,oslots⟩:=ol;simp only at hcl;subst hcl;unfold Builtin.«set.__init__» noKeywords Builtin.Frozenset.updateFrom;generalize hPI:pyIter=PI;wp_walk;subst hPI;refine hit _ hol' ?_;refine AA (wpAny_runValue ?_);have hlS:l<s.heap.objs.size:=AF hol;have hh3:A.in1.in1.in1.handled=none:=by simp[hh]
    have hneI:l≠(s.heap.push (freshW w)).objs.size:=by
     rw[BW];exact AY (EJ hlS)
    have hSf:s.heap.objs.size∉[(s.heap.push (freshW w)).objs.size,l]:=by
     rw[BW];simp only[AS,AO,or_false,not_or];exact⟨AY (D_ _),Nat.ne_of_gt hlS⟩
    refine Jg ((hW _ _ hh3 hneI).toS) s.heap.objs.size hSf xs hn hval (n-0) 0 _ [] rfl (B_ _) (hSt _ _ (AW _ hiti) (AD _ hol')) (Nz (AD _ hS)) (by simpa using hb) fun s' hm hS'=>?_;obtain⟨h',g',d',tk',os'⟩:=s';have eg:g'=s.gens:=hm.gens;have ed:d'=s.drawn:=hm.drawn;have eo:os'=s.os:=hm.os;subst eg;subst ed;subst eo;show wpAny _ _ _ _ _ _;refine AE ?_;show wpAny _ _ (ret Value.none) _ _ _;refine AE ⟨rfl,h',tk',rfl,hS',fun b o e=>?_⟩;have hb:=AF e;have hb1:b≠s.heap.objs.size:=AY hb;have hb2:b≠(s.heap.push (freshW w)).objs.size:=by
     rw[BW];exact AY (EJ hb)
    exact hm.heap b o (by simp only[AS,AO,or_false,not_or];exact⟨hb1,hb2⟩) (AD _ (AD _ e))
   .cases r₂ with
    | error e=>exact hr₂
    | ok fl₂ =>
     cases fl₂ with
     | ret r =>
      obtain⟨rfl,h',tk,rfl,hS',hk'⟩:=hr₂
      repeat (any_goals (first | assumption | wp_step))
      exact h _ _ hS' hk'
     | _=>exact hr₂.elim
  | _=>exact hr.elim
end
theorem Bs:isSubtype (.type "tuple") (.type "set")=pure false:=by rw[isSubtype_type];kernel_rfl
theorem Q8:isSubtype (.type "tuple") (.type "frozenset")=pure false:=by rw[isSubtype_type];kernel_rfl
theorem Cf:∀{xs l:List Str},xs.Nodup->(∀x∈xs,x∉l)->d7 l xs=l++xs
 | [],l,_,_=>(CQ l).symm
 | x::xs,l,nd,ni=>by
  obtain⟨n1,n2⟩:=BP.mp nd;show d7 (Op l x) xs=_;have e:Op l x=l ++ [x]:=AR (ni x (BB ..));rw[e,Cf n2 fun y hy hm=>?_,BF]
  .rfl
  .rcases AK.mp hm with hm | hm
   .exact ni y (AQ _ hy) hm
   .exact n1 (AC.mp hm▸hy)
theorem Jp{ss:List Str}{its:List Value}(r:Vals (ss.map V.str) its)(i:Nat)(v:Value)(e:its.toArray[i]?=some v):∃x t,ss[i]?=some x/\v = .str x t:=by
 rw[ED]at e;cases h:ss[i]? with
 | none =>
  have:=r.none_of (i:=i) (by rw[AG,h];rfl);rw[this]at e;cases e
 | some x =>
  obtain⟨u,e1,t,e2⟩:=r.get (i:=i) (x:=.str x) (by rw[AG,h];rfl);rw[e1]at e;cases e;exact⟨x,t,rfl,e2⟩
section
variable{X:Cx}
theorem Ev(K:PySem.W.Frag)(w:World)(hc:X.calm=true:=by rfl)(hK:X.K=K:=by rfl)(hw:X.w=w:=by rfl):F9 X (.type "set") (fun xs H Q=>∃(p:Addr) (ss:List Str),xs = [.ref p]/\(SqL K H p (ss.map V.str)\/SqT K H p (ss.map V.str))/\ss.Nodup/\ss.length<4096/\∀l,H l=none->Q (.ref l) (upd H l (V3 w l ss))):=by
 subst hK;subst hw;intro pins s σ H xs us Q I r h;obtain⟨p,ss,rfl,hq,nd,hb,q⟩:=h;obtain⟨u,rfl,rx⟩:=Z4 r;cases rx;have en:d7 [] ss=ss:=Cf nd fun _ _ h=>nomatch h
 have fin:∀(h':Heap) (tk:Nat),ST.WS X.w h' s.heap.objs.size (d7 [] ss)->(∀b o,s.heap.get? b=some o->h'.get? b=some o)->EP X pins σ Q (.ref s.heap.objs.size) { s with heap:=h',toks:=tk }:=fun h' tk z k=>by
  rw[en]at z;exact⟨.ref s.heap.objs.size,_,I.laid (t':=tk) k (Nat.le_refl _) (Ot z),rfl,q _ (I.hok.fresh (Nat.le_refl _))⟩
 rcases hq with hq | hq
 .obtain⟨its,r',pl,hz⟩:=I.list hq;have hlen:=r'.length;rw[AB]at hlen;obtain⟨o,ho,hc',n,hd⟩:=pl.isList;exact Af (I.ok.hd hc) ho hc' F.sub_list_set F.sub_list_frozenset (by decide) (fun s1 e q=>wpAny_pyIter_list ⟨_,e,hc',n,hd⟩ q) (fun A I hA hne=>Walks.list hA I p hne its.toArray) (fun h I e1 e2=>⟨⟨_,e1,rfl,rfl⟩,⟨_,e2,hc',n,hd⟩⟩) rfl (by simp[hlen]) (Jp r') (by simpa [<-hlen] using hb) fin
 .obtain⟨its,r',pl,hz⟩:=I.tuple hq;have hlen:=r'.length;rw[AB]at hlen;obtain⟨o,ho,hc',n,hd⟩:=pl;exact Af (I.ok.hd hc) ho hc' Bs Q8 (by decide) (fun s1 e q=>wpAny_pyIter_tuple ⟨_,e,hc',n,hd⟩ q) (fun A I hA hne=>Walks.tuple hA I p hne its.toArray) (fun h I e1 e2=>⟨⟨_,e1,rfl,rfl⟩,⟨_,e2,hc',n,hd⟩⟩) rfl (by simp[hlen]) (Jp r') (by simpa [<-hlen] using hb) fin
theorem Tl(w:World)(hw:X.w=w:=by rfl):MtM X "set.add" (Tg w):=by subst hw;exact Qw
end
def XO(x C:Addr)(d:Option Addr):HO:=.ext fun h=>∃o vs,h.get? x=some o/\o.cls = .ref C/\o.dict=d/\o.data = .fields vs
theorem XO.ok{P:Program}{w:World}{H:Hp}{h:Heap}{x C:Addr}{d:Option Addr}{o:Obj}{vs:Array Value}(e:h.get? x=some o)(hc:o.cls = .ref C)(hd:o.dict=d)(hv:o.data = .fields vs):ObjOk P w H h x (XO x C d) :=
 ⟨⟨o,vs,e,hc,hd,hv⟩,⟨o,e⟩,fun h1 h2 ⟨o,vs,e,r⟩ k=>⟨o,vs,k o e,r⟩⟩
def Fl(H:Hp)(n:Nat)(x:Addr)(h:Heap):Prop :=
 ∃o vs,h.get? x=some o/\o.data = .fields vs/\1<vs.size/\(vs[1]?=some .none\/∃T oT ts,vs[1]?=some (.ref T)/\T≠x/\n<=T/\H T=none/\h.get? T=some oT/\oT.data = .fields ts/\3<ts.size)
structure RX(P:Program)(w:World)(base:Heap)(fs:List Env)(env:Env)(outer:List Env)(H0:Hp)(s0:Shared)(x C:Addr)(d:Option Addr)(H:Hp)(s:Shared):Prop where
 os:s.os=s0.os
 bare:AllBare s.gens
 un:Un (frs fs) [] H0 H s0.heap s.heap
 hok:HOk P w H s.heap
 bsz:base.objs.size<=s0.heap.objs.size
 bs:∀b o,base.get? b=some o->s.heap.get? b=some o/\H b=none
 funs:s.heap.FunFrames base (env::outer)
 frf:∀b∈frs (env::outer),H b=none
 loc:∃L,env.frame=some L
 old:∀b o,s0.heap.get? b=some o->b∉frs fs->b∉frs (env::outer)
 sub:∀b∈frs fs,b∈frs (env::outer)
 hx:H x=some (XO x C d)
 nx:s0.heap.objs.size<=x
 fl:Fl H s0.heap.objs.size x s.heap
section
variable{P:Program}{w:World}{base:Heap}{env:Env}{fs outer:List Env}{H0 H:Hp}{s0 s:Shared}{x C:Addr}{d:Option Addr}{h':Heap}
theorem RX.chg(r:RX P w base fs env outer H0 s0 x C d H s){TT:List Addr}(tt:∀T∈TT,H T=none/\s0.heap.objs.size<=T/\∃o ts,s.heap.get? T=some o/\o.data = .fields ts)
  (keep:∀b o,b≠x->b∉TT->b∉frs (env::outer)->s.heap.get? b=some o->h'.get? b=some o)
  (slot:∀b o,b∈frs (env::outer)->s.heap.get? b=some o->∃sl,h'.get? b=some { o with slots:=sl })
  (ht:∀T∈TT,∃o,h'.get? T=some o) (hxo:∀o,s.heap.get? x=some o->∃vs,h'.get? x=some { o with data:=.fields vs }) (fl:Fl H s0.heap.objs.size x h') :
  RX P w base fs env outer H0 s0 x C d H { s with heap:=h' }:=by
 obtain⟨ox,vx,ex,hcx,hdx,hvx⟩:∃o vs,s.heap.get? x=some o/\o.cls = .ref C/\o.dict=d/\o.data = .fields vs:=(r.hok x _ r.hx).1;obtain⟨vx',ex'⟩:=hxo ox ex;have nfr:∀b,b∈frs (env::outer)->b≠x:=fun b hb z=>by
  have:=r.frf b hb;rw[z,r.hx]at this;cases this
 have nft:∀b,b∈frs (env::outer)->b∉TT:=fun b hb z=>by
  obtain⟨_,o,ho,hnf⟩:=r.funs.mem hb;obtain⟨_,_,o',ts,ho',hd'⟩:=tt b z;rw[ho]at ho';cases ho';exact hnf ts hd'
 have old:∀b o,s0.heap.get? b=some o->b≠x/\b∉TT:=fun b o e=>⟨fun z=>absurd (AF e) (by rw[z];exact Nat.not_lt.mpr r.nx),fun z=>absurd (AF e) (Nat.not_lt.mpr (tt b z).2.1)⟩;have there:∀b o,s.heap.get? b=some o->∃o',h'.get? b=some o':=fun b o e=>by
  by_cases c1:b=x
  .rw[c1];exact⟨_,ex'⟩
  by_cases c2:b∈TT
  .exact ht b c2
  by_cases c3:b∈frs (env::outer)
  .obtain⟨sl,q⟩:=slot b o c3 e;exact⟨_,q⟩
  .exact⟨_,keep b o c1 c2 c3 e⟩
 have trk:∀b u,H b=some u->b≠x->∀o,s.heap.get? b=some o->h'.get? b=some o:=fun b u e c o ho =>
  keep b o c (fun z=>by rw[(tt b z).1]at e;cases e) (fun z=>by rw[r.frf b z]at e;cases e) ho
 refine⟨r.os,r.bare,⟨fun b o e n hb hx=>?_,fun b o e n hb hx=>?_,r.un.free,fun b o e hx=>?_,r.un.tups,r.un.frzs,r.un.tbls⟩,fun b u e=>?_,r.bsz,fun b o e=>?_,?_,r.frf,r.loc,r.old,r.sub,r.hx,r.nx,fl⟩
 .exact keep b o (old b o e).1 (old b o e).2 (r.old b o e hb) (r.un.keep b o e n hb hx)
 .obtain⟨sl,q⟩:=r.un.slot b o e n hb hx;obtain⟨sl',q'⟩:=slot b _ (r.sub b hb) q;exact⟨sl',q'⟩
 .obtain⟨o',q⟩:=r.un.there b o e hx;exact there b o' q
 .by_cases c:b=x
  .subst c;rw[r.hx]at e;cases e;exact XO.ok ex' hcx hdx rfl
  .refine(r.hok b u e).stay (fun b' o hb q=>?_) (fun _ q=>q) fun _ _ q=>q;rcases hb with z | z
   .subst z;exact trk b' u e c o q
   .refine trk b' _ z (fun q'=>?_) o q;rw[q',r.hx]at z;cases z
 .refine⟨keep b o (fun z=>?_) (fun z=>?_) (fun z=>?_) (r.bs b o e).1,(r.bs b o e).2⟩
  .have:=(r.bs b o e).2;rw[z,r.hx]at this;cases this
  .exact absurd (AF e) (Nat.not_lt.mpr (Nat.le_trans r.bsz (tt b z).2.1))
  .have:=(r.funs.mem z).1;rw[e]at this;cases this
 .refine r.funs.of_keeps fun b o e hnf=>?_;by_cases c1:b=x
  .subst c1;rw[ex]at e;cases e;exact absurd hvx (hnf _)
  by_cases c2:b∈TT
  .obtain⟨_,_,o',ts,ho',hd'⟩:=tt b c2;rw[e]at ho';cases ho';exact absurd hd' (hnf _)
  by_cases c3:b∈frs (env::outer)
  .obtain⟨sl,q⟩:=slot b o c3 e;exact⟨_,q,rfl⟩
  .exact⟨o,keep b o c1 c2 c3 e,rfl⟩
def Tb(H:Hp)(n:Nat)(x:Addr)(h:Heap):Prop :=
 ∃o vs T oT ts,h.get? x=some o/\o.data = .fields vs/\vs[1]?=some (.ref T)/\T≠x/\n<=T/\H T=none/\h.get? T=some oT/\oT.data = .fields ts/\3<ts.size
theorem Tb.fl{H:Hp}{n:Nat}{x:Addr}{h:Heap}(t:Tb H n x h):Fl H n x h:=by
 obtain⟨o,vs,T,oT,ts,e,hd,h1,r⟩:=t;exact⟨o,vs,e,hd,(CP.mp h1).1,.inr ⟨T,oT,ts,h1,r⟩⟩
theorem Yg{o:Obj}{vs:Array Value}(f:Array Value->Array Value)(e:o.data = .fields vs):Obj.mapFields f o ={ o with data:=.fields (f vs) }:=by
 obtain⟨a,b,c,d⟩:=o;have e:c = .fields vs:=e;subst e;rfl
section
variable{M:Model}{A:Around}{E:Value->Shared->Prop}{Q:Unit->Shared->Prop}
theorem RX.entry(r:RX P w base fs env outer H0 s0 x C d H s)(hfr:A.frames=some (env::outer)){L:Addr}(hf:env.frame=some L){head:Value}{hadNext:Bool}
  (h:∀h',RX P w base fs env outer H0 s0 x C d H { s with heap:=h' }->Tb H s0.heap.objs.size x h'->Q () { s with heap:=h' }) :
  wpAny M A (do let a <-frameOf env;let pl <-entryPlaceOf L hadNext;let b <-EntryCells.newEntry head a .none (rawInt L) .none pl;setField (.ref x) 1 b) Q E s:=by
 obtain⟨o,vs,he,hd,hsz,_⟩:=id r.fl;have nfr:∀b,b∈frs (env::outer)->b≠x:=fun b hb z=>by
  have:=r.frf b hb;rw[z,r.hx]at this;cases this
 refine AA (wpAny_frameOf_fun hfr r.funs hf fun h₁ hs₁=>?_);refine AA (wpAny_entryPlaceOf fun pl hpl=>?_);unfold EntryCells.newEntry newFields;refine AA (CG ?_ (hpl.sizeOk5 _ _ _ _ _));have he₁:h₁.get? x=some o:=(hs₁.2.1 x fun hm=>nfr x hm rfl).trans he;have ht5:3 <([head,Value.ref L,.none,rawInt L,.none] ++(if pl.isEmpty then List.replicate 6 Value.none else pl)).toArray.size:=by
  simp only[AN,BA,BK,List.length_nil];omega
 generalize ([head,Value.ref L,.none,rawInt L,.none] ++(if pl.isEmpty then List.replicate 6 Value.none else pl)).toArray=ts at ht5;have he₂:=AD (h:=h₁) { cls:=.type "traceback",dict:=none,data:=.fields ts } he₁;have hTx:h₁.objs.size≠x:=Nat.ne_of_gt (AF he₁);have hT₃:=(BJ (h₁.push { cls:=.type "traceback",dict:=none,data:=.fields ts }) (Obj.mapFields (·.setIfInBounds 1 (Value.ref h₁.objs.size))) (Ne.symm hTx)).trans (AW h₁ rfl);have he₃:=BT (Obj.mapFields (·.setIfInBounds 1 (Value.ref h₁.objs.size))) he₂ (Obj.isFreed_of_fields (Obj.data_mapFields hd _));rw[Yg _ hd]at he₃;have tb:Tb H s0.heap.objs.size x ((h₁.push { cls:=.type "traceback",dict:=none,data:=.fields ts }).update x (Obj.mapFields (·.setIfInBounds 1 (Value.ref h₁.objs.size)))) :=
  ⟨_,_,h₁.objs.size,_,ts,he₃,rfl,by simp[hsz],hTx,Nat.le_trans r.nx (CT (AF he₁)),r.hok.fresh (by rw[hs₁.1];exact Nat.le_refl _),hT₃,rfl,ht5⟩
 refine DJ he₂ hd hsz (h _ (r.chg (TT:=[]) (fun _ z=>nomatch z) (fun b o' hb _ hb' q=>?_) (fun b o' hb q=>?_) (fun _ z=>nomatch z) (fun o' q=>?_) tb.fl) tb)
 .rw[BJ _ _ (Ne.symm hb)];exact AD _ ((hs₁.2.1 b hb').trans q)
 .obtain⟨sl,q'⟩:=hs₁.2.2 b o' q;refine⟨sl,?_⟩;rw[BJ _ _ (Ne.symm (nfr b hb))];exact AD _ q'
 .rw[he]at q;cases q;exact⟨_,he₃⟩
theorem RX.setT(r:RX P w base fs env outer H0 s0 x C d H s){o oT:Obj}{vs ts:Array Value}{T:Addr}{v:Value}(he:s.heap.get? x=some o)(hd:o.data = .fields vs)(h1:vs[1]?=some (.ref T))(hT:T≠x)(hn:s0.heap.objs.size<=T)(hH:H T=none)(e:s.heap.get? T=some oT)(hdT:oT.data = .fields ts)(h3:3<ts.size)
  (h:∀h',RX P w base fs env outer H0 s0 x C d H { s with heap:=h' }->Tb H s0.heap.objs.size x h'->Q () { s with heap:=h' }):wpAny M A (setField (.ref T) 3 v) Q E s:=by
 have he':=(BJ s.heap (Obj.mapFields (·.setIfInBounds 3 v)) hT).trans he;have hT':=BT (Obj.mapFields (·.setIfInBounds 3 v)) e (Obj.isFreed_of_fields (Obj.data_mapFields hdT _));have tb:Tb H s0.heap.objs.size x (s.heap.update T (Obj.mapFields (·.setIfInBounds 3 v))):=⟨o,vs,T,_,_,he',hd,h1,hT,hn,hH,hT',Obj.data_mapFields hdT _,by simpa using h3⟩;refine DJ e hdT h3 (h _ (r.chg (TT:=[T]) (fun b z=>?_) (fun b o' hb hb' _ q=>?_) (fun b o' hb q=>?_) (fun b z=>?_) (fun o' q=>?_) tb.fl) tb)
 .rw[AC.mp z];exact⟨hH,hn,_,_,e,hdT⟩
 .rw[BJ _ _ (fun z=>hb' (by rw[z];exact AC.mpr rfl))];exact q
 .refine⟨o'.slots,?_⟩;rw[BJ _ _ (fun z=>by
   obtain⟨_,o2,ho,hnf⟩:=r.funs.mem hb;rw[<-z,e]at ho;cases ho;exact hnf _ hdT)]
  exact q
 .rw[AC.mp z];exact⟨_,hT'⟩
 .rw[he]at q;cases q;exact⟨vs,by rw[he',<-hd]⟩
theorem RX.note(r:RX P w base fs env outer H0 s0 x C d H s)(hfr:A.frames=some (env::outer))
  (h:∀h',RX P w base fs env outer H0 s0 x C d H { s with heap:=h' }->Tb H s0.heap.objs.size x h'->Q () { s with heap:=h' }):wpAny M A (noteFrame (.ref x) env) Q E s:=by
 obtain⟨L,hf⟩:=r.loc;obtain⟨o,vs,he,hd,hsz,c⟩:=id r.fl;unfold noteFrame;simp only[hf];rcases c with h1 | ⟨T,oT,ts,h1,hT,hn,hH,e,hdT,h3⟩
 .refine AA (CH he hd h1 ?_);rw[AR (by decide)];exact r.entry hfr hf h
 .refine AA (CH he hd h1 ?_);rw[AZ (show(Value.ref T != Value.none)=true from by simp)];refine AA (CH e hdT (FJ h3) ?_);split
  .exact AE (h s.heap r ⟨o,vs,T,oT,ts,he,hd,h1,hT,hn,hH,e,hdT,h3⟩)
  .refine AA (r.setT he hd h1 hT hn hH e hdT h3 fun h' r' _=>?_);exact r'.entry hfr hf h
theorem RX.flight(r:RX P w base fs env outer H0 s0 x C d H s){fr:Option Addr}
  (h:∀h',RX P w base fs env outer H0 s0 x C d H { s with heap:=h' }->(Tb H s0.heap.objs.size x s.heap->Tb H s0.heap.objs.size x h')->Q () { s with heap:=h' }):wpAny M A (setFlight (.ref x) fr) Q E s:=by
 obtain⟨o,vs,he,hd,hsz,c⟩:=id r.fl;unfold setFlight;rcases c with h1 | ⟨T,oT,ts,h1,hT,hn,hH,e,hdT,h3⟩
 .refine AA (CH he hd h1 ?_);rw[AR (by decide)];exact AE (h s.heap r id)
 .refine AA (CH he hd h1 ?_);rw[AZ (show(Value.ref T != Value.none)=true from by simp)];exact r.setT he hd h1 hT hn hH e hdT h3 fun h' r' t'=>h h' r' fun _=>t'
theorem RX.leave(r:RX P w base fs env outer H0 s0 x C d H s)(hfr:A.frames=some (env::outer))
  (h:∀h',RX P w base fs env outer H0 s0 x C d H { s with heap:=h' }->Tb H s0.heap.objs.size x h'->Q () { s with heap:=h' }):wpAny M A (leaving env (.ref x)) Q E s:=by
 unfold leaving;exact AA (r.note hfr fun h' r' t'=>r'.flight fun h2 r2 t2=>h h2 r2 (t2 t'))
end
end
def CXe(P:Program)(w:World):CXT:=fun outer H s E e s' =>
 ∃x C d H',e = .ref x/\s'.os=s.os/\AllBare s'.gens/\Un (frs outer) [] H H' s.heap s'.heap/\HOk P w H' s'.heap/\H' x=some (XO x C d)/\s.heap.objs.size<=x/\Tb H' s.heap.objs.size x s'.heap/\E (.ref C) d H'
def XE(X:Cx)(E:XK):Value->Shared->Prop:=fun e s'=>∃x C d H',e = .ref x/\RX X.prog X.w X.base X.outer X.env X.outer X.H₀ X.s₀ x C d H' s'/\E (.ref C) d H'
section
variable{prog:Program}{w:World}{A:Around}{E:Value->Shared->Prop}{h:Heap}{g:Array GenState}{d:Drawn}{t:Nat}{os:OsState}
variable{nm q:Str}{C N:Addr}{bs bm bmB:List Value}{hdct:Bool}{sn:List Str}{sub:List Value}{ab:Bool}{col:Option Bool}{dd:Option Addr}{k0 k1 k2 k3 k5:Option Value}{B newId initId:String}
abbrev exObj(C t:Addr):Obj:={ cls:=.ref C,data:=.fields #[.ref t,.none,.none,.none,.bool false,.none] }
abbrev exHeap(h:Heap)(C:Addr)(rest:List Value):Heap:=(h.push { cls:=.type "tuple",data:=.seq rest.toArray }).push (exObj C h.objs.size)
end
def XN(x C:Addr)(d:Option Addr):HO:=.ext fun h=>∃vs sl,h.get? x=some ⟨.ref C,d,.fields vs,sl⟩/\vs[1]?=some .none
theorem XN.ok{P:Program}{w:World}{H:Hp}{h:Heap}{x C:Addr}{d:Option Addr}{vs:Array Value}{sl:Array (Option Value)}(e:h.get? x=some ⟨.ref C,d,.fields vs,sl⟩)(h1:vs[1]?=some .none):ObjOk P w H h x (XN x C d) :=
 ⟨⟨vs,sl,e,h1⟩,⟨_,e⟩,fun h1 h2 ⟨vs,sl,e,r⟩ k=>⟨vs,sl,k _ e,r⟩⟩
section
variable{M:Model}{A:Around}{E:Value->Shared->Prop}{env:Env}
variable{nm q:Str}{C N:Addr}{bs bm:List Value}{hdct:Bool}{sn:List Str}{sub:List Value}{ab:Bool}{col:Option Bool}{dd:Option Addr}{k0 k1 k2 k3 k5:Option Value}{newId:String}
theorem Kf{s:Shared}{x:Sem Value}{Q:Flow->Shared->Prop}(hbase:bm.contains (.type "BaseException")=true)(hh:A.handled=none)
  (h:wpAny M A x (fun v s₁=>∃e dct vs sl,v = .ref e/\s₁.heap.get? C=some (excClassObj nm q C N bs bm hdct sn sub ab col dd k0 k1 k2 k3 k5 newId) /\
   s₁.heap.get? e=some ⟨.ref C,dct,.fields vs,sl⟩/\vs[1]?=some .none/\E (.ref e) s₁) E s) :
  wpAny M A (raiseStmt env (some x) none) Q E s:=by
 have hcB:(Value.ref C::bm).contains (.type "BaseException")=true:=by rw[List.contains_cons,hbase,Bool.or_true]
 unfold raiseStmt;refine AA (BR h (fun v s₁ h₁=>?_) fun _ _ x=>x);obtain⟨e,dct,vs,sl,rfl,hC,he,h1,hE⟩:=h₁;obtain⟨hp,g,d,tk,os⟩:=s₁
 repeat (first | with_reducible refine DK he ?_ | with_reducible refine DK hC ?_ | (with_reducible refine FL hC ?_;rw[hcB]) | with_reducible refine CH he rfl h1 ?_ | wp_step)
 exact wpAny_raiseNew_none hh hE
end
structure XC(K:PySem.W.Frag)(C:Addr)(bm:List Value):Prop where
 obj:∃nm q N bs hdct sn sub ab col dd k0 k1 k2 k3 k5,K.lookup C=some (excClassObj nm q C N bs bm hdct sn sub ab col dd k0 k1 k2 k3 k5 "ValueError.__new__")
 tail:PySem.W.tailIn K [.type "ValueError",.type "Exception",.type "BaseException",.type "object"] bm=true
 kp:PySem.W.keepIn K (.ref C)=true
 sa:PySem.W.findIn K (.ref C) "__setattr__" = some (some (.builtin "object.__setattr__"))
 hd:PySem.W.hasDictIn K C=true
theorem XC.base{K:PySem.W.Frag}{C:Addr}{bm:List Value}(c:XC K C bm){h:Heap}(X:K.In h):bm.contains (.type "BaseException")=true:=(PySem.W.tail_of_in X c.tail).hasType rfl
structure BX(X:Cx)(E:XK):Prop where
 xe:X.xe=XE X E
 st:X.stack=X.env::X.outer
 fr:X.env.frame=some X.env.locals
 ex:X.ex = []
 calm:X.calm=true
section
variable{X:Cx}{pins:List (Addr×Obj)}{σ:St}{H:Hp}{s:Shared}{x C:Addr}{E:XK}
theorem Inv.rx{d:Option Addr}(I:Inv X pins σ H s)(b:BX X E)(hx:H x=some (XO x C d))(nx:X.s₀.heap.objs.size<=x)(fl:Fl H X.s₀.heap.objs.size x s.heap):RX X.prog X.w X.base X.outer X.env X.outer X.H₀ X.s₀ x C d H s:=by
 refine⟨I.os,I.bare,by have:=I.base;rw[b.ex]at this;exact this,I.hok,I.ok.bsz,I.bs,by have:=I.stack;rw[b.st]at this;exact this,by have:=I.stkFree;rw[b.st]at this;exact this,⟨_,b.fr⟩,fun c o e hc z=>?_,fun c hc=>?_,hx,nx,fl⟩
 .unfold frs at z hc;rw[CW,b.fr]at z;rcases AS.mp z with q | q
  .exact absurd (AF e) (by rw[q];exact Nat.not_lt.mpr I.ok.above)
  .exact hc q
 .unfold frs at hc⊢;rw[CW,b.fr];exact AQ _ hc
theorem Tb.mono{n m:Nat}{h:Heap}(t:Tb H n x h)(k:m<=n):Tb H m x h:=by
 obtain⟨o,vs,T,oT,ts,e,hd,h1,h2,h3,r⟩:=t;exact⟨o,vs,T,oT,ts,e,hd,h1,h2,Nat.le_trans k h3,r⟩
theorem BX.passes(b:BX X E):Ai (CXe X.prog X.w) X E:=by
 rintro pins σ H s e s' I ⟨x,C,d,H',rfl,os,bare,un,hok,hx,nx,tb,q⟩;have I':=I.call' os un hok bare (fun b z=>absurd z (by simp));rw[b.xe];exact⟨x,C,d,H',rfl,I'.rx b hx (Nat.le_trans I.sz nx) (tb.mono I.sz).fl,q⟩
end
section
variable{X:Cx}{C f:Addr}{fd:FuncData}{ps:List Str}{sp:Sp}{E:XK}{bm:List Value}{k:Nat}{n:Str}{p pos cpos:Pos}{e:Expr}{es:List Expr}{t:TA}
theorem BX.made{pins:List (Addr×Obj)}{σ:St}{H:Hp}{s:Shared}{x:Addr}{d:Option Addr}(b:BX X E)(I:Inv X pins σ H s)(hx:H x=some (XN x C d))(nx:X.s₀.heap.objs.size<=x)(q:E (.ref C) d (upd H x (XO x C d))) :
  ∃vs sl,s.heap.get? x=some ⟨.ref C,d,.fields vs,sl⟩/\vs[1]?=some .none/\X.xe (.ref x) s:=by
 obtain⟨vs,sl,ex,h1⟩:∃vs sl,s.heap.get? x=some ⟨.ref C,d,.fields vs,sl⟩/\vs[1]?=some .none:=(I.hok x _ hx).1;refine⟨vs,sl,ex,h1,?_⟩;have I4:Inv X pins σ (upd H x (XO x C d)) s:=I.write (x:=x) (e:=x) (h':=s.heap) (t':=s.toks) (by rw[hx];exact True.intro) (.inl rfl) (fun _ _ _ z=>z) ⟨_,ex⟩ (XO.ok ex rfl rfl rfl);rw[b.xe];exact⟨x,C,d,_,rfl,I4.rx b A7 nx ⟨_,vs,ex,rfl,(CP.mp h1).1,.inl h1⟩,q⟩
end
section
variable{P:Program}{w:World}{K:PySem.W.Frag}{mg:Str->Option Value}{base:Heap}
abbrev cxE(P:Program)(w:World)(K:PySem.W.Frag)(mg:Str->Option Value)(base:Heap)(N:List Str)(qual:Str)(scope:Scope)(f:Addr)(cd:Value)(A:Around)(outer:List Env)(s:Shared)(H:Hp)(E:XK):Cx :=
 (Mr (CXe P w) P w K mg base N qual scope f cd A outer s H E).wish (XE (Mr (CXe P w) P w K mg base N qual scope f cd A outer s H E) E)
theorem cxE.bx{N:List Str}{qual:Str}{scope:Scope}{f:Addr}{cd:Value}{A:Around}{outer:List Env}{s:Shared}{H:Hp}{E:XK}:BX (cxE P w K mg base N qual scope f cd A outer s H E) E:=⟨rfl,rfl,rfl,rfl,rfl⟩
theorem PSs.wishI{X:Cx}{E:Value->Shared->Prop}{st:List Stmt}{t:TS}(k:X.A.frames=some X.stack->∀e s,E e s->X.xe e s)(h:PSs (X.wish E) st t):PSs X st t:=fun pins s σ H D I hw =>
 BR (h pins s σ H D (I.wish _) hw) (fun _ _ q=>q.unwish) (k I.ok.frames)
theorem Fun.okE{x qual:Str}{st:Stmt}{f:Addr}{fd:FuncData}{N ps:List Str}{k:Nat}{sp:Sp}(F:Fun K x qual st f fd)(S:FnScope N ps (B6 st))(len:∀vs H Q E,sp vs H Q E->vs.length=ps.length)
  (hbody:∀(cdv:Value) (A:Around) (outer:List Env) (s:Shared) (H:Hp) (vs:List V) (Q:VK) (E:XK),Room k (A.deeper (envOfC qual (B6 st) s.heap.objs.size f cdv))->sp vs H Q E ->
   ∃t,PSs (cxE P w K mg base N qual (B6 st) f cdv A outer s H E) (J4 st) t/\t { nx:=fun _ H'=>Q .non H',rt:=Q } (u8 N vs) H):FnOk P w K mg base (CXe P w) (k+1) f fd ps sp:=by
 obtain⟨oc,od,kV,doc,pm,an,cdv,ct,osl,rfl,lk,hcd⟩:=F.ex;refine Qc lk hcd S len fun A outer s H vs Q E hr hsp=>?_;obtain⟨t,h,q⟩:=hbody cdv A outer s H vs Q E hr hsp;refine⟨t,h.wishI fun hf e s' z=>?_,q⟩;obtain⟨x,C,d,H',rfl,r,q⟩:=z;exact RX.leave r hf fun h' r' t'=>⟨x,C,d,H',rfl,r'.os,r'.bare,r'.un,r'.hok,r'.hx,r'.nx,t',q⟩
end
def PEx(X:Cx)(e:Expr)(t:XK->TE):Prop:=∀(pins:List (Addr×Obj)) (s:Shared) (σ:St) (H:Hp) (Q:VK) (E:XK),Inv X pins σ H s->t E σ H Q ->
 wpAny (model X.prog X.w) X.A (eval e X.env) (EP X pins σ Q) (fun ev s'=>∃s1 H1,Inv X pins σ H1 s1/\CXe X.prog X.w X.stack H1 s1 E ev s') s
section
variable{X:Cx}{pins:List (Addr×Obj)}{σ:St}{H:Hp}{s:Shared}
theorem U5{M:Model}{A:Around}{E:Value->Shared->Prop}{i:Nat}{x:Str}{pos:Pos}{Q:Unit->Shared->Prop}(I:Inv X pins σ H s)(hN:X.N.Nodup)(hi:X.N[i]?=some x)(hx:X.env.scope.names.lookup x=some .local)
  (h:∀s',Inv X pins (σ.set i none) H s'->Q () s'):wpAny M A (do bindName X.env x .none;unbindBehindTheSuite X.env x pos) Q E s:=by
 obtain⟨m,hn,hl⟩:=id I.loc;have hcls:(X.env.scope.kind == .class||(X.env.scope.kind == .module&&X.env.locals != X.env.globals))=false:=by rw[I.ok.kind];rfl
 have cne:=I.cne;refine wpAny_nameGoes_keeps hx hn hcls fun h' v hn' hs=>?_;obtain⟨oL,_,_,hoL,_⟩:=id hn;have nL:∀b o,X.s₀.heap.get? b=some o->b≠X.env.locals:=fun b o e=>AY (AX (AF e) I.ok.above);have tracked:HOk X.prog X.w H h':=fun b ob e=>by
  refine(I.hok b ob e).stay (fun c w' hc q=>(hs.2 c ?_).trans q) (fun _ q=>q) fun _ _ q=>q;rintro rfl;rcases hc with rfl | hc
  .rw[I.free]at e;cases e
  .rw[I.free]at hc;cases hc
 refine h _ ⟨I.ok,I.os,I.bare,⟨fun b o e n hb hx=>?_,fun b o e n hb hx=>?_,I.base.free,fun b o e hx=>?_,I.base.tups,I.base.frzs,I.base.tbls⟩,⟨_,hn',fun j y v' e1 e2 e3=>?_⟩,fun y c e=>?_,I.free,I.freeC,fun p hp=>?_,tracked,by simpa using I.len⟩
 .exact(hs.2 b (nL b o e)).trans (I.base.keep b o e n hb hx)
 .obtain⟨sl,e1⟩:=I.base.slot b o e n hb hx;exact⟨sl,(hs.2 b (nL b o e)).trans e1⟩
 .obtain⟨o',e1⟩:=I.base.there b o e hx;exact⟨o',(hs.2 b (nL b o e)).trans e1⟩
 .have hj:j≠i:=fun z=>by
   rw[z,List.getElem?_set]at e2;split at e2
   .split at e2<;>cases e2
   .rename_i q;exact q rfl
  rw[List.getElem?_set_ne (Ne.symm hj)]at e2;obtain⟨u',r',q⟩:=hl j y v' e1 e2 e3;refine⟨u',r',?_⟩;rcases q with⟨k,e⟩ | ⟨k,c,e,z⟩
  .refine .inl ⟨k,?_⟩;have:y≠x:=fun e=>hj (Az hN e1 (e▸hi));simp[this,e]
  .exact .inr ⟨k,c,e,z.sameBut hs (cne y c e)⟩
 .obtain⟨w',z⟩:=I.cell y c e;exact⟨w',z.sameBut hs (cne y c e)⟩
 .obtain⟨e,n,ne,nf,d⟩:=I.pin p hp;exact⟨(hs.2 p.1 ne).trans e,n,ne,nf,d⟩
end
section
variable{M:Model}{A:Around}{E:Value->Shared->Prop}{h:Heap}{g:Array GenState}{dn:Drawn}{tk:Nat}{os:OsState}
variable{nm q nm' q':Str}{C N S N':Addr}{bs bm bs' bm':List Value}{hdct hdct':Bool}{sn sn':List Str}{sub sub':List Value}{ab ab':Bool}{col col':Option Bool}{dd dd':Option Addr}{k0 k1 k2 k3 k5 j0 j1 j2 j3 j5:Option Value}{newId newId':String}
theorem Yb{e:Addr}{oe:Obj}{Q:Bool->Shared->Prop}(hC:h.get? C=some (excClassObj nm q C N bs bm hdct sn sub ab col dd k0 k1 k2 k3 k5 newId))(hS:h.get? S=some (excClassObj nm' q' S N' bs' bm' hdct' sn' sub' ab' col' dd' j0 j1 j2 j3 j5 newId'))(he:h.get? e=some oe)(hcls:oe.cls = .ref C)
  (hb:bm'.contains (.type "BaseException")=true) (hc:(Value.ref C::bm).contains (.ref S)=true) (hq:Q true ⟨h,g,dn,tk,os⟩):wpAny M A (excMatches (.ref e) (.ref S)) Q E ⟨h,g,dn,tk,os⟩:=by
 have hcB:(Value.ref S::bm').contains (.type "BaseException")=true:=by rw[List.contains_cons,hb,Bool.or_true]
 have f:=tc_notTuple;unfold excMatches
 repeat (first | (with_reducible refine DK he ?_;rw[hcls]) | with_reducible refine DK hS ?_ | with_reducible refine DK hC ?_ | (with_reducible refine FL hS ?_;rw[hcB]) | (with_reducible refine FL hC ?_;rw[hc]) | wp_step)
 exact hq
end
abbrev Xm(X:Cx)(ev:Value):Cx:={ X with A:=X.A.mark (some ev),calm:=false }
section
variable{X:Cx}{pins:List (Addr×Obj)}{σ:St}{H:Hp}{s:Shared}{ev:Value}
theorem Inv.mark(I:Inv X pins σ H s)(ev:Value):Inv (Xm X ev) pins σ H s :=
 ⟨⟨I.ok.mod,I.ok.kind,I.ok.glob,I.ok.blt,I.ok.above,I.ok.inj,I.ok.has,I.ok.cab,fun z=>absurd z (by simp),I.ok.frames,I.ok.stk,I.ok.exf,I.ok.bs,I.ok.bsz,I.ok.noex,I.ok.exfs,I.ok.funs,I.ok.frf⟩,I.os,I.bare,I.base,I.loc,I.cell,I.free,I.freeC,I.pin,I.hok,I.len⟩
theorem Inv.unmark(ok:X.Ok)(I:Inv (Xm X ev) pins σ H s):Inv X pins σ H s:=⟨ok,I.os,I.bare,I.base,I.loc,I.cell,I.free,I.freeC,I.pin,I.hok,I.len⟩
end
def Dh(i:Nat)(D:Ends):Ends:={ nx:=fun σ H=>D.nx (σ.set i none) H,rt:=D.rt,bk:=fun σ H=>D.bk (σ.set i none) H,ct:=fun σ H=>D.ct (σ.set i none) H }
structure XG(K:PySem.W.Frag)(C:Addr):Prop where
 ga:PySem.W.findIn K (.ref C) "__getattribute__" = some (some (.builtin "BaseException.__getattribute__"))
 gn:PySem.W.findIn K (.ref C) "__getattr__" = some none
 mb:PySem.W.mroIn K C (.type "BaseException")=some true
 hd:PySem.W.hasDictIn K C=true
section
variable{prog:Program}{w:World}{A:Around}{E:Value->Shared->Prop}{s:Shared}{K:PySem.W.Frag}{x C:Addr}{ox:Obj}{od:Option Obj}{name:Str}
theorem Kw{M:Model}{nameV:Value}{Q:Unit->Shared->Prop}(X:K.In s.heap)(I:PySem.W.InstAt s.heap x ox C od)(c:XG K C)(hq:Q () s):wpAny M A (checkBuiltinCall "BaseException.__getattribute__" ⟨[.ref x,nameV],[]⟩) Q E s:=by
 have hk:builtinKind "BaseException.__getattribute__" = some .slot:=by decide +kernel
 have hsplit:splitId "BaseException.__getattribute__" = some ("BaseException", "__getattribute__"):=by decide +kernel
 have ha:=PySem.F.args_bexc_ga (.ref x) nameV;have L0:=I.type (M:=M);have L1:=PySem.W.looks_mroIn (M:=M) X c.mb;obtain⟨h,g,d,t,os⟩:=s;simp only[checkBuiltinCall,hk,hsplit];refine AA ?_;unfold isInstance;refine AA (L0.at (L1.at ?_))
 repeat (any_goals (first | assumption | wp_step))
theorem Kv{tk:Tok}{R:Result->Shared->Prop}(X:K.In s.heap)(I:PySem.W.InstAt s.heap x ox C od)(c:XG K C)
  (h:wpAny (model prog w) A.in1 (Builtin.«object.__getattribute__» ⟨[.ref x,.str name tk],[]⟩) (fun fin s'=>match fin with | .done f=>R (.ok f) s' | .again c'=>c'.quiet=true/\codeAny (model prog w) A c' R s') (fun e s'=>R (.error e) s') s) :
  codeAny (model prog w) A (.call (.builtin "BaseException.__getattribute__") ⟨[.ref x,.str name tk],[]⟩) R s :=
 codeAny_call_builtin PySem.F.attrBase_ValueError.ga.plain PySem.F.entry_bexc_ga (Kw X I c h)
theorem Pt{tk:Tok}{fill expr:Bool}{Q:Value->Shared->Prop}(X:K.In s.heap)(I:PySem.W.InstAt s.heap x ox C od)(c:XG K C)
  (h:codeAny (model prog w) A (.call (.builtin "BaseException.__getattribute__") ⟨[.ref x,.str name tk],[]⟩) (fun r s'=>match r with | .ok (.ret v)=>wpAny (model prog w) A (handedOut v) Q E s' | _=>False) s) :
  wpAny (model prog w) A (getAttrBy (.ref x) (.str name tk) fill expr) Q E s:=by
 have L0:=I.type (M:=model prog w);have L1:=PySem.W.looks_findIn (M:=model prog w) X c.ga;have L2:=PySem.W.looks_findIn (M:=model prog w) X c.gn;have f3:=PySem.F.attrBase_ValueError.ga.bind (.ref x);have hx0:(expr&&onTheHeap (Value.builtin "BaseException.__getattribute__"))=false:=by cases expr<;>rfl
 obtain⟨hh,g,d,t,os⟩:=s;unfold getAttrBy;refine BZ (AA (L0.at (AA (L1.at ?_))));show wpAny _ _ (getAttrByItsOwn _ _ _ _ _ _) _ _ _;unfold getAttrByItsOwn;refine AA ?_;unfold hookBefore;rw[AZ (show onTheHeap (Value.ref C)=true from rfl)];refine L2.at ?_;unfold callGetattribute;rw[hx0,AR (by decide)];unfold boundAndCalled;refine AA (EX (BZ ?_));rw[f3];refine AA (AE ?_);refine FF (EK h fun r s' z=>?_);cases r with
 | error e=>exact False.elim z
 | ok f =>
  cases f with
  | ret v=>exact z
  | next=>exact False.elim z
  | brk=>exact False.elim z
  | cont=>exact False.elim z
end
theorem Gm:∀{cs:List Addr} {us:List Value},Vals (cs.map V.ref) us->us=cs.map Value.ref
 | [],_,.nil=>rfl
 | _::_,_,.cons r t=>by rw[BS,Gm t];cases r;rfl
theorem xc_mk{K:PySem.W.Frag}{nm q:Str}{C N:Addr}{bs bm:List Value}{hdct:Bool}{sn:List Str}{sub:List Value}{ab:Bool}{col:Option Bool}{dd:Option Addr}{k0 k1 k2 k3 k5:Option Value}
  (l:K.lookup C=some (excClassObj nm q C N bs bm hdct sn sub ab col dd k0 k1 k2 k3 k5 "ValueError.__new__")) (t:PySem.W.tailIn K [.type "ValueError",.type "Exception",.type "BaseException",.type "object"] bm=true) (k:PySem.W.keepIn K (.ref C)=true)
  (s:PySem.W.findIn K (.ref C) "__setattr__" = some (some (.builtin "object.__setattr__"))) (d:PySem.W.hasDictIn K C=true):XC K C bm:=⟨⟨_,_,_,_,_,_,_,_,_,_,_,_,_,_,_,l⟩,t,k,s,d⟩
section
variable{X:Cx}{E:XK}
theorem Kz{x:Str}{st:Stmt}{ps:List Str}{k:Nat}{sp:Sp}{e:Expr}{es:List Expr}{t:TA}{p pos:Pos}(b:BX X E)(D:Fn X.K X.mg x st ps)(G:FnOk X.prog X.w X.K X.mg X.base (CXe X.prog X.w) k D.f D.fd ps sp)(hr:Room k X.A)(ha:PA X (e::es) t)
  (hg:Gl X x:=by rfl) (hdb:(x ==("__debug__":Str))=false:=by decide) (hs:starEach (e::es) X.env =(false,eval e X.env)::starEach es X.env:=by rfl) (hpl:(backTo pos (starEach es X.env)).any (·.1)=false:=by rfl) :
  PE X (.Call (.Name x p) (e::es) [] pos) (Mx sp [] E t):=Io G hr hg D.m D.F.kp D.b .nil b.passes ha hdb hs hpl
theorem U7:bootBuiltins "ValueError" = some (.type "ValueError"):=by decide +kernel
end
section
variable{prog:Program}{w:World}{A:Around}{E:Value->Shared->Prop}{h:Heap}{g:Array GenState}{d:Drawn}{t:Nat}{os:OsState}
variable{nm q:Str}{C N:Addr}{bs bm bmB:List Value}{hdct:Bool}{sn:List Str}{sub:List Value}{ab:Bool}{col:Option Bool}{dd:Option Addr}{k0 k1 k2 k3 k5:Option Value}{B newId initId:String}
theorem Kt{K:PySem.W.Frag}{rest:List Value}{Q:Fin->Shared->Prop}(F:ExcBaseFacts B newId initId bmB)(T:OwnTail h bmB bm)(X:K.In h)
  (hC:h.get? C=some (excClassObj nm q C N bs bm hdct sn sub ab col dd k0 k1 k2 k3 k5 newId)) (hi:PySem.W.findIn K (.ref C) "__init__" = some (some (.builtin initId)))
  (hrest:rest.length<=sizeLine) (hq:∀h',(∀b o,h.get? b=some o->h'.get? b=some o)->(∃tt,h'.get? (h.objs.size+1)=some { cls:=.ref C,data:=.fields #[.ref tt,.none,.none,.none,.bool false,.none] })->Q (.done (.ret (.ref (h.objs.size+1)))) ⟨h',g,d,t,os⟩) :
  wpAny (model prog w) A (Builtin.«type.__call__» ⟨.ref C::rest,[]⟩) Q E ⟨h,g,d,t,os⟩:=by
 have kp:∀b o,h.get? b=some o->(exHeap h C rest).get? b=some o:=fun b o e=>AD _ (AD _ e);have hC₁:(exHeap h C rest).get? C=some (excClassObj nm q C N bs bm hdct sn sub ab col dd k0 k1 k2 k3 k5 newId):=kp _ _ hC;have hget:(exHeap h C rest).get? (h.objs.size+1)=some (exObj C h.objs.size):=by unfold exHeap;heap_get
 have hcC:(Value.ref C::bm).contains (.ref C)=true:=by simp
 have X₁:K.In (exHeap h C rest):=X.keeps kp;have T₁:=T.keeps kp
 repeat (first | with_reducible refine DK hC ?_ | with_reducible refine wpAny_madeBy_exc hC ?_ | wp_step)
 refine codeAny_call_builtin_code (Code.quiet_builtin _ F.quiet) (wpAny_check_new_subT F T hC (codeAny_exc_new_subT F T hC ?_ hrest));show wpAny _ _ _ _ _ ⟨exHeap h C rest,g,d,t,os⟩;have hM:∀h2,(∀b o,(exHeap h C rest).get? b=some o->b≠h.objs.size+1->h2.get? b=some o)->(∃tt,h2.get? (h.objs.size+1)=some { cls:=.ref C,data:=.fields #[.ref tt,.none,.none,.none,.bool false,.none] }) ->
   Q (.done (.ret (.ref (h.objs.size+1)))) ⟨h2,g,d,t,os⟩:=fun h2 k th=>hq h2 (fun b o e=>k b o (kp b o e) (fun z=>by rw[z]at e;exact absurd (AF e) (Nat.not_lt.mpr (CL _)))) th
 have hsz:(exHeap h C rest).objs.size=h.objs.size+2:=by unfold exHeap;simp only[BW]
 generalize exHeap h C rest=h1 at hC₁ hget X₁ T₁ hM hsz⊢;unfold isInstance
 repeat (first | with_reducible refine DK hget ?_ | (with_reducible refine FL hC₁ ?_;rw[hcC]) | wp_step)
 show wpAny _ _ (typeLookup (.ref C) _) _ _ _;refine PySem.W.Looks.here (s:=⟨h1,g,d,t,os⟩) (PySem.W.looks_findIn X₁ hi) ?_;refine BZ (AA (DY (F.init.bind _) ?_));refine AA (FF (codeAny_call_builtin F.init.plain F.initEntry (wpAny_check_init_subT F T₁ hC₁ hget rfl ?_)));wp_walk;refine hM _ (fun b o e hb=>?_) ⟨h.objs.size+2,?_⟩
 .rw[BJ _ _ (Ne.symm hb)];exact AD _ e
 .rw[BT _ (AD _ hget) rfl,hsz];rfl
theorem Kr{K:PySem.W.Frag}{rest:List Value}{Q:Value->Shared->Prop}(F:ExcBaseFacts B newId initId bmB)(T:OwnTail h bmB bm)(X:K.In h)
  (hC:h.get? C=some (excClassObj nm q C N bs bm hdct sn sub ab col dd k0 k1 k2 k3 k5 newId)) (hi:PySem.W.findIn K (.ref C) "__init__" = some (some (.builtin initId)))
  (hrest:rest.length<=sizeLine) (hq:∀h',(∀b o,h.get? b=some o->h'.get? b=some o)->(∃tt,h'.get? (h.objs.size+1)=some { cls:=.ref C,data:=.fields #[.ref tt,.none,.none,.none,.bool false,.none] })->Q (.ref (h.objs.size+1)) ⟨h',g,d,t,os⟩) :
  wpAny (model prog w) A (call (.ref C) rest) Q E ⟨h,g,d,t,os⟩:=by
 have f1:=tc_lookup;have f2:=tc_bind (.ref C);have hT:(⟨h,g,d,t,os⟩:Shared).TypeIs (.ref C) "type":=⟨_,hC,rfl⟩;refine FF (codeAny_of_tree ?_);show wpAny _ _ (callAny (.ref C) _) _ _ _
 repeat (any_goals (first | assumption | with_reducible refine DK hC ?_ | wp_step))
 refine⟨rfl,?_⟩;exact codeAny_call_builtin_at (Code.quiet_builtin _ (by decide +kernel)) entry_typeCall (wpAny_check_type_call_sub hC (Kt F T X hC hi hrest hq))
end
def Oy(K:PySem.W.Frag)(C:Addr):Prop:=PySem.W.findIn K (.ref C) "__init__" = some (some (.builtin "ValueError.__init__"))
section
variable{X:Cx}{pins:List (Addr×Obj)}{σ:St}{H:Hp}{s:Shared}{C:Addr}{bm:List Value}{E:Value->Shared->Prop}
theorem Mp{us:List Value}{Q:Value->Shared->Prop}(c:XC X.K C bm)(ni:Oy X.K C)(I:Inv X pins σ H s)(hus:us.length<=sizeLine)(h:∀x s',H x=none->X.s₀.heap.objs.size<=x->Inv X pins σ (upd H x (XN x C none)) s'->Q (.ref x) s') :
  wpAny (model X.prog X.w) X.A (call (.ref C) us) Q E s:=by
 obtain⟨nm,q,N,bs,hdct,sn,sub,ab,col,dd,k0,k1,k2,k3,k5,hobj⟩:=c.obj;have sz:=I.sz;obtain⟨hp,g,dn,tk,os⟩:=s;refine Kr PySem.F.excBase_ValueError (PySem.W.tail_of_in I.kIn c.tail) I.kIn (I.kIn _ _ hobj) ni hus fun h' kp ⟨tt,he⟩=>?_;exact h _ _ (I.hok.fresh (CL _)) (Nat.le_trans sz (CL _)) (I.laid (t':=tk) kp (CL _) (XN.ok he rfl))
end
def Ru(C:Addr)(E:XK)(t:TA):TS:=fun _ σ H=>t σ H fun vs H1=>vs.length<=sizeLine/\∀x,H1 x=none->E (.ref C) none (upd H1 x (XO x C none))
section
variable{X:Cx}{C f:Addr}{fd:FuncData}{ps:List Str}{sp:Sp}{E:XK}{bm:List Value}{k:Nat}{n:Str}{p pos cpos:Pos}{e:Expr}{es:List Expr}{t:TA}
theorem Dr(b:BX X E)(c:XC X.K C bm)(ni:Oy X.K C)(hg:Gl X n)(hm:X.mg n=some (.ref C))(ha:PA X (e::es) t)
  (hdb:(n ==("__debug__":Str))=false:=by decide) (he:starEach (e::es) X.env =(false,eval e X.env)::starEach es X.env:=by rfl) (hpl:(backTo cpos (starEach es X.env)).any (·.1)=false:=by rfl) :
  PS X (.Raise (some (.Call (.Name n p) (e::es) [] cpos)) none pos) (Ru C E t):=by
 intro pins s σ H D I h;obtain⟨nm,q,N,bs,hdct,sn,sub,ab,col,dd,k0,k1,k2,k3,k5,hobj⟩:=c.obj;have hh:X.A.handled=none:=I.ok.hd b.calm;rw[arm_exec_Raise];refine AA (DX (Kf (C:=C) (nm:=nm) (q:=q) (N:=N) (bs:=bs) (bm:=bm) (hdct:=hdct) (sn:=sn) (sub:=sub) (ab:=ab) (col:=col) (dd:=dd) (k0:=k0) (k1:=k1) (k2:=k2) (k3:=k3) (k5:=k5) (newId := "ValueError.__new__") (c.base I.kIn) hh (AA (BR ?_ (fun v s₃ h₃=>AA (DX (AE h₃))) fun _ _ x=>x))));refine DC (X0 I hg hm ?_ hdb);refine PySem.W.callWith_K (h₀:=X.base) I.ok.mod.kin c.kp (thn (ha cpos pins s σ H _ I h) fun us s1 ⟨vs,H1,I1,r,hl,q⟩=>⟨I1.kIn,?_⟩) he hpl;refine Mp (us:=us) c ni I1 (by rw[<-r.length];exact hl) fun x s2 hx nx I2=>?_;obtain⟨vs',sl,ex,h1,z⟩:=b.made (d:=none) I2 A7 nx (by rw[Pn];exact q x hx);exact⟨_,none,vs',sl,rfl,I2.kIn _ _ hobj,ex,h1,z⟩
end
section
variable{prog:Program}{w:World}{A:Around}{E:Value->Shared->Prop}{s:Shared}{K:PySem.W.Frag}{x C:Addr}{ox:Obj}{od:Option Obj}
theorem Ek{Q:Option Value->Shared->Prop}(X:K.In s.heap)(I:PySem.W.InstAt s.heap x ox C od)(c:XG K C)(i:IsC K C)(h:Q (some (.ref C)) { s with toks:=s.toks+1 }):wpAny (model prog w) A (getAttr? (.ref x) "__class__") Q E s:=by
 have hf:PySem.W.findObj K C od "__class__" = some (.bind (.builtin "getset_descriptor.__get__") (.builtin "object.__class__")):=by
  obtain⟨cd,hc,_⟩:=PySem.W.any_some c.hd;unfold PySem.W.findObj;rw[hc,Option.bind_some,i.ha,Option.bind_some];simp[i.hn,i.htk]
 unfold getAttr? getAttrBy?;refine AA (wpAny_mkText (AA (EX (Pt (s:={ s with toks:=s.toks+1 }) X I c (Kv (s:={ s with toks:=s.toks+1 }) X I c ?_)))));have L0:=I.type (M:=model prog w);have L1:=PySem.W.looks_find (M:=model prog w) X I hf;obtain⟨hh,g,d,t,os⟩:=s;refine AA (AE (AA (AE (AA (L0.at (AA (L1.at ?_)))))));dsimp only;unfold Builtin.ObjectAttr.bindTo;dsimp only;refine AA (BZ (FF (PySem.W.class_get X I i.hm ?_)));exact AE (PySem.W.handed_on rfl (AE h))
end
theorem Ct{K:PySem.W.Frag}{x C:Addr}(c:XG K C)(i:IsC K C):PySem.W.KitX K (.ref x) (.ref C) (fun h=>∃ox od,PySem.W.InstAt h x ox C od) where
 ty:=fun _ _ _ ⟨_,_,I⟩=>I.type
 it:=fun _ _ X _=>by
  obtain⟨cdD,hcD,_⟩:=PySem.W.any_some c.hd;unfold PySem.W.clsIn at hcD;split at hcD
  .rename_i c' d' cd' sl' ho;intro A' Q' E' s' k q;unfold isType loadHead;exact AA (wpAny_loadPart (k _ _ (X _ _ ho)) (AE q))
  .cases hcD
 ne:=fun h tp dd its n sl X htp=>by
  obtain⟨cdD,hcD,_⟩:=PySem.W.any_some c.hd;refine Bool.eq_false_iff.mpr fun q=>?_;have e:C=tp:=Value.ref.inj (beq_iff_eq.mp q);subst e;unfold PySem.W.clsIn at hcD;split at hcD
  .rename_i c' d' cd' sl' ho;have z:=(X _ _ ho).symm.trans htp;cases z
  .cases hcD
 ca:=fun X ⟨_,_,I⟩ k=>Ek X I c i k
section
variable{X:Cx}{pins:List (Addr×Obj)}{σ:St}{H:Hp}{s:Shared}{x C:Addr}
theorem Fq(I:Inv X pins σ H s)(e:H x=some (XO x C none)):∃ox od,PySem.W.InstAt s.heap x ox C od:=by
 obtain⟨o,vs,h1,h2,h3,h4⟩:∃o vs,s.heap.get? x=some o/\o.cls = .ref C/\o.dict=none/\o.data = .fields vs:=(I.hok x _ e).1;exact⟨o,none,⟨h1,h2,by unfold PySem.W.notCls;rw[h4],by rw[h3];trivial⟩⟩
end
def So(K:PySem.W.Frag)(cv:V->Option Value):List V->Hp->VK->Prop:=fun xs H Q=>∃x C y c b,xs = [.ref x,y]/\cv y=some c/\H x=some (XO x C none)/\XG K C/\IsC K C/\PySem.W.kitOne K (.ref C) c=some b/\Q (.bl b) H
theorem U4{X:Cx}(K:PySem.W.Frag)(hK:X.K=K:=by rfl):F9 X (.builtin "isinstance") (So K fun y=>match y with | .ref a=>some (.ref a) | .ty n=>some (.type n) | _=>none):=by
 subst hK;intro pins s σ H xs us Q I r h;obtain⟨x,C,y,c,b,rfl,hc,e1,g,i,hk,q⟩:=h;obtain⟨u,v,rfl,ru,rv⟩:=r.two;cases(show u=Value.ref x from ru);have ev:v=c:=by
  cases y with
  | ref a=>cases hc;exact rv
  | ty n=>cases hc;cases rv;rfl
  | _=>cases hc
 subst ev;obtain⟨ox,od,J⟩:=Fq I e1;exact PySem.W.kia_one (Ct g i) I.kIn ⟨ox,od,J⟩ hk (fun z=>nomatch z) fun tk=>⟨.bl b,H,I.tok _,rfl,q⟩
theorem Ad{X:Cx}(K:PySem.W.Frag)(hK:X.K=K:=by rfl):F9 X (.builtin "isinstance") (fun xs H Q=>∃(x C:Addr) (p:Addr) (cs:List Addr) (b:Bool),xs = [.ref x,.ref p]/\H p=some (.tup (cs.map V.ref))/\H x=some (XO x C none)/\XG K C/\IsC K C/\PySem.W.kitAny K (.ref C) (cs.map Value.ref)=some b/\Q (.bl b) H):=by
 subst hK;intro pins s σ H xs us Q I r h;obtain⟨x,C,p,cs,b,rfl,hp,e1,g,i,hk,q⟩:=h;obtain⟨u,v,rfl,ru,rv⟩:=r.two;cases(show u=Value.ref x from ru);cases(show v=Value.ref p from rv);obtain⟨its,rv,pl,hz⟩:=I.tuple (SqT.of hp);rw[Gm rv]at pl;obtain⟨⟨oc,od',odt,osl⟩,ho,hc,n,hd⟩:=pl;cases hc;cases hd;obtain⟨ox,od,J⟩:=Fq I e1;exact PySem.W.kia_tup (Ct g i) I.kIn ⟨ox,od,J⟩ ho hk (fun z=>nomatch z) fun tk=>⟨.bl b,H,I.tok _,rfl,q⟩
def PSx(X:Cx)(st:List Stmt)(t:XK->TS):Prop:=∀(pins:List (Addr×Obj)) (s:Shared) (σ:St) (H:Hp) (D:Ends) (E:XK),Inv X pins σ H s->t E D σ H ->
 wpAny (model X.prog X.w) X.A (execs st X.env) (SP X pins D) (fun ev s'=>∃s1 H1,Inv X pins σ H1 s1/\CXe X.prog X.w X.stack H1 s1 E ev s') s
def Vl(K:PySem.W.Frag)(S:Addr)(i:Nat)(t:XK->TS)(th:TS):TS:=fun D σ H =>
 t (fun Cv d H'=>∃C bm,Cv = .ref C/\XC K C bm/\(Value.ref C::bm).contains (.ref S)=true/\∀x,H' x=some (XO x C d)->th (Dh i D) (σ.set i (some (.ref x))) H') D σ H
theorem Ju{X:Cx}{S:Addr}{bmS:List Value}{i:Nat}{n c:Str}{cp hp pos:Pos}{b₀:Stmt}{tb body:List Stmt}{t:XK->TS}{th:TS}(nox:∀e s,¬X.xe e s)(st:X.stack=X.env::X.outer)(fr:X.env.frame=some X.env.locals)(hN:X.N.Nodup)(hi:X.N[i]?=some n)(hloc:X.env.scope.names.lookup n=some .local)
  (hg:Gl X c) (hm:X.mg c=some (.ref S)) (cS:XC X.K S bmS) (he:PSx X tb t) (hh:∀ev,PSs (Xm X ev) (b₀::body) th) (hdb:(c ==("__debug__":Str))=false:=by decide) :
  PS X (.Try tb [.ExceptHandler (some (.Name c cp)) (some n) (b₀::body) hp] [] [] pos) (Vl X.K S i t th):=by
 intro pins s σ H D I h;refine wpAny_Try_except ?_;refine BR (he pins s σ H _ _ I h) (fun fl s1 z=>?_) fun ev s' z=>?_
 .cases fl with
  | next=>exact EU z
  | brk=>exact z
  | cont=>exact z
  | ret u=>exact z
 obtain⟨s1,H1,I1,x,C,d,H',rfl,os,bare,un,hok,hx,nx,tb,C',bm,ec,cC,hcon,q⟩:=z;cases ec;have I2:Inv X pins σ H' s':=I1.call' os un hok bare (fun b z=>absurd z (by simp));have r:RX X.prog X.w X.base X.stack X.env X.outer H1 s1 x C d H' s':=⟨os,bare,un,hok,Nat.le_trans I1.ok.bsz I1.sz,I2.bs,by have:=I2.stack;rw[st]at this;exact this,by have:=I2.stkFree;rw[st]at this;exact this,⟨_,fr⟩,fun b o _ hb=>by rw[st]at hb;exact hb,fun b hb=>by rw[st]at hb;exact hb,hx,nx,tb.fl⟩;have hfr:X.A.frames=some (X.env::X.outer):=by rw[I.ok.frames,st]
 refine r.note hfr fun h' r' t'=>r'.flight fun h2 r2 _=>?_;have I3:Inv X pins σ H' { s' with heap:=h2 }:=I1.call' r2.os r2.un r2.hok r2.bare (fun b z=>absurd z (by simp));refine wpAny_handleBy_cons (codeAny_handlers_test ?_) (by intro q;cases q);refine X0 (I3.mark (.ref x)) hg hm ?_ hdb;obtain⟨nm,q1,N,bs,hdct,sn,sub,ab,col,dd,k0,k1,k2,k3,k5,hobj⟩:=cC.obj;obtain⟨nm',q1',N',bs',hdct',sn',sub',ab',col',dd',j0,j1,j2,j3,j5,hobj'⟩:=cS.obj;obtain⟨ox,vx,ex,hcx,_⟩:∃o vs,h2.get? x=some o/\o.cls = .ref C/\o.dict=d/\o.data = .fields vs:=(r2.hok x _ r2.hx).1;refine Yb (I3.kIn _ _ hobj) (I3.kIn _ _ hobj') ex hcx (cS.base I3.kIn) hcon ?_;refine codeAny_handlers_suite_as (r2.flight fun h4 r4 _=>?_);have I4:Inv X pins σ H' { s' with heap:=h4 }:=I1.call' r4.os r4.un r4.hok r4.bare (fun b z=>absurd z (by simp));refine b8 I4 hN hi (.inl hloc) (v:=.ref x) rfl (fun s5 I5=>?_) (.inr hloc);refine BR (hh (.ref x) pins s5 _ H' (Dh i D) (I5.mark _) (q x hx)) (fun f s6 z=>?_) fun _ _ z=>(nox _ _ z).elim;cases f with
 | next =>
  obtain⟨σ',H6,I6,q6⟩:=z;exact U5 (I6.unmark I.ok) hN hi hloc fun s7 I7=>⟨_,_,I7,q6⟩
 | brk =>
  obtain⟨σ',H6,I6,q6⟩:=z;exact U5 (I6.unmark I.ok) hN hi hloc fun s7 I7=>⟨_,_,I7,q6⟩
 | cont =>
  obtain⟨σ',H6,I6,q6⟩:=z;exact U5 (I6.unmark I.ok) hN hi hloc fun s7 I7=>⟨_,_,I7,q6⟩
 | ret u =>
  obtain⟨v,σ',H6,I6,r6,q6⟩:=z;exact U5 (I6.unmark I.ok) hN hi hloc fun s7 I7=>⟨v,_,_,I7,r6,q6⟩
def own(scope:Scope)(cl:List (Str×Addr))(n:Nat):List (Str×Addr):=cellsFrom (n+1) scope.names cl
theorem J1:∀(names:List (Str×NameKind)) (n:Nat) (acc:List (Str×Addr)),cellsFrom n names acc=cellsFrom n names []++acc
 | [],_,_=>rfl
 | (y,k)::r,n,acc=>by
  unfold cellsFrom;split
  .rw[J1 r (n+1) ((y,n)::acc),J1 r (n+1) [(y,n)],BF];rfl
  .exact J1 r n acc
theorem An{α:Type}(x:Str):∀(l m:List (Str×α)),(l++m).lookup x =(l.lookup x).or (m.lookup x)
 | [],m=>rfl
 | (y,c)::r,m=>by
  rw[List.cons_append,EN,EN];cases x == y with
  | true=>rfl
  | false=>exact An x r m
theorem Q6{scope:Scope}{cl:List (Str×Addr)}{n:Nat}{x:Str}{c:Addr}(h:(own scope cl n).lookup x=some c):(cellsFrom (n+1) scope.names []).lookup x=some c\/((cellsFrom (n+1) scope.names []).lookup x=none/\cl.lookup x=some c):=by
 unfold own at h;rw[J1,An]at h;cases e:(cellsFrom (n+1) scope.names []).lookup x with
 | some d=>rw[e]at h;exact .inl h
 | none=>rw[e]at h;exact .inr ⟨rfl,h⟩
def cxD(X:Cx)(scope:Scope)(cl:List (Str×Addr))(N':List Str)(pins:List (Addr×Obj))(ex:List Addr)(s3:Shared)(H3:Hp):Cx where
 prog:=X.prog
 w:=X.w
 K:=X.K
 mg:=X.mg
 base:=X.base
 A:=X.A
 N:=N'
 s₀:=s3
 H₀:=H3
 env:=compEnvC scope (own scope cl s3.heap.objs.size) s3.heap.objs.size X.env
 outer:=X.stack
 stack:=X.stack
 ex:=ex
 fn:=fun x=>scope.names.lookup x == some .cell
 calm:=X.calm
 pn:=X.pn++pins
 xe:=fun _ _=>False
structure DScope(X:Cx)(scope:Scope)(cl:List (Str×Addr))(N':List Str)(cap:List (Option Nat)):Prop where
 kind:scope.kind = .function
 loc:∀y∈scope.names,y.2 = .local->scope.names.lookup y.1=some .local
 clos:closureFor scope X.env=pure cl
 cin:ClIn X cl
 has:∀n,((relabel scope X.env).names.all fun y=>!(y.2 == .cell||y.2 == .free)||((own scope cl n).lookup y.1).isSome)=true
 caps:∀n,Caps X scope (own scope cl n) N' cap
section
variable{X:Cx}{scope:Scope}{cl:List (Str×Addr)}{N':List Str}{cap:List (Option Nat)}{pins:List (Addr×Obj)}{σ:St}{H3:Hp}{s3:Shared}{ex:List Addr}
theorem Inv.blockD(I:Inv X pins σ H3 s3)(S:DScope X scope cl N' cap)(hc:X.calm=true)(hex:∀b∈ex,Z9 X pins H3 b/\∃o,s3.heap.get? b=some o){h1:Heap}{tk:Nat}
  (hns:h1.Ns s3.heap.objs.size (fun _=>none)) (hk:∀b o,s3.heap.get? b=some o->h1.get? b=some o) (ok:CellsOk h1 (s3.heap.objs.size+1) (cellsFrom (s3.heap.objs.size+1) scope.names [])) :
  Inv (cxD X scope cl N' pins ex s3 H3) [] (Il cap σ) H3 { s3 with heap:=h1,toks:=tk }:=by
 have lt3:∀b o,s3.heap.get? b=some o->b≠s3.heap.objs.size:=fun b o e=>AY (AF e);have old:∀x c,cl.lookup x=some c->∃v,s3.heap.IsCell c v:=fun x c e=>I.cell x c (S.cin.get e);have new:∀{x c},(cellsFrom (s3.heap.objs.size+1) scope.names []).lookup x=some c->h1.IsCell c none/\s3.heap.objs.size+1<=c:=fun e=>ok.empty _ _ (PySem.mem_of_lookup e);have hfree:H3 s3.heap.objs.size=none:=I.hok.fresh (Nat.le_refl _);have olt:∀x c,cl.lookup x=some c->c<s3.heap.objs.size:=fun x c e=>let⟨_,h⟩:=old x c e;h.lt;refine⟨⟨I.ok.mod,?_,I.ok.glob,I.ok.blt,Nat.le_refl _,fun x y c e1 e2=>?_,fun x hx=>?_,fun x c h e=>?_,I.ok.hd,I.ok.frames,.inl rfl,fun b hb=>?_,I.bs,Nat.le_trans I.ok.bsz I.sz,fun b o e hb=>?_,fun b hb=>?_,I.stack,I.stkFree⟩,
  rfl,I.bare,Un.kept hk,⟨_,hns,fun i x v e1 e2 e3=>?_⟩,fun x c e=>?_,hfree,fun x c e=>?_,fun p hp=>?_,I.hok.kept hk,?_⟩
 .exact S.kind
 .rcases Q6 e1 with a | ⟨_,a⟩<;>rcases Q6 e2 with b | ⟨_,b⟩
  .exact name_of_addr ok.apart (PySem.mem_of_lookup a) (PySem.mem_of_lookup b)
  .exact absurd (AX (olt _ _ b) (DH (new a).2)) (CD _)
  .exact absurd (AX (olt _ _ a) (DH (new b).2)) (CD _)
  .exact I.ok.inj x y c (S.cin.get a) (S.cin.get b)
 .have q:∀k,(relabel scope X.env).names.lookup x=some k->(!(k == .cell||k == .free)||((own scope cl s3.heap.objs.size).lookup x).isSome)=true:=fun k e=>V4 (p:=fun _=>true) (q:=fun a k=>!(k == .cell||k == .free)||((own scope cl s3.heap.objs.size).lookup a).isSome) (S.has _) e;have hx':(relabel scope X.env).names.lookup x=some .cell\/(relabel scope X.env).names.lookup x=some .free:=hx;have:((own scope cl s3.heap.objs.size).lookup x).isSome=true:=by
   rcases hx' with e | e
   .exact q _ e
   .exact q _ e
  exact CK.mp this
 .have h:scope.names.lookup x=some .cell:=beq_iff_eq.mp h;have q:=PySem.W.cellsFrom_some scope.names (s3.heap.objs.size+1) [] (.inl h);rcases Q6 e with a | ⟨a,_⟩
  .exact DH (new a).2
  .rw[a]at q;cases q
 .obtain⟨⟨_,_,_,_,f4,_⟩,o,e⟩:=hex b hb;refine⟨lt3 b o e,fun x c ec=>?_⟩;rcases Q6 ec with a | ⟨_,a⟩
  .exact Nat.ne_of_gt (AX (AF e) (DH (new a).2))
  .exact f4 x c (S.cin.get a)
 .obtain⟨⟨f0,f1,f2,f3,_⟩,_⟩:=hex b hb;rcases f3 with f3 | f3
  .exact I.ok.noex b o e f3
  .have:=(I.ok.bs b o e).1;exact absurd (AX (AF this) f3) (CD _)
 .intro hf;obtain⟨⟨_,f1,f2,_⟩,_⟩:=hex b hb;rcases AS.mp (I.stkSub b hf)with z | z
  .exact f1 z
  .exact f2 z
 .unfold Il at e2;rw[AG]at e2;cases ec:cap[i]? with
  | none=>rw[ec]at e2;cases e2
  | some o =>
   rw[ec]at e2;cases o with
   | none=>cases e2
   | some j =>
    have e2':(σ[j]?).join=some v:=BV e2;obtain⟨c1,c2,c3,c4⟩:=(S.caps s3.heap.objs.size).get e1 ec;have ej:σ[j]?=some (some v):=by
     cases ej:σ[j]? with
     | none=>rw[ej]at e2';cases e2'
     | some z=>rw[ej]at e2';cases z with
      | none=>cases e2'
      | some z=>cases e2';rfl
    obtain⟨m,hn,hl⟩:=I.loc;obtain⟨u,r,l⟩:=hl j x v c1 ej (.inr (.inl c2));refine⟨u,r,?_⟩;rcases l with⟨k,_⟩ | ⟨_,c,hc',hcell'⟩
    .have:X.env.scope.names.lookup x=some .local:=k;rw[c2]at this;cases this
    .exact .inr ⟨.inl c3,c,c4.trans hc',let⟨o,ho,hd⟩:=hcell';⟨o,hk _ _ ho,hd⟩⟩
 .rcases Q6 e with a | ⟨_,a⟩
  .exact⟨_,(new a).1⟩
  .obtain⟨v,o,ho,hd⟩:=old x c a;exact⟨v,o,hk _ _ ho,hd⟩
 .rcases Q6 e with a | ⟨_,a⟩
  .exact I.hok.fresh (DH (new a).2)
  .exact I.freeC x c (S.cin.get a)
 .have hp':p∈X.pn++pins:=by simpa [cxD] using hp
  obtain⟨e,n,ne,nf,d⟩:=I.pin p hp';refine⟨hk _ _ e,n,lt3 _ _ e,fun hf=>?_,d⟩;rcases AS.mp (I.stkSub p.1 hf)with z | z
  .exact ne z
  .exact nf z
 .unfold Il;rw[AB];exact(S.caps 0).len
theorem Inv.unblockD{σ':St}{H':Hp}{s':Shared}{h':Heap}(I:Inv X pins σ H3 s3)(hex:∀b∈ex,Z9 X pins H3 b)(J:Inv (cxD X scope cl N' pins ex s3 H3) [] σ' H' s')(hb:Heap.SameBut s3.heap.objs.size s'.heap h') :
  Inv X pins σ H' { s' with heap:=h' }:=by
 have hfr:H' s3.heap.objs.size=none:=J.free;refine I.call' (ch:=ex) J.os ⟨fun b o e n h1 h2=>?_,fun b o e n h1 h2=>?_,fun b o e n h2=>?_,fun b o e h2=>?_,J.base.tups,J.base.frzs,J.base.tbls⟩ (fun b ob e=>?_) J.bare fun b hbx=>?_
 .exact(hb.2 b (AY (AF e))).trans (J.base.keep b o e n h1 h2)
 .obtain⟨sl,q⟩:=J.base.slot b o e n h1 h2;exact⟨sl,(hb.2 b (AY (AF e))).trans q⟩
 .exact J.base.free b o e n h2
 .obtain⟨o',q⟩:=J.base.there b o e h2;exact⟨o',(hb.2 b (AY (AF e))).trans q⟩
 .refine(J.hok b ob e).stay (fun c w' hc q=>(hb.2 c ?_).trans q) (fun _ q=>q) fun _ _ q=>q;rintro rfl;rcases hc with z | z
  .rw[<-z,hfr]at e;cases e
  .rw[hfr]at z;cases z
 .obtain⟨_,f1,_,f3,f4,f5⟩:=hex b hbx;exact⟨f3,f1,f4,f5⟩
end
theorem Ha{M:Model}{A:Around}{E:Value->Shared->Prop}{s:Shared}{scope:Scope}{globals:Addr}{cl:List (Str×Addr)}{qual:Str}{env:Env}{Q:Env->Shared->Prop}
  (hQ:∀b,Q (newEnv scope s.heap.objs.size globals (own scope cl s.heap.objs.size) qual none .none (some env) b) { s with heap:=pushCells (s.heap.push { cls:=.type "dict",data:=.dict #[] }) scope.names }) :
  wpAny M A (newFunctionEnv scope globals cl [] qual none .none (some env)) Q E s:=by
 simp only[newFunctionEnv,Option.isSome_some,FO];refine AA (wpAny_alloc ?_);refine AA (wpAny_layCells _ (fun name kind cells=>by cases hkc:kind == NameKind.cell<;>simp[hkc]) _ _ _ _ ?_);rw[show({ s with heap:=s.heap.push { cls:=.type "dict",data:=.dict #[] } }:Shared).heap.objs.size=s.heap.objs.size+1 from BW ..];rw[List.forIn_nil];exact AA (AE (AE (hQ 0)))
section
variable{X:Cx}{tg iter:Expr}{ifs:List Expr}{g:TG}{tc:TT}{em:TEm}{scope:Scope}{cl:List (Str×Addr)}{N':List Str}{cap:List (Option Nat)}{pos:Pos}{wi:TI}
theorem Tq(caps:∀n,Caps X scope (own scope cl n) N' cap)(cin:ClIn X cl)(clos:closureFor scope X.env=pure cl:=by rfl)(kind:scope.kind = .function:=by rfl)
  (loc:∀y∈scope.names,y.2 = .local->scope.names.lookup y.1=some .local:=by decide +kernel) (has:∀n,((relabel scope X.env).names.all fun y=>!(y.2 == .cell||y.2 == .free)||((own scope cl n).lookup y.1).isSome)=true:=by intro _;rfl):DScope X scope cl N' cap:=⟨kind,loc,clos,cin,has,caps⟩
theorem pgD{pins:List (Addr×Obj)}{ex:List Addr}{s3:Shared}{H3:Hp}{x:Str}{pos:Pos}(i:Nat)(hN:N'.Nodup:=by decide +kernel)(hi:N'[i]?=some x:=by rfl)(hx:Loc (cxD X scope cl N' pins ex s3 H3).env.scope x:=by first | exact Or.inl rfl | exact Or.inr rfl)
  (hf:(cxD X scope cl N' pins ex s3 H3).fn x=true\/(cxD X scope cl N' pins ex s3 H3).env.scope.names.lookup x=some .local:=by first | exact Or.inr rfl | exact Or.inl rfl):PG (cxD X scope cl N' pins ex s3 H3) (.Name x pos) (Z5 i):=D8 (X:=cxD X scope cl N' pins ex s3 H3) hN hi hx hf
end
def Nr:List Str->List Value->Bool
 | [],[]=>true
 | x::xs,.str y _::us=>x == y&&Nr xs us
 | _,_=>false
theorem Kx:∀{xs:List Str} {us:List Value},Nr xs us=true->Vals (xs.map V.str) us
 | [],[],_=>.nil
 | x::xs,.str y t::us,h=>by
  obtain⟨h1,h2⟩:=(CF _ _).mp (show(x == y&&Nr xs us)=true from h);have e:x=y:=beq_iff_eq.mp h1;exact .cons ⟨t,by rw[e]⟩ (Kx h2)
def GTup(K:PySem.W.Frag)(a:Addr)(xs:List Str):Prop:=∃(o:Obj) (its:Array Value) (n:Nat),K.lookup a=some o/\o.cls = .type "tuple"/\o.data = .seq its n/\its.size<=sizeLine/\Vals (xs.map V.str) its.toList
theorem GTup.sq{K:PySem.W.Frag}{H:Hp}{a:Addr}{xs:List Str}(h:GTup K a xs):SqT K H a (xs.map V.str):=.inr h
theorem Gy:∀{xs:List V} {us:List Value},Vals xs us->us.length=xs.length
 | _,_,.nil=>rfl
 | _,_,.cons _ t=>by rw[BK,BK,Gy t]
theorem gtup_mk{K:PySem.W.Frag}{a:Addr}{xs:List Str}{o:Obj}(l:K.lookup a=some o)(e:∃its n d osl,o =⟨.type "tuple",d,.seq its n,osl⟩/\(decide (xs.length<=100)&&Nr xs its.toList)=true):GTup K a xs:=by
 obtain⟨its,n,d,osl,rfl,h⟩:=e;obtain⟨h1,h2⟩:=(CF _ _).mp h;have v:=Kx h2;refine⟨_,its,n,l,rfl,rfl,?_,v⟩;have e1:=Gy v;rw[AB,AV]at e1;have:=BU h1;rw[sizeLine_eq,e1];omega
def Tk(i:Nat)(f:Addr)(sp:Sp)(E:XK)(t:TA):TE:=fun σ H Q=>σ[i]?=some (some (.ref f))/\Mx sp [] E t σ H Q
section
variable{X:Cx}{i:Nat}{x:Str}{e:Expr}{pos pos':Pos}
theorem Ld{t:XK->TE}(hN:X.N.Nodup)(hi:X.N[i]?=some x)(hx:Loc X.env.scope x)(he:PEx X e t)(hs:swapsWith e (some (.Name x pos')) pos.line X.env=pure false:=by rfl)(hf:X.fn x=true\/X.env.scope.names.lookup x=some .local:=by first | exact .inl rfl | exact .inr rfl | assumption) :
  PSx X [.Assign [.Name x pos'] e pos] (fun E=>Tc (t E) (Z5 i)):=by
 intro pins s σ H D E I h;refine wpAny_execs_cons (wpAny_Assign_Name (BR (he pins s σ H _ E I h) (fun v s1 ⟨y,H1,I1,r1,q1⟩=>?_) fun _ _ z=>z) hs);exact b8 I1 hN hi hx r1 (fun s2 I2=>EU ⟨_,H1,I2,q1⟩) hf
end
theorem X1{a b:Addr}{n:Nat}(h1:a<n)(h2:n<=b):b≠a:=fun z=>by subst z;exact absurd h2 (Nat.not_le_of_lt h1)
section
variable{fs ex:List Addr}{H:Hp}{h h':Heap}{a:Addr}
theorem HOk.table{P:Program}{w:World}{ps qs:Array Value}(ok:HOk P w H h)(hp:H a=some (.tbl ps))(k:∀b u,b≠a->h.get? b=some u->h'.get? b=some u)(he:h'.get? a=some { cls:=.none,data:=.fields qs }):HOk P w (upd H a (.tbl qs)) h':=fun b u q=>by
 by_cases hb:b=a
 .subst hb;rw[A7]at q;cases q;exact he
 .rw[B7 hb]at q;have n:∀c o,H c=some o->o≠ .tbl ps->c≠a:=fun c o e ne z=>by rw[z,hp]at e;cases e;exact ne rfl
  refine(ok b u q).stay (fun c v hc r=>k c v ?_ r) (fun c r=>by rw[B7 (n c _ r (by intro z;cases z))];exact r) fun c xs r=>by rw[B7 (n c _ r (by intro z;cases z))];exact r
  rcases hc with rfl | hc
  .exact hb
  .exact n c _ hc (by intro z;cases z)
end
section
variable{P:Program}{w:World}{fs ex:List Addr}{H H':Hp}{h h':Heap}{a:Addr}{o:HO}
theorem Un.more{p:Addr}{ps more:Array Value}(hp:H p=some (.tbl ps))(hp':H' p=some (.tbl (ps++more)))(old:∀b o,H b=some o->b≠p->H' b=some o)(fre:∀b,b<h.objs.size->H b=none->H' b=none)
  (k:∀b u,b≠p->h.get? b=some u->h'.get? b=some u) (he:∃u,h'.get? p=some u):Un fs ex H H' h h':=by
 have ne:∀b,H b=none->b≠p:=fun b n e=>by rw[e,hp]at n;cases n
 refine⟨fun b u q n _ _=>k b u (ne b n) q,fun b u q n _ _=>⟨u.slots,k b u (ne b n) q⟩,fun b u q n _=>fre b (AF q) n,fun b u q _=>?_,fun b xs q=>old b _ q fun e=>?_,fun b o u q=>old b _ q fun e=>?_,fun b qs q=>?_⟩
 .by_cases e:b=p
  .subst e;exact he
  .exact⟨u,k b u e q⟩
 .rw[e,hp]at q;cases q
 .rw[e,hp]at q;cases q
 .by_cases e:b=p
  .subst e;rw[hp]at q;cases q;exact⟨more,hp'⟩
  .exact⟨#[],by rw[old b _ q e];simp⟩
theorem HOk.track(x:HOk P w H h)(hn:H a=none)(new:ObjOk P w (upd H a o) h a o):HOk P w (upd H a o) h:=fun b u e=>by
 by_cases hb:b=a
 .subst hb;rw[A7]at e;cases e;exact new
 .rw[B7 hb]at e;exact(x b u e).stay (fun c v _ q=>q) (fun c q=>by rw[B7 (B4 q hn)];exact q) fun c xs q=>by rw[B7 (B4 q hn)];exact q
end
def CodeO(c:Addr)(q:Str):HO:=.ext fun h=>h.CodeRec (.ref c) q
def LamO(f c:Addr)(q:Str)(ps:Arguments)(b:Expr)(sc:Scope)(cl:List (Str×Addr)):HO:=.ext fun h=>∃pm ct,h.get? f=some (PySem.W.kla_obj "<lambda>" q ps b sc cl pm c ct)
theorem CodeO.ok{P:Program}{w:World}{H:Hp}{h:Heap}{c:Addr}{q:Str}(r:h.CodeRec (.ref c) q):ObjOk P w H h c (CodeO c q):=by
 have r0:=r;obtain⟨c',o,vs,t,e,ho,hd,hv⟩:=r;cases e;refine⟨r0,⟨o,ho⟩,fun h1 h2 r1 k=>?_⟩;obtain⟨c',o,vs,t,e,ho,hd,hv⟩:=r1;cases e;exact⟨c,o,vs,t,rfl,k o ho,hd,hv⟩
theorem LamO.ok{P:Program}{w:World}{H:Hp}{h:Heap}{f c:Addr}{q:Str}{ps:Arguments}{b:Expr}{sc:Scope}{cl:List (Str×Addr)}{pm ct:Value}(r:h.get? f=some (PySem.W.kla_obj "<lambda>" q ps b sc cl pm c ct)):ObjOk P w H h f (LamO f c q ps b sc cl) :=
 ⟨⟨pm,ct,r⟩,⟨_,r⟩,fun h1 h2 ⟨pm,ct,e⟩ k=>⟨pm,ct,k _ e⟩⟩
def F8(cells:List (Str×Addr)):List (Str×NameKind)->List (Str×Addr)->List (Str×Addr)
 | [],cs=>cs
 | (n,k)::r,cs=>F8 cells r (if(k == NameKind.free)=true then(n,(cells.lookup n).getD 0)::cs else cs)
theorem U2{scope:Scope}{env:Env}(h:∀x∈scope.names,x.2 = .free->(env.cells.lookup x.1).isSome=true):closureFor scope env=pure (F8 env.cells scope.names []):=by
 have main:∀(l:List (Str×NameKind)) (cs:List (Str×Addr)),(∀x∈l,x.2 = .free->(env.cells.lookup x.1).isSome=true) ->
   (forIn (m:=Sem) l cs fun x __s=>match x with
    | (name,kind)=>if(kind == NameKind.free)=true then do
      let __do_lift <-cellOf env name
      pure (ForInStep.yield ((name,__do_lift)::__s))
     else pure (ForInStep.yield __s))=pure (F8 env.cells l cs):=by
  intro l
  induction l with
  | nil=>intro cs _;rfl
  | cons x r ih =>
   obtain⟨n,k⟩:=x;intro cs hx;rw[List.forIn_cons];by_cases e:(k == NameKind.free)=true
   .have hk:k = .free:=eq_of_beq e;obtain⟨c,hc⟩:=CK.mp (hx (n,k) (BB ..) hk);have hc':cellOf env n=pure c:=by
     unfold cellOf;rw[show List.lookup n env.cells=some c from hc]
    simp only[e,FO,hc',pure_bind];rw[ih _ fun y hy=>hx y (AQ _ hy)];show _=pure (F8 env.cells r (if(k == NameKind.free)=true then(n,(env.cells.lookup n).getD 0)::cs else cs));rw[AZ e,show List.lookup n env.cells=some c from hc];rfl
   .simp only[e,BQ,DR,pure_bind];rw[ih _ fun y hy=>hx y (AQ _ hy)];show _=pure (F8 env.cells r (if(k == NameKind.free)=true then(n,(env.cells.lookup n).getD 0)::cs else cs));rw[AR e]
 unfold closureFor;simp only[main scope.names [] h,pure_bind]
theorem i7{pos q:Pos}{c:Value}:∀(l:List Value),TriplesOk l->¬(pos.line=q.line/\pos.col=q.col)->codeAmong q (l ++ [rawInt pos.line,rawInt pos.col,c])=codeAmong q l
 | [],_,n=>by
  show(if((pos.line:Int) ==(q.line:Int) &&(pos.col:Int) ==(q.col:Int))=true then some c else none)=none;rw[AR];intro z;rw[CF,beq_iff_eq,beq_iff_eq]at z;exact n ⟨by omega,by omega⟩
 | .int a _ :: .int b _::x::r,h,n=>by
  show(if(a ==(q.line:Int)&&b ==(q.col:Int))=true then some x else codeAmong q (r ++ [rawInt pos.line,rawInt pos.col,c]))=if(a ==(q.line:Int)&&b ==(q.col:Int))=true then some x else codeAmong q r
  rw[i7 r h n]
def Z6(H:Hp)(P:Addr)(ls:List (Pos×Str)):Prop:=∃ps,H P=some (.tbl ps)/\TriplesOk ps.toList/\∀l∈ls,codeAmong l.1 ps.toList=none\/∃c,codeAmong l.1 ps.toList=some (.ref c)/\H c=some (CodeO c l.2)
structure TabAt(K:PySem.W.Frag)(mg:Str->Option Value)(c P:Addr):Prop where
 hd:∀h:Heap,K.In h->PySem.W.CodeHd h c P
 ne:mainGlobals≠P
def Xv(P:Addr)(ls:List (Pos×Str))(cl:List (Str×Addr))(q:Str)(ps:Arguments)(b:Expr)(sc:Scope):TE:=fun _ H Q=>Z6 H P ls/\∀f c H',H f=none->Z6 H' P ls->H' c=some (CodeO c q)->H' f=some (LamO f c q ps b sc cl)->f≠P->(∀a o,H a=some o->a≠P->H' a=some o)->Q (.ref f) H'
section
variable{X:Cx}
theorem Lu{args:Arguments}{body:Expr}{scope:Scope}{pos:Pos}{c P:Addr}{ls:List (Pos×Str)}(T:TabAt X.K X.mg c P)(hB:X.base.BuiltinsAt X.mg P)(hc:X.env.code = .ref c)(hd1:args.defaults = [])(hd2:args.kw_defaults = [])
  (hfr:∀x∈scope.names,x.2 = .free->X.env.scope.names.lookup x.1=some .cell) (hl:(pos,X.env.qual ++ "<lambda>")∈ls) (hu:∀l∈ls,∀l'∈ls,l.1.line=l'.1.line->l.1.col=l'.1.col->l=l') :
  PE X (.Lambda args body scope pos) (Xv P ls (F8 X.env.cells scope.names []) (X.env.qual ++ "<lambda>") args body scope):=by
 intro pins s σ H Q I h;obtain⟨⟨ps,hP,tr,hls⟩,q⟩:=h;have hdef:defaultsOf args X.env =([],[]):=by
  cases args;cases hd1;cases hd2;rfl
 rw[arm_eval_Lambda,hdef];refine AA (AE (AA (BZ (AE ?_))));have hPs:s.heap.get? P=some (PySem.W.tabObj ps):=I.hok P _ hP;have hfr:∀x∈scope.names,x.2 = .free->(X.env.cells.lookup x.1).isSome=true:=fun x hx e=>by
  obtain⟨c,hc⟩:=I.ok.has x.1 (.inl (hfr x hx e));rw[hc];rfl
 have hns:s.heap.Ns mainGlobals X.mg:=I.mod.glob.keeps I.bk;have hB:s.heap.BuiltinsAt X.mg P:=let⟨bm,o,h1,h2,h3,h4,h5,h6⟩:=hB;⟨bm,o,h1,h2,h3,h4,I.bk _ _ h5,h6⟩;rcases hls _ hl with e | ⟨c',e,hc'⟩
 .refine PySem.W.kla_makeFunction (U2 hfr) I.ok.glob hns hc (T.hd _ I.kIn) hPs tr e T.ne hB fun c' ctv h' tk xb le lt cr eP=>?_;have szP:P<s.heap.objs.size:=AF hPs;have ncP:c'≠P:=X1 szP le;have nfP:h'.objs.size≠P:=X1 szP (Nat.le_trans le (CT lt));have nfc:h'.objs.size≠c':=X1 lt (Nat.le_refl _);have hnc:H c'=none:=I.hok.fresh le;have hnf:H h'.objs.size=none:=I.hok.fresh (Nat.le_trans le (CT lt));have eO:(h'.push (PySem.W.kla_obj "<lambda>" (X.env.qual ++ "<lambda>") args body scope (F8 X.env.cells scope.names []) ((X.mg "__name__").getD .none) c' ctv)).get? h'.objs.size=some (PySem.W.kla_obj "<lambda>" (X.env.qual ++ "<lambda>") args body scope (F8 X.env.cells scope.names []) ((X.mg "__name__").getD .none) c' ctv):=AW _ rfl;have kk:∀b u,h'.get? b=some u->(h'.push (PySem.W.kla_obj "<lambda>" (X.env.qual ++ "<lambda>") args body scope (F8 X.env.cells scope.names []) ((X.mg "__name__").getD .none) c' ctv)).get? b=some u:=fun b u e=>AD _ e;generalize h'.push (PySem.W.kla_obj "<lambda>" (X.env.qual ++ "<lambda>") args body scope (F8 X.env.cells scope.names []) ((X.mg "__name__").getD .none) c' ctv)=h2 at eO kk⊢;have k:∀b u,b≠P->s.heap.get? b=some u->h2.get? b=some u:=fun b u n e=>kk b u (xb b u n e);have cr2:h2.CodeRec (.ref c') (X.env.qual ++ "<lambda>"):=by
   obtain⟨c1,o,vs,t,e1,ho,hd,hv⟩:=cr;exact⟨c1,o,vs,t,e1,kk _ _ ho,hd,hv⟩
  have eP2:=kk _ _ eP;have u1:upd H P (.tbl (ps ++ #[rawInt pos.line,rawInt pos.col,.ref c'])) c'=none:=by rw[B7 ncP];exact hnc
  have u2:upd (upd H P (.tbl (ps ++ #[rawInt pos.line,rawInt pos.col,.ref c']))) c' (CodeO c' (X.env.qual ++ "<lambda>")) h'.objs.size=none:=by rw[B7 nfc,B7 nfP];exact hnf
  have hok2:=((I.hok.table hP k eP2).track u1 (CodeO.ok cr2)).track u2 (LamO.ok eO);have hp':upd (upd (upd H P (.tbl (ps ++ #[rawInt pos.line,rawInt pos.col,.ref c']))) c' (CodeO c' (X.env.qual ++ "<lambda>"))) h'.objs.size (LamO h'.objs.size c' (X.env.qual ++ "<lambda>") args body scope (F8 X.env.cells scope.names [])) P=some (.tbl (ps ++ #[rawInt pos.line,rawInt pos.col,.ref c'])):=by rw[B7 nfP.symm,B7 ncP.symm,A7]
  have hc2:upd (upd (upd H P (.tbl (ps ++ #[rawInt pos.line,rawInt pos.col,.ref c']))) c' (CodeO c' (X.env.qual ++ "<lambda>"))) h'.objs.size (LamO h'.objs.size c' (X.env.qual ++ "<lambda>") args body scope (F8 X.env.cells scope.names [])) c'=some (CodeO c' (X.env.qual ++ "<lambda>")):=by rw[B7 nfc.symm,A7]
  have old:∀b o,H b=some o->b≠P->upd (upd (upd H P (.tbl (ps ++ #[rawInt pos.line,rawInt pos.col,.ref c']))) c' (CodeO c' (X.env.qual ++ "<lambda>"))) h'.objs.size (LamO h'.objs.size c' (X.env.qual ++ "<lambda>") args body scope (F8 X.env.cells scope.names [])) b=some o:=fun b o e n=>by
   rw[B7 (B4 e hnf),B7 (B4 e hnc),B7 n];exact e
  refine⟨.ref h'.objs.size,_,I.un (Un.more hP hp' old (fun b lb n=>?_) k ⟨_,eP2⟩) hok2,rfl,q _ c' _ hnf ⟨_,hp',?_,fun l ml=>?_⟩ hc2 A7 nfP old⟩
  .rw[B7 (X1 lb (Nat.le_trans le (CT lt))).symm,B7 (X1 lb le).symm,B7 (by intro z;rw[z,hP]at n;cases n)];exact n
  .rw[BI];exact TriplesOk_snoc _ _ _ _ tr
  .rw[BI];by_cases el:l =(pos,X.env.qual ++ "<lambda>")
   .subst el;exact .inr ⟨c',codeAmong_snoc _ tr e,hc2⟩
   .have ne:¬(pos.line=l.1.line/\pos.col=l.1.col):=fun z=>el (hu l ml _ hl z.1.symm z.2.symm);rw[show(#[rawInt pos.line,rawInt pos.col,Value.ref c']:Array Value).toList = [rawInt pos.line,rawInt pos.col,Value.ref c']from rfl,i7 _ tr ne];rcases hls l ml with z | ⟨cc,z,hz⟩
    .exact .inl z
    .exact .inr ⟨cc,z,old _ _ hz fun y=>by rw[y,hP]at hz;cases hz⟩
 .refine PySem.W.kla_makeFunctionHit (U2 hfr) I.ok.glob hns hc (T.hd _ I.kIn) hPs tr e hB fun ctv h' tk k le=>?_;have szP:P<s.heap.objs.size:=AF hPs;have nfP:h'.objs.size≠P:=X1 szP le;have hnf:H h'.objs.size=none:=I.hok.fresh le;have old:∀b o,H b=some o->upd H h'.objs.size (LamO h'.objs.size c' (X.env.qual ++ "<lambda>") args body scope (F8 X.env.cells scope.names [])) b=some o:=fun b o e=>by rw[B7 (B4 e hnf)];exact e
  refine⟨.ref h'.objs.size,_,I.laid (t':=tk) (fun b u e=>AD _ (k b u e)) le (LamO.ok (AW _ rfl)),rfl,q _ c' _ hnf ⟨ps,old _ _ hP,tr,fun l ml=>?_⟩ (old _ _ hc') A7 nfP fun b o e _=>old b o e⟩;rcases hls l ml with z | ⟨cc,z,hz⟩
  .exact .inl z
  .exact .inr ⟨cc,z,old _ _ hz⟩
structure CellsIn(X:Cx)(base':Heap)(σ:St):Prop where
 val:∀(i:Nat) (x:Str) (v:V) (c:Addr),X.N[i]?=some x->σ[i]?=some (some v)->X.env.scope.names.lookup x=some .cell->X.env.cells.lookup x=some c->∃u,RelV v u/\base'.IsCell c (some u)
 inj:∀x y c,X.env.cells.lookup x=some c->X.env.cells.lookup y=some c->x=y
 has:∀x,X.env.scope.names.lookup x=some .cell->∃c,X.env.cells.lookup x=some c
def x4(X:Cx)(h:Heap):Heap:=Mh h fun b=>open Classical in if(X.base.get? b).isSome=true\/∃x,X.fn x=true/\X.env.cells.lookup x=some b then none else some (.own 0)
theorem Dp{h:Heap}{b:Addr}{o:Obj}(e:h.get? b=some o)(p:(X.base.get? b).isSome=true\/∃x,X.fn x=true/\X.env.cells.lookup x=some b):(x4 X h).get? b=some o:=a7 e (by rw[AZ p])
theorem Gg{h:Heap}{b:Addr}{o:Obj}(e:(x4 X h).get? b=some o):h.get? b=some o/\((X.base.get? b).isSome=true\/∃x,X.fn x=true/\X.env.cells.lookup x=some b):=by
 obtain⟨e1,e2⟩:=La e;refine⟨e1,Classical.byContradiction fun z=>?_⟩;rw[AR z]at e2;cases e2
variable{pins:List (Addr×Obj)}{σ:St}{H:Hp}{s:Shared}
theorem Inv.wbs(I:Inv X pins σ H s){b:Addr}{o:Obj}(e:X.base.get? b=some o):(x4 X s.heap).get? b=some o:=Dp (I.bk b o e) (.inl (by rw[e];rfl))
theorem Inv.wmod(I:Inv X pins σ H s):Mod X.K X.mg (x4 X s.heap):=by
 obtain⟨kin,glob,⟨mb,hb,hbb⟩,lim⟩:=I.ok.mod;exact⟨kin.keeps fun b o e=>I.wbs e,glob.keeps fun b o e=>I.wbs e,⟨mb,hb.keeps fun b o e=>I.wbs e,hbb⟩,lim.keeps fun b o e=>I.wbs e⟩
theorem Inv.cell_nofs(I:Inv X pins σ H s){x:Str}{c:Addr}(hf:X.fn x=true)(e:X.env.cells.lookup x=some c):c∉frs X.stack:=fun z=>by
 rcases AS.mp (I.stkSub c z)with y | y
 .exact I.cne x c e y
 .obtain⟨_,o,ho,_⟩:=I.ok.funs.mem y;exact absurd (AF ho) (Nat.not_lt_of_le (I.ok.cab x c hf e))
theorem Inv.wfuns(I:Inv X pins σ H s):s.heap.FunFrames (x4 X s.heap) X.stack:=by
 have all:∀l:List Env,(∀b∈frs l,b∈frs X.stack)->s.heap.FunFrames X.base l->s.heap.FunFrames (x4 X s.heap) l:=by
  intro l
  induction l with
  | nil=>intro _ _;trivial
  | cons env r ih =>
   intro hs hl;obtain⟨hk,⟨L,o,hf,hn,ho,hd⟩,hr⟩:=hl;have hL:L∈frs X.stack:=hs L (by unfold frs;rw[CW,hf];exact BB);refine⟨hk,⟨L,o,hf,?_,ho,hd⟩,ih (fun b hb=>hs b (by unfold frs;rw[CW,hf];exact AQ _ hb)) hr⟩;cases q:(x4 X s.heap).get? L with
   | none=>rfl
   | some u =>
    rcases(Gg q).2 with z | ⟨x,z,y⟩
    .rw[hn]at z;cases z
    .exact absurd hL (I.cell_nofs z y)
 exact all X.stack (fun _ h=>h) I.stack
theorem Inv.wenv(I:Inv X pins σ H s):Env0 X.prog X.w X.K X.mg (x4 X s.heap) X.A X.stack s H:=by
 refine⟨I.ok.frames,I.wmod,fun b o e=>?_,Nat.le_of_eq (Ec _ _),I.wfuns,I.stkFree,I.hok,I.bare⟩;obtain⟨e1,e2⟩:=Gg e;refine⟨e1,?_⟩;rcases e2 with z | ⟨x,_,y⟩
 .obtain⟨u,hu⟩:=CK.mp z;exact(I.bs b u hu).2
 .exact I.freeC x b y
theorem Inv.wcells(I:Inv X pins σ H s)(hf:∀x,X.fn x=true):CellsIn X (x4 X s.heap) σ:=by
 refine⟨fun i x v c e1 e2 e3 e4=>?_,I.ok.inj,fun x h=>I.ok.has x (.inl h)⟩;obtain⟨m,_,h⟩:=I.loc;obtain⟨u,r,l⟩:=h i x v e1 e2 (.inr (.inl e3));refine⟨u,r,?_⟩;rcases l with⟨z,_⟩ | ⟨_,c',e5,o,ho,hd⟩
 .rw[show X.env.kindOf x=some .cell from e3]at z;cases z
 .rw[e4]at e5;cases e5;exact⟨o,Dp ho (.inr ⟨x,hf x,e4⟩),hd⟩
end
def Tu(X:Cx)(k:Nat)(f:Addr)(fd:FuncData)(ps:List Str)(t:TA):TE:=fun σ H Q=>t σ H fun vs H1=>∀base':Heap,CellsIn X base' σ->X.K.In base'->∃sp:Sp,FnOk X.prog X.w X.K X.mg base' CX0 k f fd ps sp/\sp vs H1 Q E0
section
variable{X:Cx}{k:Nat}{x:Str}{st:Stmt}{ps:List Str}{e:Expr}{es:List Expr}{t:TA}{p pos:Pos}
theorem Gj(hf:∀x,X.fn x=true)(D:Fn X.K X.mg x st ps)(hr:Room k X.A)(ha:PA X (e::es) t)(hg:Gl X x:=by rfl)(hdb:(x ==("__debug__":Str))=false:=by decide)
  (he:starEach (e::es) X.env =(false,eval e X.env)::starEach es X.env:=by rfl) (hpl:(backTo pos (starEach es X.env)).any (·.1)=false:=by rfl) :
  PE X (.Call (.Name x p) (e::es) [] pos) (Tu X k D.f D.fd ps t):=by
 intro pins s σ H Q I h;refine DC (X0 I hg D.m ?_ hdb);refine PySem.W.callWith_K (h₀:=X.base) I.ok.mod.kin D.F.kp (thn (ha pos pins s σ H _ I h) fun us s1 ⟨vs,H1,I1,r,q⟩=>⟨I1.kIn,?_⟩) he hpl;obtain⟨sp,F,hsp⟩:=q (x4 X s1.heap) (I1.wcells hf) I1.wmod.kin;have hl:us.length=ps.length:=by rw[<-r.length];exact F.len _ _ _ _ hsp
 have hb:=D.b s1 us I1.kIn (by rw[CQ];exact hl);rw[CQ]at hb;refine FF (EK (F.run X.A X.stack s1 H1 ⟨us,[]⟩ us vs Q E0 hr I1.wenv hb r hsp) fun r s' hq=>?_);cases r with
 | error e=>exact hq.elim
 | ok fl =>
  cases fl with
  | ret u=>exact I1.after hq
  | next=>exact False.elim hq
  | brk=>exact False.elim hq
  | cont=>exact False.elim hq
end
structure LamScope(N ps fr:List Str)(sc:Scope):Prop where
 kind:sc.kind = .function
 co:sc.isCoroutine=false
 gen:sc.isGenerator=false
 eq:N=ps++fr
 nd:N.Nodup
 par:∀x∈ps,sc.names.lookup x=some .local
 fre:∀x∈fr,sc.names.lookup x=some .free
 nocell:∀y∈sc.names,y.2≠ .cell
 has:∀y∈sc.names,y.2 = .free->y.1∈fr
def Iy(P:Program)(w:World)(K:PySem.W.Frag)(mg:Str->Option Value)(base:Heap)(N:List Str)(qual:Str)(scope:Scope)(f:Addr)(cd:Value)(cl:List (Str×Addr))(A:Around)(outer:List Env)(s:Shared)(H:Hp):Cx where
 prog:=P
 w:=w
 K:=K
 mg:=mg
 base:=base
 A:=A.deeper (PySem.W.envX qual scope s.heap.objs.size f cd cl)
 N:=N
 s₀:=s
 H₀:=H
 env:=PySem.W.envX qual scope s.heap.objs.size f cd cl
 outer:=outer
 stack:=PySem.W.envX qual scope s.heap.objs.size f cd cl::outer
 ex:=[]
 calm:=true
 fn:=fun _=>false
 pn:=[]
 xe:=fun _ _=>False
theorem Ae{us:List Value}:∀{ps:List Str} {us:List Value} {i:Nat} {x:Str} {u:Value},ps.Nodup->ps[i]?=some x->us[i]?=some u->(ps.zip us).reverse.lookup x=some u
 | [],_,_,_,_,_,h,_=>by simp at h
 | _::_,[],_,_,_,_,_,h=>by simp at h
 | p::ps,w::us,0,x,u,nd,h1,h2=>by
  simp at h1 h2;subst h1 h2;rw[List.zip_cons_cons,List.reverse_cons,List.lookup_append];have:(ps.zip us).reverse.lookup p=none:=by
   rw[List.lookup_eq_none_iff];intro q hq;have:=(FR (List.mem_reverse.mp hq)).1;simp;intro e;exact(BP.mp nd).1 (e▸this)
  rw[this];simp
 | p::ps,w::us,i+1,x,u,nd,h1,h2=>by
  rw[List.zip_cons_cons,List.reverse_cons,List.lookup_append,Ae (us:=us) (BP.mp nd).2 (by simpa using h1) (by simpa using h2)];rfl
section
variable{P:Program}{w:World}{K:PySem.W.Frag}{mg:Str->Option Value}{base:Heap}{N ps fr:List Str}{qual:Str}{scope:Scope}{f c:Addr}{cl:List (Str×Addr)}{A:Around}{outer:List Env}{s:Shared}{H:Hp}
structure ClosV(base:Heap)(cl:List (Str×Addr))(fr:List Str)(gs:List V):Prop where
 len:gs.length=fr.length
 val:∀(i:Nat) (x:Str) (v:V),fr[i]?=some x->gs[i]?=some v->∃c u,cl.lookup x=some c/\RelV v u/\base.IsCell c (some u)
 only:∀x c,cl.lookup x=some c->x∈fr
 inj:∀x y c,cl.lookup x=some c->cl.lookup y=some c->x=y
theorem Qf{us:List Value}{vs gs:List V}{h':Heap}{tk:Nat}(S:LamScope N ps fr scope)(C:ClosV base cl fr gs)(hd:A.handled=none)(e0:Env0 P w K mg base A outer s H)(hl:vs.length=ps.length)(r:Vals vs us)
  (ns:h'.Ns s.heap.objs.size fun x=>(ps.zip us).reverse.lookup x) (k:∀b o,s.heap.get? b=some o->h'.get? b=some o) :
  Inv (Iy P w K mg base N qual scope f (.ref c) cl A outer s H) [] (vs.map some++gs.map some) H { s with heap:=h',toks:=tk }:=by
 have cell:∀x d,cl.lookup x=some d->∃u o,base.get? d=some o/\o.data = .cell (some u):=fun x d e=>by
  obtain⟨i,hi⟩:=List.mem_iff_getElem?.mp (C.only x d e);have li:i<gs.length:=by rw[C.len];exact(AM.mp hi).1
  obtain⟨d',u,e',_,o,ho,hd⟩:=C.val i x gs[i] hi (AJ li);rw[e]at e';cases e';exact⟨u,o,ho,hd⟩
 have noA:∀b:Addr,b∉(Iy P w K mg base N qual scope f (.ref c) cl A outer s H).ex:=fun b z=>absurd (show b∈([]:List Addr)from z) (by simp);refine⟨⟨e0.mod,S.kind,rfl,rfl,Nat.le_refl _,C.inj,fun y hy=>?_,fun y d z _=>?_,fun _=>hd,Around.frames_deeper e0.frames,.inr ⟨rfl,rfl⟩,fun b z=>absurd z (noA b),e0.bs,e0.bsz,fun b _ _=>noA b,fun b z=>absurd z (noA b),e0.funs,e0.frf⟩,
  rfl,e0.bare,Un.kept k,⟨_,ns,fun i y v h1 h2 h3=>?_⟩,fun y d h=>?_,e0.hok.fresh (Nat.le_refl _),fun y d h=>?_,fun p hp=>absurd (show p∈([]:List (Addr×Obj))from hp) (by simp),e0.hok.kept k,?_⟩
 .have hy:scope.names.lookup y=some .cell\/scope.names.lookup y=some .free:=hy;rcases hy with hy | hy
  .exact absurd rfl (S.nocell _ (PySem.mem_of_lookup hy))
  .obtain⟨i,hi⟩:=List.mem_iff_getElem?.mp (S.has _ (PySem.mem_of_lookup hy) rfl);have li:i<gs.length:=by rw[C.len];exact(AM.mp hi).1
   obtain⟨d',_,e',_⟩:=C.val i y gs[i] hi (AJ li);exact⟨d',e'⟩
 .cases(show false=true from z)
 .have h1:(ps++fr)[i]?=some y:=by rw[<-S.eq];exact h1
  have nd:(ps++fr).Nodup:=by rw[<-S.eq];exact S.nd
  by_cases li:i<vs.length
  .rw[DP (by rw[AB];exact li),AG]at h2;rw[DP (by omega)]at h1;obtain⟨v',hv,e⟩:=BC.mp h2;cases e;obtain⟨u,hu,rv⟩:=r.get hv;exact⟨u,rv,.inl ⟨S.par y (AH h1),Ae (us:=us) (CC.mp nd).1 h1 hu⟩⟩
  .rw[DI (by rw[AB];omega),AG,AB]at h2;rw[DI (by omega)]at h1;obtain⟨v',hv,e⟩:=BC.mp h2;cases e;rw[hl]at hv;obtain⟨d,u,e1,rv,o,ho,hd⟩:=C.val _ y v h1 hv;exact⟨u,rv,.inr ⟨.inr (S.fre y (AH h1)),d,e1,o,k _ _ (e0.bs _ _ ho).1,hd⟩⟩
 .obtain⟨u,o,ho,hd⟩:=cell y d h;exact⟨_,o,k _ _ (e0.bs _ _ ho).1,hd⟩
 .obtain⟨u,o,ho,hd⟩:=cell y d h;exact(e0.bs _ _ ho).2
 .show _=N.length;rw[S.eq,BA,AB,AB,BA,hl,C.len]
theorem Ts{args:Arguments}{body:Expr}{k:Nat}{gs:List V}{sp:Sp}{pm ct:Value}(S:LamScope N ps fr scope)(C:ClosV base cl fr gs)(len:∀vs H Q E,sp vs H Q E->vs.length=ps.length)
  (at_:∀vs H Q E,sp vs H Q E->H f=some (LamO f c qual args body scope cl)/\H c=some (CodeO c qual))
  (hbody:∀(A:Around) (outer:List Env) (s:Shared) (H:Hp) (vs:List V) (Q:VK) (E:XK),Room k (A.deeper (PySem.W.envX qual scope s.heap.objs.size f (.ref c) cl))->sp vs H Q E ->
   ∃t,PE (Iy P w K mg base N qual scope f (.ref c) cl A outer s H) body t/\t (vs.map some++gs.map some) H Q) :
  FnOk P w K mg base CX0 (k+1) f (PySem.W.kla_fn "<lambda>" qual args body scope cl pm (.ref c) ct) ps sp:=by
 refine⟨len,fun A outer s H bargs us vs Q E hr e0 hb r hsp=>?_⟩;have hl:=len _ _ _ _ hsp;obtain⟨hf,hc⟩:=at_ _ _ _ _ hsp;obtain⟨⟨pm',ct',ef⟩,_⟩:=(show ObjOk P w H s.heap f (LamO f c qual args body scope cl)from e0.hok f _ hf);obtain⟨ec,_⟩:=(show ObjOk P w H s.heap c (CodeO c qual)from e0.hok c _ hc);have lim:s.heap.NoLimit:=e0.mod.nolimit.keeps fun b o e=>(e0.bs b o e).1;have hk:∀y∈ps.zip us,scope.names.lookup y.1=some .local:=fun⟨n,v⟩ hy=>S.par n (FR hy).1;have hb':BindsTo s (PySem.W.kla_fn "<lambda>" qual args body scope cl pm' (.ref c) ct') bargs (ps.zip us):=hb;refine PySem.W.kla_callFunE hr.depth ef rfl S.co S.gen rfl ec (hb' _ _ _ _ ?_);refine wpAny_newFunctionEnv S.nocell hk (fun h' ns sb=>?_) S.kind;have k1:∀b o,s.heap.get? b=some o->h'.get? b=some o:=fun b o e=>by
  rw[sb.2 b (AY (AF e))];exact AD _ e
 refine⟨lim.keeps k1,PySem.W.kla_codeExpr ?_⟩;obtain⟨t,ht,hq⟩:=hbody A outer s H vs Q E (hr.deeper _) hsp;have I:Inv (Iy P w K mg base N qual scope f (.ref c) cl A outer s H) [] (vs.map some++gs.map some) H { s with heap:=h',toks:=s.toks +(ps.zip us).length }:=Qf S C hr.hd e0 hl r ns k1;refine BR (ht [] _ _ H Q I hq) (fun u s' hs=>?_) fun e s' hs=>hs.elim;obtain⟨v,H',J,rv,qv⟩:=hs;exact⟨v,H',J.os,J.bare,J.base,J.hok,rv,qv⟩
theorem Fw{cells:List (Str×Addr)}:∀{names:List (Str×NameKind)} {cs:List (Str×Addr)} {x:Str} {c:Addr},(F8 cells names cs).lookup x=some c->((x,NameKind.free)∈names/\c =(cells.lookup x).getD 0)\/cs.lookup x=some c
 | [],_,_,_,h=>.inr h
 | (n,k)::r,cs,x,c,h=>by
  rcases Fw (names:=r) h with⟨z,e⟩ | z
  .exact .inl ⟨AQ _ z,e⟩
  .by_cases f:(k == NameKind.free)=true
   .rw[AZ f]at z;by_cases e:x=n
    .subst e;rw[List.lookup_cons_self]at z;cases z;exact .inl ⟨by rw[eq_of_beq f];exact BB ..,rfl⟩
    .rw[EN,show(x == n)=false from by simpa using e]at z;exact .inr z
   .rw[AR f]at z;exact .inr z
theorem Gn{cells:List (Str×Addr)}{x:Str}:∀{names:List (Str×NameKind)} {cs:List (Str×Addr)},(x,NameKind.free)∈names\/(∃c,cs.lookup x=some c)->∃c,(F8 cells names cs).lookup x=some c
 | [],_,h=>h.resolve_left (by simp)
 | (n,k)::r,cs,h=>by
  refine Gn (names:=r) ?_;by_cases e:x=n
  .by_cases f:(k == NameKind.free)=true
   .subst e;exact .inr ⟨_,by rw[AZ f,List.lookup_cons_self]⟩
   .rw[AR f];rcases h with z | z
    .rcases AS.mp z with y | y
     .cases y;exact absurd rfl f
     .exact .inl y
    .exact .inr z
  .rcases h with z | ⟨c,z⟩
   .rcases AS.mp z with y | y
    .cases y;exact absurd rfl e
    .exact .inl y
   .refine .inr ⟨c,?_⟩;by_cases f:(k == NameKind.free)=true
    .rw[AZ f,EN,show(x == n)=false from by simpa using e];exact z
    .rw[AR f];exact z
theorem CellsIn.clos{X:Cx}{base':Heap}{σ:St}{fr:List Str}{gs:List V}{names:List (Str×NameKind)}(h:CellsIn X base' σ)(hf:∀y∈names,y.2=NameKind.free->y.1∈fr)(hm:∀x∈fr,(x,NameKind.free)∈names)(hc:∀x∈fr,X.env.scope.names.lookup x=some .cell)(len:gs.length=fr.length)
  (hs:∀(i:Nat) (x:Str) (v:V),fr[i]?=some x->gs[i]?=some v->∃j:Nat,X.N[j]?=some x/\σ[j]?=some (some v)):ClosV base' (F8 X.env.cells names []) fr gs:=by
 have key:∀{x c},(F8 X.env.cells names []).lookup x=some c->x∈fr/\X.env.cells.lookup x=some c:=fun{x c} e=>by
  rcases Fw e with⟨z,y⟩ | z
  .have m:=hf _ z rfl;obtain⟨d,hd⟩:=h.has x (hc x m);rw[hd]at y;rw[hd,y];exact⟨m,rfl⟩
  .cases z
 refine⟨len,fun i x v h1 h2=>?_,fun x c e=>(key e).1,fun x y c e1 e2=>h.inj x y c (key e1).2 (key e2).2⟩;have m:=AH h1;obtain⟨c,e⟩:=Gn (cells:=X.env.cells) (cs:=[]) (.inl (hm x m));obtain⟨j,j1,j2⟩:=hs i x v h1 h2;obtain⟨u,r,ic⟩:=h.val j x v c j1 j2 (hc x m) (key e).2;exact⟨c,u,e,r,ic⟩
end
def FnHere(base:Heap)(H:Hp)(f:Addr):Prop:=PySem.W.FnAt f base\/∃φ,H f=some (.ext φ)/\∀h,φ h->PySem.W.FnAt f h
theorem FnHere.lam{base:Heap}{H:Hp}{f c:Addr}{q:Str}{ps:Arguments}{b:Expr}{sc:Scope}{cl:List (Str×Addr)}(h:H f=some (LamO f c q ps b sc cl)):FnHere base H f:=.inr ⟨_,h,fun h ⟨_,_,e⟩=>⟨_,_,_,_,e⟩⟩
theorem FnHere.def{K:PySem.W.Frag}{base:Heap}{H:Hp}{x qual:Str}{st:Stmt}{f:Addr}{fd:FuncData}(F:Fun K x qual st f fd)(k:K.In base):FnHere base H f:=by
 obtain⟨oc,od,kV,doc,pm,an,cdv,ct,osl,rfl,lk,_⟩:=F.ex;exact .inl ⟨_,_,_,_,k _ _ lk⟩
theorem FnHere.same{base:Heap}{H H':Hp}{f:Addr}(h:FnHere base H f)(s:Same H H'):FnHere base H' f:=h.imp id fun⟨φ,e,p⟩=>⟨φ,s _ _ e,p⟩
def Sv(base:Heap)(i:Nat)(f:Addr)(sp:Sp)(t:TA):TE:=fun σ H Q=>σ[i]?=some (some (.ref f))/\FnHere base H f/\t σ H fun vs H1=>FnHere base H1 f/\sp vs H1 Q E0
section
variable{X:Cx}{k:Nat}{f:Addr}{fd:FuncData}{ps:List Str}{sp:Sp}{x:Str}{e:Expr}{es:List Expr}{t:TA}{p pos:Pos}
theorem Inv.fnAt{pins:List (Addr×Obj)}{σ:St}{H:Hp}{s:Shared}(I:Inv X pins σ H s)(h:FnHere X.base H f):PySem.W.FnAt f s.heap:=by
 rcases h with⟨oc,od,fd,sl,e⟩ | ⟨φ,e,q⟩
 .exact⟨oc,od,fd,sl,I.bk _ _ e⟩
 .exact q _ (show ObjOk X.prog X.w H s.heap f (.ext φ)from I.hok f _ e).1
theorem Mz{i:Nat}(F:FnOk X.prog X.w X.K X.mg X.base CX0 k f fd ps sp)(hr:Room k X.A)(hb:Binds X.K fd ps [])
  (ha:PA X (e::es) t) (hN:X.N[i]?=some x:=by rfl) (hv:Vis X.env.scope x:=by first | exact Or.inl rfl | exact Or.inr (Or.inl rfl) | exact Or.inr (Or.inr rfl)) (hdb:(x ==("__debug__":Str))=false:=by decide) (hcd:(x ==("__classdict__":Str))=false:=by decide)
  (he:starEach (e::es) X.env =(false,eval e X.env)::starEach es X.env:=by rfl) (hpl:(backTo pos (starEach es X.env)).any (·.1)=false:=by rfl) :
  PE X (.Call (.Name x p) (e::es) [] pos) (Sv X.base i f sp t):=by
 intro pins s σ H Q I h;obtain⟨e1,fa,h⟩:=h;refine DC (thn (Jw (i:=i) (pos:=p) hN hv hdb hcd pins s σ H (fun v H'=>v = .ref f/\H'=H) I ⟨_,e1,rfl,rfl⟩) fun u s1 ⟨v,H1,I1,r1,e2,e3⟩=>?_);subst e2 e3;cases r1;refine PySem.W.callWith_F (I1.fnAt fa) (thn (ha pos pins s1 σ H1 _ I1 h) fun us s2 ⟨vs,H2,I2,r,fa2,q⟩=>⟨I2.fnAt fa2,?_⟩) he hpl;exact Ow F hr hb .nil Rt I2 r (by rw[CQ];exact q)
end
theorem Fun.okC{P:Program}{w:World}{K:PySem.W.Frag}{mg:Str->Option Value}{base:Heap}{x qual:Str}{st:Stmt}{f:Addr}{fd:FuncData}{N ps:List Str}{k:Nat}{sp:Sp}(F:Fun K x qual st f fd)(S:FnScope N ps (B6 st))(len:∀vs H Q E,sp vs H Q E->vs.length=ps.length)
  (hbody:∀(cdv:Value) (A:Around) (outer:List Env) (s:Shared) (H:Hp) (vs:List V) (Q:VK) (E:XK),fd.code=cdv->Room k (A.deeper (envOfC qual (B6 st) s.heap.objs.size f cdv))->sp vs H Q E ->
   ∃t,PSs (Mr CX0 P w K mg base N qual (B6 st) f cdv A outer s H E).nox (J4 st) t/\t { nx:=fun _ H'=>Q .non H',rt:=Q } (u8 N vs) H):FnOk P w K mg base CX0 (k+1) f fd ps sp:=by
 obtain⟨oc,od,kV,doc,pm,an,cdv,ct,osl,rfl,lk,hcd⟩:=F.ex;refine Qc lk hcd S len fun A outer s H vs Q E hr hsp=>?_;obtain⟨t,h,q⟩:=hbody cdv A outer s H vs Q E rfl hr hsp;exact⟨t,h.nox,q⟩
theorem Ko{P:Program}{w:World}{K:PySem.W.Frag}{mg mb:Str->Option Value}{k:Nat}{fa a:Addr}{fd:FuncData}{x:Str}{sp:Sp}{s₁:Shared}{vs:List Value}{ns:List Int}{ts:List Addr}
  (hts:∀p∈ts,s₁.heap.get? p=some (PySem.W.tabObj #[])) (hct:∀p∈ts,isCodeTable s₁.heap p) (hbm:∀p∈ts,s₁.heap.BuiltinsAt mg p) (hkt:∀p∈ts,K.lookup p=none)
  (KX:K.In s₁.heap) (hns:s₁.heap.Ns mainGlobals mg) (hb:s₁.heap.Ns builtinsNs mb) (hbb:∀x:Str,x≠ "__name__"->mb x=bootBuiltins x) (hlim:s₁.heap.NoLimit) (hg:s₁.gens = #[])
  (ha:s₁.heap.get? a=some { cls:=.type "list",data:=.seq vs.toArray }) (hi:IntsAre vs ns) (hl:ns.length<=sizeLine) (hr:Room k callerA)
  (F:∀base:Heap,K.In base->base.Ns mainGlobals mg->(∀p∈ts,base.BuiltinsAt mg p)->FnOk P w K mg base CX0 k fa fd [x] sp) (hbind:∀(s:Shared) (u:Value),BindsTo s fd ⟨[u],[]⟩ [(x,u)])
  (hsp:∀H:Hp,(∀p∈ts,H p=some (.tbl #[]))->SqL K H a (ns.map V.int)->sp [.ref a] H (fun v _=>v = .bl true) fun _ _ _=>False) :
  codeAny (model P w) callerA (.call (.ref fa) ⟨[.ref a],[]⟩) (fun r s'=>r = .ok (.ret (.bool true))/\OldK s₁.heap s'.heap/\s'.os=s₁.os/\AllBare s'.gens) s₁:=by
 have rv:=Cs hi;have nat:a∉ts:=fun z=>by
  have:=hts a z;rw[ha]at this;cases this
 obtain⟨H,hT,hS,hO,ok,hK⟩:∃H:Hp,(∀p∈ts,H p=some (.tbl #[]))/\SqL K H a (ns.map V.int)/\(∀b o,H b=some o->(b∈ts/\o = .tbl #[])\/(b=a/\∃ob xs,o = .frz ob (.lst xs)))/\HOk P w H s₁.heap/\∀b,H b≠none->K.lookup b=none:=by
  cases hk:K.lookup a with
  | some o =>
   have e:=KX a o hk;rw[ha]at e;cases e;refine⟨fun b=>if b∈ts then some (.tbl #[])else none,fun p hp=>AZ hp,.inr ⟨_,vs.toArray,_,hk,rfl,rfl,rfl,by rw[AN,hi.length];exact hl,by simpa using rv⟩,fun b o e=>?_,fun b o e=>?_,fun b e=>?_⟩
   .dsimp only at e;by_cases c:b∈ts
    .rw[AZ c]at e;cases e;exact .inl ⟨c,rfl⟩
    .rw[AR c]at e;cases e
   .dsimp only at e;by_cases c:b∈ts
    .rw[AZ c]at e;cases e;exact hts b c
    .rw[AR c]at e;cases e
   .by_cases c:b∈ts
    .exact hkt b c
    .exact absurd (AR c) e
  | none =>
   refine⟨fun b=>if b=a then some (.frz { cls:=.type "list",data:=.seq vs.toArray } (.lst (ns.map V.int)))else if b∈ts then some (.tbl #[])else none,fun p hp=>?_,.inl (.inr ⟨{ cls:=.type "list",data:=.seq vs.toArray },AZ rfl⟩),fun b o e=>?_,fun b o e=>?_,fun b e=>?_⟩
   .show(if p=a then _ else if p∈ts then _ else _)=_;have np:p≠a:=fun z=>nat (z▸hp);rw[AR np,AZ hp]
   .dsimp only at e;by_cases d:b=a
    .rw[AZ d]at e;cases e;exact .inr ⟨d,_,_,rfl⟩
    .rw[AR d]at e;by_cases c:b∈ts
     .rw[AZ c]at e;cases e;exact .inl ⟨c,rfl⟩
     .rw[AR c]at e;cases e
   .dsimp only at e;by_cases d:b=a
    .rw[AZ d]at e;cases e;subst d;exact⟨ha,by rw[AB];exact hl,vs,_,rv,ha⟩
    .rw[AR d]at e;by_cases c:b∈ts
     .rw[AZ c]at e;cases e;exact hts b c
     .rw[AR c]at e;cases e
   .by_cases d:b=a
    .rw[d];exact hk
    .by_cases c:b∈ts
     .exact hkt b c
     .exact absurd ((AR d).trans (AR c)) e
 have nod:∀{b:Addr} {o:Obj} {es:Array DictEntry} {ep:Nat},s₁.heap.get? b=some o->o.data = .dict es ep->H b=none:=fun{b o es ep} e d=>by
  cases q:H b with
  | none=>rfl
  | some u =>
   rcases hO b u q with⟨z,_⟩ | ⟨z,_⟩
   .rw[hts b z]at e;cases e;cases d
   .rw[z,ha]at e;cases e;cases d
 have nsK:∀{b:Addr} {m:Str->Option Value},s₁.heap.Ns b m->(Mh s₁.heap H).Ns b m:=fun{b m} ⟨o,es,ep,e,d,r⟩=>⟨o,es,ep,a7 e (nod e d),d,r⟩;have hBb:∀p∈ts,(Mh s₁.heap H).BuiltinsAt mg p:=fun p hp=>by
  obtain⟨bm,o,h1,h2,h3,h4,h5,h6,h7,h8⟩:=hbm p hp;refine⟨bm,o,h1,h2,h3,h4,a7 h5 ?_,h6,h7,h8⟩;cases q:H bm with
  | none=>rfl
  | some u =>
   rcases hO bm u q with⟨z,_⟩ | ⟨z,_⟩
   .rw[hts bm z]at h5;cases h5;cases h8
   .rw[z,ha]at h5;cases h5;cases h8
 have hKb:K.In (Mh s₁.heap H):=fun b o e=>a7 (KX b o e) (by
  cases q:H b with
  | none=>rfl
  | some u=>rw[hK b (by rw[q];simp)]at e;cases e)
 have hM:Mod K mg (Mh s₁.heap H):=⟨hKb,nsK hns,⟨mb,nsK hb,hbb⟩,let⟨mc,h1,h2⟩:=hlim;⟨mc,nsK h1,h2⟩⟩;have e0:Env0 P w K mg (Mh s₁.heap H) callerA [] s₁ H:=⟨rfl,hM,fun b o e=>La e,Nat.le_of_eq (Ec _ _),trivial,fun b hb=>absurd (show b∈([]:List Addr)from hb) (by simp),ok,.of_eq hg⟩;refine EK ((F _ hKb (nsK hns) hBb).run callerA [] s₁ H ⟨[.ref a],[]⟩ [.ref a] [.ref a] _ _ hr e0 (hbind s₁ (.ref a)) (.cons rfl .nil) (hsp H hT hS)) fun r s' h=>?_;cases r with
 | error e=>exact h.elim
 | ok fl =>
  cases fl with
  | next=>exact False.elim h
  | brk=>exact False.elim h
  | cont=>exact False.elim h
  | ret u =>
   obtain⟨v,H',os,bare,un,ok',r',q⟩:=h;have q':v = .bl true:=q;subst q';obtain rfl:u=Value.bool true:=r';refine⟨rfl,⟨fun b o e=>?_,fun b o e=>un.there b o e (by simp)⟩,os,bare⟩;cases q:H b with
   | none=>exact .inl (un.keep b o e q (fun z=>absurd (show b∈([]:List Addr)from z) (by simp)) (by simp))
   | some u =>
    rcases hO b u q with⟨z,rfl⟩ | ⟨_,ob,xs,rfl⟩
    .obtain⟨more,em⟩:=un.tbls b _ q;have e2:s'.heap.get? b=some { cls:=.none,data:=.fields (#[]++more) }:=ok' b _ em;rw[hts b z]at e;cases e;exact .inr (.inl ⟨hct b z,rfl,#[],more,rfl,e2⟩)
    .obtain⟨e1,_⟩:=ok b _ q;obtain⟨e2,_⟩:=ok' b _ (un.frzs b ob _ q);rw[e]at e1;cases e1;exact .inl e2
theorem walk_ofT{l:PySem.W.OpenLaw}{n k:Nat}{q:Program}{loose:List Str}{XP:(Str->Option Value)->Heap->Prop}{YP:World->Heap->Prop}{d:DefRec}{K:Params->PySem.W.Frag}{sp:World->Sp}{x:Str}{ts:List Addr}
  (hn:l.most=some n) (hn2:n<=sizeLine) (hdf:d.params.defaults = []) (hr:Room k callerA) (hY:∀(w:World) (h:Heap),YP w h->(K w.params).In h) (hYt:∀(w:World) (h:Heap),YP w h->∀p∈ts,h.get? p=some (PySem.W.tabObj #[]))
  (F:∀(w:World) (mg:Str->Option Value) (fa:Addr) (h:Heap),(K w.params).In h->h.Ns mainGlobals mg->mg d.name=some (.ref fa) ->
   (∀p∈ts,isCodeTable h p)/\(∀p∈ts,(K w.params).lookup p=none)/\∃fd:FuncData,(∀(s:Shared) (u:Value),BindsTo s fd ⟨[u],[]⟩ [(x,u)]) /\
    ∀base:Heap,(K w.params).In base->base.Ns mainGlobals mg->(∀p∈ts,base.BuiltinsAt mg p)->FnOk l.prog w (K w.params) mg base CX0 k fa fd [x] (sp w))
  (hsp:∀(w:World) (H:Hp) (a:Addr) (ns:List Int),ns.length<=n->(∀p∈ts,H p=some (.tbl #[]))->SqL (K w.params) H a (ns.map V.int)->sp w [.ref a] H (fun v _=>v = .bl true) fun _ _ _=>False) :
  PySem.W.WalkO q loose XP YP l.row.toRowW d [] (fun f vs=>PySem.call f vs):=by
 refine Att.attach_call hn hdf fun w s₀ s₁ mg mb fa o pm cd doc a vs ns G Y ho hd hcd hmg hobj hints hlen hg=>?_;have KX:=hY w _ Y;obtain⟨h1,h2,fd,hb,hF⟩:=F w mg fa _ KX G.T.g hmg;have hbm:∀p∈ts,s₁.heap.BuiltinsAt mg p:=fun p hp=>by
  obtain⟨bm,o,b1,b2,b3,b4,b5,b6⟩:=G.T.bmain;refine⟨bm,o,b1,b2,fun z=>?_,fun z=>?_,b3,b4,b5,b6⟩
  .obtain⟨o',es,ep,e1,e2,_⟩:=G.T.g;rw[<-z,b3]at e1;cases e1;rw[b6]at e2;cases e2
  .have:=hYt w _ Y p hp;rw[<-z,b3]at this;cases this;cases b6
 exact Ko (hYt w _ Y) h1 hbm h2 KX G.T.g G.T.b G.T.builtins G.T.nolimit hg hobj hints (Nat.le_trans hlen hn2) hr hF hb fun H hO hS=>hsp w H a ns hlen hO hS
section
variable{X:Cx}
theorem Rq(w:World)(hw:X.w=w:=by rfl):F9 X (.builtin "len") (fun xs H Q=>∃(a:Addr) (ss:List Str),xs = [V.ref a]/\H a=some (V3 w a ss)/\Q (.int ss.length) H):=by
 subst hw;intro pins s σ H xs us Q I r h;obtain⟨a,ss,rfl,ha,q⟩:=h;obtain⟨u,rfl,ru⟩:=Z4 r;cases ru;obtain⟨o,es,ep,t,S,T⟩:=I.setw ha;have el:es.size=ss.length:=by
  have:=T.pm.length_eq;rw[AB]at this;rw[<-AV];exact this
 refine call_len_set S.ho S.ex S.hd S.ft (by have:=S.few;omega) ?_;exact⟨.int ss.length,H,I.tok _,⟨_,by rw[el]⟩,q⟩
end
section
variable{X:Cx}{k:Nat}{f:Addr}{fd:FuncData}{ps:List Str}{sp:Sp}{x:Str}{p pos:Pos}{e:Expr}{es:List Expr}{t:TA}
theorem Cu{i:Nat}(nox:∀e s,¬X.xe e s)(F:FnOk X.prog X.w X.K X.mg X.base (CXe X.prog X.w) k f fd ps sp)(hr:Room k X.A)(hk:PySem.W.keepIn X.K (.ref f)=true)(hb:Binds X.K fd ps [])
  (ha:PA X (e::es) t) (hN:X.N[i]?=some x:=by rfl) (hv:Vis X.env.scope x:=by first | exact Or.inl rfl | exact Or.inr (Or.inl rfl) | exact Or.inr (Or.inr rfl)) (hdb:(x ==("__debug__":Str))=false:=by decide) (hcd:(x ==("__classdict__":Str))=false:=by decide)
  (he:starEach (e::es) X.env =(false,eval e X.env)::starEach es X.env:=by rfl) (hpl:(backTo pos (starEach es X.env)).any (·.1)=false:=by rfl) :
  PEx X (.Call (.Name x p) (e::es) [] pos) (fun E=>Tk i f sp E t):=by
 intro pins s σ H Q E I h;obtain⟨e1,h⟩:=h;refine DC (BR (Jw (i:=i) (pos:=p) hN hv hdb hcd pins s σ H (fun v H'=>v = .ref f/\H'=H) I ⟨_,e1,rfl,rfl⟩) (fun u s1 ⟨v,H1,I1,r1,e2,e3⟩=>?_) fun _ _ z=>(nox _ _ z).elim);subst e2 e3;cases r1;refine PySem.W.callWith_K (h₀:=X.base) I1.ok.mod.kin hk (BR (ha pos pins s1 σ H1 _ I1 h) (fun us s2 ⟨vs,H2,I2,r,q⟩=>⟨I2.kIn,?_⟩) fun _ _ z=>(nox _ _ z).elim) he hpl;have q:sp vs H2 Q E:=by
  have:sp (vs ++ []) H2 Q E:=q
  rwa [CQ]at this
 have hl:us.length=ps.length:=by rw[<-r.length];exact F.len _ _ _ _ q
 have bd:=hb s2 us I2.kIn (by rw[CQ];exact hl);rw[CQ]at bd;refine FF (EK (F.run X.A X.stack s2 H2 ⟨us,[]⟩ us vs Q E hr I2.env0 bd r q) fun r s' hq=>?_);cases r with
 | error e=>exact⟨_,_,I2,hq⟩
 | ok fl =>
  cases fl with
  | ret u=>exact I2.after hq
  | next=>exact False.elim hq
  | brk=>exact False.elim hq
  | cont=>exact False.elim hq
end
section
variable{X:Cx}{tg iter elt:Expr}{ifs:List Expr}{scope:Scope}{cl:List (Str×Addr)}{N':List Str}{cap:List (Option Nat)}{wi:TI}{pos:Pos}
theorem Hn{e:Expr}{gs:List Comprehension}{newAcc:Sem Value}{p2:Pos}{use:Option (Value->Sem Unit)}{Qv:Value->Shared->Prop}(hcl:clausesOf e =⟨tg,iter,ifs,0⟩::gs)(o:Addr->HO)(hs:∀x,foldedSetIterable iter X.env x=pure x)(S:DScope X scope cl N' cap)(hc:X.calm=true)(hi:PI X tg iter wi)
  {lp:Addr->It->St->Hp->(St->Hp->Prop)->Prop}
  (hnew:∀(pins:List (Addr×Obj)) (s:Shared) (σ:St) (H:Hp) (Q:Value->Shared->Prop) (E:Value->Shared->Prop),Inv X pins σ H s->(∀s',Inv X pins σ (upd H s.heap.objs.size (o s.heap.objs.size)) s'->(∀b ob,s.heap.get? b=some ob->s'.heap.get? b=some ob)->Q (.ref s.heap.objs.size) s')->wpAny (model X.prog X.w) X.A newAcc Q E s)
  (hlp:∀(pins:List (Addr×Obj)) (ex:List Addr) (s3:Shared) (H3:Hp) (D it:Addr) (fp:List Addr) (tn:Nat->Heap->Prop) (J:It) (σ:St) (s:Shared) (H:Hp) (Q:St->Hp->Prop) (R:Result->Shared->Prop),
   Turn X.prog X.w X.K tg J fp it tn->Inv (cxD X scope cl N' pins ex s3 H3) [] σ H s->tn 0 s.heap->(∀b∈fp,Z9 (cxD X scope cl N' pins ex s3 H3) [] H b)->lp D J σ H Q ->
   (∀s' σ' H',Inv (cxD X scope cl N' pins ex s3 H3) [] σ' H' s'->Q σ' H'->R (.ok .next) s') ->
   codeAny (model X.prog X.w) X.A (.compLoop e 0 (.ref it) (.ref D) (compEnvC scope (own scope cl s3.heap.objs.size) s3.heap.objs.size X.env)) R s)
  (hun:∀it D env,X.A.under (.compStart e 0 (.ref it) (.ref D) env)=X.A) (hden:∀it D env,(model X.prog X.w).den (.compStart e 0 (.ref it) (.ref D) env) =(compStart e 0 (.ref it) (.ref D) env).onRaise (fun x=>do noteFrame x env;standAt theWindowsPlace))
  {pins:List (Addr×Obj)} {s:Shared} {σ:St} {H:Hp} {Q:V->Hp->Prop} (I:Inv X pins σ H s) (h:Ih wi o cap lp σ H Q)
  (hend:∀(D:Addr) (fp:List Addr) (H2:Hp) (s3 s':Shared) (σ':St) (H':Hp),Inv X pins σ H2 s3->(∀b∈fp,Z9 X pins H2 b)->Inv (cxD X scope cl N' pins fp s3 H2) [] σ' H' s'->Q (.ref D) H'->compPost (model X.prog X.w) X.A X.xe use Qv (.ref D) s3.heap.objs.size (.ok .next) s') :
  wpAny (model X.prog X.w) X.A (comprehension e scope X.env p2 newAcc false (eval iter X.env) use) Qv X.xe s:=by
 refine FN hcl hs S.clos S.kind S.loc (thn (hi pins s σ H _ I h) fun v s1 h1=>thn h1 fun itv s2 h2=>?_);obtain⟨it,fp,tn,J,H2,eit,I2,T,st2,f2,R2⟩:=h2;subst eit;refine hnew pins s2 σ H2 _ _ I2 fun s3 I3 k3=>?_;have hD:H2 s2.heap.objs.size=none:=I2.hok.fresh (Nat.le_refl _);have fok:∀b∈fp,Z9 X pins (upd H2 s2.heap.objs.size (o s2.heap.objs.size)) b/\∃ob,s3.heap.get? b=some ob:=fun b hb=>by
  obtain⟨ob,e,_⟩:=T.obj _ _ st2 b hb;obtain⟨f0,fr⟩:=f2 b hb;exact⟨⟨by rw[B7 (AY (AF e))];exact f0,fr⟩,ob,k3 b ob e⟩
 refine Ha fun bb=>?_;have hk:∀b ob,s3.heap.get? b=some ob->(pushCells (s3.heap.push { cls:=.type "dict",data:=.dict #[] }) scope.names).get? b=some ob:=fun b ob e=>pushCells_keeps _ _ b ob (AD _ e);have hns:(pushCells (s3.heap.push { cls:=.type "dict",data:=.dict #[] }) scope.names).Ns s3.heap.objs.size (fun _=>none):=(Heap.Ns.new s3.heap (.type "dict")).keeps (pushCells_keeps _ _);have ok:=cellsFrom_ok scope.names (s3.heap.push { cls:=.type "dict",data:=.dict #[] }) (s3.heap.objs.size+1) [] ⟨fun _ _ hm=>(nomatch hm),List.Pairwise.nil⟩ (by rw[BW];exact Nat.le_refl _);rw[BW]at ok;generalize pushCells (s3.heap.push { cls:=.type "dict",data:=.dict #[] }) scope.names=h1 at hk hns ok⊢;have I4:Inv (cxD X scope cl N' pins fp s3 (upd H2 s2.heap.objs.size (o s2.heap.objs.size))) [] (Il cap σ) (upd H2 s2.heap.objs.size (o s2.heap.objs.size)) { s3 with heap:=h1,toks:=s3.toks } :=
  I3.blockD S hc fok hns hk ok
 have st4:tn 0 h1:=T.keep 0 _ _ st2 fun b hb ob e=>hk b ob (k3 b ob e);refine X4 (X:=cxD X scope cl N' pins fp s3 (upd H2 s2.heap.objs.size (o s2.heap.objs.size))) (gs:=⟨tg,iter,ifs,0⟩::gs) (e:=e) (d:=0) (tg:=tg) (iter:=iter) (ifs:=ifs) (hun _ _ _) (hden _ _ _) hcl rfl T st4 ?_;refine hlp pins fp s3 _ s2.heap.objs.size it fp tn J (Il cap σ) _ _ _ _ T I4 st4 (fun b hb=>?_) (R2 _ hD) fun s' σ' H' I' q'=>?_
 .obtain⟨⟨f0,f1,f2',f3,f4,f5⟩,ob,eo⟩:=fok b hb;refine⟨f0,AY (AF eo),fun hf=>?_,.inl hb,fun x c e=>?_,fun p hp=>f5 p (by simpa [cxD] using hp)⟩
  .rcases AS.mp (I3.stkSub b hf)with z | z
   .exact f1 z
   .exact f2' z
  .rcases Q6 e with a | ⟨_,a⟩
   .exact Nat.ne_of_gt (AX (AF eo) (DH (ok.empty _ _ (PySem.mem_of_lookup a)).2))
   .exact f4 x c (S.cin.get a)
 .exact hend _ fp _ s3 s' σ' H' I3 (fun b hb=>(fok b hb).1) I' q'
theorem Dd{i:Nat}{x:Str}{pos' cpos:Pos}{g:TG}{tc:TT}{a b:Expr}{ta tb:TE}(hN:X.N.Nodup)(hi:X.N[i]?=some x)(hx:Loc X.env.scope x)(S:DScope X scope cl N' cap)(hc:X.calm=true)(hI:PI X tg iter wi)
  (hb:∀(pins:List (Addr×Obj)) (ex:List Addr) (s3:Shared) (H3:Hp),PG (cxD X scope cl N' pins ex s3 H3) tg g/\PTs (cxD X scope cl N' pins ex s3 H3) ifs tc/\PE (cxD X scope cl N' pins ex s3 H3) a ta/\PE (cxD X scope cl N' pins ex s3 H3) b tb)
  (hs:∀x,foldedSetIterable iter X.env x=pure x:=by intro _;rfl)
  (hsw:swapsWith (.DictComp a b [⟨tg,iter,ifs,0⟩] scope cpos) (some (.Name x pos')) pos.line X.env=pure true:=by rfl)
  (hf:X.fn x=true\/X.env.scope.names.lookup x=some .local:=by first | exact .inl rfl | exact .inr rfl | assumption) :
  PS X (.Assign [.Name x pos'] (.DictComp a b [⟨tg,iter,ifs,0⟩] scope cpos) pos) (Tc (Ih wi (fun _=>.dK []) cap fun D J σ H Q=>Mi g tc (Qh D ta tb) J σ H Q) (Z5 i)):=by
 intro pins s σ H D I h;rw[exec_Assign];refine AA (DX (AA (DY hsw (wpAny_ite_true rfl (AA (AA ?_))))));refine Hn (newAcc:=newDict) (p2:=firstIterPos [⟨tg,iter,ifs,0⟩] cpos) rfl (fun _=>.dK []) hs S hc hI (fun pins s σ H Q E I h=>?_) (fun pins ex s3 H3 D it fp tn J σ s H Q R T I st hf h hR=>?_) (fun _ _ _=>rfl) (fun _ _ _=>rfl) I h fun E fp H2 s3 s' σ' H' I3 fok I' q=>?_
 .refine CG ?_;exact h _ (I.laid (a:=s.heap.objs.size) (o:=.dK []) (t':=s.toks) (fun _ _ q=>AD _ q) (Nat.le_refl _) (Mv s.heap I.big)) fun b ob e=>AD _ e
 .obtain⟨b1,b2,b3,b4⟩:=hb pins ex s3 H3;exact i9 (X:=cxD X scope cl N' pins ex s3 H3) rfl rfl hc rfl (Ik a b tg iter ifs scope cpos _ _ _) b1 b2 (Ng rfl b3 b4) T I st hf h hR
 .have IX:Inv X pins σ H' s':=I3.unblockD fok I' ⟨rfl,fun _ _=>rfl⟩;have fC:Z9 X pins H' s3.heap.objs.size:=I3.fpOk (Nat.le_refl _) I'.free;obtain⟨m,hn,_⟩:=I'.loc;show wpAny _ _ (assign (.Name x pos') X.env (.ref E)) _ _ _;refine wpAny_assign_Name (g8 (v:=.ref E) IX hN hi hx rfl (fun s2 I2 ⟨a,hsb,ha⟩=>?_) hf);have nC:s3.heap.objs.size≠a:=by
   rcases ha with rfl | ha
   .exact fC.2.1
   .exact(fC.2.2.2.2.1 _ _ ha).symm
  refine⟨m,?_,fun h' hsb'=>AE (AE ?_)⟩
  .obtain⟨ob,es,ep,e1,r⟩:=hn;exact⟨ob,es,ep,(hsb.2 _ nC).trans e1,r⟩
  refine⟨_,H',?_,q⟩;have k:∀b ob,b∉[s3.heap.objs.size]->s2.heap.get? b=some ob->h'.get? b=some ob:=fun b ob hb e=>(hsb'.2 b fun z=>hb (AC.mpr z)).trans e;refine I2.step (h':=h') (H':=H') (t':=s2.toks) (g':=s2.gens) (d':=s2.drawn) (ch:=[s3.heap.objs.size]) (fun b hb=>by rw[AC.mp hb];exact⟨fC.2.2.2.1,fC.2.1,fC.2.2.2.2⟩) (fun b ob _ _ hc e _=>k b ob hc e) (fun b ob _ _ hc e _=>⟨ob.slots,k b ob hc e⟩) (fun _ _ _ _ n=>n)
   (fun b ob hc e=>⟨ob,k b ob hc e⟩) (fun _ _ e=>e) (fun _ _ _ e=>e) (fun b ps e=>⟨#[],by rw[e];simp⟩) (fun m hm=>?_) (fun b u eb=>?_) I2.bare
  .obtain⟨ob,es,ep,ho,r⟩:=hm;exact⟨ob,es,ep,k _ ob (fun hb=>fC.2.1 (AC.mp hb).symm) ho,r⟩
  .have nf:∀b u,H' b=some u->b∉[s3.heap.objs.size]:=fun b u e hb=>by rw[AC.mp hb,fC.1]at e;cases e
   refine(I2.hok b u eb).stay (fun c v hc q=>k c v ?_ q) (fun _ q=>q) fun _ _ q=>q;rcases hc with z | z
   .rw[z];exact nf b u eb
   .exact nf c _ z
end
end L2
namespace Sw
open PySem L2
def top(i:Nat):Stmt:=PySem.Challenge.pw_strikeweave_k58_backers_and_hits.main.body.getD i (.Pass ⟨0,0,0,0⟩)
abbrev s_is_number:Stmt:=top 11
abbrev s_is_listed:Stmt:=top 12
abbrev s_is_row_of:Stmt:=top 13
abbrev s_is_name:Stmt:=top 17
abbrev s_reached:Stmt:=top 18
abbrev s_check_part:Stmt:=top 23
abbrev s_begins_of:Stmt:=top 24
abbrev s_names_of:Stmt:=top 25
abbrev s_fits_people:Stmt:=top 26
abbrev s_fits_sayings:Stmt:=top 27
abbrev s_fits_strikes:Stmt:=top 28
abbrev s_fits_backs:Stmt:=top 29
abbrev s_is_fresh:Stmt:=top 30
abbrev s_is_rank:Stmt:=top 31
abbrev s_are_speakers:Stmt:=top 32
abbrev s_row_of:Stmt:=top 34
abbrev s_saying_of:Stmt:=top 35
abbrev s_strike_of:Stmt:=top 36
abbrev s_backers:Stmt:=top 37
abbrev s_hit_by:Stmt:=top 38
abbrev s_law_mix:Stmt:=top 40
abbrev s_law_left:Stmt:=top 41
abbrev s_law_pick:Stmt:=top 42
abbrev s_law_same:Stmt:=top 43
abbrev s_law_many_names:Stmt:=top 44
abbrev s_law_people:Stmt:=top 45
abbrev s_law_speakers:Stmt:=top 46
abbrev s_law_sizes:Stmt:=top 47
abbrev s_law_weave_rows:Stmt:=top 48
abbrev s_law_behind:Stmt:=top 49
abbrev s_law_hits:Stmt:=top 50
abbrev s_law_asked:Stmt:=top 51
abbrev s_law:Stmt:=top 52
abbrev s_BadWeave___init__:Stmt:=Ma (top 4) 0
abbrev s_Weave___init__:Stmt:=Ma (top 22) 0
def Et:Str:=("Weave.__init__":Str) ++ ".<locals>." ++ "<lambda>"
def R0:List (Pos×Str):=[(⟨60,39,60,90⟩,Et),(⟨62,39,62,98⟩,Et),(⟨63,35,63,85⟩,Et)]
structure Tx(K:PySem.W.Frag)(mg:Str->Option Value) where
 aN:Fn K mg "is_number" s_is_number ["thing"]
 aG:Fn K mg "is_listed" s_is_listed ["thing"]
 ar:Fn K mg "is_row_of" s_is_row_of ["thing", "many"]
 a2:Fn K mg "is_name" s_is_name ["thing"]
 aS:Fn K mg "reached" s_reached ["steps", "some"]
 ao:Fn K mg "check_part" s_check_part ["part", "rows", "fits"]
 aO:Fn K mg "begins_of" s_begins_of ["rows"]
 ae:Fn K mg "names_of" s_names_of ["rows"]
 aj:Fn K mg "fits_people" s_fits_people ["ahead", "row"]
 ay:Fn K mg "fits_sayings" s_fits_sayings ["people", "ahead", "row"]
 az:Fn K mg "fits_strikes" s_fits_strikes ["sayings", "goals", "ahead", "row"]
 aJ:Fn K mg "fits_backs" s_fits_backs ["sayings", "ahead", "row"]
 aA:Fn K mg "is_fresh" s_is_fresh ["taken", "thing"]
 a3:Fn K mg "is_rank" s_is_rank ["thing"]
 aB:Fn K mg "are_speakers" s_are_speakers ["names", "thing"]
 aH:Fn K mg "row_of" s_row_of ["rows", "name"]
 al:Fn K mg "saying_of" s_saying_of ["weave", "name"]
 am:Fn K mg "strike_of" s_strike_of ["weave", "name"]
 ag:Fn K mg "backers" s_backers ["weave", "name"]
 aq:Fn K mg "hit_by" s_hit_by ["weave", "name"]
 aT:Fn K mg "_law_mix" s_law_mix ["_law_cell", "_law_k"]
 aV:Fn K mg "_law_left" s_law_left ["_law_script", "_law_k"]
 ac:Fn K mg "_law_pick" s_law_pick ["_law_left_here", "_law_many"]
 ah:Fn K mg "_law_same" s_law_same ["_law_found", "_law_due"]
 as:Fn K mg "_law_many_names" s_law_many_names ["_law_left_here", "_law_many"]
 aK:Fn K mg "_law_people" s_law_people ["_law_left_here", "_law_many"]
 aC:Fn K mg "_law_speakers" s_law_speakers ["_law_left_here", "_law_people_here"]
 aP:Fn K mg "_law_sizes" s_law_sizes ["_law_left_here", "_law_most"]
 au:Fn K mg "_law_weave_rows" s_law_weave_rows ["_law_left_here", "_law_most"]
 aw:Fn K mg "_law_behind" s_law_behind ["_law_rows", "_law_name"]
 aW:Fn K mg "_law_hits" s_law_hits ["_law_rows", "_law_goal"]
 an:Fn K mg "_law_asked" s_law_asked ["_law_ask", "_law_weave", "_law_name"]
 ab:Addr
 ak:Cls K ab
 bD:mg "Weave" = some (.ref ab)
 bx:NoAttr K ab "people"
 ap:NoAttr K ab "sayings"
 aI:NoAttr K ab "strikes"
 a8:NoAttr K ab "backs"
 bq:Addr
 bl:FuncData
 br:Fun K "__init__" "Weave.__init__" s_Weave___init__ bq bl
 bs:Binds K bl ["self", "people", "sayings", "strikes", "backs"] []
 bE:Mk K ab bq
 bJ:Addr
 ad:Addr
 aX:TabAt K mg bJ ad
 bf:bl.code = .ref bJ
 bK:Addr
 bL:List Value
 a6:XC K bK bL
 a7:mg "StrikeError" = some (.ref bK)
 aY:Addr
 bM:List Value
 bN:XC K aY bM
 bj:mg "BadName" = some (.ref aY)
 aL:Addr
 bO:List Value
 bP:XC K aL bO
 bb:mg "BadStrike" = some (.ref aL)
 aQ:Addr
 bQ:List Value
 bR:XC K aQ bQ
 bg:mg "BadWeave" = some (.ref aQ)
 a4:Addr
 bS:List Value
 bT:XC K a4 bS
 bm:mg "BadRow" = some (.ref a4)
 af:Addr
 bn:List Value
 aZ:XC K af bn
 a0:mg "NoName" = some (.ref af)
 aR:Addr
 bU:List Value
 bV:XC K aR bU
 bh:mg "NoStrike" = some (.ref aR)
 a5:Addr
 bW:List Value
 bX:XC K a5 bW
 bo:mg "NoMove" = some (.ref a5)
 a1:Addr
 bY:List Value
 bZ:XC K a1 bY
 bk:mg "TooMany" = some (.ref a1)
 b0:XG K aQ
 b1:IsC K aQ
 b2:(Value.ref aQ::bQ).contains (.ref bK)=true
 b3:PySem.W.kitAny K (.ref aQ) [.ref aY,.ref aL,.ref aQ,.ref a4,.ref aR,.ref a5,.ref a1]=some true
 b4:PySem.W.kitOne K (.ref aQ) (.ref af)=some false
 b5:PySem.W.kitOne K (.ref aQ) (.type "ValueError")=some true
 b6:NoAttr K aQ "part"
 b7:NoAttr K aQ "place"
 b8:Addr
 b9:FuncData
 ca:Fun K "__init__" "BadWeave.__init__" s_BadWeave___init__ b8 b9
 cb:Binds K b9 ["self", "part", "place"] []
 cc:Meth K aQ "__init__" b8
 aD:XG K af
 aE:IsC K af
 aM:(Value.ref af::bn).contains (.ref bK)=true
 bc:PySem.W.kitAny K (.ref af) [.ref aY,.ref aL,.ref aQ,.ref a4,.ref aR,.ref a5,.ref a1]=some false
 bd:PySem.W.kitOne K (.ref af) (.ref af)=some true
 be:PySem.W.kitOne K (.ref af) (.type "ValueError")=some true
 bp:PySem.W.findIn K (.ref af) "__init__" = some (some (.builtin "ValueError.__init__"))
 bC:∃t,mg "LETTERS" = some (.str "abcdefghijklmnopqrstuvwxyz" t)
 bz:∃t,mg "LONGEST_NAME" = some (.int 8 t)
 cd:Addr
 bF:mg "KINDS" = some (.ref cd)
 bG:GTup K cd ["fact", "claim"]
 bw:∃t,mg "GREATEST_RANK" = some (.int 9 t)
 ai:mg "len" = none
 ax:mg "range" = none
 bA:mg "enumerate" = none
 bH:mg "zip" = none
 bI:mg "min" = none
 bB:mg "abs" = none
 aF:mg "sorted" = none
 bt:mg "int" = none
 bi:mg "str" = none
 a9:mg "bool" = none
 av:mg "list" = none
 aU:mg "tuple" = none
 bu:mg "set" = none
 aa:mg "isinstance" = none
 bv:mg "all" = none
 ba:mg "ValueError" = none
end Sw
namespace L2
open PySem
theorem fsc{N ps:List Str}{sc:Scope}(h1:sc.kind = .function:=by rfl)(h2:sc.isCoroutine=false:=by rfl)(h3:sc.isGenerator=false:=by rfl)(h4:N.Nodup:=by decide +kernel)(h5:N.take ps.length=ps:=by rfl)(h6:∀x∈ps,sc.names.lookup x=some .local\/sc.names.lookup x=some .cell:=by decide +kernel)(h7:∀y∈sc.names,y.2≠ .free:=by decide +kernel):FnScope N ps sc:=⟨h1,h2,h3,h4,h5,h6,h7⟩
theorem Rm{j k:Nat}{A:Around}(h:Room k A)(e:j<=k:=by decide):Room j A:=h.mono e
theorem S3{J:It}{xs:List V}{a:Addr}{H0:Hp}(as:AsSeq J xs a H0){g:TG}{tb:TS}{D:Ends}{σ:St}{H:Hp}(Pv:Nat->St->Hp->Prop)(h0:Pv 0 σ H)(hk:∀i σ H,i<=xs.length->Pv i σ H->KeepAt a H0 H)
  (hs:∀i σ H x,xs[i]?=some x->Pv i σ H->∀D':Ends,(∀σ' H',Pv (i+1) σ' H'->D'.nx σ' H')->D'.rt=D.rt->g x σ H fun σ2 H2=>tb D' σ2 H2) (hd:∀σ H,Pv xs.length σ H->D.nx σ H) :
  ∃W:Nat->Nat->St->Hp->Prop,(∃m,W 0 m σ H)/\∀i m σ H,W i m σ H ->
   (J.stop i H/\D.nx σ H)\/(J.go i H/\∃N:St->Hp->Prop,(∀σ' H',N σ' H'->∃m',m' < m/\W (i+1) m' σ' H')/\∀x H',J.yld i H x H'->g x σ H' fun σ2 H2=>tb { D with nx:=N,ct:=N,bk:=D.nx } σ2 H2) :=
 Sl as Pv h0 hk (fun i σ H x hx hp=>hs i σ H x hx hp _ (fun _ _ z=>z) rfl) hd
theorem K6{lo:Int}{n:Nat}{g:TG}{tb:TS}{D:Ends}{σ:St}{H:Hp}(Pv:Nat->St->Hp->Prop)(h0:Pv 0 σ H)
  (hs:∀i σ H,i<n->Pv i σ H->∀D':Ends,(∀σ' H',Pv (i+1) σ' H'->D'.nx σ' H')->D'.rt=D.rt->g (.int (lo+i)) σ H fun σ2 H2=>tb D' σ2 H2) (hd:∀σ H,Pv n σ H->D.nx σ H) :
  ∃W:Nat->Nat->St->Hp->Prop,(∃m,W 0 m σ H)/\∀i m σ H,W i m σ H ->
   ((Itr lo n).stop i H/\D.nx σ H)\/((Itr lo n).go i H/\∃N:St->Hp->Prop,(∀σ' H',N σ' H'->∃m',m' < m/\W (i+1) m' σ' H')/\∀x H',(Itr lo n).yld i H x H'->g x σ H' fun σ2 H2=>tb { D with nx:=N,ct:=N,bk:=D.nx } σ2 H2) :=
 Lw Pv h0 (fun i σ H hi hp=>hs i σ H hi hp _ (fun _ _ z=>z) rfl) hd
theorem ex1{α:Type}{A C:α->Prop}{a:α}(e:A a)(h:C a):∃v,A v/\C v:=⟨a,e,h⟩
theorem Q2{α0 α1 α2:Type}{A0 A1 A2 A3 A4 A5:α0->α1->α2->Prop}{a:α0}{b:α1}{c:α2}(h0:A0 a b c)(h1:A1 a b c)(h2:A2 a b c)(h3:A3 a b c)(h4:A4 a b c)(h5:A5 a b c):∃a b c,A0 a b c/\A1 a b c/\A2 a b c/\A3 a b c/\A4 a b c/\A5 a b c:=⟨a,b,c,h0,h1,h2,h3,h4,h5⟩
theorem C0{α0 α1:Type}{A0 A1 A2:α0->α1->Prop}{a:α0}{b:α1}(h0:A0 a b)(h1:A1 a b)(h2:A2 a b):∃a b,A0 a b/\A1 a b/\A2 a b:=⟨a,b,h0,h1,h2⟩
theorem B5{t u:TS}{D:Ends}{σ:St}{H:Hp}(h:∀N:St->Hp->Prop,(∀σ' H',u D σ' H'->N σ' H')->t { D with nx:=N } σ H):Vg t u D σ H:=h _ fun _ _ z=>z
theorem Mw{i:Nat}{v:V}{t u:TS}{D:Ends}{σ:St}{H:Hp}(h:∀N:St->Hp->Prop,(∀σ' H',u D σ' H'->N σ' H')->t { D with nx:=N } (σ.set i (some v)) H):Z5 i v σ H (fun σ2 H2=>Vg t u D σ2 H2):=h _ fun _ _ z=>z
end L2
namespace Sw
open PySem L2
section
variable{P:Program}{w:World}{K:PySem.W.Frag}{mg:Str->Option Value}{base:Heap}
def Qo(c:Nat):Bool:=decide (97<=c)&&decide (c<=122)
def E4(x:Str):Bool:=decide (1<=x.length)&&decide (x.length<=8)&&x.cps.toList.all Qo
theorem Fk:("abcdefghijklmnopqrstuvwxyz":Str).cps.toList=List.range' 97 26:=by decide +kernel
theorem Qu(c:Nat):decide (c∈("abcdefghijklmnopqrstuvwxyz":Str).cps.toList)=Qo c:=by
 rw[Fk];unfold Qo;by_cases h1:97<=c
 .by_cases h2:c<=122
  .rw[AI (List.mem_range'_1.mpr (by omega)),AI h1,AI h2];rfl
  .rw[A_ (fun z=>by have:=List.mem_range'_1.mp z;omega),A_ h2,Bool.and_false]
 .rw[A_ (fun z=>by have:=List.mem_range'_1.mp z;omega),A_ h1,FE]
theorem Hh:FnScope ["thing"] ["thing"] (B6 s_is_name):=fsc
def Hl:Sp:=fun vs H Q _=>∃x,vs = [.str x]/\x.length<=1000/\∀H',Same H H'->Q (.bl (E4 x)) H'
theorem Ig(T:Tx K mg):FnOk P w K mg base CX0 1 T.a2.f T.a2.fd ["thing"] Hl:=by
 refine T.a2.F.ok Hh (fun vs H Q E h=>?_) (fun cdv A outer s H vs Q E hr h=>?_)
 .obtain⟨x,rfl,_⟩:=h;rfl
 .obtain⟨x,rfl,hx,k⟩:=h;refine⟨_,(A9 (E5 (PW.pt (x6 (K1 (F7 (D0 (E8 K) T.aa B8 (A6 (pv 0) (A6 (K5 T.bi Fs) A8))))) (Y1 (K1 (Oi Ob Ob B0 (D0 Cj T.ai J0 (A6 (pv 0) A8)) (Th T.bz)))))) (B3 (C1 u9)) C5)
   (B3 (C1 (D0 (Jk K) T.bv Jr (A6 (Q7 (N':=["letter"]) (cap:=[none]) (cl:=[]) (O7 trivial trivial) rfl (Va (pv 0)) (fun _ _ _ _=>by exact⟨(pgC 0),G0,(D9 Jx (pv 0) (We T.bC) rfl)⟩)) A8))))),?_⟩
  have h64:x.length<=sizeLine:=by rw[sizeLine_eq];omega
  have hlen:x.cps.size=x.length:=rfl;refine ex1 rfl ⟨.str x, "str",_,true,rfl,.str x,rfl,ex1 rfl ?_⟩;refine Q1 ?_;refine ex1 rfl ⟨x,rfl,h64,C0 rfl rfl (ex1 rfl ?_)⟩;refine Ak (fun c1=>?_) (fun c1=>?_)
  .have c1:(1:Int)<=(x.length:Int):=BU c1;refine C0 rfl rfl (ex1 rfl ?_);by_cases c2:(x.length:Int)<=8
   .rw[AI c2];refine Q1 ?_;refine ex1 rfl ⟨x,rfl,fun D hD=>?_⟩;refine Dt (n:=x.cps.size) (fun i σ H'=>(∃v,σ = [v])/\Same H H'/\H' D=some (.lst ((x.cps.toList.take i).map fun c=>V.bl (Qo c)))) ⟨⟨_,rfl⟩,Same.new hD,A7⟩ (fun i _ _ hi _=>hi) (fun _ _ _=>rfl) ?_ ?_
    .rintro i σ H1 v H' N hi ⟨⟨v0,rfl⟩,s1,e1⟩ ⟨rfl,c,hc,rfl⟩ hN;refine Ds ?_;refine ex1 rfl (C0 rfl rfl ⟨_,e1,?_,?_⟩)
     .rw[AB,AL,sizeLine_eq];omega
     .rw[PySem.StrLaws.found_one,Qu];refine hN _ _ ⟨⟨_,rfl⟩,s1.upd hD,?_⟩;rw[A7];have:x.cps.toList[i]?=some c:=by rw[BG];exact hc
      rw[List.take_add_one,this,BD];rfl
    .rintro σ H1 ⟨_,s1,e1⟩;refine⟨D,x.cps.toList.map Qo,rfl,SqL.of ?_,?_⟩
     .rw[e1,<-AV,CV,BH];rfl
     .have e:(x.cps.toList.map Qo).all id=E4 x:=by
       unfold E4;rw[AI (show 1<=x.length by omega),AI (show x.length<=8 by omega),List.all_map];rfl
      rw[e];exact k _ s1
   .rw[A_ c2];refine Y5 ?_;have e:E4 x=false:=by
     unfold E4;rw[A_ (show ¬x.length<=8 by omega),Bool.and_false,FE]
    have:=k H (Same.refl H);rw[e]at this;exact this
  .have c1:¬(1:Int)<=(x.length:Int):=fun z=>c1 (AI z);refine ex1 rfl ?_;refine Y5 ?_;have e:E4 x=false:=by
    unfold E4;rw[A_ (show ¬1<=x.length by omega),FE,FE]
   have:=k H (Same.refl H);rw[e]at this;exact this
theorem E6{α:Type}{l:List α}{i:Nat}{x:α}(h:l[i]?=some x):l.take (i+1)=l.take i ++ [x]:=by
 rw[List.take_add_one,h];rfl
theorem P9{α:Type}{l:List α}{i:Nat}{x:α}(nd:l.Nodup)(h:l[i]?=some x):x∉l.take i:=by
 intro hm;obtain⟨j,hj,e⟩:=List.getElem_of_mem hm;have hj':j<i:=by rw[AL]at hj;omega
 rw[List.getElem_take]at e;obtain⟨hi,e'⟩:=AM.mp h;have:=(List.getElem_inj nd).mp (e.trans e'.symm);omega
def Ei(ss:List Str):Prop:=(∀x∈ss,E4 x=true)/\ss.Nodup/\ss.length<=100
theorem Kd{x:Str}(h:E4 x=true):1<=x.length/\x.length<=8:=by
 unfold E4 at h;rw[CF,CF]at h;exact⟨BU h.1.1,BU h.1.2⟩
end
theorem Dl(ss:List Str):(ss.map V.str).all As=true:=by
 rw[EA];intro v hv;obtain⟨x,_,rfl⟩:=BL.mp hv;rfl
theorem Jq(x:Str)(ss:List Str):inV (.str x) (ss.map V.str)=decide (x∈ss):=by
 unfold inV;rw[List.any_map]
 induction ss with
 | nil=>rfl
 | cons y r ih =>
  rw[EY,ih];show((y == x)||decide (x∈r))=decide (x∈y::r);by_cases e:x=y
  .subst e;simp
  .have:(y == x)=false:=by simpa using fun z=>e z.symm
   rw[this,Bool.false_or];by_cases h:x∈r
   .rw[AI h,AI (AQ _ h)]
   .rw[A_ h,A_ (fun z=>(AS.mp z).elim e h)]
theorem O2{K:PySem.W.Frag}{H:Hp}{p:Addr}{x:Str}{ss:List Str}{Q:VK}(h:Sqs K H p (ss.map V.str))(q:Q (.bl (decide (x∈ss))) H):rIn K false (.str x) (.ref p) H Q :=
 ⟨p,_,rfl,h,rfl,Dl ss,by rw[AR (by decide),Jq];exact q⟩
theorem X6{K:PySem.W.Frag}{H:Hp}{p:Addr}{x:Str}{ss:List Str}{Q:VK}(h:Sqs K H p (ss.map V.str))(q:Q (.bl (!decide (x∈ss))) H):rIn K true (.str x) (.ref p) H Q :=
 ⟨p,_,rfl,h,rfl,Dl ss,by rw[AZ rfl,Jq];exact q⟩
theorem Ex{α:Type}{J:It}{ys:List α}{r:α->V}(f:α->V){a D:Addr}{H:Hp}(as:AsSeq J (ys.map r) a H){tc:TT}{te:TE}{c:St}{v0:Option V}{Q:St->Hp->Prop}(p:α->Bool)(len:ys.length<=5000)(hD:H D=none)
  (ht:∀y∈ys,∀G,Same H G->∀M:Bool->Hp->Prop,(∀G',Same G G'->M (p y) G')->tc (some (r y)::c) G M) (he:∀y∈ys,∀G,Same H G->∀M:VK,(∀G',Same G G'->M (f y) G')->te (some (r y)::c) G M)
  (q:∀σ G,Same H G->G D=some (.lst ((ys.filter p).map f))->Q σ G):Mi (Z5 0) tc (Ia D te) J (v0::c) (upd H D (.lst [])) Q:=by
 refine p9 as (fun i σ G=>(∃v,σ=v::c)/\Same H G/\G D=some (.lst (((ys.take i).filter p).map f))) ⟨⟨_,rfl⟩,Same.new hD,A7⟩ (fun i σ G _ h=>h.2.1.at a) ?_ ?_
 .rintro i σ G v N hx ⟨⟨v0,rfl⟩,sG,eG⟩ hN;rw[AG]at hx;obtain⟨y,hy,rfl⟩:=BC.mp hx;have my:=AH hy;refine ht y my G sG _ fun G' s'=>?_;have eG:=s' _ _ eG;have sG:=sG.trans s';have hs:(ys.take (i+1)).filter p =(ys.take i).filter p++if p y=true then [y]else []:=by
   rw[E6 hy,List.filter_append,List.filter_cons,List.filter_nil]
  have hl:=List.length_filter_le p (ys.take i);rw[AL]at hl;refine Ak (fun c=>he y my G' sG _ fun G2 s2=>⟨_,s2 _ _ eG,by rw[AB,sizeLine_eq];omega,hN _ _ ⟨⟨_,rfl⟩,(sG.trans s2).upd hD,?_⟩⟩) (fun c=>hN _ _ ⟨⟨_,rfl⟩,sG,?_⟩)
  .rw[A7,hs,AZ c,BD];rfl
  .rw[hs,AR c,CQ];exact eG
 .rintro σ G ⟨_,sG,eG⟩;rw[AB,CV]at eG;exact q σ G sG eG
theorem Uo{α:Type}{J:It}{ys:List α}{r:α->V}(f:α->V){a D:Addr}{H:Hp}(as:AsSeq J (ys.map r) a H){tc:TT}{te:TE}{c:St}{v0:Option V}{Q:St->Hp->Prop}(p:α->Bool)(len:ys.length<=5000)(hD:H D=none)
  (ht:∀y∈ys,∀G,Same H G->∀M:Bool->Hp->Prop,(∀G',Same G G'->M (p y) G')->tc (some (r y)::c) G M) (he:∀y∈ys,∀G,Same H G->∀M:VK,M (f y) G->te (some (r y)::c) G M)
  (q:∀σ G,Same H G->G D=some (.lst ((ys.filter p).map f))->Q σ G):Mi (Z5 0) tc (Ia D te) J (v0::c) (upd H D (.lst [])) Q :=
 Ex f as p len hD ht (fun y hy G s M hM=>he y hy G s M (hM G fun b o e=>e)) q
theorem Oc{K:PySem.W.Frag}{x:Str}{H:Hp}{Q:VK}(o:PySem.PyData.strOk x=true)(q:Q (.bl true) H):Vh K (.str x) (.str x) H Q:=by
 have e:Rp K H (.str x) (.str x):=by simp only[Rp]
 have p:Pl (.str x):=⟨by rw[PyData.canLay0];exact o,by rw[PyData.depth];decide⟩;exact⟨_,_,e,e,p,p,by rw[PySem.SeqAt.eqv_refl _ p.1];exact q⟩
def tyB(b:Bool):Value:=.type (bif b then "list" else "tuple")
theorem Sd{K:PySem.W.Frag}:∀b,PySem.W.kitOne K (tyB b) (.type "list")=some b
 | true=>rfl
 | false=>rfl
theorem Sg{K:PySem.W.Frag}:∀b,PySem.W.kitOne K (tyB b) (.type "tuple")=some !b
 | true=>rfl
 | false=>rfl
theorem Su{K:PySem.W.Frag}:∀b,PySem.W.kitAny K (tyB b) (["list", "tuple"].map Value.type)=some true
 | true=>rfl
 | false=>rfl
theorem Sf(b:Bool):(!decide (V.bl b=V.bl b))=false:=congrArg _ (AI rfl)
def LT(b:Bool)(xs:List V):HO:=bif b then .lst xs else .tup xs
theorem Ic{K:PySem.W.Frag}{H:Hp}{l:Addr}{xs:List V}:∀{b:Bool},H l=some (LT b xs)->TyOf K H (.ref l) (tyB b)
 | true,h=>.lst h
 | false,h=>.tup h
theorem Qx{H:Hp}{l:Addr}{xs:List V}:∀{b:Bool},H l=some (LT b xs)->H l=some (.lst xs)\/H l=some (.tup xs)
 | true,h=>.inl h
 | false,h=>.inr h
def sqB(K:PySem.W.Frag)(b:Bool):Hp->Addr->List V->Prop:=bif b then SqL K else SqT K
theorem Hw{K:PySem.W.Frag}{H:Hp}{l:Addr}{xs:List V}:∀{b:Bool},H l=some (LT b xs)->sqB K b H l xs
 | true,h=>SqL.of h
 | false,h=>SqT.of h
theorem Ph{K:PySem.W.Frag}{H:Hp}{l:Addr}{xs:List V}{b:Bool}(h:H l=some (LT b xs)):Sqs K H l xs:=(Qx h).imp SqL.of SqT.of
theorem Us{K:PySem.W.Frag}{H:Hp}{l m:Addr}{xs ys:List V}{R:It->Hp->Prop}:∀{b:Bool},H l=some (LT b xs)->H m=some (LT b ys)->R (Rw (sqB K b) l m) H->Wq K R l m xs ys H
 | true,h,h',q=>.inl ⟨SqL.of h,SqL.of h',q⟩
 | false,h,h',q=>.inr ⟨SqT.of h,SqT.of h',q⟩
def Wd(K:PySem.W.Frag):List V->Hp->VK->Prop:=fun xs H Q=>Pp K xs H Q\/∃(x:V) (p:Addr) (ns:List String) (b:Bool) (T:String),xs = [x,.ref p]/\H p=some (.tup (ns.map V.ty))/\((x = .non/\T = "NoneType")\/∃i,x = .int i/\T = "int")/\PySem.W.kitAny K (.type T) (ns.map Value.type)=some b/\Q (.bl b) H
theorem Fm{X:Cx}(K:PySem.W.Frag)(hK:X.K=K:=by rfl):F9 X (.builtin "isinstance") (Wd K):=by
 subst hK;intro pins s σ H xs us Q I r h;rcases h with h | ⟨x,p,ns,b,T,rfl,hp,ht,he,q⟩
 .exact Nt X.K rfl pins s σ H xs us Q I r h
 obtain⟨u,v,rfl,ru,rv⟩:=r.two;cases rv;obtain⟨its,rv,⟨⟨oc,od,odt,osl⟩,ho,hc,n,hd⟩,hz⟩:=I.tuple (SqT.of hp);rw[Ej rv]at hd;cases hc;cases hd;rcases ht with⟨rfl,rfl⟩ | ⟨i,rfl,rfl⟩
 .cases ru;exact PySem.W.kia_tup PySem.W.kitx_none I.kIn True.intro ho he (fun z=>nomatch z) fun tk=>⟨.bl b,H,I.tok _,rfl,q⟩
 .obtain⟨t,rfl⟩:=(show ∃t,u=Value.int i t from ru);exact PySem.W.kia_tup PySem.W.kitx_int I.kIn True.intro ho he (fun z=>nomatch z) fun tk=>⟨.bl b,H,I.tok _,rfl,q⟩
theorem Gs{K:PySem.W.Frag}{d:PyData}{v:V}{H:Hp}{Q:VK}(e:Rp K H d v)(o:PyData.canLay0 d=true)(z:d.depth<=1)(q:Q (.bl true) H):Vh K v v H Q:=by
 have p:Pl d:=⟨o,Nat.le_trans z (by decide)⟩;exact⟨_,_,e,e,p,p,by rw[PySem.SeqAt.eqv_refl _ p.1];exact q⟩
abbrev RW:Type:=Addr×Str×List V
def Rl(H:Hp)(q:RW):Prop:=H q.1=some (.tup (.str q.2.1::q.2.2))
structure RowsAt(H:Hp)(l:Addr)(rs:List RW):Prop where
 at_:H l=some (.lst (rs.map fun q=>V.ref q.1))
 row:∀q∈rs,Rl H q
theorem RowsAt.same{H H':Hp}{l:Addr}{rs:List RW}(h:RowsAt H l rs)(s:Same H H'):RowsAt H' l rs:=⟨s _ _ h.at_,fun q hq=>s _ _ (h.row q hq)⟩
def Y7(rs:List RW):List Str:=rs.map fun q=>q.2.1
section
variable{P:Program}{w:World}{K:PySem.W.Frag}{mg:Str->Option Value}{base:Heap}
theorem X9:FnScope ["thing"] ["thing"] (B6 s_is_number):=fsc
def Ks:Sp:=fun vs H Q _=>∃i:Int,vs = [.int i]/\Q (.bl true) H
theorem Dq(T:Tx K mg):FnOk P w K mg base CX0 1 T.aN.f T.aN.fd ["thing"] Ks:=by
 have sc:=X9;refine T.aN.F.ok X9 (fun vs H Q E h=>?_) (fun cdv A outer s H vs Q E hr h=>?_)
 .obtain⟨i,rfl,_⟩:=h;rfl
 .obtain⟨i,rfl,q⟩:=h;refine⟨_,(B3 (C1 (G8 (D0 (E8 K) T.aa B8 (A6 (pv 0) (A6 (K5 T.bt Ln) A8))) (K3 (Pg (D0 (E8 K) T.aa B8 (A6 (pv 0) (A6 (K5 T.a9 Aw) A8)))))))),?_⟩;refine ex1 rfl ⟨.int i, "int",_,true,rfl,.int i,rfl,ex1 rfl (Y5 ?_)⟩;exact ex1 rfl ⟨.int i, "bool",_,false,rfl,.int i,rfl,ex1 rfl q⟩
theorem Y6:FnScope ["thing"] ["thing"] (B6 s_is_listed):=fsc
def Iw:Sp:=fun vs H Q _=>∃(a:Addr) (b:Bool) (xs:List V),vs = [.ref a]/\H a=some (LT b xs)/\∀H',Same H H'->Q (.bl true) H'
theorem Y9(T:Tx K mg):FnOk P w K mg base CX0 1 T.aG.f T.aG.fd ["thing"] Iw:=by
 have sc:=Y6;refine T.aG.F.ok Y6 (fun vs H Q E h=>?_) (fun cdv A outer s H vs Q E hr h=>?_)
 .obtain⟨a,b,xs,rfl,_⟩:=h;rfl
 .obtain⟨a,b,xs,rfl,hS,q⟩:=h;refine⟨_,(B3 (C1 (D0 (Fm K) T.aa B8 (A6 (pv 0) (A6 (G9 (A6 (K5 T.av O3) (A6 (K5 T.aU U3) A8))) A8))))),?_⟩;refine ex1 rfl ⟨by show 2<=sizeLine;decide,fun t ht=>?_⟩;have s1:=Same.new (o:=.tup [.ty "list",.ty "tuple"]) ht;have m1:=s1 _ _ hS;exact .inl ⟨.ref a,t,["list", "tuple"],_,true,rfl,A7,Ic m1,.inr ⟨a,_,rfl,Qx m1⟩,Su b,q _ s1⟩
theorem Y8:FnScope ["thing", "many"] ["thing", "many"] (B6 s_is_row_of):=fsc
def Jy:Sp:=fun vs H Q _=>∃(p:Addr) (xs:List V) (n:Int),vs = [.ref p,.int n]/\H p=some (.tup xs)/\(xs.length:Int)=n/\Q (.bl true) H
theorem K4(T:Tx K mg):FnOk P w K mg base CX0 1 T.ar.f T.ar.fd ["thing", "many"] Jy:=by
 have sc:=Y8;refine T.ar.F.ok Y8 (fun vs H Q E h=>?_) (fun cdv A outer s H vs Q E hr h=>?_)
 .obtain⟨p,xs,n,rfl,_⟩:=h;rfl
 .obtain⟨p,xs,n,rfl,hp,hn,q⟩:=h;refine⟨_,(B3 (C1 (G8 (D0 (E8 K) T.aa B8 (A6 (pv 0) (A6 (K5 T.aU U3) A8))) (K3 (D9 w5 (D0 (K2 K) T.ai J0 (A6 (pv 0) A8)) (pv 1) (C8 _)))))),?_⟩;refine ex1 rfl ⟨.ref p, "tuple",_,true,rfl,.tup hp,rfl,ex1 rfl (Y5 ?_)⟩;refine ex1 rfl (C0 (a:=p) rfl (.inr (SqT.of hp)) (ex1 rfl ⟨rfl,?_⟩));rw[hn,AI rfl];exact q
theorem t6:FnScope ["rows"] ["rows"] (B6 s_names_of):=fsc
def t0:Sp:=fun vs H Q _=>∃(l:Addr) (rs:List RW),vs = [.ref l]/\RowsAt H l rs/\rs.length<=1000/\∀m H',Same H H'->H m=none->H' m=some (.lst ((Y7 rs).map V.str))->Q (.ref m) H'
theorem E2(T:Tx K mg):FnOk P w K mg base CX0 1 T.ae.f T.ae.fd ["rows"] t0:=by
 have sc:=t6;refine T.ae.F.ok t6 (fun vs H Q E h=>?_) (fun cdv A outer s H vs Q E hr h=>?_)
 .obtain⟨l,rs,rfl,_⟩:=h;rfl
 .obtain⟨l,rs,rfl,hR,len,q⟩:=h;refine⟨_,(B3 (C1 (Q7 (N':=["row"]) (cap:=[none]) (cl:=[]) (O7 trivial trivial) rfl (piL K (pv 0)) (fun _ _ _ _=>by exact⟨(pgC 0),G0,(C6 (ixT K) (pv 0) B0 (fun _ _=>rfl))⟩)))),?_⟩;refine ex1 rfl ⟨l,rfl,⟨_,SqL.of hR.at_⟩,fun D hD=>?_⟩;refine Ex (r:=fun q:RW=>V.ref q.1) (fun q=>V.str q.2.1) (asL (SqL.of hR.at_)) (fun _=>true) (by omega) hD (fun y my G sG M hM=>hM G fun b o e=>e) (fun y my G sG M hM=>?_) fun σ' G sG eG=>?_
  .exact ex1 rfl ⟨y.1,_,C0 rfl rfl ⟨SqT.of (sG _ _ (hR.row y my)),B9 (j:=0) rfl,hM G fun b o e=>e⟩⟩
  .refine q D G sG hD ?_;rw[eG,DU.mpr fun _ _=>rfl];unfold Y7;rw[BH];rfl
theorem Y2:FnScope ["rows"] ["rows"] (B6 s_begins_of):=fsc
theorem Dg(T:Tx K mg):FnOk P w K mg base CX0 2 T.aO.f T.aO.fd ["rows"] t0:=by
 have G_is_listed:=Y9 (P:=P) (w:=w) (base:=base) T;have sc:=Y2;refine T.aO.F.ok Y2 (fun vs H Q E h=>?_) (fun cdv A outer s H vs Q E hr h=>?_)
 .obtain⟨l,rs,rfl,_⟩:=h;rfl
 .obtain⟨l,rs,rfl,hR,len,q⟩:=h;refine⟨_,(B3 (C1 (Q7 (N':=["row"]) (cap:=[none]) (cl:=[]) (O7 trivial trivial) rfl (piL K (pv 0)) (fun _ _ _ _=>by exact⟨(pgC 0),(S0 (PW.pt (Ov (F7 (C3 T.aG G_is_listed (Rm hr) (A6 (pv 0) A8))) (Me (C4 Sy (D0 (K2 K) T.ai J0 (A6 (pv 0) A8)) B0 (C8 _)))))),(C6 (ixT K) (pv 0) B0 (fun _ _=>rfl))⟩)))),?_⟩;refine ex1 rfl ⟨l,rfl,⟨_,SqL.of hR.at_⟩,fun D hD=>?_⟩;refine Ex (r:=fun q:RW=>V.ref q.1) (fun q=>V.str q.2.1) (asL (SqL.of hR.at_)) (fun _=>true) (by omega) hD (fun y my G sG M hM=>?_) (fun y my G sG M hM=>?_) fun σ' G sG eG=>?_
  .have ey:=sG _ _ (hR.row y my);refine ex1 rfl ⟨y.1,false,_,rfl,ey,fun G2 s2=>⟨_,rfl,Y5 ?_⟩⟩;refine ex1 rfl (C0 (a:=y.1) rfl (.inr (SqT.of (s2 _ _ ey))) (C0 rfl rfl (ex1 rfl ?_)));rw[AI (by rw[BK];omega)];exact hM G2 s2
  .exact ex1 rfl ⟨y.1,_,C0 rfl rfl ⟨SqT.of (sG _ _ (hR.row y my)),B9 (j:=0) rfl,hM G fun b o e=>e⟩⟩
  .refine q D G sG hD ?_;rw[eG,DU.mpr fun _ _=>rfl];unfold Y7;rw[BH];rfl
theorem g9:FnScope ["taken", "thing"] ["taken", "thing"] (B6 s_is_fresh):=fsc
def Mn(K:PySem.W.Frag):Sp:=fun vs H Q _=>∃(l:Addr) (ss:List Str) (x:Str),vs = [.ref l,.str x]/\SqL K H l (ss.map V.str)/\E4 x=true/\x∉ss/\∀H',Same H H'->Q (.bl true) H'
theorem Q9(T:Tx K mg):FnOk P w K mg base CX0 2 T.aA.f T.aA.fd ["taken", "thing"] (Mn K):=by
 have G_is_name:=Ig (P:=P) (w:=w) (base:=base) T;have sc:=g9;refine T.aA.F.ok g9 (fun vs H Q E h=>?_) (fun cdv A outer s H vs Q E hr h=>?_)
 .obtain⟨l,ss,x,rfl,_⟩:=h;rfl
 .obtain⟨l,ss,x,rfl,hS,hn,hx,q⟩:=h;refine⟨_,(B3 (C1 (G8 (C3 T.a2 G_is_name (Rm hr) (A6 (pv 1) A8)) (K3 (D9 (At K) (pv 1) (pv 0) rfl))))),?_⟩;have hl:=Kd hn;refine ex1 rfl ⟨x,rfl,by omega,fun H1 s1=>⟨_,rfl,?_⟩⟩;rw[hn];refine Y5 (ex1 rfl (ex1 rfl (X6 (.inl ((s1.at l).seqL hS)) ?_)));rw[A_ hx];exact q H1 s1
theorem y4:FnScope ["thing"] ["thing"] (B6 s_is_rank):=fsc
def Rr:Sp:=fun vs H Q _=>∃i:Int,vs = [.int i]/\0<=i/\i<=9/\Q (.bl true) H
theorem Hi(T:Tx K mg):FnOk P w K mg base CX0 2 T.a3.f T.a3.fd ["thing"] Rr:=by
 have G_is_number:=Dq (P:=P) (w:=w) (base:=base) T;have sc:=y4;refine T.a3.F.ok y4 (fun vs H Q E h=>?_) (fun cdv A outer s H vs Q E hr h=>?_)
 .obtain⟨i,rfl,_⟩:=h;rfl
 .obtain⟨i,rfl,h0,h9,q⟩:=h;refine⟨_,(B3 (C1 (G8 (C3 T.aN G_is_number (Rm hr) (A6 (pv 0) A8)) (K3 (Oe Ob Ob B0 (pv 0) (Th T.bw)))))),?_⟩;refine ex1 rfl ⟨i,rfl,_,rfl,Y5 ?_⟩;refine ex1 rfl (C0 rfl rfl (ex1 rfl ?_));rw[AI h0];refine Y5 (C0 rfl rfl ?_);show Q (.bl (decide (i<=9))) H;rw[AI h9];exact q
theorem O8:FnScope ["names", "thing"] ["names", "thing"] (B6 s_are_speakers):=fsc
def Fj(K:PySem.W.Frag):Sp:=fun vs H Q _=>∃(l m:Addr) (ns ss:List Str),vs = [.ref l,.ref m]/\H l=some (.lst (ns.map V.str))/\H m=some (.lst (ss.map V.str))/\(∀x∈ss,x∈ns)/\ss.Nodup/\ss.length<=100/\∀H',Same H H'->Q (.bl true) H'
theorem l0(T:Tx K mg):FnOk P w K mg base CX0 2 T.aB.f T.aB.fd ["names", "thing"] (Fj K):=by
 have G_is_listed:=Y9 (P:=P) (w:=w) (base:=base) T;have sc:=O8;refine T.aB.F.ok O8 (fun vs H Q E h=>?_) (fun cdv A outer s H vs Q E hr h=>?_)
 .obtain⟨l,m,ns,ss,rfl,_⟩:=h;rfl
 .obtain⟨l,m,ns,ss,rfl,hl,hm,sub,nd,len,q⟩:=h;refine⟨_,(B3 (C1 (G8 (C3 T.aG G_is_listed (Rm hr) (A6 (pv 1) A8)) (G8 (D0 (Jk K) T.bv Jr (A6 (Q7 (N':=["one", "names"]) (cap:=[none,some 0]) (cl:=[("names",_)]) (O7 ⟨⟨rfl,rfl,rfl,rfl⟩,trivial⟩ ⟨rfl,trivial⟩) rfl (piL K (pv 1)) (fun _ _ _ _=>by exact⟨(pgC 0),G0,(D9 (t9 K) (pv 0) (pv 1) rfl)⟩)) A8)) (K3 (D9 w5 (D0 (Rq w) T.ai J0 (A6 (Be (Ev K w) T.bu Iz (A6 (pv 1) A8)) A8)) (D0 (K2 K) T.ai J0 (A6 (pv 1) A8)) (C8 _))))))),?_⟩;refine ex1 rfl ⟨m,true,_,rfl,hm,fun H1 s1=>⟨_,rfl,Y5 ?_⟩⟩;have l1:=s1 _ _ hl;have m1:=s1 _ _ hm;refine ex1 rfl ⟨m,rfl,⟨_,SqL.of m1⟩,fun D hD=>?_⟩;refine Ex (fun x=>V.bl (decide (x∈ns))) (asL (SqL.of m1)) (fun _=>true) (by omega) hD (fun y my G sG M hM=>hM G fun b o e=>e) (fun y my G sG M hM=>ex1 rfl (ex1 rfl (O2 (.inl (SqL.of (sG _ _ l1))) (hM G fun b o e=>e)))) fun σ' G sG eG=>?_;have eG:G D=some (.lst ((ss.map fun x=>decide (x∈ns)).map V.bl)):=by
   rw[eG,DU.mpr fun _ _=>rfl,BH];rfl
  have ea:((ss.map fun x=>decide (x∈ns)).all id)=true:=by
   rw[List.all_map,EA];exact fun x hx=>AI (sub x hx)
  refine⟨D,_,rfl,SqL.of eG,_,rfl,?_⟩;rw[ea];refine Y5 ?_;have m2:=sG _ _ m1;refine ex1 rfl ⟨m,ss,rfl,.inl (SqL.of m2),nd,by omega,fun z hz=>?_⟩;have uz:=Same.new (o:=V3 w z ss) hz;refine⟨z,ss,rfl,A7,ex1 rfl (C0 (a:=m) rfl (.inl (SqL.of (uz _ _ m2))) ⟨rfl,?_⟩)⟩;rw[AB,AI rfl];exact q _ ((s1.trans sG).trans uz)
theorem Q3:FnScope ["ahead", "row"] ["ahead", "row"] (B6 s_fits_people):=fsc
def Fu:Sp:=fun vs H Q _=>∃(l p:Addr) (rs:List RW) (n:Str) (r:Int),vs = [.ref l,.ref p]/\RowsAt H l rs/\rs.length<=1000/\H p=some (.tup [.str n,.int r])/\E4 n=true/\n∉Y7 rs/\0<=r/\r<=9/\∀H',Same H H'->Q (.bl true) H'
theorem w8(T:Tx K mg):FnOk P w K mg base CX0 3 T.aj.f T.aj.fd ["ahead", "row"] Fu:=by
 have G_is_row_of:=K4 (P:=P) (w:=w) (base:=base) T;have G_names_of:=E2 (P:=P) (w:=w) (base:=base) T;have G_is_fresh:=Q9 (P:=P) (w:=w) (base:=base) T;have G_is_rank:=Hi (P:=P) (w:=w) (base:=base) T;have sc:=Q3;refine T.aj.F.ok Q3 (fun vs H Q E h=>?_) (fun cdv A outer s H vs Q E hr h=>?_)
 .obtain⟨l,p,rs,n,r,rfl,_⟩:=h;rfl
 .obtain⟨l,p,rs,n,r,rfl,hR,len,hp,hn,hx,r0,r9,q⟩:=h;refine⟨_,(B3 (C1 (G8 (C3 T.ar G_is_row_of (Rm hr) (A6 (pv 1) (A6 B0 A8))) (G8 (C3 T.aA G_is_fresh (Rm hr) (A6 (C3 T.ae G_names_of (Rm hr) (A6 (pv 0) A8)) (A6 (C6 (ixT K) (pv 1) B0 (fun _ _=>rfl)) A8))) (K3 (C3 T.a3 G_is_rank (Rm hr) (A6 (C6 (ixT K) (pv 1) B0 (fun _ _=>rfl)) A8))))))),?_⟩;refine ex1 rfl ⟨p,_,_,rfl,hp,rfl,_,rfl,Y5 ?_⟩;refine ex1 rfl ⟨l,rs,rfl,hR,len,fun m H1 s1 hm em=>?_⟩;refine ex1 rfl ⟨p,_,C0 rfl rfl ⟨SqT.of (s1 _ _ hp),B9 (j:=0) rfl,?_⟩⟩;refine⟨m,_,n,rfl,SqL.of em,hn,hx,fun H2 s2=>⟨_,rfl,Y5 ?_⟩⟩;refine ex1 rfl ⟨p,_,C0 rfl rfl ⟨SqT.of (s2 _ _ (s1 _ _ hp)),B9 (j:=1) rfl,?_⟩⟩;exact⟨r,rfl,r0,r9,q H2 (s1.trans s2)⟩
theorem P4:FnScope ["people", "ahead", "row"] ["people", "ahead", "row"] (B6 s_fits_sayings):=fsc
def Ge:Sp:=fun vs H Q _=>∃(a l p m:Addr) (ps rs:List RW) (n kd:Str) (ss:List Str),vs = [.ref a,.ref l,.ref p]/\RowsAt H a ps/\ps.length<=1000/\RowsAt H l rs/\rs.length<=1000/\H p=some (.tup [.str n,.str kd,.ref m])/\H m=some (.lst (ss.map V.str))/\E4 n=true/\n∉Y7 rs/\(kd = "fact"\/kd = "claim")/\(∀x∈ss,x∈Y7 ps)/\ss.Nodup/\ss.length<=100/\∀H',Same H H'->Q (.bl true) H'
theorem f8(T:Tx K mg):FnOk P w K mg base CX0 3 T.ay.f T.ay.fd ["people", "ahead", "row"] Ge:=by
 have G_is_row_of:=K4 (P:=P) (w:=w) (base:=base) T;have G_names_of:=E2 (P:=P) (w:=w) (base:=base) T;have G_is_fresh:=Q9 (P:=P) (w:=w) (base:=base) T;have G_are_speakers:=l0 (P:=P) (w:=w) (base:=base) T;have sc:=P4;refine T.ay.F.ok P4 (fun vs H Q E h=>?_) (fun cdv A outer s H vs Q E hr h=>?_)
 .obtain⟨a,l,p,m,ps,rs,n,kd,ss,rfl,_⟩:=h;rfl
 .obtain⟨a,l,p,m,ps,rs,n,kd,ss,rfl,hP,lp,hR,lr,hp,hm,hn,hx,hk,sub,nd,ls,q⟩:=h;refine⟨_,(A9 (E5 (PW.pt (x6 (K1 (F7 (C3 T.ar G_is_row_of (Rm hr) (A6 (pv 2) (A6 B0 A8))))) (Y1 (K1 (F7 (C3 T.aA G_is_fresh (Rm hr) (A6 (C3 T.ae G_names_of (Rm hr) (A6 (pv 1) A8)) (A6 (C6 (ixT K) (pv 2) B0 (fun _ _=>rfl)) A8)))))))) (B3 (C1 u9)) C5)
   (B3 (C1 (G8 (D9 (t9 K) (C6 (ixT K) (pv 2) B0 (fun _ _=>rfl)) (O0 T.bF) rfl) (K3 (C3 T.aB G_are_speakers (Rm hr) (A6 (C3 T.ae G_names_of (Rm hr) (A6 (pv 0) A8)) (A6 (C6 (ixT K) (pv 2) B0 (fun _ _=>rfl)) A8)))))))),?_⟩
  refine ex1 rfl ⟨p,_,_,rfl,hp,rfl,_,rfl,Q1 ?_⟩;refine ex1 rfl ⟨l,rs,rfl,hR,lr,fun m1 H1 s1 hm1 em=>?_⟩;refine ex1 rfl ⟨p,_,C0 rfl rfl ⟨SqT.of (s1 _ _ hp),B9 (j:=0) rfl,?_⟩⟩;refine⟨m1,_,n,rfl,SqL.of em,hn,hx,fun H2 s2=>⟨_,rfl,Q1 ?_⟩⟩;have s2:=s1.trans s2;refine ex1 rfl ⟨p,_,C0 rfl rfl ⟨SqT.of (s2 _ _ hp),B9 (j:=1) rfl,?_⟩⟩;have hk':decide (kd∈(["fact", "claim"]:List Str))=true:=AI (by rcases hk with rfl | rfl<;>decide);dsimp only[tC];refine O2 (ss:=["fact", "claim"]) (.inr T.bG.sq) ?_;rw[hk'];refine⟨_,rfl,Y5 ?_⟩;refine ex1 rfl ⟨a,ps,rfl,hP.same s2,lp,fun m2 H3 s3 hm2 em2=>?_⟩;have s3:=s2.trans s3;refine ex1 rfl ⟨p,_,C0 rfl rfl ⟨SqT.of (s3 _ _ hp),B9 (j:=2) rfl,?_⟩⟩;exact⟨m2,m,_,ss,rfl,em2,s3 _ _ hm,sub,nd,ls,fun H4 s4=>q H4 (s3.trans s4)⟩
theorem P1:FnScope ["sayings", "goals", "ahead", "row", "said"] ["sayings", "goals", "ahead", "row"] (B6 s_fits_strikes):=fsc
def Fr:Sp:=fun vs H Q _=>∃(a g l p:Addr) (ss rs:List RW) (gs:List Str) (n o t:Str),vs = [.ref a,.ref g,.ref l,.ref p]/\RowsAt H a ss/\ss.length<=1000/\H g=some (.lst (gs.map V.str))/\RowsAt H l rs/\rs.length<=1000/\H p=some (.tup [.str n,.str o,.str t])/\E4 n=true/\n∉Y7 ss/\n∉Y7 rs/\o∈Y7 ss/\(t∈Y7 ss\/t∈gs)/\∀H',Same H H'->Q (.bl true) H'
theorem o8(T:Tx K mg):FnOk P w K mg base CX0 3 T.az.f T.az.fd ["sayings", "goals", "ahead", "row"] Fr:=by
 have G_is_row_of:=K4 (P:=P) (w:=w) (base:=base) T;have G_names_of:=E2 (P:=P) (w:=w) (base:=base) T;have G_is_fresh:=Q9 (P:=P) (w:=w) (base:=base) T;have sc:=P1;refine T.az.F.ok P1 (fun vs H Q E h=>?_) (fun cdv A outer s H vs Q E hr h=>?_)
 .obtain⟨a,g,l,p,ss,rs,gs,n,o,t,rfl,_⟩:=h;rfl
 .obtain⟨a,g,l,p,ss,rs,gs,n,o,t,rfl,hS,ls,hg,hR,lr,hp,hn,hx1,hx2,ho,ht,q⟩:=h;refine⟨_,(A9 (C2 (i:=4) sc.nd rfl (.inl rfl) (C3 T.ae G_names_of (Rm hr) (A6 (pv 0) A8)))
   (A9 (E5 (PW.pt (x6 (K1 (F7 (C3 T.ar G_is_row_of (Rm hr) (A6 (pv 3) (A6 B0 A8))))) (Y1 (K1 (F7 (C3 T.aA G_is_fresh (Rm hr) (A6 (E3 T0 (pv 4) (C3 T.ae G_names_of (Rm hr) (A6 (pv 2) A8))) (A6 (C6 (ixT K) (pv 3) B0 (fun _ _=>rfl)) A8)))))))) (B3 (C1 u9)) C5)
   (B3 (C1 (G8 (D9 (t9 K) (C6 (ixT K) (pv 3) B0 (fun _ _=>rfl)) (pv 4) rfl) (K3 (Vu (D9 (t9 K) (C6 (ixT K) (pv 3) B0 (fun _ _=>rfl)) (pv 4) rfl) (K3 (D9 (t9 K) (C6 (ixT K) (pv 3) B0 (fun _ _=>rfl)) (pv 1) rfl))))))))),?_⟩
  refine B5 fun N1 hN1=>?_;refine ex1 rfl ⟨a,ss,rfl,hS,ls,fun m1 H1 s1 hm1 em1=>?_⟩;refine hN1 _ _ (B5 fun N2 hN2=>?_);refine ex1 rfl ⟨p,_,_,rfl,s1 _ _ hp,rfl,_,rfl,Q1 ?_⟩;refine ex1 rfl (ex1 rfl ⟨l,rs,rfl,hR.same s1,lr,fun m2 H2 s2 hm2 em2=>?_⟩);have em1:=s2 _ _ em1;have s2:=s1.trans s2;have lss:(Y7 ss).length=ss.length:=by unfold Y7;rw[AB]
  have lrs:(Y7 rs).length=rs.length:=by unfold Y7;rw[AB]
  refine⟨m1,m2,_,_,rfl,rfl,em1,em2,by rw[AB,AB,lss,lrs,sizeLine_eq];omega,fun m3 hm3=>?_⟩;have u3:=Same.new (o:=.lst ((Y7 ss).map V.str ++(Y7 rs).map V.str)) hm3;have s3:=s2.trans u3;refine ex1 rfl ⟨p,_,C0 rfl rfl ⟨SqT.of (s3 _ _ hp),B9 (j:=0) rfl,?_⟩⟩;refine⟨m3,Y7 ss++Y7 rs,n,rfl,SqL.of (by rw[A7,BD]),hn,fun z=>(AK.mp z).elim hx1 hx2,fun H4 s4=>⟨_,rfl,Q1 ?_⟩⟩;have em1:=s4 _ _ (u3 _ _ em1);have s4:=s3.trans s4;refine hN2 _ _ ?_;refine ex1 rfl ⟨p,_,C0 rfl rfl ⟨SqT.of (s4 _ _ hp),B9 (j:=1) rfl,ex1 rfl (O2 (.inl (SqL.of em1)) ?_)⟩⟩;rw[AI ho];refine⟨_,rfl,Y5 ?_⟩;refine ex1 rfl ⟨p,_,C0 rfl rfl ⟨SqT.of (s4 _ _ hp),B9 (j:=2) rfl,ex1 rfl (O2 (.inl (SqL.of em1)) ⟨_,rfl,Ak (fun c=>q _ s4) (fun c=>?_)⟩)⟩⟩;refine ex1 rfl ⟨p,_,C0 rfl rfl ⟨SqT.of (s4 _ _ hp),B9 (j:=2) rfl,ex1 rfl (O2 (.inl (SqL.of (s4 _ _ hg))) ?_)⟩⟩;rw[AI (ht.resolve_left fun z=>c (AI z))];exact q _ s4
end
def Bp(ps:List PA2):List V:=ps.map fun q=>V.ref q.1
theorem Al{H H':Hp}{ps:List PA2}(s:Same H H')(h:∀q∈ps,Q5 H q):∀q∈ps,Q5 H' q:=fun q hq=>s _ _ (h q hq)
def pd(k:Str×Str):PyData:=.tuple [.str k.1,.str k.2]
theorem F6{x:Str}(h:E4 x=true):PySem.PyData.strOk x=true:=by
 unfold E4 at h;rw[CF]at h;unfold PySem.PyData.strOk;rw[<-Array.all_toList,EA];intro c hc;have:=(EA.mp h.2) c hc;unfold Qo at this;rw[CF]at this;have:=BU this.2;exact AI (by omega)
theorem R1{K:PySem.W.Frag}{H:Hp}{t:Addr}{k:Str×Str}(h:H t=some (.tup [.str k.1,.str k.2])):Rp K H (pd k) (.ref t):=by
 unfold pd;simp only[Rp,Rps];exact⟨t,_,rfl,SqT.of h,_,_,rfl,rfl,_,_,rfl,rfl,rfl⟩
theorem Dv{K:PySem.W.Frag}{H:Hp}:∀{ps:List PA2},(∀q∈ps,Q5 H q)->Rps K H (ps.map fun q=>pd q.2) (Bp ps)
 | [],_=>by simp[Rps,Bp]
 | q::r,h=>by
  show Rps K H (pd q.2::r.map fun q=>pd q.2) (V.ref q.1::Bp r);simp only[Rps];exact⟨_,_,rfl,R1 (h q (BB ..)),Dv fun z hz=>h z (AQ _ hz)⟩
theorem Gz{K:PySem.W.Frag}{H:Hp}{l:Addr}{ps:List PA2}(hl:H l=some (.lst (Bp ps)))(h:∀q∈ps,Q5 H q):Rp K H (.list (ps.map fun q=>pd q.2)) (.ref l):=by
 simp only[Rp];exact⟨l,_,rfl,SqL.of hl,Dv h⟩
theorem Sq(a b:Str×Str):PyData.eqv (pd a) (pd b)=decide (a=b):=by
 unfold pd;rw[PyData.eqv,PyData.eqvAll,PyData.eqvAll,PyData.eqvAll,PyData.eqv,PyData.eqv];by_cases h1:a.1=b.1
 .by_cases h2:a.2=b.2
  .rw[AI (Prod.ext h1 h2),h1,h2];simp
  .rw[A_ fun z=>h2 (congrArg Prod.snd z)];simp[h2]
 .rw[A_ fun z=>h1 (congrArg Prod.fst z)];simp[h1]
theorem i8(k:Str×Str):∀ps:List PA2,((ps.map fun q=>pd q.2).any fun z=>PyData.eqv z (pd k))=decide (k∈ps.map fun q=>q.2)
 | []=>rfl
 | q::r=>by
  rw[BS,EY,i8 k r,Sq,BS];by_cases e:q.2=k
  .rw[AI e,Bool.true_or,AI (show k∈q.2::_ from by rw[<-e];exact BB ..)]
  .rw[A_ e,Bool.false_or];by_cases h:k∈r.map fun q=>q.2
   .rw[AI h,AI (AQ _ h)]
   .rw[A_ h,A_ fun z=>(AS.mp z).elim (fun z=>e z.symm) h]
theorem Ja{k:Str×Str}(h1:PySem.PyData.strOk k.1=true)(h2:PySem.PyData.strOk k.2=true):(pd k).canLay0=true:=by
 unfold pd;simp[PyData.canLay0,PyData.canLayAll0,h1,h2]
theorem Fh:∀{ps:List PA2},(∀q∈ps,PySem.PyData.strOk q.2.1=true/\PySem.PyData.strOk q.2.2=true)->PyData.canLayAll0 (ps.map fun q=>pd q.2)=true
 | [],_=>rfl
 | q::r,h=>by
  rw[BS,PyData.canLayAll0,Ja (h q (BB ..)).1 (h q (BB ..)).2,Fh fun z hz=>h z (AQ _ hz)];rfl
theorem He{K:PySem.W.Frag}{H:Hp}{t l:Addr}{k:Str×Str}{ps:List PA2}{Q:VK}(ht:H t=some (.tup [.str k.1,.str k.2]))(hl:H l=some (.lst (Bp ps)))(hp:∀q∈ps,Q5 H q)
  (hk:PySem.PyData.strOk k.1=true/\PySem.PyData.strOk k.2=true) (hs:∀q∈ps,PySem.PyData.strOk q.2.1=true/\PySem.PyData.strOk q.2.2=true) (q:Q (.bl (!decide (k∈ps.map fun q=>q.2))) H):Rx K true (.ref t) (.ref l) H Q :=
 ⟨pd k,_,R1 ht,.inl (Gz hl hp),⟨Ja hk.1 hk.2,by simp[pd,PyData.depth,PyData.depthAll]⟩,Fh hs,by rw[AZ rfl,i8];exact q⟩
section
variable{P:Program}{w:World}{K:PySem.W.Frag}{mg:Str->Option Value}{base:Heap}
theorem Pz{H:Hp}{t l:Addr}{k:Str×Str}{ps:List PA2}{Q:VK}(ht:H t=some (.tup [.str k.1,.str k.2]))(hl:H l=some (.lst (Bp ps)))(hp:∀q∈ps,Q5 H q)
  (hk:PySem.PyData.strOk k.1=true/\PySem.PyData.strOk k.2=true) (hs:∀q∈ps,PySem.PyData.strOk q.2.1=true/\PySem.PyData.strOk q.2.2=true) (q:Q (.bl (decide (k∈ps.map fun q=>q.2))) H):Rx K false (.ref t) (.ref l) H Q :=
 ⟨pd k,_,R1 ht,.inl (Gz hl hp),⟨Ja hk.1 hk.2,by simp[pd,PyData.depth,PyData.depthAll]⟩,Fh hs,by rw[AR (by decide),i8];exact q⟩
theorem S5:FnScope ["sayings", "ahead", "row", "said"] ["sayings", "ahead", "row"] (B6 s_fits_backs):=fsc
def Gw:Sp:=fun vs H Q _=>∃(a l p:Addr) (ss:List RW) (bs:List PA2) (o t:Str),vs = [.ref a,.ref l,.ref p]/\RowsAt H a ss/\ss.length<=1000/\H l=some (.lst (Bp bs))/\(∀q∈bs,Q5 H q)/\(∀q∈bs,E4 q.2.1=true/\E4 q.2.2=true)/\H p=some (.tup [.str o,.str t])/\E4 o=true/\E4 t=true/\(o,t)∉(bs.map fun q=>q.2)/\o∈Y7 ss/\t∈Y7 ss/\o≠t/\∀H',Same H H'->Q (.bl true) H'
theorem Bz(T:Tx K mg):FnOk P w K mg base CX0 3 T.aJ.f T.aJ.fd ["sayings", "ahead", "row"] Gw:=by
 have G_is_row_of:=K4 (P:=P) (w:=w) (base:=base) T;have G_names_of:=E2 (P:=P) (w:=w) (base:=base) T;have sc:=S5;refine T.aJ.F.ok S5 (fun vs H Q E h=>?_) (fun cdv A outer s H vs Q E hr h=>?_)
 .obtain⟨a,l,p,ss,bs,o,t,rfl,_⟩:=h;rfl
 .obtain⟨a,l,p,ss,bs,o,t,rfl,hS,ls,hl,hb,nb,hp,no,nt,hx,ho,ht,ne,q⟩:=h;refine⟨_,(A9 (C2 (i:=3) sc.nd rfl (.inl rfl) (C3 T.ae G_names_of (Rm hr) (A6 (pv 0) A8)))
   (A9 (E5 (PW.pt (x6 (K1 (F7 (C3 T.ar G_is_row_of (Rm hr) (A6 (pv 2) (A6 B0 A8))))) (Y1 (C4 (Wj K hr.units) (pv 2) (pv 1) rfl)))) (B3 (C1 u9)) C5)
   (B3 (C1 (G8 (D9 (t9 K) (C6 (ixT K) (pv 2) B0 (fun _ _=>rfl)) (pv 3) rfl) (G8 (D9 (t9 K) (C6 (ixT K) (pv 2) B0 (fun _ _=>rfl)) (pv 3) rfl) (K3 (D9 Hc (C6 (ixT K) (pv 2) B0 (fun _ _=>rfl)) (C6 (ixT K) (pv 2) B0 (fun _ _=>rfl)) (C8 _))))))))),?_⟩
  refine B5 fun N1 hN1=>?_;refine ex1 rfl ⟨a,ss,rfl,hS,ls,fun m1 H1 s1 hm1 em1=>?_⟩;refine hN1 _ _ (B5 fun N2 hN2=>?_);have p1:=s1 _ _ hp;refine ex1 rfl ⟨p,_,_,rfl,p1,rfl,_,rfl,Q1 ?_⟩;refine ex1 rfl (ex1 rfl (Pz (k:=(o,t)) p1 (s1 _ _ hl) (Al s1 hb) ⟨F6 no,F6 nt⟩ (fun q hq=>⟨F6 (nb q hq).1,F6 (nb q hq).2⟩) ?_));rw[A_ hx];refine⟨_,rfl,Q1 ?_⟩;refine hN2 _ _ ?_;refine ex1 rfl ⟨p,_,C0 rfl rfl ⟨SqT.of p1,B9 (j:=0) rfl,ex1 rfl (O2 (.inl (SqL.of em1)) ?_)⟩⟩;rw[AI ho];refine⟨_,rfl,Y5 ?_⟩;refine ex1 rfl ⟨p,_,C0 rfl rfl ⟨SqT.of p1,B9 (j:=1) rfl,ex1 rfl (O2 (.inl (SqL.of em1)) ?_)⟩⟩;rw[AI ht];refine⟨_,rfl,Y5 ?_⟩;refine ex1 rfl ⟨p,_,C0 rfl rfl ⟨SqT.of p1,B9 (j:=0) rfl,ex1 rfl ⟨p,_,C0 rfl rfl ⟨SqT.of p1,B9 (j:=1) rfl,rfl,?_⟩⟩⟩⟩;have e:(!decide (V.str o=V.str t))=true:=by rw[A_ fun z=>ne (V.str.inj z)];rfl
  rw[e];exact q H1 s1
theorem Vd(xs:List V)(i:Nat)(h:i<=xs.length):w4 xs none (some (i:Int))=xs.take i:=by
 unfold w4;rw[HT.sIx_none,HT.sIx_nat,DT,Nat.sub_zero,DM h]
def i5(base:Heap)(f:Addr)(sp:Sp):Sp:=fun vs H Q _=>∃(x:Str) (a:Addr) (as:List Addr),vs = [.str x,.ref a,.ref f]/\H a=some (.lst (as.map V.ref))/\as.length<=1000/\FnHere base H f /\
 (∀(i:Nat) (q:Addr),as[i]?=some q->∀(G:Hp) (l:Addr) (Q':VK),Same H G->G l=some (.lst ((as.take i).map V.ref))->(∀G',Same G G'->Q' (.bl true) G')->sp [.ref l,.ref q] G Q' E0)/\∀H',Same H H'->Q .non H'
theorem U6:FnScope ["part", "rows", "fits", "place", "row"] ["part", "rows", "fits"] (B6 s_check_part):=fsc
theorem J2(T:Tx K mg){f:Addr}{fd:FuncData}{k:Nat}{sp:Sp}(G_fits:FnOk P w K mg base CX0 k f fd ["ahead", "row"] sp)(hb_fits:Binds K fd ["ahead", "row"] []):FnOk P w K mg base CX0 (k+1) T.ao.f T.ao.fd ["part", "rows", "fits"] (i5 base f sp):=by
 have sc:=U6;refine T.ao.F.ok U6 (fun vs H Q E h=>?_) (fun cdv A outer s H vs Q E hr h=>?_)
 .obtain⟨x,a,as,rfl,_⟩:=h;rfl
 .obtain⟨x,a,as,rfl,ha,len,hf,hfit,q⟩:=h;refine⟨_,(B3 (L6 PassesOwn.never rfl (piE K T.bA (A6 (pv 1) A8)) (pgT K (n:=2) (E1 (D8 (i:=3) sc.nd rfl (.inl rfl)) (E1 (D8 (i:=4) sc.nd rfl (.inl rfl)) X7)))
   (B3 (E5 (K1 (F7 (Mz (i:=2) G_fits (hr.mono (Nat.le_refl _)) hb_fits (A6 (Z7 (slL K) (pv 1) Bx (Bv (pv 3))) (A6 (pv 4) A8))))) (B3 Bm) C5)))),?_⟩
  refine ex1 rfl ⟨a,ex1 rfl ⟨SqL.of ha,Sh (n:=as.length) (fun i σ H1=>∃v3 v4,σ = [some (.str x),some (.ref a),some (.ref f),v3,v4]/\Same H H1) ⟨_,_,rfl,fun b o e=>e⟩ ?_ ?_ ?_ ?_⟩⟩
  .rintro i σ H1 hi ⟨v3,v4,rfl,s1⟩;exact⟨_,_,SqL.of (s1 _ _ ha),by rw[AG,AJ hi];rfl⟩
  .rintro σ H1 ⟨v3,v4,rfl,s1⟩;exact⟨_,SqL.of (s1 _ _ ha),by rw[AB]⟩
  .rintro i σ H1 v H' hi ⟨v3,v4,rfl,s1⟩ ⟨t,y,rfl,ht,rfl,hy⟩;have hy:=hy _ (SqL.of (s1 _ _ ha));have hi':as[i]?=some as[i]:=AJ hi;rw[AG,hi']at hy;cases hy;have ut:=s1.trans (Same.new (o:=.tup [.int (i:Int),.ref as[i]]) ht);refine⟨t,_,rfl,SqT.of A7,rfl,_,_,rfl,_,_,rfl,rfl,?_⟩;refine⟨rfl,hf.same ut,?_⟩;refine ex1 rfl (ex1 rfl ⟨_,rfl,a,_,rfl,SqL.of (ut _ _ ha),fun l hl=>?_⟩);have ul:=ut.trans (Same.new (o:=.lst (w4 (as.map V.ref) none (some (i:Int)))) hl);have el:(upd (upd H1 t (.tup [.int (i:Int),.ref as[i]])) l (.lst (w4 (as.map V.ref) none (some (i:Int))))) l=some (.lst ((as.take i).map V.ref)):=by rw[A7,Vd _ _ (by rw[AB];omega),EL]
   generalize upd (upd H1 t (.tup [.int (i:Int),.ref as[i]])) l (.lst (w4 (as.map V.ref) none (some (i:Int))))=H2 at ul el⊢;refine ex1 rfl ⟨hf.same ul,hfit i _ hi' H2 l _ ul el fun G' s'=>⟨_,rfl,Q1 ?_⟩⟩;exact⟨_,_,rfl,ul.trans s'⟩
  .rintro σ H1 ⟨v3,v4,rfl,s1⟩;exact q H1 s1
end
abbrev PEr:Type:=Addr×Str×Int
abbrev SAr:Type:=Addr×Str×Str×Addr×List Str
abbrev STr:Type:=Addr×Str×Str×Str
def rP(q:PEr):RW:=(q.1,q.2.1,[.int q.2.2])
def rS(q:SAr):RW:=(q.1,q.2.1,[.str q.2.2.1,.ref q.2.2.2.1])
def rT(q:STr):RW:=(q.1,q.2.1,[.str q.2.2.1,.str q.2.2.2])
structure WRows(H:Hp)(a b c d:Addr)(pe:List PEr)(sa:List SAr)(st:List STr)(ba:List PA2):Prop where
 hp:RowsAt H a (pe.map rP)
 hs:RowsAt H b (sa.map rS)
 sp:∀q∈sa,H q.2.2.2.1=some (.lst (q.2.2.2.2.map V.str))
 ht:RowsAt H c (st.map rT)
 hb:H d=some (.lst (Bp ba))
 pb:∀q∈ba,Q5 H q
theorem WRows.same{H H':Hp}{a b c d:Addr}{pe:List PEr}{sa:List SAr}{st:List STr}{ba:List PA2}(h:WRows H a b c d pe sa st ba)(s:Same H H'):WRows H' a b c d pe sa st ba :=
 ⟨h.hp.same s,h.hs.same s,fun q hq=>s _ _ (h.sp q hq),h.ht.same s,s _ _ h.hb,Al s h.pb⟩
theorem WRows.keep{H H':Hp}{a b c d p:Addr}{ls:List (Pos×Str)}{pe:List PEr}{sa:List SAr}{st:List STr}{ba:List PA2}(h:WRows H a b c d pe sa st ba)(t:Z6 H p ls)(k:∀z o,H z=some o->z≠p->H' z=some o):WRows H' a b c d pe sa st ba:=by
 obtain⟨ps,e,_⟩:=t;have kk:∀{z:Addr} {o:HO},H z=some o->o≠ .tbl ps->H' z=some o:=fun hz n=>k _ _ hz fun y=>by rw[y,e]at hz;cases hz;exact n rfl
 exact⟨⟨kk h.hp.at_ (by intro z;cases z),fun q hq=>kk (h.hp.row q hq) (by intro z;cases z)⟩,⟨kk h.hs.at_ (by intro z;cases z),fun q hq=>kk (h.hs.row q hq) (by intro z;cases z)⟩,fun q hq=>kk (h.sp q hq) (by intro z;cases z),⟨kk h.ht.at_ (by intro z;cases z),fun q hq=>kk (h.ht.row q hq) (by intro z;cases z)⟩,kk h.hb (by intro z;cases z),fun q hq=>kk (h.pb q hq) (by intro z;cases z)⟩
theorem WRows.keepX{H H':Hp}{a b c d x C dx:Addr}{fs:List (Str×V)}{pe:List PEr}{sa:List SAr}{st:List STr}{ba:List PA2}(h:WRows H a b c d pe sa st ba)(hx:H x=some (.ins C dx fs))(k:Sm [x] H H'):WRows H' a b c d pe sa st ba:=by
 have kk:∀{z:Addr} {o:HO},H z=some o->o≠ .ins C dx fs->H' z=some o:=fun hz n=>k _ _ hz fun y=>by rw[AC.mp y,hx]at hz;cases hz;exact n rfl
 exact⟨⟨kk h.hp.at_ (by intro z;cases z),fun q hq=>kk (h.hp.row q hq) (by intro z;cases z)⟩,⟨kk h.hs.at_ (by intro z;cases z),fun q hq=>kk (h.hs.row q hq) (by intro z;cases z)⟩,fun q hq=>kk (h.sp q hq) (by intro z;cases z),⟨kk h.ht.at_ (by intro z;cases z),fun q hq=>kk (h.ht.row q hq) (by intro z;cases z)⟩,kk h.hb (by intro z;cases z),fun q hq=>kk (h.pb q hq) (by intro z;cases z)⟩
theorem Z8{H H':Hp}{p x C dx:Addr}{fs:List (Str×V)}{ls:List (Pos×Str)}(h:Z6 H p ls)(hx:H x=some (.ins C dx fs))(k:Sm [x] H H'):Z6 H' p ls:=by
 have kk:∀{z:Addr} {o:HO},H z=some o->o≠ .ins C dx fs->H' z=some o:=fun hz n=>k _ _ hz fun y=>by rw[AC.mp y,hx]at hz;cases hz;exact n rfl
 obtain⟨ps,e,t,q⟩:=h;exact⟨ps,kk e (by intro z;cases z),t,fun l hl=>(q l hl).imp id fun⟨c,e,hc⟩=>⟨c,e,kk hc (by intro z;cases z)⟩⟩
def nP(pe:List PEr):List Str:=pe.map fun q=>q.2.1
def nS(sa:List SAr):List Str:=sa.map fun q=>q.2.1
def nT(st:List STr):List Str:=st.map fun q=>q.2.1
structure WOk(pe:List PEr)(sa:List SAr)(st:List STr)(ba:List PA2):Prop where
 len:pe.length<=30/\sa.length<=30/\st.length<=30/\ba.length<=30
 pn:(nP pe).Nodup
 pm:∀q∈pe,E4 q.2.1=true/\0<=q.2.2/\q.2.2<=9
 sn:(nS sa++nT st).Nodup
 nm:∀x∈nS sa++nT st,E4 x=true
 kd:∀q∈sa,q.2.2.1 = "fact"\/q.2.2.1 = "claim"
 sk:∀q∈sa,(∀x∈q.2.2.2.2,x∈nP pe)/\q.2.2.2.2.Nodup/\q.2.2.2.2.length<=100
 tg:∀q∈st,q.2.2.1∈nS sa/\(q.2.2.2∈nS sa\/q.2.2.2∈nT st)
 bn:(ba.map fun q=>q.2).Nodup
 bk:∀q∈ba,q.2.1∈nS sa/\q.2.2∈nS sa/\q.2.1≠q.2.2
theorem Ut(pe:List PEr):Y7 (pe.map rP)=nP pe:=by unfold Y7 nP;rw[BH];rfl
theorem Dz(sa:List SAr):Y7 (sa.map rS)=nS sa:=by unfold Y7 nS;rw[BH];rfl
theorem Ue(st:List STr):Y7 (st.map rT)=nT st:=by unfold Y7 nT;rw[BH];rfl
theorem q9{α:Type}{r:α->RW}{xs:List α}{i:Nat}{H G:Hp}{l:Addr}(h:∀q∈xs.map r,Rl H q)(s:Same H G)(el:G l=some (.lst (((xs.map fun x=>(r x).1).take i).map V.ref))):RowsAt G l ((xs.take i).map r):=by
 refine⟨?_,fun q hq=>s _ _ (h q ?_)⟩
 .rw[el,<-EL,BH,BH];rfl
 .obtain⟨x,hx,rfl⟩:=BL.mp hq;exact BL.mpr ⟨x,BM hx,rfl⟩
theorem Er{α:Type}{r:α->RW}{xs:List α}:((xs.map r).map fun q=>V.ref q.1) =(xs.map fun x=>(r x).1).map V.ref:=by rw[BH,BH];rfl
def wfW(a b c d:Addr):List (Str×V):=[("people",.ref a),("sayings",.ref b),("strikes",.ref c),("backs",.ref d)]
def WeaveAt(C:Addr)(H:Hp)(x:Addr)(pe:List PEr)(sa:List SAr)(st:List STr)(ba:List PA2):Prop:=∃dx a b c d,H x=some (.ins C dx (wfW a b c d))/\WRows H a b c d pe sa st ba
theorem WeaveAt.same{C:Addr}{H H':Hp}{x:Addr}{pe:List PEr}{sa:List SAr}{st:List STr}{ba:List PA2}(h:WeaveAt C H x pe sa st ba)(s:Same H H'):WeaveAt C H' x pe sa st ba:=let⟨dx,a,b,c,d,e,w⟩:=h;⟨dx,a,b,c,d,s _ _ e,w.same s⟩
def WeaveNew(C:Addr)(H0 H:Hp)(x:Addr)(pe:List PEr)(sa:List SAr)(st:List STr)(ba:List PA2):Prop:=∃dx a b c d,H x=some (.ins C dx (wfW a b c d))/\WRows H a b c d pe sa st ba/\H0 a=none/\H0 b=none/\H0 c=none/\H0 d=none/\∀q∈sa,H0 q.2.2.2.1=none
theorem WeaveNew.at_{C:Addr}{H0 H:Hp}{x:Addr}{pe:List PEr}{sa:List SAr}{st:List STr}{ba:List PA2}(h:WeaveNew C H0 H x pe sa st ba):WeaveAt C H x pe sa st ba:=let⟨dx,a,b,c,d,e,w,_⟩:=h;⟨dx,a,b,c,d,e,w⟩
theorem none_of{L:List Addr}{H H':Hp}{z:Addr}(k:Sm L H H')(n:z∉L)(h:H' z=none):H z=none:=by
 cases y:H z with
 | none=>rfl
 | some o=>rw[k z o y n]at h;cases h
theorem E7{H H':Hp}{p:Addr}{ls:List (Pos×Str)}(h:Z6 H p ls)(s:Same H H'):Z6 H' p ls:=let⟨ps,e,t,q⟩:=h;⟨ps,s _ _ e,t,fun l hl=>(q l hl).imp id fun⟨c,e,hc⟩=>⟨c,e,s _ _ hc⟩⟩
def dS(q:SAr):Str×Str×List Str:=(q.2.1,q.2.2.1,q.2.2.2.2)
section
variable{P:Program}{w:World}{K:PySem.W.Frag}{mg:Str->Option Value}{base:Heap}
def Gi(f c:Addr)(q:Str)(ar:Arguments)(bd:Expr)(sco:Scope)(cl:List (Str×Addr))(g:V->V->Hp->VK->Prop):Sp:=fun vs H Q _=>∃u v,vs = [u,v]/\H f=some (LamO f c q ar bd sco cl)/\H c=some (CodeO c q)/\g u v H Q
theorem Br{f c:Addr}{q:Str}{ar:Arguments}{bd:Expr}{sco:Scope}{cl:List (Str×Addr)}{fr:List Str}{gs:List V}{k:Nat}{g:V->V->Hp->VK->Prop}(S:LamScope ("ahead" :: "row" :: fr) ["ahead", "row"] fr sco)(C:ClosV base cl fr gs)
  (hbody:∀(A:Around) (outer:List Env) (s:Shared) (H:Hp) (u v:V) (Q:VK),Room k (A.deeper (PySem.W.envX q sco s.heap.objs.size f (.ref c) cl))->g u v H Q ->
   ∃t,PE (Iy P w K mg base ("ahead" :: "row" :: fr) q sco f (.ref c) cl A outer s H) bd t/\t (some u::some v::gs.map some) H Q) :
  FnOk P w K mg base CX0 (k+1) f (PySem.W.kla_fn "<lambda>" q ar bd sco cl .none (.ref c) .none) ["ahead", "row"] (Gi f c q ar bd sco cl g):=by
 refine Ts S C (fun vs H Q E h=>?_) (fun vs H Q E h=>?_) fun A outer s H vs Q E hr h=>?_
 .obtain⟨u,v,rfl,_⟩:=h;rfl
 .obtain⟨u,v,rfl,h1,h2,_⟩:=h;exact⟨h1,h2⟩
 .obtain⟨u,v,rfl,_,_,h⟩:=h;exact hbody A outer s H u v Q hr h
theorem M0:FnScope ["self", "people", "sayings", "strikes", "backs", "goals"] ["self", "people", "sayings", "strikes", "backs"] (B6 s_Weave___init__):=fsc
def Bh(C pt:Addr):Sp:=fun vs H Q _=>∃(x dx a b c d:Addr) (pe:List PEr) (sa:List SAr) (st:List STr) (ba:List PA2),vs = [.ref x,.ref a,.ref b,.ref c,.ref d]/\H x=some (.ins C dx [])/\WRows H a b c d pe sa st ba/\WOk pe sa st ba/\Z6 H pt R0 /\
 ∀(sa':List SAr) H',Sm [x,pt] H H'->Z6 H' pt R0->sa'.map dS=sa.map dS->WeaveNew C H H' x pe sa' st ba->Q .non H'
set_option maxHeartbeats 8000000 in
theorem Bt(T:Tx K mg)(hB:base.BuiltinsAt mg T.ad):FnOk P w K mg base CX0 6 T.bq T.bl ["self", "people", "sayings", "strikes", "backs"] (Bh T.ab T.ad):=by
 have G_begins_of:=Dg (P:=P) (w:=w) (base:=base) T;have sc:=M0;refine T.br.okC M0 (fun vs H Q E h=>?_) (fun cdv A outer s H vs Q E hcd hr h=>?_)
 .obtain⟨x,dx,a,b,c,d,pe,sa,st,ba,rfl,_⟩:=h;rfl
 .obtain⟨x,dx,a,b,c,d,pe,sa,st,ba,rfl,hx,hW,ok,hT,q⟩:=h;have hu:=Jn hr;refine⟨_,(A9 (I0 (Gj (k:=5) (fun _=>rfl) T.ao (Rm hr) (A6 D4 (A6 (pv 1) (A6 (O0 T.aj.m) A8)))))
   (A9 (I0 (Gj (k:=5) (fun _=>rfl) T.ao (Rm hr) (A6 D4 (A6 (pv 2) (A6 (Lu (ls:=R0) T.aX hB (hcd.symm.trans T.bf) rfl rfl (by show ∀x:Str×NameKind,x∈_->x.2=NameKind.free->(B6 s_Weave___init__).names.lookup x.1=some NameKind.cell;decide +kernel) (by first | exact .head _ | exact .tail _ (.head _) | exact .tail _ (.tail _ (.head _))) (by decide +kernel)) A8)))))
   (A9 (C2 (i:=5) sc.nd rfl (.inr rfl) (C3 T.aO G_begins_of (Rm hr) (A6 (pv 3) A8)))
   (A9 (I0 (Gj (k:=5) (fun _=>rfl) T.ao (Rm hr) (A6 D4 (A6 (pv 3) (A6 (Lu (ls:=R0) T.aX hB (hcd.symm.trans T.bf) rfl rfl (by show ∀x:Str×NameKind,x∈_->x.2=NameKind.free->(B6 s_Weave___init__).names.lookup x.1=some NameKind.cell;decide +kernel) (by first | exact .head _ | exact .tail _ (.head _) | exact .tail _ (.tail _ (.head _))) (by decide +kernel)) A8)))))
   (A9 (I0 (Gj (k:=5) (fun _=>rfl) T.ao (Rm hr) (A6 D4 (A6 (pv 4) (A6 (Lu (ls:=R0) T.aX hB (hcd.symm.trans T.bf) rfl rfl (by show ∀x:Str×NameKind,x∈_->x.2=NameKind.free->(B6 s_Weave___init__).names.lookup x.1=some NameKind.cell;decide +kernel) (by first | exact .head _ | exact .tail _ (.head _) | exact .tail _ (.tail _ (.head _))) (by decide +kernel)) A8)))))
   (A9 (psF K (pv 0) (Be (j8 K) T.av O3 (A6 (pv 1) A8)))
   (A9 (psF K (pv 0) (Q7 (N':=["name", "kind", "speakers"]) (cap:=[none,none,none]) (cl:=[]) (O7 trivial trivial) rfl (piL K (pv 2)) (fun _ _ _ _=>by exact⟨(pgT K (n:=3) (E1 (pgC 0) (E1 (pgC 1) (E1 (pgC 2) X7)))),G0,(G9 (A6 (pv 0) (A6 (pv 1) (A6 (Be (j8 K) T.av O3 (A6 (pv 2) A8)) A8))))⟩)))
   (A9 (psF K (pv 0) (Be (j8 K) T.av O3 (A6 (pv 3) A8)))
   (B3 (psF K (pv 0) (Be (j8 K) T.av O3 (A6 (pv 4) A8)))))))))))),?_⟩
  obtain⟨lp,lsa,lst,lba⟩:=ok.len;refine B5 fun N1 hN1=>?_;have hWp:=hW.hp.at_;rw[Er]at hWp;refine ex1 rfl fun base' cells kin=>⟨i5 base' T.aj.f Fu,(J2 T (w8 T) T.aj.b).mono (by decide), "people",a,_,rfl,hWp,by rw[AB];omega,FnHere.def T.aj.F kin,fun i z hz G l Q' sG el hQ=>?_,fun H1 s1=>?_⟩
  .rw[AG]at hz;obtain⟨p,hp,rfl⟩:=BC.mp hz;have mp:=AH hp;obtain⟨p1,p2,p3⟩:=ok.pm p mp;refine⟨l,p.1,_,p.2.1,p.2.2,rfl,q9 hW.hp.row sG el,by rw[AB,AL];omega,sG _ _ (hW.hp.row (rP p) (BL.mpr ⟨p,mp,rfl⟩)),p1,fun y=>?_,p2,p3,hQ⟩;rw[Ut]at y;unfold nP at y;rw[EL]at y;exact P9 ok.pn (by unfold nP;rw[AG,hp];rfl) y
  refine hN1 _ _ (B5 fun N2 hN2=>?_);have W1:=hW.same s1;have T1:=E7 hT s1;refine ex1 rfl ⟨T1,fun f cc H2 hf T2 hc2 hf2 nfp k2=>?_⟩;have W2:WRows H2 a b c d pe sa st ba:=W1.keep T1 k2;have hWs:=W2.hs.at_;rw[Er]at hWs;refine fun base' cells kin=>⟨i5 base' f (Gi f cc _ _ _ _ _ fun u v H Q=>Ge [.ref a,u,v] H Q E0),?F, "sayings",b,_,rfl,hWs,by rw[AB];omega,FnHere.lam hf2,fun i z hz G l Q' sG el hQ=>⟨_,_,rfl,sG _ _ hf2,sG _ _ hc2,?_⟩,fun H3 s3=>?_⟩
  case F =>
   refine J2 (k:=4) T (Br (fr:=["people"]) (gs:=[.ref a]) ⟨rfl,rfl,rfl,rfl,by decide +kernel,by decide +kernel,by decide +kernel,by decide +kernel,by decide +kernel⟩ (cells.clos (by decide +kernel) (by decide +kernel) (by show ∀x∈_,(B6 s_Weave___init__).names.lookup x=some NameKind.cell;decide +kernel) rfl fun i x v h1 h2=>?_) fun A outer s H u v Q hr h=>⟨_,C3 T.ay (f8 T) (Rm hr) (A6 (pv 2) (A6 (pv 0) (A6 (pv 1) A8))),ex1 rfl (ex1 rfl (ex1 rfl h))⟩) (Binds.all fun us hl=>by match us,hl with | [_,_],_=>rfl)
   match i,h1,h2 with
   | 0,h1,h2=>cases h1;cases h2;exact⟨1,rfl,rfl⟩
   | n+1,h1,_=>cases h1
  .rw[AG]at hz;obtain⟨p,hp,rfl⟩:=BC.mp hz;have mp:=AH hp;obtain⟨sk1,sk2,sk3⟩:=ok.sk p mp;have hp':(nS sa)[i]?=some p.2.1:=by unfold nS;rw[AG,hp];rfl
   refine⟨a,l,p.1,p.2.2.2.1,_,_,p.2.1,p.2.2.1,p.2.2.2.2,rfl,W2.hp.same sG,by rw[AB];omega,q9 W2.hs.row sG el,by rw[AB,AL];omega,sG _ _ (W2.hs.row (rS p) (BL.mpr ⟨p,mp,rfl⟩)),sG _ _ (W2.sp p mp),ok.nm _ (BN _ (AH hp')),fun y=>?_,ok.kd p mp,fun y hy=>by rw[Ut];exact sk1 y hy,sk2,sk3,hQ⟩;rw[Dz]at y;unfold nS at y;rw[EL]at y;exact P9 (CC.mp ok.sn).1 hp' y
  refine hN2 _ _ (B5 fun N3 hN3=>?_);have W3:=W2.same s3;have T3:=E7 T2 s3;have k3:∀z o,H z=some o->z≠T.ad->H3 z=some o:=fun z o e n=>s3 _ _ (k2 z o (s1 _ _ e) n);clear hc2 hf2 W2 W1 T1 T2 k2 s1 s3 hWs hWp;refine ex1 rfl ⟨c,_,rfl,W3.ht,by rw[AB];omega,fun gg H4 s4 hgg egg=>?_⟩;rw[Ue]at egg;refine hN3 _ _ (B5 fun N4 hN4=>?_);have W4:=W3.same s4;have T4:=E7 T3 s4;refine ex1 rfl ⟨T4,fun f2 cc2 H5 hf T5 hc5 hf5 nfp k5=>?_⟩;have W5:WRows H5 a b c d pe sa st ba:=W4.keep T4 k5;have egg:H5 gg=some (.lst ((nT st).map V.str)):=k5 _ _ egg fun y=>by
   obtain⟨ps,e,_⟩:=T4;rw[y,e]at egg;cases egg
  have hWt:=W5.ht.at_;rw[Er]at hWt;refine fun base' cells kin=>⟨i5 base' f2 (Gi f2 cc2 _ _ _ _ _ fun u v H Q=>Fr [.ref b,.ref gg,u,v] H Q E0),?F2, "strikes",c,_,rfl,hWt,by rw[AB];omega,FnHere.lam hf5,fun i z hz G l Q' sG el hQ=>⟨_,_,rfl,sG _ _ hf5,sG _ _ hc5,?_⟩,fun H6 s6=>?_⟩
  case F2 =>
   refine J2 (k:=4) T (Br (fr:=["sayings", "goals"]) (gs:=[.ref b,.ref gg]) ⟨rfl,rfl,rfl,rfl,by decide +kernel,by decide +kernel,by decide +kernel,by decide +kernel,by decide +kernel⟩ (cells.clos (by decide +kernel) (by decide +kernel) (by show ∀x∈_,(B6 s_Weave___init__).names.lookup x=some NameKind.cell;decide +kernel) rfl fun i x v h1 h2=>?_) fun A outer s H u v Q hr h=>⟨_,C3 T.az (o8 T) (Rm hr) (A6 (pv 2) (A6 (pv 3) (A6 (pv 0) (A6 (pv 1) A8)))),ex1 rfl (ex1 rfl (ex1 rfl (ex1 rfl h)))⟩) (Binds.all fun us hl=>by match us,hl with | [_,_],_=>rfl)
   match i,h1,h2 with
   | 0,h1,h2=>cases h1;cases h2;exact⟨2,rfl,rfl⟩
   | 1,h1,h2=>cases h1;cases h2;exact⟨5,rfl,rfl⟩
   | n+2,h1,_=>cases h1
  .rw[AG]at hz;obtain⟨p,hp,rfl⟩:=BC.mp hz;have mp:=AH hp;obtain⟨t1,t2⟩:=ok.tg p mp;have hp':(nT st)[i]?=some p.2.1:=by unfold nT;rw[AG,hp];rfl
   have mt:=AH hp';obtain⟨_,ndt,dis⟩:=CC.mp ok.sn;refine⟨b,gg,l,p.1,_,_,nT st,p.2.1,p.2.2.1,p.2.2.2,rfl,W5.hs.same sG,by rw[AB];omega,sG _ _ egg,q9 W5.ht.row sG el,by rw[AB,AL];omega,sG _ _ (W5.ht.row (rT p) (BL.mpr ⟨p,mp,rfl⟩)),ok.nm _ (BE _ mt),fun y=>?_,fun y=>?_,by rw[Dz];exact t1,by rw[Dz];exact t2,hQ⟩
   .rw[Dz]at y;exact dis _ y _ mt rfl
   .rw[Ue]at y;unfold nT at y;rw[EL]at y;exact P9 ndt hp' y
  refine hN4 _ _ (B5 fun N5 hN5=>?_);have W6:=W5.same s6;have T6:=E7 T5 s6;have k6:∀z o,H z=some o->z≠T.ad->H6 z=some o:=fun z o e n=>s6 _ _ (k5 z o (s4 _ _ (k3 z o e n)) n);clear hc5 hf5 W5 W4 T4 T5 k5 s4 s6 hWt W3 T3 k3 egg;refine ex1 rfl ⟨T6,fun f3 cc3 H7 hf T7 hc7 hf7 nfp k7=>?_⟩;have W7:WRows H7 a b c d pe sa st ba:=W6.keep T6 k7;refine fun base' cells kin=>⟨i5 base' f3 (Gi f3 cc3 _ _ _ _ _ fun u v H Q=>Gw [.ref b,u,v] H Q E0),?F3, "backs",d,ba.map fun q=>q.1,rfl,by rw[W7.hb];unfold Bp;rw[BH];rfl,by rw[AB];omega,FnHere.lam hf7,fun i z hz G l Q' sG el hQ=>⟨_,_,rfl,sG _ _ hf7,sG _ _ hc7,?_⟩,fun H8 s8=>?_⟩
  case F3 =>
   refine J2 (k:=4) T (Br (fr:=["sayings"]) (gs:=[.ref b]) ⟨rfl,rfl,rfl,rfl,by decide +kernel,by decide +kernel,by decide +kernel,by decide +kernel,by decide +kernel⟩ (cells.clos (by decide +kernel) (by decide +kernel) (by show ∀x∈_,(B6 s_Weave___init__).names.lookup x=some NameKind.cell;decide +kernel) rfl fun i x v h1 h2=>?_) fun A outer s H u v Q hr h=>⟨_,C3 T.aJ (Bz T) (Rm hr) (A6 (pv 2) (A6 (pv 0) (A6 (pv 1) A8))),ex1 rfl (ex1 rfl (ex1 rfl h))⟩) (Binds.all fun us hl=>by match us,hl with | [_,_],_=>rfl)
   match i,h1,h2 with
   | 0,h1,h2=>cases h1;cases h2;exact⟨2,rfl,rfl⟩
   | n+1,h1,_=>cases h1
  .rw[AG]at hz;obtain⟨p,hp,rfl⟩:=BC.mp hz;have mp:=AH hp;obtain⟨b1,b2,b3⟩:=ok.bk p mp;have nmb:∀x∈nS sa,E4 x=true:=fun x hx=>ok.nm x (BN _ hx);have tk:∀q∈ba.take i,q∈ba:=fun q hq=>BM hq;refine⟨b,l,p.1,_,ba.take i,p.2.1,p.2.2,rfl,W7.hs.same sG,by rw[AB];omega,by rw[el,<-EL,BH];rfl,fun q hq=>sG _ _ (W7.pb q (tk q hq)),fun q hq=>⟨nmb _ (ok.bk q (tk q hq)).1,nmb _ (ok.bk q (tk q hq)).2.1⟩,sG _ _ (W7.pb p mp),nmb _ b1,nmb _ b2,fun y=>?_,by rw[Dz];exact b1,by rw[Dz];exact b2,b3,hQ⟩;rw[EL]at y;exact P9 ok.bn (by rw[AG,hp];rfl) y
  refine hN5 _ _ (B5 fun N6 hN6=>?_);have W8:=W7.same s8;have T8:=E7 T7 s8;have k8:∀z o,H z=some o->z≠T.ad->H8 z=some o:=fun z o e n=>s8 _ _ (k7 z o (k6 z o e n) n);clear hc7 hf7 W7 W6 T6 T7 k7 s8 k6;have xp:x≠T.ad:=fun y=>by
   obtain⟨ps,e,_⟩:=hT;rw[<-y,hx]at e;cases e
  have x8:=k8 _ _ hx xp;have new8:∀{z:Addr},H8 z=none->H z=none:=fun{z} h=>by
   cases y:H z with
   | none=>rfl
   | some o =>
    have ne:z≠T.ad:=fun e=>by
     obtain⟨ps,e8,_⟩:=T8;rw[e,e8]at h;cases h
    rw[k8 z o y ne]at h;cases h
  refine ex1 rfl ⟨a,_,rfl,.inl (SqL.of W8.hp.at_),fun l1 hl1=>?_⟩;have nx1:x≠l1:=B4 x8 hl1;refine ex1 rfl ⟨x,T.ab,dx,[],rfl,by rw[B7 nx1];exact x8,T.ak,T.bx,by decide,?_⟩;have nin:∀{b:Addr},b≠x->b∉[x]:=fun h z=>h (AC.mp z);have k9:Sm [x] H8 (upd (upd H8 l1 (.lst ((pe.map rP).map fun q=>V.ref q.1))) x (.ins T.ab dx (O5 "people" (.ref l1) []))):=(Sm.new (Sm.refl _ _) hl1).upd (by simp);have e9:(upd (upd H8 l1 (.lst ((pe.map rP).map fun q=>V.ref q.1))) x (.ins T.ab dx (O5 "people" (.ref l1) []))) l1=some (.lst ((pe.map rP).map fun q=>V.ref q.1)):=by rw[B7 nx1.symm,A7]
  have x9:(upd (upd H8 l1 (.lst ((pe.map rP).map fun q=>V.ref q.1))) x (.ins T.ab dx (O5 "people" (.ref l1) []))) x=some (.ins T.ab dx [("people",.ref l1)]):=by rw[A7];rfl
  refine hN6 _ _ ?_;show Vg _ _ _ _ (upd (upd H8 l1 (.lst ((pe.map rP).map fun q=>V.ref q.1))) x (.ins T.ab dx (O5 "people" (.ref l1) [])));generalize upd (upd H8 l1 (.lst ((pe.map rP).map fun q=>V.ref q.1))) x (.ins T.ab dx (O5 "people" (.ref l1) []))=H9 at k9 e9 x9⊢;have W9:=W8.keepX x8 k9;have T9:=Z8 T8 x8 k9;refine B5 fun N7 hN7=>?_;refine ex1 rfl ⟨b,rfl,⟨_,SqL.of W9.hs.at_⟩,fun D hD=>?_⟩;refine p9 (asL (K:=K) (SqL.of W9.hs.at_)) (fun i σ G=>(∃v0 v1 v2,σ = [v0,v1,v2])/\Same H9 G/\∃sa':List SAr,RowsAt G D (sa'.map rS)/\(∀q∈sa',q.2.2.2.1≠D/\G q.2.2.2.1=some (.lst (q.2.2.2.2.map V.str))/\H9 q.2.2.2.1=none)/\sa'.map dS =(sa.take i).map dS)
   ⟨⟨_,_,_,rfl⟩,Same.new hD,[],⟨A7,fun q h=>absurd h AO⟩,fun q h=>absurd h AO,rfl⟩ (fun i σ G _ ⟨_,s1,_⟩=>s1.at b) ?_ ?_
  .rintro i σ G v N hv ⟨⟨v0,v1,v2,rfl⟩,sG,sa',RG,spG,dG⟩ hN;rw[BH,AG]at hv;obtain⟨p,hp,rfl⟩:=BC.mp hv;have mp:=AH hp;have li:=(AM.mp hp).1;have lsa':=congrArg List.length dG;rw[AB,AB,AL]at lsa';have ep:=sG _ _ (W9.hs.row (rS p) (BL.mpr ⟨p,mp,rfl⟩));have es:=sG _ _ (W9.sp p mp);refine⟨p.1,ex1 rfl ⟨SqT.of ep,rfl,_,ex1 rfl ⟨_,ex1 rfl (C0 rfl rfl ?_)⟩⟩⟩;dsimp only[Nk];refine Y5 ?_;refine ex1 rfl (ex1 rfl (ex1 rfl ⟨p.2.2.2.1,_,rfl,.inl (SqL.of es),fun l hl=>⟨by show 3<=sizeLine;decide,fun t ht=>?_⟩⟩));have ul:=Same.new (o:=.lst (p.2.2.2.2.map V.str)) hl;have nlD:l≠D:=(B4 RG.at_ hl).symm;have ntD:t≠D:=(B4 (ul _ _ RG.at_) ht).symm;have ntl:l≠t:=B4 A7 ht;have el:(upd (upd G l (.lst (p.2.2.2.2.map V.str))) t (.tup [.str (rS p).2.1,.str p.2.2.1,.ref l])) l=some (.lst (p.2.2.2.2.map V.str)):=by rw[B7 ntl,A7]
   have et:(upd (upd G l (.lst (p.2.2.2.2.map V.str))) t (.tup [.str (rS p).2.1,.str p.2.2.1,.ref l])) t=some (.tup [.str (rS p).2.1,.str p.2.2.1,.ref l]):=A7;have ut:=ul.trans (Same.new (o:=.tup [.str (rS p).2.1,.str p.2.2.1,.ref l]) ht);generalize upd (upd G l (.lst (p.2.2.2.2.map V.str))) t (.tup [.str (rS p).2.1,.str p.2.2.1,.ref l])=G2 at el et ut⊢;have RG2:=RG.same ut;refine⟨_,RG2.at_,by rw[AB,AB,sizeLine_eq];omega,hN _ _ ⟨⟨_,_,_,rfl⟩,(sG.trans ut).upd hD,sa' ++ [(t,p.2.1,p.2.2.1,l,p.2.2.2.2)],⟨by rw[A7,BD,BD];rfl,fun z hz=>?_⟩,fun z hz=>?_,by rw[BD,dG,E6 hp,BD];rfl⟩⟩
   .rw[BD]at hz;rcases AK.mp hz with y | y
    .exact(B7 (p8 (RG2.row z y) RG2.at_ (by intro z;cases z))).trans (RG2.row z y)
    .rw[AC.mp y];exact(B7 ntD).trans et
   .rcases AK.mp hz with y | y
    .exact⟨(spG z y).1,(B7 (spG z y).1).trans (ut _ _ (spG z y).2.1),(spG z y).2.2⟩
    .rw[AC.mp y];exact⟨nlD,(B7 nlD).trans el,none_of sG.sm AO hl⟩
  .rintro σ G ⟨_,sG,sa',RG,spG,dG⟩;rw[AB,AB,CV]at dG;have x10:=sG _ _ x9;refine ex1 rfl ⟨x,T.ab,dx,_,rfl,x10,T.ak,T.ap,by simp,?_⟩;have k11:Sm [x] G (upd G x (.ins T.ab dx (O5 "sayings" (.ref D) [("people",.ref l1)]))):=(Sm.refl _ _).upd (by simp);have x11:(upd G x (.ins T.ab dx (O5 "sayings" (.ref D) [("people",.ref l1)]))) x=some (.ins T.ab dx [("people",.ref l1),("sayings",.ref D)]):=by rw[A7];rfl
   have W11:=(W9.same sG).keepX x10 k11;have T11:=Z8 (E7 T9 sG) x10 k11;have kx:∀{z:Addr} {o:HO},G z=some o->z≠x->(upd G x (.ins T.ab dx (O5 "sayings" (.ref D) [("people",.ref l1)]))) z=some o:=fun e n=>(B7 n).trans e;have nxl:∀{z:Addr} {xs:List V},G z=some (.lst xs)->z≠x:=fun e=>p8 e x10 (by intro z;cases z);have nxt:∀{z:Addr} {xs:List V},G z=some (.tup xs)->z≠x:=fun e=>p8 e x10 (by intro z;cases z);have p11:=kx (sG _ _ e9) (nxl (sG _ _ e9));have R11:RowsAt (upd G x (.ins T.ab dx (O5 "sayings" (.ref D) [("people",.ref l1)]))) D (sa'.map rS):=⟨kx RG.at_ (nxl RG.at_),fun q hq=>kx (RG.row q hq) (nxt (RG.row q hq))⟩;have S11:∀q∈sa',(upd G x (.ins T.ab dx (O5 "sayings" (.ref D) [("people",.ref l1)]))) q.2.2.2.1=some (.lst (q.2.2.2.2.map V.str)):=fun q hq=>kx (spG q hq).2.1 (nxl (spG q hq).2.1);have m11:Sm [x] H8 (upd G x (.ins T.ab dx (O5 "sayings" (.ref D) [("people",.ref l1)]))):=(k9.trans sG.sm).trans k11;refine hN7 _ _ ?_;generalize upd G x (.ins T.ab dx (O5 "sayings" (.ref D) [("people",.ref l1)]))=H11 at x11 W11 T11 p11 R11 S11 m11⊢;have n9:∀{z:Addr},H9 z=none->H z=none:=fun{z} h=>new8 (none_of k9 (fun y=>by rw[AC.mp y,x9]at h;cases h) h);have nD:=n9 hD;have nS':∀q∈sa',H q.2.2.2.1=none:=fun q hq=>n9 (spG q hq).2.2;clear kx nxl nxt k11 W9 T9 RG spG x10 sG hD k9 e9 n9;refine B5 fun N8 hN8=>?_;refine ex1 rfl ⟨c,_,rfl,.inl (SqL.of W11.ht.at_),fun l2 hl2=>?_⟩;have nx2:x≠l2:=B4 x11 hl2;have nl2:=new8 (none_of m11 (fun y=>nx2 (AC.mp y).symm) hl2);refine ex1 rfl ⟨x,T.ab,dx,_,rfl,by rw[B7 nx2];exact x11,T.ak,T.aI,by simp,?_⟩;have k12:Sm [x] H11 (upd (upd H11 l2 (.lst ((st.map rT).map fun q=>V.ref q.1))) x (.ins T.ab dx (O5 "strikes" (.ref l2) [("people",.ref l1),("sayings",.ref D)]))):=(Sm.new (Sm.refl _ _) hl2).upd (by simp);have e12:(upd (upd H11 l2 (.lst ((st.map rT).map fun q=>V.ref q.1))) x (.ins T.ab dx (O5 "strikes" (.ref l2) [("people",.ref l1),("sayings",.ref D)]))) l2=some (.lst ((st.map rT).map fun q=>V.ref q.1)):=by rw[B7 nx2.symm,A7]
   have x12:(upd (upd H11 l2 (.lst ((st.map rT).map fun q=>V.ref q.1))) x (.ins T.ab dx (O5 "strikes" (.ref l2) [("people",.ref l1),("sayings",.ref D)]))) x=some (.ins T.ab dx [("people",.ref l1),("sayings",.ref D),("strikes",.ref l2)]):=by rw[A7];rfl
   refine hN8 _ _ ?_;show Wl _ _ _ _ _ _ (upd (upd H11 l2 (.lst ((st.map rT).map fun q=>V.ref q.1))) x (.ins T.ab dx (O5 "strikes" (.ref l2) [("people",.ref l1),("sayings",.ref D)])));generalize upd (upd H11 l2 (.lst ((st.map rT).map fun q=>V.ref q.1))) x (.ins T.ab dx (O5 "strikes" (.ref l2) [("people",.ref l1),("sayings",.ref D)]))=H12 at k12 e12 x12⊢;have W12:=W11.keepX x11 k12;have T12:=Z8 T11 x11 k12;have kx:∀{z:Addr} {o:HO},H11 z=some o->z≠x->H12 z=some o:=fun e n=>k12 _ _ e (nin n);have nxl:∀{z:Addr} {xs:List V},H11 z=some (.lst xs)->z≠x:=fun e=>p8 e x11 (by intro z;cases z);have nxt:∀{z:Addr} {xs:List V},H11 z=some (.tup xs)->z≠x:=fun e=>p8 e x11 (by intro z;cases z);have p12:=kx p11 (nxl p11);have R12:RowsAt H12 D (sa'.map rS):=⟨kx R11.at_ (nxl R11.at_),fun q hq=>kx (R11.row q hq) (nxt (R11.row q hq))⟩;have S12:∀q∈sa',H12 q.2.2.2.1=some (.lst (q.2.2.2.2.map V.str)):=fun q hq=>kx (S11 q hq) (nxl (S11 q hq));have m12:=m11.trans k12;clear kx nxl nxt p11 R11 S11 W11 T11 k12 m11 x11;refine ex1 rfl ⟨d,_,rfl,.inl (SqL.of W12.hb),fun l3 hl3=>?_⟩;have nx3:x≠l3:=B4 x12 hl3;have nl3:=new8 (none_of m12 (fun y=>nx3 (AC.mp y).symm) hl3);refine ex1 rfl ⟨x,T.ab,dx,_,rfl,by rw[B7 nx3];exact x12,T.ak,T.a8,by simp,?_⟩;have k13:Sm [x] H12 (upd (upd H12 l3 (.lst (Bp ba))) x (.ins T.ab dx (O5 "backs" (.ref l3) [("people",.ref l1),("sayings",.ref D),("strikes",.ref l2)]))):=(Sm.new (Sm.refl _ _) hl3).upd (by simp);have e13:(upd (upd H12 l3 (.lst (Bp ba))) x (.ins T.ab dx (O5 "backs" (.ref l3) [("people",.ref l1),("sayings",.ref D),("strikes",.ref l2)]))) l3=some (.lst (Bp ba)):=by rw[B7 nx3.symm,A7]
   have x13:(upd (upd H12 l3 (.lst (Bp ba))) x (.ins T.ab dx (O5 "backs" (.ref l3) [("people",.ref l1),("sayings",.ref D),("strikes",.ref l2)]))) x=some (.ins T.ab dx (wfW l1 D l2 l3)):=by rw[A7];rfl
   show Q .non (upd (upd H12 l3 (.lst (Bp ba))) x (.ins T.ab dx (O5 "backs" (.ref l3) [("people",.ref l1),("sayings",.ref D),("strikes",.ref l2)])));generalize upd (upd H12 l3 (.lst (Bp ba))) x (.ins T.ab dx (O5 "backs" (.ref l3) [("people",.ref l1),("sayings",.ref D),("strikes",.ref l2)]))=H13 at k13 e13 x13⊢;have kx:∀{z:Addr} {o:HO},H12 z=some o->z≠x->H13 z=some o:=fun e n=>k13 _ _ e (nin n);have nxl:∀{z:Addr} {xs:List V},H12 z=some (.lst xs)->z≠x:=fun e=>p8 e x12 (by intro z;cases z);have nxt:∀{z:Addr} {xs:List V},H12 z=some (.tup xs)->z≠x:=fun e=>p8 e x12 (by intro z;cases z);refine q sa' H13 (fun z o e n=>?_) (Z8 T12 x12 k13) dG ⟨dx,l1,D,l2,l3,x13,⟨⟨kx p12 (nxl p12),fun q hq=>kx (W12.hp.row q hq) (nxt (W12.hp.row q hq))⟩,⟨kx R12.at_ (nxl R12.at_),fun q hq=>kx (R12.row q hq) (nxt (R12.row q hq))⟩,fun q hq=>kx (S12 q hq) (nxl (S12 q hq)),⟨kx e12 (nxl e12),fun q hq=>kx (W12.ht.row q hq) (nxt (W12.ht.row q hq))⟩,e13,fun q hq=>kx (W12.pb q hq) (nxt (W12.pb q hq))⟩,new8 hl1,nD,nl2,nl3,nS'⟩;have nz:z≠x/\z≠T.ad:=by simpa using n
   exact kx (m12 _ _ (k8 z o e nz.2) (nin nz.1)) nz.1
end
def Mo(rs:List RW)(n:Str):V:=match rs.find? fun q=>decide (q.2.1=n)with | some q=>.ref q.1 | none=>.non
theorem Rf{α:Type}{p:α->Bool}{xs:List α}{i:Nat}{y:α}(h:xs[i]?=some y)(no:∀q∈xs.take i,p q=false)(e:p y=true):xs.find? p=some y:=by
 induction xs generalizing i with
 | nil=>cases h
 | cons a r ih =>
  cases i with
  | zero=>cases h;rw[List.find?_cons_of_pos e]
  | succ i =>
   rw[List.take_succ_cons]at no;have na:=no a (BB ..);rw[List.find?_cons_of_neg (by rw[na];exact AU)];exact ih h fun q hq=>no q (AQ _ hq)
def Jd(sa:List SAr)(n:Str):Option SAr:=sa.find? fun q=>decide (q.2.1=n)
def y0(st:List STr)(n:Str):Option STr:=st.find? fun q=>decide (q.2.1=n)
theorem Sr(sa:List SAr)(n:Str):Mo (sa.map rS) n=match Jd sa n with | some q=>.ref q.1 | none=>.non:=by
 unfold Mo Jd;rw[List.find?_map];have e:((fun q:RW=>decide (q.2.1=n))∘rS)=fun q:SAr=>decide (q.2.1=n):=rfl;rw[e];cases sa.find? fun q:SAr=>decide (q.2.1=n)<;>rfl
theorem Uv(st:List STr)(n:Str):Mo (st.map rT) n=match y0 st n with | some q=>.ref q.1 | none=>.non:=by
 unfold Mo y0;rw[List.find?_map];have e:((fun q:RW=>decide (q.2.1=n))∘rT)=fun q:STr=>decide (q.2.1=n):=rfl;rw[e];cases st.find? fun q:STr=>decide (q.2.1=n)<;>rfl
theorem Tv{α:Type}{J:It}{ys:List α}{r:α->V}(f:α->V)(p:α->Bool){a D:Addr}{H:Hp}(as:AsSeq J (ys.map r) a H){g:TG}{tc:TT}{te:TE}{σ0:St}{Q:St->Hp->Prop}(S:St->Prop)(h0:S σ0)(len:ys.length<=5000)(hD:H D=none)
  (he:∀y∈ys,∀σ G,S σ->Same H G->∀(M:St->VK) (N:St->Hp->Prop),(∀σ' G',S σ'->Same G G'->p y=true->M σ' (f y) G')->(∀σ' G',S σ'->Same G G'->p y=false->N σ' G')->g (r y) σ G fun σ2 H2=>tc σ2 H2 fun b H3=>if b=true then te σ2 H3 (M σ2)else N σ2 H3)
  (q:∀σ G,Same H G->G D=some (.lst ((ys.filter p).map f))->Q σ G):Mi g tc (Ia D te) J σ0 (upd H D (.lst [])) Q:=by
 refine p9 as (fun i σ G=>S σ/\Same H G/\G D=some (.lst (((ys.take i).filter p).map f))) ⟨h0,Same.new hD,A7⟩ (fun i σ G _ h=>h.2.1.at a) ?_ ?_
 .rintro i σ G v N hx ⟨hS,sG,eG⟩ hN;rw[AG]at hx;obtain⟨y,hy,rfl⟩:=BC.mp hx;have my:=AH hy;have hs:(ys.take (i+1)).filter p =(ys.take i).filter p++if p y=true then [y]else []:=by
   rw[E6 hy,List.filter_append,List.filter_cons,List.filter_nil]
  have hl:=List.length_filter_le p (ys.take i);rw[AL]at hl;refine he y my σ G hS sG (fun σ2 v H1=>∃ys,H1 D=some (HO.lst ys)/\ys.length<sizeLine/\N σ2 (upd H1 D (HO.lst (ys ++ [v])))) N (fun σ' G' hS' s' c=>⟨_,s' _ _ eG,?_,hN _ _ ⟨hS',(sG.trans s').upd hD,?_⟩⟩) fun σ' G' hS' s' c=>hN _ _ ⟨hS',sG.trans s',?_⟩
  .rw[AB,sizeLine_eq];omega
  .rw[A7,hs,AZ c,BD];rfl
  .rw[hs,AR (by rw[c];exact AU),CQ];exact s' _ _ eG
 .rintro σ G ⟨_,sG,eG⟩;rw[AB,CV]at eG;exact q σ G sG eG
theorem Eb{α:Type}{f:α->Str}{xs:List α}{n:Str}(h:n∈xs.map f):∃y,xs.find? (fun q=>decide (f q=n))=some y/\y∈xs/\f y=n:=by
 cases e:xs.find? fun q=>decide (f q=n)with
 | some y=>exact⟨y,rfl,List.mem_of_find?_eq_some e,BU (List.find?_some (p:=fun q=>decide (f q=n)) e)⟩
 | none =>
  obtain⟨y,hy,e2⟩:=BL.mp h;exact absurd (AI e2) (List.find?_eq_none.mp e y hy)
section
variable{P:Program}{w:World}{K:PySem.W.Frag}{mg:Str->Option Value}{base:Heap}
theorem Df:FnScope ["rows", "name", "row"] ["rows", "name"] (B6 s_row_of):=fsc
def Nw:Sp:=fun vs H Q _=>∃(l:Addr) (rs:List RW) (n:Str),vs = [.ref l,.str n]/\RowsAt H l rs/\rs.length<=1000/\Q (Mo rs n) H
theorem U8(T:Tx K mg):FnOk P w K mg base CX0 1 T.aH.f T.aH.fd ["rows", "name"] Nw:=by
 have sc:=Df;refine T.aH.F.ok Df (fun vs H Q E h=>?_) (fun cdv A outer s H vs Q E hr h=>?_)
 .obtain⟨l,rs,n,rfl,_⟩:=h;rfl
 .obtain⟨l,rs,n,rfl,hR,len,q⟩:=h;refine⟨_,(A9 (L6 PassesOwn.never rfl (piL K (pv 0)) (D8 (i:=2) sc.nd rfl (.inl rfl))
   (B3 (E5 (C4 w5 (C6 (ixT K) (pv 2) B0 (fun _ _=>rfl)) (pv 1) (C8 _)) (B3 (C1 (pv 2))) C5)))
   (B3 (C1 Q4))),?_⟩
  refine B5 fun N1 hN1=>?_;refine ex1 rfl ⟨l,rfl,⟨_,SqL.of hR.at_⟩,S3 (asL (SqL.of hR.at_)) (fun i σ G=>(∃v,σ = [some (.ref l),some (.str n),v])/\G=H/\∀q∈rs.take i,decide (q.2.1=n)=false) ?_ ?_ ?_ ?_⟩
  .exact⟨⟨_,rfl⟩,rfl,fun q h=>absurd h AO⟩
  .rintro i σ G _ ⟨_,rfl,_⟩ o e;exact e
  .rintro i σ G v hv ⟨⟨v0,rfl⟩,rfl,no⟩ D1 hD1 hrt;rw[AG]at hv;obtain⟨y,hy,rfl⟩:=BC.mp hv;have my:=AH hy;refine ex1 rfl ⟨y.1,_,C0 rfl rfl ⟨SqT.of (hR.row y my),B9 (j:=0) rfl,ex1 rfl ⟨rfl,_,rfl,Ak (fun h=>?_) (fun h=>?_)⟩⟩⟩
   .have e:y.2.1=n:=by simpa using h
    refine ex1 rfl ?_;rw[hrt];have er:Mo rs n = .ref y.1:=by
     unfold Mo;rw[Rf hy no (AI e)]
    rw[er]at q;exact q
   .have e:decide (y.2.1=n)=false:=by simpa using h
    refine hD1 _ _ ⟨⟨_,rfl⟩,rfl,fun z hz=>?_⟩;rw[E6 hy]at hz;rcases AK.mp hz with hz | hz
    .exact no z hz
    .rw[AC.mp hz];exact e
  .rintro σ G ⟨⟨v0,rfl⟩,rfl,no⟩;rw[AB,CV]at no;refine hN1 _ _ ?_;have er:Mo rs n = .non:=by
    unfold Mo;rw[List.find?_eq_none.mpr fun z hz=>by rw[no z hz];exact AU]
   rw[er]at q;exact q
theorem J8:FnScope ["weave", "name", "saying"] ["weave", "name"] (B6 s_saying_of):=fsc
def No(C:Addr):Sp:=fun vs H Q _=>∃(x:Addr) (pe:List PEr) (sa:List SAr) (st:List STr) (ba:List PA2) (n:Str) (y:SAr),vs = [.ref x,.str n]/\WeaveAt C H x pe sa st ba/\sa.length<=30/\Jd sa n=some y/\Q (.ref y.1) H
theorem Dj(T:Tx K mg):FnOk P w K mg base CX0 2 T.al.f T.al.fd ["weave", "name"] (No T.ab):=by
 have G_row_of:=U8 (P:=P) (w:=w) (base:=base) T;have sc:=J8;refine T.al.F.ok J8 (fun vs H Q E h=>?_) (fun cdv A outer s H vs Q E hr h=>?_)
 .obtain⟨x,pe,sa,st,ba,n,y,rfl,_⟩:=h;rfl
 .obtain⟨x,pe,sa,st,ba,n,y,rfl,⟨dx,a,b,c,d,hx,W⟩,l30,ey,q⟩:=h;refine⟨_,(A9 (C2 (i:=2) sc.nd rfl (.inl rfl) (C3 T.aH G_row_of (Rm hr) (A6 (peF K (pv 0)) (A6 (pv 1) A8))))
   (A9 (E5 (C4 c8 (pv 2) Q4 (C8 _)) (B3 Bm) C5)
   (B3 (C1 (pv 2))))),?_⟩
  refine B5 fun N1 hN1=>?_;refine ex1 rfl ⟨x,_,_,_,_,rfl,hx,T.ak,T.ap,rfl,ex1 rfl ⟨b,_,n,rfl,W.hs,by rw[AB];omega,?_⟩⟩;rw[Sr,ey];refine hN1 _ _ (B5 fun N2 hN2=>?_);exact ex1 rfl ⟨rfl,false,congrArg V.bl (A_ fun z=>by cases z),Q1 (hN2 _ _ (ex1 rfl q))⟩
end
theorem Pr(kvs:List (Key×V))(n m:Str)(v:V):b9 (Ml kvs (Sum.inr n:Key) v) (.inr m)=if m=n then some v else b9 kvs (.inr m):=by
 rw[Mu];by_cases e:m=n
 .rw[AZ e,AZ (by rw[e])]
 .rw[AR e,AR (fun z=>e (Sum.inr.inj z))]
def Rch(nx:Str->List Str)(ss:List Str)(x:Str):Prop:=∀S:Str->Prop,(∀y∈ss,S y)->(∀y z,S y->z∈nx y->S z)->S x
theorem Rch.of{nx:Str->List Str}{ss:List Str}{x:Str}(h:x∈ss):Rch nx ss x:=fun _ h1 _=>h1 x h
theorem Rch.step{nx:Str->List Str}{ss:List Str}{y z:Str}(h:Rch nx ss y)(hz:z∈nx y):Rch nx ss z:=fun S h1 h2=>h2 y z (h S h1 h2) hz
theorem O6:∀{l m:List Str},l.Nodup->(∀x∈l,x∈m)->l.length<=m.length
 | [],_,_,_=>B_ _
 | x::l,m,nd,h=>by
  obtain⟨n1,n2⟩:=BP.mp nd;have hx:=h x (BB ..);have h1:=O6 (m:=m.erase x) n2 fun y hy=>(List.mem_erase_of_ne (fun z:y=x=>n1 (z▸hy))).mpr (h y (AQ _ hy));rw[List.length_erase_of_mem hx]at h1;have:=List.length_pos_of_mem hx;rw[BK];omega
structure RI(nx:Str->List Str)(ns ss se wa:List Str)(ex:Str->Prop):Prop where
 nd:se.Nodup
 ndw:wa.Nodup
 sub:∀x∈se,x∈ns
 rch:∀x∈se,Rch nx ss x
 beg:∀x∈ss,x∈se
 wai:∀x∈wa,x∈se
 cl:∀x∈se,x∈wa\/ex x\/∀y∈nx x,y∈se
abbrev noS:Str->Prop:=fun _=>False
section
variable{nx:Str->List Str}{ns ss se wa:List Str}{ex:Str->Prop}
theorem Jm{l:List Str}{x:Str}(nd:l.Nodup)(hx:x∉l):(l ++ [x]).Nodup :=
 CC.mpr ⟨nd,BP.mpr ⟨AO,DA⟩,fun a ha b hb e=>hx (by rw[AC]at hb;exact hb▸e▸ha)⟩
theorem RI.init(nd:ss.Nodup)(sub:∀x∈ss,x∈ns):RI nx ns ss ss ss noS:=⟨nd,nd,sub,fun _ h=>.of h,fun _ h=>h,fun _ h=>h,fun _ h=>.inl h⟩
theorem RI.add(h:RI nx ns ss se wa ex){x:Str}(hx:x∉se)(hn:x∈ns)(hr:Rch nx ss x):RI nx ns ss (se ++ [x]) (wa ++ [x]) ex where
 nd:=Jm h.nd hx
 ndw:=Jm h.ndw fun z=>hx (h.wai x z)
 sub:=fun y hy=>(AK.mp hy).elim (h.sub y) fun z=>AC.mp z▸hn
 rch:=fun y hy=>(AK.mp hy).elim (h.rch y) fun z=>AC.mp z▸hr
 beg:=fun y hy=>BN _ (h.beg y hy)
 wai:=fun y hy=>(AK.mp hy).elim (fun z=>BN _ (h.wai y z)) fun z=>BE _ z
 cl:=fun y hy=>(AK.mp hy).elim (fun z=>(h.cl y z).elim (fun q=>.inl (BN _ q)) fun q=>.inr (q.elim .inl fun q=>.inr fun v hv=>BN _ (q v hv))) fun z=>.inl (BE _ z)
theorem RI.pop(h:RI nx ns ss se wa noS){wa':List Str}{x:Str}(nd:wa'.Nodup)(h1:∀y∈wa,y∈wa'\/y=x)(h2:∀y∈wa',y∈wa):RI nx ns ss se wa' (fun y=>y=x) :=
 ⟨h.nd,nd,h.sub,h.rch,h.beg,fun y hy=>h.wai y (h2 y hy),fun y hy=>(h.cl y hy).elim (fun q=>(h1 y q).elim .inl fun z=>.inr (.inl z)) fun q=>q.elim (fun z=>z.elim) fun z=>.inr (.inr z)⟩
theorem RI.done{x:Str}(h:RI nx ns ss se wa (fun y=>y=x))(hx:∀y∈nx x,y∈se):RI nx ns ss se wa noS :=
 ⟨h.nd,h.ndw,h.sub,h.rch,h.beg,h.wai,fun y hy=>(h.cl y hy).elim .inl fun q=>.inr (.inr (q.elim (fun z=>z▸hx) id))⟩
theorem RI.fin(h:RI nx ns ss se [] noS)(x:Str):x∈se↔Rch nx ss x :=
 ⟨h.rch x,fun r=>r (·∈se) h.beg fun y z hy hz=>(h.cl y hy).elim (fun q=>absurd q AO) fun q=>q.elim (fun z=>z.elim) fun q=>q z hz⟩
theorem RI.len(h:RI nx ns ss se wa ex):se.length<=ns.length:=O6 h.nd h.sub
theorem RI.lenw(h:RI nx ns ss se wa ex):wa.length<=ns.length:=O6 h.ndw fun x hx=>h.sub x (h.wai x hx)
end
theorem Oh{n e w m:Nat}(h:e+1<=n)(hm:2 *(n-e)+w<m):2 *(n-(e+1)) +(w+1)<m:=by
 have e1:n-(e+1)+1=n-e:=Nat.succ_pred_eq_of_pos (Nat.sub_pos_of_lt h);rw[<-e1]at hm;omega
def Iv(H:Hp)(kvs:List (Key×V))(ns:List Str)(nx:Str->List Str):Prop:=∀n∈ns,∃l,b9 kvs (.inr n)=some (.ref l)/\H l=some (.lst ((nx n).map V.str))
def Xu(H:Hp)(ns ss:List Str)(nx:Str->List Str)(Q:VK):Prop:=∀(l:Addr) (ts:List Str) (H':Hp),Same H H'->H l=none->H' l=some (.lst (ts.map V.str))->ts.Nodup->ts.Pairwise leS->(∀x,x∈ts↔Rch nx ss x)->(∀x∈ts,x∈ns)->Q (.ref l) H'
def Hv(K:PySem.W.Frag):Sp:=fun vs H Q _=>∃(d a:Addr) (kvs:List (Key×V)) (ns ss:List Str) (nx:Str->List Str),vs = [.ref d,.ref a]/\H d=some (.dK kvs)/\Iv H kvs ns nx/\(∀n∈ns,∀y∈nx n,y∈ns)/\ns.length<=100/\(∀y∈ss,y∈ns)/\ss.Nodup/\Sqs K H a (ss.map V.str)/\Xu H ns ss nx Q
section
variable{P:Program}{w:World}{K:PySem.W.Frag}{mg:Str->Option Value}{base:Heap}
theorem Uc{H:Hp}{p:Addr}{x:Str}{se:List Str}{Q:VK}(e:H p=some (V3 w p se))(q:Q (.bl (!decide (x∈se))) H):Wm w true (.str x) (.ref p) H Q:=⟨p,se,x,rfl,rfl,e,q⟩
theorem y7:FnScope ["steps", "some", "seen", "waiting", "here", "name"] ["steps", "some"] (B6 s_reached):=fsc
set_option maxHeartbeats 1000000 in
theorem Ac(T:Tx K mg):FnOk P w K mg base CX0 1 T.aS.f T.aS.fd ["steps", "some"] (Hv K):=by
 have sc:=y7;refine T.aS.F.ok y7 (fun vs H Q E h=>?_) (fun cdv A outer s H vs Q E hr h=>?_)
 .obtain⟨d,a,kvs,ns,ss,nx,rfl,_⟩:=h;rfl
 .obtain⟨d,a,kvs,ns,ss,nx,rfl,hd,hv,hc,hl,hsub,hnd,hS,k⟩:=h;have hu:=Jn hr;refine⟨_,(A9 (C2 (i:=2) sc.nd rfl (.inl rfl) (Be (Ev K w) T.bu Iz (A6 (pv 1) A8)))
   (A9 (C2 (i:=3) sc.nd rfl (.inl rfl) (Be (j8 K) T.av O3 (A6 (pv 1) A8)))
   (A9 (Gr PassesOwn.never (ptV K (pv 3)) (A9 (C2 (i:=4) sc.nd rfl (.inl rfl) (Tp K PySem.F.plainAttrs_list PySem.F.slot_list_pop PySem.F.type_list_pop Se (pv 3)))
   (B3 (L6 PassesOwn.never rfl (piL K (Rn hu (pv 0) (pv 4) (fun _ _=>rfl))) (D8 (i:=5) sc.nd rfl (.inl rfl))
   (B3 (E5 (C4 Ca (pv 5) (pv 2) rfl) (A9 (I0 (Tf P w (Tl w) (pv 2) (A6 (pv 5) A8)))
   (B3 (I0 (Mj K PySem.F.plainAttrs_list PySem.F.slot_list_append PySem.F.type_list_append J5 (pv 3) (A6 (pv 5) A8))))) C5))))))
   (B3 (C1 (D0 (Gb w) T.aF K9 (A6 (pv 2) A8))))))),?_⟩
  have hls:=O6 hnd hsub;refine B5 fun Z1 hZ1=>?_;refine ex1 rfl ⟨a,ss,rfl,hS,hnd,by omega,fun p hp=>?_⟩;have u1:=Same.new (o:=V3 w p ss) hp;have f1:(upd H p (V3 w p ss)) p=some (V3 w p ss):=A7;generalize upd H p (V3 w p ss)=H1 at u1 f1⊢;refine hZ1 _ _ (B5 fun Z2 hZ2=>?_);refine ex1 rfl ⟨a,_,rfl,(u1.at a).seq hS,fun q hq=>?_⟩;have u2:=Same.new (o:=.lst (ss.map V.str)) hq;have f2:(upd H1 q (.lst (ss.map V.str))) q=some (.lst (ss.map V.str)):=A7;generalize upd H1 q (.lst (ss.map V.str))=H2 at u2 f2⊢;have npq:p≠q:=B4 f1 hq;have hq0:=u1.free hq;refine hZ2 _ _ (B5 fun Z3 hZ3=>?_);refine⟨fun m σ H3=>∃v4 v5 se wa,σ = [some (.ref d),some (.ref a),some (.ref p),some (.ref q),v4,v5]/\m=2 *(ns.length-se.length)+wa.length/\Same H H3/\H3 p=some (V3 w p se)/\H3 q=some (.lst (wa.map V.str))/\RI nx ns ss se wa noS,
   ⟨_,none,none,ss,ss,rfl,rfl,u1.trans u2,u2 _ _ f1,f2,.init hnd hsub⟩,?_⟩
  rintro m σ H3 ⟨v4,v5,se,wa,rfl,rfl,s3,e3,g3,R3⟩;refine ex1 rfl ⟨_,.inl ⟨_,SqL.of g3,rfl⟩,?_⟩;rcases List.eq_nil_or_concat wa with rfl | ⟨wa',x,rfl⟩
  .refine Q1 (hZ3 _ _ ?_);refine ex1 rfl ⟨p,se,rfl,e3,fun l ts hl pm so=>?_⟩;have u4:=Same.new (o:=.lst (ts.map V.str)) hl;exact k l ts _ (s3.trans u4) (s3.free hl) A7 (pm.nodup_iff.mpr R3.nd) so (fun y=>pm.mem_iff.trans (R3.fin y)) fun y hy=>R3.sub y (pm.mem_iff.mp hy)
  .rw[List.concat_eq_append]at *;rw[AZ (by simp)];refine⟨_,fun _ _ z=>z,B5 fun N1 hN1=>?_⟩;have R4:RI nx ns ss se wa' (fun y=>y=x):=R3.pop (CC.mp R3.ndw).1 (fun y hy=>(AK.mp hy).imp id AC.mp) fun y hy=>BN _ hy;have hx:x∈se:=R3.wai x (BE _ (AC.mpr rfl));refine ex1 rfl ⟨.inl ⟨rfl,_,SqL.of g3⟩,q,_,.str x,rfl,rfl,g3,by simp,?_⟩;have ed:((wa' ++ [x]).map V.str).dropLast=wa'.map V.str:=by simp
   rw[ed];have s4:=s3.upd (o:=.lst (wa'.map V.str)) hq0;have g4:(upd H3 q (.lst (wa'.map V.str))) q=some (.lst (wa'.map V.str)):=A7;have e4:(upd H3 q (.lst (wa'.map V.str))) p=some (V3 w p se):=(B7 npq).trans e3;generalize upd H3 q (.lst (wa'.map V.str))=H4 at s4 g4 e4⊢;refine hN1 _ _ ?_;obtain⟨l,vl,el⟩:=hv x (R3.sub x hx);refine ex1 rfl (ex1 rfl ⟨d,.ref l,rfl,by rw[<-vl];exact DGet.k (k:=Sum.inr x) (s4 _ _ hd),l,rfl,⟨_,SqL.of (s4 _ _ el)⟩,?_⟩);refine S3 (asL (K:=K) (SqL.of el)) (fun i σ H5=>∃v5 se' wa'',σ = [some (.ref d),some (.ref a),some (.ref p),some (.ref q),some (.str x),v5]/\2 *(ns.length-se'.length)+wa''.length<2 *(ns.length-se.length) +(wa' ++ [x]).length/\Same H H5/\H5 p=some (V3 w p se')/\H5 q=some (.lst (wa''.map V.str))/\RI nx ns ss se' wa'' (fun y=>y=x)/\x∈se'/\∀y∈(nx x).take i,y∈se')
    ⟨_,se,wa',rfl,by rw[BA];exact D_ _,s4,e4,g4,R4,hx,fun y hy=>absurd hy AO⟩ ?_ ?_ ?_
   .rintro i σ H5 _ ⟨_,_,_,_,_,s5,_⟩;exact s5.at l
   .rintro i σ H5 v hvi ⟨v5,se',wa'',rfl,hm,s5,e5,g5,R5,hx5,t5⟩ D1 hD1 _;rw[AG]at hvi;obtain⟨y,hy,rfl⟩:=BC.mp hvi;have hyn:y∈nx x:=AH hy;have ht:∀{se'':List Str},(∀z∈se',z∈se'')->y∈se''->∀z∈(nx x).take (i+1),z∈se'':=fun h1 h2 z hz=>by
     rw[E6 hy]at hz;exact(AK.mp hz).elim (fun q=>h1 z (t5 z q)) fun q=>AC.mp q▸h2
    refine ex1 rfl (ex1 rfl (Uc e5 ⟨_,rfl,Ak (fun h=>?_) fun h=>?_⟩))
    .have hns:y∉se':=fun z=>by rw[AI z]at h;cases h
     have en:Op se' y=se' ++ [y]:=AR hns;have R6:=R5.add hns (hc x (R5.sub x hx5) y hyn) ((R5.rch x hx5).step hyn);have l6:=R6.len;have lw:=R5.lenw;refine B5 fun O1 hO1=>?_;refine ex1 rfl ⟨⟨p,rfl,.inr (.inl ⟨_,e5⟩)⟩,ex1 rfl ⟨p,se',y,rfl,rfl,e5,by rw[BA,DQ]at l6;omega,?_⟩⟩;rw[en];have s6:=s5.upd (o:=V3 w p (se' ++ [y])) hp;have e6:(upd H5 p (V3 w p (se' ++ [y]))) p=some (V3 w p (se' ++ [y])):=A7;have g6:(upd H5 p (V3 w p (se' ++ [y]))) q=some (.lst (wa''.map V.str)):=(B7 npq.symm).trans g5;generalize upd H5 p (V3 w p (se' ++ [y]))=H6 at s6 e6 g6⊢;refine hO1 _ _ ?_;refine ex1 rfl ⟨.inl ⟨rfl,_,SqL.of g6⟩,ex1 rfl ⟨q,_,_,rfl,rfl,g6,by rw[AB,sizeLine_eq];omega,hD1 _ _ ⟨_,se' ++ [y],wa'' ++ [y],rfl,?_,s6.upd hq0,(B7 npq).trans e6,?_,R6,BN _ hx5,ht (fun z hz=>BN _ hz) (BE _ (AC.mpr rfl))⟩⟩⟩
     .rw[BA,DQ]at l6⊢;rw[BA,DQ];exact Oh l6 hm
     .rw[A7,BD];rfl
    .have hys:y∈se':=by
      by_cases z:y∈se'
      .exact z
      .rw[A_ z]at h;exact absurd rfl h
     exact hD1 _ _ ⟨_,se',wa'',rfl,hm,s5,e5,g5,R5,hx5,ht (fun _ z=>z) hys⟩
   .rintro σ H5 ⟨v5,se',wa'',rfl,hm,s5,e5,g5,R5,hx5,t5⟩;rw[AB,CV]at t5;exact⟨_,hm,_,_,se',wa'',rfl,rfl,s5,e5,g5,R5.done t5⟩
end
theorem Np{J:It}{a:Addr}{ns:List Str}{H:Hp}{Q:St->Hp->Prop}{te:TE}{nx:Str->List Str}{v1:Option V}(as:AsSeq J (ns.map V.str) a H)(hl:ns.length<=1000){D:Addr}(hD:H D=none)
  (ht:∀n∈ns,∀H1,Same H H1->∀Q':VK,(∀l H2,Same H1 H2->H1 l=none->H2 l=some (.lst ((nx n).map V.str))->Q' (.ref l) H2)->te [some (.str n),v1] H1 Q')
  (q:∀σ kvs H',Same H H'->H' D=some (.dK kvs)->Iv H' kvs ns nx->Q σ H') :
  Mi (Z5 0) Nk (Qh D (Vo 0) te) J [none,v1] (upd H D (.dK [])) Q:=by
 refine p9 as (fun i σ H1=>(∃v,σ = [v,v1])/\∃kvs,Same H H1/\H1 D=some (.dK kvs)/\kvs.length<=i/\∀n∈ns.take i,∃l,l≠D/\b9 kvs (.inr n)=some (.ref l)/\H1 l=some (.lst ((nx n).map V.str)))
  ⟨⟨_,rfl⟩,[],Same.new hD,A7,B_ _,fun n h=>absurd h AO⟩ (fun i σ H1 _ ⟨_,kvs,s1,_⟩=>s1.at a) ?_ ?_
 .rintro i σ H1 x N hx ⟨⟨v,rfl⟩,kvs,s1,e1,l1,c1⟩ hN;rw[AG]at hx;obtain⟨m,hm,rfl⟩:=BC.mp hx;have hi:i<ns.length:=(AM.mp hm).1;refine Ds ?_;refine ex1 rfl (ht m (AH hm) H1 s1 _ fun p H2 s2 hp e2=>?_);refine⟨kvs,.inr m,s2 _ _ e1,rfl,by rw[sizeLine_eq];omega,hN _ _ ⟨⟨_,rfl⟩,Ml kvs (.inr m) (.ref p),(s1.trans s2).upd hD,A7,?_,fun n hn=>?_⟩⟩
  .have:=g7 kvs (Sum.inr m:Key) (.ref p);omega
  .rw[Pr];by_cases e:n=m
   .rw[AZ e,e];have np:p≠D:=(B4 e1 hp).symm;exact⟨p,np,rfl,(B7 np).trans e2⟩
   .rw[AR e];rw[E6 hm]at hn;obtain⟨l,h1,h2,h3⟩:=c1 n ((AK.mp hn).elim id fun z=>absurd (AC.mp z) e);exact⟨l,h1,h2,(B7 h1).trans (s2 _ _ h3)⟩
 .rintro σ H1 ⟨_,kvs,s1,e1,l1,c1⟩;rw[AB,CV]at c1;exact q σ kvs H1 s1 e1 fun n hn=>let⟨l,_,h2,h3⟩:=c1 n hn;⟨l,h2,h3⟩
def t8(ba:List PA2)(n:Str):List Str:=(ba.filter fun q=>decide (q.2.2=n)).map fun q=>q.2.1
structure BackOf(ba:List PA2)(n:Str)(ms:List Str):Prop where
 nd:ms.Nodup
 so:ms.Pairwise leS
 mem:∀x,x∈ms↔(Rch (t8 ba) [n] x/\x≠n)
structure HitOf(sa:List SAr)(ba:List PA2)(g:Str)(ms:List Str):Prop where
 nd:ms.Nodup
 so:ms.Pairwise leS
 mem:∀x,x∈ms↔(if g∈nS sa then Rch (t8 ba) [g] x else x=g)
theorem Fx{pe:List PEr}{sa:List SAr}{st:List STr}{ba:List PA2}(ok:WOk pe sa st ba)(n:Str):∀y∈t8 ba n,y∈nS sa:=fun y hy=>by
 obtain⟨q,hq,rfl⟩:=BL.mp hy;exact(ok.bk q (DN.mp hq).1).1
theorem Gp{pe:List PEr}{sa:List SAr}{st:List STr}{ba:List PA2}(ok:WOk pe sa st ba){n x:Str}(hn:n∈nS sa)(h:Rch (t8 ba) [n] x):x∈nS sa :=
 h (·∈nS sa) (fun y hy=>by rw[AC.mp hy];exact hn) fun y z _ hz=>Fx ok y z hz
theorem Nd{ba:List PA2}(h:(ba.map fun q=>q.2).Nodup)(n:Str):(t8 ba n).Nodup:=by
 unfold t8;have h1:((ba.filter fun q=>decide (q.2.2=n)).map fun q=>q.2).Nodup:=h.sublist (List.Sublist.map _ FM);have h2:∀q∈ba.filter (fun q=>decide (q.2.2=n)),q.2.2=n:=fun q hq=>BU (DN.mp hq).2;generalize ba.filter (fun q=>decide (q.2.2=n))=l at h1 h2
 induction l with
 | nil=>exact DA
 | cons a r ih =>
  rw[BS,BP]at h1⊢;refine⟨fun z=>h1.1 ?_,ih h1.2 fun q hq=>h2 q (AQ _ hq)⟩;obtain⟨q,hq,e⟩:=BL.mp z;exact BL.mpr ⟨q,hq,Prod.ext e ((h2 q (AQ _ hq)).trans (h2 a (BB ..)).symm)⟩
section
variable{P:Program}{w:World}{K:PySem.W.Frag}{mg:Str->Option Value}{base:Heap}
theorem K0:FnScope ["weave", "name", "strike"] ["weave", "name"] (B6 s_strike_of):=fsc
def Eg(C:Addr):Sp:=fun vs H Q _=>∃(x:Addr) (pe:List PEr) (sa:List SAr) (st:List STr) (ba:List PA2) (n:Str) (y:STr),vs = [.ref x,.str n]/\WeaveAt C H x pe sa st ba/\st.length<=30/\y0 st n=some y/\Q (.ref y.1) H
theorem De(T:Tx K mg):FnOk P w K mg base CX0 2 T.am.f T.am.fd ["weave", "name"] (Eg T.ab):=by
 have G_row_of:=U8 (P:=P) (w:=w) (base:=base) T;have sc:=K0;refine T.am.F.ok K0 (fun vs H Q E h=>?_) (fun cdv A outer s H vs Q E hr h=>?_)
 .obtain⟨x,pe,sa,st,ba,n,y,rfl,_⟩:=h;rfl
 .obtain⟨x,pe,sa,st,ba,n,y,rfl,⟨dx,a,b,c,d,hx,W⟩,l30,ey,q⟩:=h;refine⟨_,(A9 (C2 (i:=2) sc.nd rfl (.inl rfl) (C3 T.aH G_row_of (Rm hr) (A6 (peF K (pv 0)) (A6 (pv 1) A8))))
   (A9 (E5 (C4 c8 (pv 2) Q4 (C8 _)) (B3 Bm) C5)
   (B3 (C1 (pv 2))))),?_⟩
  refine B5 fun N1 hN1=>?_;refine ex1 rfl ⟨x,_,_,_,_,rfl,hx,T.ak,T.aI,rfl,ex1 rfl ⟨c,_,n,rfl,W.ht,by rw[AB];omega,?_⟩⟩;rw[Uv,ey];refine hN1 _ _ (B5 fun N2 hN2=>?_);exact ex1 rfl ⟨rfl,false,congrArg V.bl (A_ fun z=>by cases z),Q1 (hN2 _ _ (ex1 rfl q))⟩
theorem P8:FnScope ["weave", "name", "known", "steps"] ["weave", "name"] (B6 s_backers):=fsc
def Hb(C:Addr):Sp:=fun vs H Q _=>∃(x:Addr) (pe:List PEr) (sa:List SAr) (st:List STr) (ba:List PA2) (n:Str),vs = [.ref x,.str n]/\WeaveAt C H x pe sa st ba/\WOk pe sa st ba/\n∈nS sa/\∀(l:Addr) (ms:List Str) H',Same H H'->H l=none->H' l=some (.lst (ms.map V.str))->BackOf ba n ms->Q (.ref l) H'
set_option maxHeartbeats 2000000 in
theorem Ao(T:Tx K mg):FnOk P w K mg base CX0 3 T.ag.f T.ag.fd ["weave", "name"] (Hb T.ab):=by
 have G_saying_of:=Dj (P:=P) (w:=w) (base:=base) T;have G_names_of:=E2 (P:=P) (w:=w) (base:=base) T;have G_reached:=Ac (P:=P) (w:=w) (base:=base) T;have sc:=P8;refine T.ag.F.ok P8 (fun vs H Q E h=>?_) (fun cdv A outer s H vs Q E hr h=>?_)
 .obtain⟨x,pe,sa,st,ba,n,rfl,_⟩:=h;rfl
 .obtain⟨x,pe,sa,st,ba,n,rfl,hW,ok,hn,q⟩:=h;have hu:=Jn hr;refine⟨_,(A9 (C2 (i:=2) sc.nd rfl (.inr rfl) (C6 (ixT K) (C3 T.al G_saying_of (Rm hr) (A6 (pv 0) (A6 (pv 1) A8))) B0 (fun _ _=>rfl)))
   (A9 (Dd (i:=3) (N':=["said", "weave"]) (cap:=[none,some 0]) (cl:=[("weave",_)]) sc.nd rfl (.inl rfl) (Tq (fun _=>⟨⟨rfl,rfl,rfl,rfl⟩,trivial⟩) ⟨rfl,trivial⟩) rfl (piL K (C3 T.ae G_names_of (Rm hr) (A6 (peF K (pv 0)) A8))) (fun _ _ _ _=>by exact⟨(pgD 0),G0,(pv 0),(Q7 (N':=["one", "other", "said"]) (cap:=[none,none,some 0]) (cl:=[("said",_)]) (O7 ⟨⟨rfl,rfl,rfl,rfl⟩,trivial⟩ ⟨rfl,trivial⟩) rfl (piL K (peF K (pv 1))) (fun _ _ _ _=>by exact⟨(pgT K (n:=2) (E1 (pgC 0) (E1 (pgC 1) X7))),(S0 (C4 w5 (pv 1) (pv 2) (C8 _))),(pv 0)⟩))⟩))
   (B3 (C1 (Q7 (N':=["one", "known"]) (cap:=[none,some 2]) (cl:=[("known",_)]) (O7 ⟨⟨rfl,rfl,rfl,rfl⟩,trivial⟩ ⟨rfl,trivial⟩) rfl (piL K (C3 T.aS G_reached (Rm hr) (A6 (pv 3) (A6 (D7 (A6 (pv 2) A8)) A8)))) (fun _ _ _ _=>by exact⟨(pgC 0),(S0 (C4 Hc (pv 0) (pv 1) (C8 _))),(pv 0)⟩)))))),?_⟩
  obtain⟨dx,a,b,c,d,hx,W⟩:=hW;have hW:WeaveAt T.ab H x pe sa st ba:=⟨dx,a,b,c,d,hx,W⟩;obtain⟨l1,l2,l3,l4⟩:=ok.len;obtain⟨y,ey,my,en⟩:=Eb (f:=fun q:SAr=>q.2.1) hn;refine B5 fun N1 hN1=>?_;refine ex1 rfl (ex1 rfl ⟨x,pe,sa,st,ba,n,y,rfl,hW,l2,ey,y.1,_,C0 rfl rfl ⟨SqT.of (W.hs.row (rS y) (BL.mpr ⟨y,my,rfl⟩)),B9 (j:=0) rfl,hN1 _ _ (B5 fun N2 hN2=>?_)⟩⟩);have en':(rS y).2.1=n:=en;rw[en'];refine ex1 rfl ⟨x,_,_,_,_,rfl,hx,T.ak,T.ap,rfl,b,_,rfl,W.hs,by rw[AB];omega,fun m H1 s1 hm e1=>?_⟩;rw[Dz]at e1;refine⟨m,rfl,⟨_,SqL.of e1⟩,fun D hD=>?_⟩;have lns:(nS sa).length<=30:=by unfold nS;rw[AB];exact l2
  refine Np (nx:=t8 ba) (asL (K:=K) (SqL.of e1)) (by omega) hD (fun z hz H2 s2 Q' hQ=>?_) fun σ kvs H3 s3 e3 st3=>?_
  .have W2:=(W.same s1).same s2;refine ex1 rfl ⟨x,_,_,_,_,rfl,s2 _ _ (s1 _ _ hx),T.ak,T.a8,rfl,d,rfl,⟨_,SqL.of W2.hb⟩,fun D2 hD2=>?_⟩;refine Tv (fun q:PA2=>V.str q.2.1) (fun q:PA2=>decide (q.2.2=z)) (asL (K:=K) (SqL.of W2.hb)) (fun σ=>∃v0 v1,σ = [v0,v1,some (.str z)]) ⟨_,_,rfl⟩ (by omega) hD2 ?_ fun σ H4 s4 e4=>?_
   .rintro y hy σ G ⟨v0,v1,rfl⟩ sG M N hM hN;refine⟨y.1,ex1 rfl ⟨SqT.of (sG _ _ (W2.pb y hy)),rfl,_,ex1 rfl (C0 rfl rfl ?_)⟩⟩;refine ex1 rfl (ex1 rfl ⟨rfl,_,rfl,Ak (fun h=>ex1 rfl (hM _ _ ⟨_,_,rfl⟩ (fun _ _ z=>z) (AI ?_))) (fun h=>hN _ _ ⟨_,_,rfl⟩ (fun _ _ z=>z) (A_ fun e=>h ?_))⟩)
    .exact V.str.inj (BU h)
    .exact AI (by rw[e])
   .exact hQ D2 _ s4 hD2 (by rw[e4];unfold t8;rw[BH];rfl)
  .have s13:=s1.trans s3;refine hN2 _ _ ?_;refine ex1 rfl (ex1 rfl ⟨by show 1<=sizeLine;decide,fun o ho=>?_⟩);have uo:=Same.new (o:=.lst [.str n]) ho;have eo:(upd H3 o (.lst [.str n])) o=some (.lst (([n]:List Str).map V.str)):=A7;generalize upd H3 o (.lst [.str n])=H4 at uo eo⊢;refine⟨D,o,kvs,nS sa,[n],_,rfl,uo _ _ e3,fun z hz=>let⟨l,h1,h2⟩:=st3 z hz;⟨l,h1,uo _ _ h2⟩,fun z _ y hy=>Fx ok z y hy,by omega,fun y hy=>by rw[AC.mp hy];exact hn,BP.mpr ⟨AO,DA⟩,.inl (SqL.of eo),fun l ts H5 s5 hl e5 nd5 so5 m5 sb5=>?_⟩;refine⟨l,rfl,⟨_,SqL.of e5⟩,fun D2 hD2=>?_⟩;refine Uo (r:=V.str) V.str (asL (K:=K) (SqL.of e5)) (fun y=>!decide (y=n)) (by have:=O6 nd5 sb5;omega) hD2 (fun y my G sG M hM=>?_) (fun y my G sG M hM=>ex1 rfl hM) fun σ' G sG eG=>?_
   .refine ex1 rfl (ex1 rfl ⟨rfl,_,rfl,?_⟩);have e:decide (V.str y=V.str n)=decide (y=n):=by
     by_cases h:y=n
     .rw[h,AI rfl,AI rfl]
     .rw[A_ h,A_ fun z=>h (V.str.inj z)]
    have:=hM G fun b o e=>e;rw[<-e]at this;exact this
   .refine q D2 (ts.filter fun y=>!decide (y=n)) G (((s13.trans uo).trans s5).trans sG) (((s13.trans uo).trans s5).free hD2) eG ⟨nd5.sublist FM,so5.sublist FM,fun x=>?_⟩;rw[DN,m5];refine and_congr_right fun _=>?_;by_cases h:x=n
    .rw[AI h];exact⟨fun z=>(AU z).elim,fun z=>absurd h z⟩
    .rw[A_ h];exact⟨fun _=>h,fun _=>rfl⟩
theorem U9:FnScope ["weave", "name", "goal"] ["weave", "name"] (B6 s_hit_by):=fsc
def Sk(C:Addr):Sp:=fun vs H Q _=>∃(x:Addr) (pe:List PEr) (sa:List SAr) (st:List STr) (ba:List PA2) (n:Str) (y:STr),vs = [.ref x,.str n]/\WeaveAt C H x pe sa st ba/\WOk pe sa st ba/\y0 st n=some y/\∀(l:Addr) (ms:List Str) H',Same H H'->H l=none->H' l=some (.lst (ms.map V.str))->HitOf sa ba y.2.2.2 ms->Q (.ref l) H'
set_option maxHeartbeats 2000000 in
theorem Jt(T:Tx K mg):FnOk P w K mg base CX0 4 T.aq.f T.aq.fd ["weave", "name"] (Sk T.ab):=by
 have G_strike_of:=De (P:=P) (w:=w) (base:=base) T;have G_names_of:=E2 (P:=P) (w:=w) (base:=base) T;have G_backers:=Ao (P:=P) (w:=w) (base:=base) T;have sc:=U9;refine T.aq.F.ok U9 (fun vs H Q E h=>?_) (fun cdv A outer s H vs Q E hr h=>?_)
 .obtain⟨x,pe,sa,st,ba,n,y,rfl,_⟩:=h;rfl
 .obtain⟨x,pe,sa,st,ba,n,y,rfl,hW,ok,ey,q⟩:=h;refine⟨_,(A9 (C2 (i:=2) sc.nd rfl (.inl rfl) (C6 (ixT K) (C3 T.am G_strike_of (Rm hr) (A6 (pv 0) (A6 (pv 1) A8))) B0 (fun _ _=>rfl)))
   (A9 (E5 (C4 (t9 K) (pv 2) (C3 T.ae G_names_of (Rm hr) (A6 (peF K (pv 0)) A8)) rfl) (B3 (C1 (D0 (a8 K) T.aF K9 (A6 (E3 T0 (C3 T.ag G_backers (Rm hr) (A6 (pv 0) (A6 (pv 2) A8))) (D7 (A6 (pv 2) A8))) A8)))) C5)
   (B3 (C1 (D7 (A6 (pv 2) A8)))))),?_⟩
  obtain⟨dx,a,b,c,d,hx,W⟩:=hW;have hW:WeaveAt T.ab H x pe sa st ba:=⟨dx,a,b,c,d,hx,W⟩;obtain⟨l1,l2,l3,l4⟩:=ok.len;have my:y∈st:=List.mem_of_find?_eq_some ey;refine B5 fun N1 hN1=>?_;refine ex1 rfl (ex1 rfl ⟨x,pe,sa,st,ba,n,y,rfl,hW,l3,ey,y.1,_,C0 rfl rfl ⟨SqT.of (W.ht.row (rT y) (BL.mpr ⟨y,my,rfl⟩)),B9 (j:=2) rfl,hN1 _ _ (B5 fun N2 hN2=>?_)⟩⟩);refine ex1 rfl (ex1 rfl ⟨x,_,_,_,_,rfl,hx,T.ak,T.ap,rfl,b,_,rfl,W.hs,by rw[AB];omega,fun m H1 s1 hm e1=>?_⟩);rw[Dz]at e1;refine O2 (.inl (SqL.of e1)) ⟨_,rfl,Ak (fun h=>?_) (fun h=>?_)⟩
  .have hg:y.2.2.2∈nS sa:=BU h;refine ex1 rfl (ex1 rfl ⟨x,pe,sa,st,ba,y.2.2.2,rfl,hW.same s1,ok,hg,fun l ms H2 s2 hl e2 B=>?_⟩);have lm:ms.length<=30:=by
    have:=O6 B.nd fun z hz=>Gp ok hg ((B.mem z).mp hz).1;unfold nS at this;rw[AB]at this;omega
   refine ex1 rfl ⟨by show 1<=sizeLine;decide,fun o ho=>?_⟩;have uo:=Same.new (o:=.lst [.str y.2.2.2]) ho;refine⟨l,o,_,_,rfl,rfl,uo _ _ e2,A7,by rw[AB,sizeLine_eq];show _+1<=_;omega,fun p hp=>?_⟩;have up:=Same.new (o:=.lst (ms.map V.str ++ [.str y.2.2.2])) hp;refine⟨p,ms ++ [y.2.2.2],rfl,SqL.of (by rw[A7,BD];rfl),fun l' ms' hl' pm so=>?_⟩;have s5:=(((s1.trans s2).trans uo).trans up);have nin:y.2.2.2∉ms:=fun z=>((B.mem _).mp z).2 rfl;refine q l' ms' _ (s5.trans (Same.new hl')) (s5.free hl') A7 ⟨pm.nodup_iff.mpr (Jm B.nd nin),so,fun z=>?_⟩;rw[pm.mem_iff,AZ hg,AK,B.mem,AC];refine⟨fun h=>h.elim (fun h=>h.1) fun h=>h▸ .of (AC.mpr rfl),fun h=>?_⟩;by_cases e:z=y.2.2.2
   .exact .inr e
   .exact .inl ⟨h,e⟩
  .have hg:y.2.2.2∉nS sa:=fun z=>h (AI z);refine hN2 _ _ (ex1 rfl ⟨by show 1<=sizeLine;decide,fun o ho=>?_⟩);refine q o [y.2.2.2] _ (s1.trans (Same.new ho)) (s1.free ho) A7 ⟨BP.mpr ⟨AO,DA⟩,FU _ _,fun z=>?_⟩;rw[AR hg,AC]
end
def Oo(C:Addr)(H:Hp)(E:XK):Prop:=∀H' x,Same H H'->H x=none->H' x=some (XO x C none)->E (.ref C) none H'
section
variable{P:Program}{w:World}{K:PySem.W.Frag}{mg:Str->Option Value}{base:Heap}
def Gc(C B:Addr):Sp:=fun vs H Q E=>∃(x:Addr) (pe:List PEr) (sa:List SAr) (st:List STr) (ba:List PA2) (n:Str),vs = [.ref x,.str n]/\WeaveAt C H x pe sa st ba/\sa.length<=30/\Jd sa n=none/\Oo B H E
theorem Nv(T:Tx K mg):FnOk P w K mg base (CXe P w) 2 T.al.f T.al.fd ["weave", "name"] (Gc T.ab T.af):=by
 have G_row_of:=U8 (P:=P) (w:=w) (base:=base) T;have sc:=J8;refine T.al.F.okE J8 (fun vs H Q E h=>?_) (fun cdv A outer s H vs Q E hr h=>?_)
 .obtain⟨x,pe,sa,st,ba,n,rfl,_⟩:=h;rfl
 .obtain⟨x,pe,sa,st,ba,n,rfl,⟨dx,a,b,c,d,hx,W⟩,l30,ey,k⟩:=h;refine⟨_,(A9 (C2 (i:=2) sc.nd rfl (.inl rfl) (C3 T.aH G_row_of (Rm hr) (A6 (peF K (pv 0)) (A6 (pv 1) A8))))
   (A9 (E5 (C4 c8 (pv 2) Q4 (C8 _)) (B3 (Dr cxE.bx T.aZ T.bp rfl T.a0 (A6 D4 A8))) C5)
   (B3 (C1 (pv 2))))),?_⟩
  refine B5 fun N1 hN1=>?_;refine ex1 rfl ⟨x,_,_,_,_,rfl,hx,T.ak,T.ap,rfl,ex1 rfl ⟨b,_,n,rfl,W.hs,by rw[AB];omega,?_⟩⟩;rw[Sr,ey];refine hN1 _ _ (B5 fun N2 hN2=>?_);exact ex1 rfl ⟨rfl,true,congrArg V.bl (AI rfl),Y5 ⟨by show 1<=sizeLine;decide,fun y hy=>k _ y (Same.new hy) hy A7⟩⟩
def j4(C B:Addr):Sp:=fun vs H Q E=>∃(x:Addr) (pe:List PEr) (sa:List SAr) (st:List STr) (ba:List PA2) (n:Str),vs = [.ref x,.str n]/\WeaveAt C H x pe sa st ba/\st.length<=30/\y0 st n=none/\Oo B H E
theorem El(T:Tx K mg):FnOk P w K mg base (CXe P w) 2 T.am.f T.am.fd ["weave", "name"] (j4 T.ab T.af):=by
 have G_row_of:=U8 (P:=P) (w:=w) (base:=base) T;have sc:=K0;refine T.am.F.okE K0 (fun vs H Q E h=>?_) (fun cdv A outer s H vs Q E hr h=>?_)
 .obtain⟨x,pe,sa,st,ba,n,rfl,_⟩:=h;rfl
 .obtain⟨x,pe,sa,st,ba,n,rfl,⟨dx,a,b,c,d,hx,W⟩,l30,ey,k⟩:=h;refine⟨_,(A9 (C2 (i:=2) sc.nd rfl (.inl rfl) (C3 T.aH G_row_of (Rm hr) (A6 (peF K (pv 0)) (A6 (pv 1) A8))))
   (A9 (E5 (C4 c8 (pv 2) Q4 (C8 _)) (B3 (Dr cxE.bx T.aZ T.bp rfl T.a0 (A6 D4 A8))) C5)
   (B3 (C1 (pv 2))))),?_⟩
  refine B5 fun N1 hN1=>?_;refine ex1 rfl ⟨x,_,_,_,_,rfl,hx,T.ak,T.aI,rfl,ex1 rfl ⟨c,_,n,rfl,W.ht,by rw[AB];omega,?_⟩⟩;rw[Uv,ey];refine hN1 _ _ (B5 fun N2 hN2=>?_);exact ex1 rfl ⟨rfl,true,congrArg V.bl (AI rfl),Y5 ⟨by show 1<=sizeLine;decide,fun y hy=>k _ y (Same.new hy) hy A7⟩⟩
theorem Cy(T:Tx K mg):FnOk P w K mg base (CXe P w) 3 T.ag.f T.ag.fd ["weave", "name"] (Gc T.ab T.af):=by
 have G_saying_of:=Nv (P:=P) (w:=w) (base:=base) T;have G_names_of:=E2 (P:=P) (w:=w) (base:=base) T;have G_reached:=Ac (P:=P) (w:=w) (base:=base) T;have sc:=P8;refine T.ag.F.okE P8 (fun vs H Q E h=>?_) (fun cdv A outer s H vs Q E hr h=>?_)
 .obtain⟨x,pe,sa,st,ba,n,rfl,_⟩:=h;rfl
 .obtain⟨x,pe,sa,st,ba,n,rfl,hW,l30,ey,k⟩:=h;have hu:=Jn hr;refine⟨_,(A9 (C2 (i:=2) sc.nd rfl (.inr rfl) (C6 (ixT K) (Kz cxE.bx T.al G_saying_of (Rm hr) (A6 (pv 0) (A6 (pv 1) A8))) B0 (fun _ _=>rfl)))
   (A9 (Dd (i:=3) (N':=["said", "weave"]) (cap:=[none,some 0]) (cl:=[("weave",_)]) sc.nd rfl (.inl rfl) (Tq (fun _=>⟨⟨rfl,rfl,rfl,rfl⟩,trivial⟩) ⟨rfl,trivial⟩) rfl (piL K (C3 T.ae G_names_of (Rm hr) (A6 (peF K (pv 0)) A8))) (fun _ _ _ _=>by exact⟨(pgD 0),G0,(pv 0),(Q7 (N':=["one", "other", "said"]) (cap:=[none,none,some 0]) (cl:=[("said",_)]) (O7 ⟨⟨rfl,rfl,rfl,rfl⟩,trivial⟩ ⟨rfl,trivial⟩) rfl (piL K (peF K (pv 1))) (fun _ _ _ _=>by exact⟨(pgT K (n:=2) (E1 (pgC 0) (E1 (pgC 1) X7))),(S0 (C4 w5 (pv 1) (pv 2) (C8 _))),(pv 0)⟩))⟩))
   (B3 (C1 (Q7 (N':=["one", "known"]) (cap:=[none,some 2]) (cl:=[("known",_)]) (O7 ⟨⟨rfl,rfl,rfl,rfl⟩,trivial⟩ ⟨rfl,trivial⟩) rfl (piL K (C3 T.aS G_reached (Rm hr) (A6 (pv 3) (A6 (D7 (A6 (pv 2) A8)) A8)))) (fun _ _ _ _=>by exact⟨(pgC 0),(S0 (C4 Hc (pv 0) (pv 1) (C8 _))),(pv 0)⟩)))))),?_⟩
  refine B5 fun N1 hN1=>?_;exact ex1 rfl (ex1 rfl ⟨x,pe,sa,st,ba,n,rfl,hW,l30,ey,k⟩)
theorem Nl(T:Tx K mg):FnOk P w K mg base (CXe P w) 4 T.aq.f T.aq.fd ["weave", "name"] (j4 T.ab T.af):=by
 have G_strike_of:=El (P:=P) (w:=w) (base:=base) T;have G_backers:=Cy (P:=P) (w:=w) (base:=base) T;have G_names_of:=E2 (P:=P) (w:=w) (base:=base) T;have sc:=U9;refine T.aq.F.okE U9 (fun vs H Q E h=>?_) (fun cdv A outer s H vs Q E hr h=>?_)
 .obtain⟨x,pe,sa,st,ba,n,rfl,_⟩:=h;rfl
 .obtain⟨x,pe,sa,st,ba,n,rfl,hW,l30,ey,k⟩:=h;refine⟨_,(A9 (C2 (i:=2) sc.nd rfl (.inl rfl) (C6 (ixT K) (Kz cxE.bx T.am G_strike_of (Rm hr) (A6 (pv 0) (A6 (pv 1) A8))) B0 (fun _ _=>rfl)))
   (A9 (E5 (C4 (t9 K) (pv 2) (C3 T.ae G_names_of (Rm hr) (A6 (peF K (pv 0)) A8)) rfl) (B3 (C1 (D0 (a8 K) T.aF K9 (A6 (E3 T0 (Kz cxE.bx T.ag G_backers (Rm hr) (A6 (pv 0) (A6 (pv 2) A8))) (D7 (A6 (pv 2) A8))) A8)))) C5)
   (B3 (C1 (D7 (A6 (pv 2) A8)))))),?_⟩
  refine B5 fun N1 hN1=>?_;exact ex1 rfl (ex1 rfl ⟨x,pe,sa,st,ba,n,rfl,hW,l30,ey,k⟩)
theorem J9:FnScope ["_law_ask", "_law_weave", "_law_name", "_law_caught", "_law_told", "error", "_law_others"] ["_law_ask", "_law_weave", "_law_name"] (B6 s_law_asked):=fsc
def Lr(S C B:Addr):Sp:=fun vs H Q _=>∃(x:Addr) (pe:List PEr) (sa:List SAr) (st:List STr) (ba:List PA2) (n:Str),vs = [.ref S,.ref x,.str n]/\WeaveAt C H x pe sa st ba/\sa.length<=30/\Jd sa n=none /\
 ∀t H',Same H H'->H' t=some (.tup [.str "refused",.str "none such"])->Q (.ref t) H'
set_option maxHeartbeats 2000000 in
theorem Ax(T:Tx K mg):FnOk P w K mg base CX0 4 T.an.f T.an.fd ["_law_ask", "_law_weave", "_law_name"] (Lr T.ag.f T.ab T.af):=by
 have G__law_ask:=Cy (P:=P) (w:=w) (base:=base) T;have hk__law_ask:=T.ag.F.kp;have hb__law_ask:=T.ag.b;have sc:=J9;refine T.an.F.ok J9 (fun vs H Q E h=>?_) (fun cdv A outer s H vs Q E hr h=>?_)
 .obtain⟨x,pe,sa,st,ba,n,rfl,_⟩:=h;rfl
 .obtain⟨x,pe,sa,st,ba,n,rfl,hW,hl,ey,q⟩:=h;refine⟨_,(A9 (C2 (i:=3) sc.nd rfl (.inl rfl) Q4)
   (A9 (Ju (i:=5) (fun _ _ z=>z) rfl rfl sc.nd rfl rfl rfl T.a7 T.a6 (Ld (i:=4) sc.nd rfl (.inl rfl) (Cu (i:=0) (fun _ _ z=>z) G__law_ask (Rm hr) hk__law_ask hb__law_ask (A6 (pv 1) (A6 (pv 2) A8))))
   (fun _=>(B3 (C2 (i:=3) sc.nd rfl (.inl rfl) (pv 5)))))
   (A9 (E5 (C4 c8 (pv 3) Q4 (C8 _)) (B3 (C1 (G9 (A6 D4 (A6 (pv 4) A8))))) C5)
   (@A9 _ _ _ _ _ (@C2 _ _ 6 _ _ _ _ sc.nd rfl (.inl rfl) (D0 (Ad K) T.aa B8 (A6 (pv 3) (A6 (G9 (A6 (O0 T.bj) (A6 (O0 T.bb) (A6 (O0 T.bg) (A6 (O0 T.bm) (A6 (O0 T.bh) (A6 (O0 T.bo) (A6 (O0 T.bk) A8)))))))) A8))) (by rfl) (by first | exact .inl rfl | exact .inr rfl | assumption))
   (A9 (E5 (PW.pt (x6 (K1 (F7 (D0 (U4 K) T.aa B8 (A6 (pv 3) (A6 (O0 T.a0) A8))))) (x6 (K1 (F7 (D0 (U4 K) T.aa B8 (A6 (pv 3) (A6 (K5 T.ba U7) A8))))) (Y1 (F7 (pv 6)))))) (B3 (C1 (G9 (A6 D4 (A6 D4 A8))))) C5)
   (B3 (C1 (G9 (A6 D4 (A6 D4 A8)))))))))),?_⟩
  refine B5 fun N1 hN1=>?_;refine hN1 _ _ (B5 fun N2 hN2=>?_);refine⟨rfl,ex1 rfl (ex1 rfl ⟨x,pe,sa,st,ba,n,rfl,hW,hl,ey,fun H' y s' hy ey=>⟨T.af,T.bn,rfl,T.aZ,T.aM,fun y' ey'=>?_⟩⟩)⟩;refine ex1 rfl (hN2 _ _ (B5 fun N3 hN3=>?_));refine ex1 rfl ⟨rfl,false,congrArg V.bl (A_ fun z=>by cases z),Q1 (hN3 _ _ (B5 fun N4 hN4=>?_))⟩;refine ex1 rfl ⟨by show 7<=sizeLine;decide,fun p hp=>?_⟩;have u6:=Same.new (o:=.tup ([T.aY,T.aL,T.aQ,T.a4,T.aR,T.a5,T.a1].map V.ref)) hp;have ey6:=u6 _ _ ey';refine⟨y',T.af,p,[T.aY,T.aL,T.aQ,T.a4,T.aR,T.a5,T.a1],false,rfl,A7,ey6,T.aD,T.aE,T.bc,?_⟩;refine hN4 _ _ (B5 fun N5 hN5=>?_);refine ex1 rfl ⟨y',T.af,_,_,true,rfl,rfl,ey6,T.aD,T.aE,T.bd,⟨_,rfl,Q1 ?_⟩⟩;refine ex1 rfl ⟨y',T.af,_,_,true,rfl,rfl,ey6,T.aD,T.aE,T.be,⟨_,rfl,Q1 ?_⟩⟩;refine ex1 rfl ⟨_,rfl,Q1 (hN5 _ _ ?_)⟩;exact⟨by show 2<=sizeLine;decide,fun t ht=>q t _ ((s'.trans u6).trans (Same.new ht)) A7⟩
def Ix(S C B:Addr):Sp:=fun vs H Q _=>∃(x:Addr) (pe:List PEr) (sa:List SAr) (st:List STr) (ba:List PA2) (n:Str),vs = [.ref S,.ref x,.str n]/\WeaveAt C H x pe sa st ba/\st.length<=30/\y0 st n=none /\
 ∀t H',Same H H'->H' t=some (.tup [.str "refused",.str "none such"])->Q (.ref t) H'
set_option maxHeartbeats 2000000 in
theorem By(T:Tx K mg):FnOk P w K mg base CX0 5 T.an.f T.an.fd ["_law_ask", "_law_weave", "_law_name"] (Ix T.aq.f T.ab T.af):=by
 have G__law_ask:=Nl (P:=P) (w:=w) (base:=base) T;have hk__law_ask:=T.aq.F.kp;have hb__law_ask:=T.aq.b;have sc:=J9;refine T.an.F.ok J9 (fun vs H Q E h=>?_) (fun cdv A outer s H vs Q E hr h=>?_)
 .obtain⟨x,pe,sa,st,ba,n,rfl,_⟩:=h;rfl
 .obtain⟨x,pe,sa,st,ba,n,rfl,hW,hl,ey,q⟩:=h;refine⟨_,(A9 (C2 (i:=3) sc.nd rfl (.inl rfl) Q4)
   (A9 (Ju (i:=5) (fun _ _ z=>z) rfl rfl sc.nd rfl rfl rfl T.a7 T.a6 (Ld (i:=4) sc.nd rfl (.inl rfl) (Cu (i:=0) (fun _ _ z=>z) G__law_ask (Rm hr) hk__law_ask hb__law_ask (A6 (pv 1) (A6 (pv 2) A8))))
   (fun _=>(B3 (C2 (i:=3) sc.nd rfl (.inl rfl) (pv 5)))))
   (A9 (E5 (C4 c8 (pv 3) Q4 (C8 _)) (B3 (C1 (G9 (A6 D4 (A6 (pv 4) A8))))) C5)
   (@A9 _ _ _ _ _ (@C2 _ _ 6 _ _ _ _ sc.nd rfl (.inl rfl) (D0 (Ad K) T.aa B8 (A6 (pv 3) (A6 (G9 (A6 (O0 T.bj) (A6 (O0 T.bb) (A6 (O0 T.bg) (A6 (O0 T.bm) (A6 (O0 T.bh) (A6 (O0 T.bo) (A6 (O0 T.bk) A8)))))))) A8))) (by rfl) (by first | exact .inl rfl | exact .inr rfl | assumption))
   (A9 (E5 (PW.pt (x6 (K1 (F7 (D0 (U4 K) T.aa B8 (A6 (pv 3) (A6 (O0 T.a0) A8))))) (x6 (K1 (F7 (D0 (U4 K) T.aa B8 (A6 (pv 3) (A6 (K5 T.ba U7) A8))))) (Y1 (F7 (pv 6)))))) (B3 (C1 (G9 (A6 D4 (A6 D4 A8))))) C5)
   (B3 (C1 (G9 (A6 D4 (A6 D4 A8)))))))))),?_⟩
  refine B5 fun N1 hN1=>?_;refine hN1 _ _ (B5 fun N2 hN2=>?_);refine⟨rfl,ex1 rfl (ex1 rfl ⟨x,pe,sa,st,ba,n,rfl,hW,hl,ey,fun H' y s' hy ey=>⟨T.af,T.bn,rfl,T.aZ,T.aM,fun y' ey'=>?_⟩⟩)⟩;refine ex1 rfl (hN2 _ _ (B5 fun N3 hN3=>?_));refine ex1 rfl ⟨rfl,false,congrArg V.bl (A_ fun z=>by cases z),Q1 (hN3 _ _ (B5 fun N4 hN4=>?_))⟩;refine ex1 rfl ⟨by show 7<=sizeLine;decide,fun p hp=>?_⟩;have u6:=Same.new (o:=.tup ([T.aY,T.aL,T.aQ,T.a4,T.aR,T.a5,T.a1].map V.ref)) hp;have ey6:=u6 _ _ ey';refine⟨y',T.af,p,[T.aY,T.aL,T.aQ,T.a4,T.aR,T.a5,T.a1],false,rfl,A7,ey6,T.aD,T.aE,T.bc,?_⟩;refine hN4 _ _ (B5 fun N5 hN5=>?_);refine ex1 rfl ⟨y',T.af,_,_,true,rfl,rfl,ey6,T.aD,T.aE,T.bd,⟨_,rfl,Q1 ?_⟩⟩;refine ex1 rfl ⟨y',T.af,_,_,true,rfl,rfl,ey6,T.aD,T.aE,T.be,⟨_,rfl,Q1 ?_⟩⟩;refine ex1 rfl ⟨_,rfl,Q1 (hN5 _ _ ?_)⟩;exact⟨by show 2<=sizeLine;decide,fun t ht=>q t _ ((s'.trans u6).trans (Same.new ht)) A7⟩
theorem FnOk.either{CX:CXT}{k:Nat}{f:Addr}{fd:FuncData}{ps:List Str}{S1 S2:Sp}(F:FnOk P w K mg base CX k f fd ps S1)(G:FnOk P w K mg base CX k f fd ps S2):FnOk P w K mg base CX k f fd ps fun vs H Q E=>S1 vs H Q E\/S2 vs H Q E :=
 ⟨fun vs H Q E h=>h.elim (F.len vs H Q E) (G.len vs H Q E),fun A outer s H args us vs Q E hr he hb hv hs=>hs.elim (F.run A outer s H args us vs Q E hr he hb hv) (G.run A outer s H args us vs Q E hr he hb hv)⟩
theorem y9:FnScope ["_law_cell", "_law_k", "_law_m"] ["_law_cell", "_law_k"] (B6 s_law_mix):=fsc
def Sa:Sp:=fun vs H Q _=>∃(cell k:Int),vs = [.int cell,.int k]/\0<=k/\k<=2000000/\∀m:Int,0<=m->m<1999999973->Q (.int m) H
theorem Ib(T:Tx K mg):FnOk P w K mg base CX0 1 T.aT.f T.aT.fd ["_law_cell", "_law_k"] Sa:=by
 have sc:=y9;refine T.aT.F.ok y9 (fun vs H Q E h=>?_) (fun cdv A outer s H vs Q E hr h=>?_)
 .obtain⟨c,k,rfl,_⟩:=h;rfl
 .obtain⟨cell,k,rfl,k0,k1,q⟩:=h;refine⟨_,(A9 (C2 (i:=2) sc.nd rfl (.inl rfl) (E3 Di (E3 Aa (E3 U1 (E3 U1 (E3 Di (pv 0) B0) (E3 Aa (E3 Aa (pv 1) (pv 1)) B0)) B0) B0) B0))
   (B3 (C1 (E3 Di (E3 Aa (pv 2) (pv 2)) B0)))),?_⟩
  refine ex1 rfl (C0 rfl rfl ⟨(show(0:Int)<2147483629 by decide),ex1 rfl (ex1 rfl (C0 rfl rfl ⟨.inl ⟨by omega,by omega⟩,C0 rfl rfl ⟨.inr ⟨by decide,by decide⟩,C0 rfl rfl (C0 rfl rfl (C0 rfl rfl ⟨.inr ⟨by decide,by decide⟩,C0 rfl rfl ⟨(show(0:Int)<2147483647 by decide),?_⟩⟩))⟩⟩))⟩);generalize hm:(cell % 2147483629+k*k*7919+11)*48271 % 2147483647=m;have h1:0<=m:=by rw[<-hm];exact Int.emod_nonneg _ (by decide)
  have h2:m<2147483647:=by rw[<-hm];exact FT _ (by decide)
  exact⟨_,rfl,_,rfl,_,_,rfl,rfl,.inl ⟨by omega,by omega⟩,_,_,rfl,rfl,(show(0:Int)<1999999973 by decide),q _ (Int.emod_nonneg _ (by decide)) (FT _ (by decide))⟩
def LeftAt(H:Hp)(p:Addr)(c:Int):Prop:=∃a b:Int,H p=some (.lst [.int a,.int b,.int c])/\0<=c
theorem LeftAt.isS{H:Hp}{p:Addr}{c:Int}(h:LeftAt H p c):(H p).isSome=true:=by
 obtain⟨_,_,e,_⟩:=h;rw[e];rfl
theorem LeftAt.get{H:Hp}{p:Addr}{c:Int}(h:LeftAt H p c):H p=some ((H p).get h.isS):=(Option.some_get _).symm
theorem LeftAt.cast{H:Hp}{p:Addr}{c c':Int}(h:LeftAt H p c)(e:c=c'):LeftAt H p c':=e▸h
theorem LeftAt.upd{H:Hp}{p a:Addr}{c:Int}{o:HO}(h:LeftAt H p c)(n:p≠a):LeftAt (L2.upd H a o) p c:=by
 obtain⟨x,y,e,z⟩:=h;exact⟨x,y,by rw[B7 n];exact e,z⟩
theorem LeftAt.same{H H':Hp}{p:Addr}{c:Int}(h:LeftAt H p c)(s:Same H H'):LeftAt H' p c:=by
 obtain⟨x,y,e,z⟩:=h;exact⟨x,y,s _ _ e,z⟩
theorem Wz(c:Bool):-(2^64) <(if c=true then(1:Int)else 0)/\(if c=true then(1:Int)else 0)<2^64:=by cases c<;>exact⟨by decide,by decide⟩
theorem o9:FnScope ["_law_script", "_law_k", "_law_cell"] ["_law_script", "_law_k"] (B6 s_law_left):=fsc
def Rv(K:PySem.W.Frag):Sp:=fun vs H Q _=>∃(p:Addr) (xs:List Int) (k:Nat),vs = [.ref p,.int (k:Int)]/\SqL K H p (xs.map V.int)/\k<=1000/\∀l H',H l=none->Same H H'->LeftAt H' l 0->Q (.ref l) H'
theorem Ez(T:Tx K mg):FnOk P w K mg base CX0 1 T.aV.f T.aV.fd ["_law_script", "_law_k"] (Rv K):=by
 have sc:=o9;refine T.aV.F.ok o9 (fun vs H Q E h=>?_) (fun cdv A outer s H vs Q E hr h=>?_)
 .obtain⟨p,xs,k,rfl,_⟩:=h;rfl
 .obtain⟨p,xs,k,rfl,hS,hk,q⟩:=h;refine⟨_,(A9 (C2 (i:=2) sc.nd rfl (.inl rfl) (Nx (C4 Td (pv 1) (D0 (K2 K) T.ai J0 (A6 (pv 0) A8)) (C8 _)) (C6 (ixL K) (pv 0) (pv 1) (fun _ _=>rfl)) B0))
   (B3 (C1 (D7 (A6 (E3 Aa (D0 Gq T.bB Ou (A6 (pv 2) A8)) (Be Lj T.bt Ln (A6 (D9 Vy (D0 Gq T.bB Ou (A6 (pv 2) A8)) (E3 Ud B0 B0) (C8 _)) A8))) (A6 (E3 U1 (pv 2) (E3 Aa B0 (pv 1))) (A6 B0 A8))))))),?_⟩
  refine ex1 rfl (ex1 rfl (C0 (a:=p) rfl (.inl hS) (C0 rfl rfl (ex1 rfl ?_))));have at1:decide ((k:Int) <((xs.map V.int).length:Int))=true->∃c:Int,atI (xs.map V.int) (k:Int)=some (.int c):=fun c1=>by
   have c1:(k:Int) <((xs.map V.int).length:Int):=BU c1;rw[AB]at c1;have hk':xs[k]?=some (xs[k]'(by omega)):=AJ (by omega);exact⟨_,B9 (by rw[AG,hk'];rfl)⟩
  refine Ak (fun c1=>?_) (fun c1=>?_)
  .obtain⟨c,hc⟩:=at1 c1;refine ex1 rfl (ex1 rfl ⟨p,_,C0 rfl rfl ⟨hS,hc,?_⟩⟩)
   (repeat first | refine⟨_,rfl,?_⟩ | refine⟨_,_,rfl,rfl,?_⟩)
   refine⟨⟨by decide,by decide,by decide⟩,?_⟩
   (repeat first | refine⟨_,rfl,?_⟩ | refine⟨_,_,rfl,rfl,?_⟩)
   refine .inr ⟨_,rfl,?_⟩
   (repeat first | refine⟨_,rfl,?_⟩ | refine⟨_,_,rfl,rfl,?_⟩)
   refine⟨.inr ?_,?_⟩
   .exact Wz _
   (repeat first | refine⟨_,rfl,?_⟩ | refine⟨_,_,rfl,rfl,?_⟩)
   refine⟨.inl ⟨by decide,by decide⟩,?_⟩
   (repeat first | refine⟨_,rfl,?_⟩ | refine⟨_,_,rfl,rfl,?_⟩)
   exact⟨by show 3<=sizeLine;decide,fun l hl=>q l _ hl (Same.new hl) ⟨_,_,A7,by decide⟩⟩
  .skip;(repeat first | refine⟨_,rfl,?_⟩ | refine⟨_,_,rfl,rfl,?_⟩)
   refine⟨⟨by decide,by decide,by decide⟩,?_⟩
   (repeat first | refine⟨_,rfl,?_⟩ | refine⟨_,_,rfl,rfl,?_⟩)
   refine .inr ⟨_,rfl,?_⟩
   (repeat first | refine⟨_,rfl,?_⟩ | refine⟨_,_,rfl,rfl,?_⟩)
   refine⟨.inr ?_,?_⟩
   .exact Wz _
   (repeat first | refine⟨_,rfl,?_⟩ | refine⟨_,_,rfl,rfl,?_⟩)
   refine⟨.inl ⟨by decide,by decide⟩,?_⟩
   (repeat first | refine⟨_,rfl,?_⟩ | refine⟨_,_,rfl,rfl,?_⟩)
   exact⟨by show 3<=sizeLine;decide,fun l hl=>q l _ hl (Same.new hl) ⟨_,_,A7,by decide⟩⟩
theorem l9:FnScope ["_law_left_here", "_law_many", "_law_digit"] ["_law_left_here", "_law_many"] (B6 s_law_pick):=fsc
def Rc:Sp:=fun vs H Q _=>∃(p:Addr) (c many:Int),vs = [.ref p,.int many]/\LeftAt H p c/\c<=1000000/\0<many/\many<=1000000 /\
 ∀(d:Nat) H',(d:Int)<many->Sm [p] H H'->LeftAt H' p (c+1)->Q (.int (d:Int)) H'
theorem J3(T:Tx K mg):FnOk P w K mg base CX0 2 T.ac.f T.ac.fd ["_law_left_here", "_law_many"] Rc:=by
 have G_law_mix:=Ib (P:=P) (w:=w) (base:=base) T;have sc:=l9;refine T.ac.F.ok l9 (fun vs H Q E h=>?_) (fun cdv A outer s H vs Q E hr h=>?_)
 .obtain⟨p,c,m,rfl,_⟩:=h;rfl
 .obtain⟨p,c,many,rfl,⟨a,b,e,c0⟩,c1,m0,m1,q⟩:=h;refine⟨_,(A9 (Jl (E3 U1 (C6 (ixL K) (pv 0) B0 (fun _ _=>rfl)) B0) (Iu (pv 0) B0 Bl))
   (A9 (E5 (C4 Sy (C6 (ixL K) (pv 0) B0 (fun _ _=>rfl)) B0 (C8 _)) (A9 (C2 (i:=2) sc.nd rfl (.inl rfl) (E3 Di (C6 (ixL K) (pv 0) B0 (fun _ _=>rfl)) (pv 1)))
   (A9 (Jl (E3 Lb (C6 (ixL K) (pv 0) B0 (fun _ _=>rfl)) (pv 1)) (Iu (pv 0) B0 Bl))
   (B3 (C1 (pv 2))))) C5)
   (B3 (C1 (E3 Di (E3 Lb (C3 T.aT G_law_mix (Rm hr) (A6 (C3 T.aT G_law_mix (Rm hr) (A6 (C6 (ixL K) (pv 0) B0 (fun _ _=>rfl)) (A6 (C6 (ixL K) (pv 0) B0 (fun _ _=>rfl)) A8))) (A6 (E3 U1 (C6 (ixL K) (pv 0) B0 (fun _ _=>rfl)) B0) A8))) B0) (pv 1)))))),?_⟩
  have nn:∀d:Int,0<=d->d<many->∀a' b',Q (.int d) (upd (upd H p (.lst [.int a,.int b,.int (c+1)])) p (.lst [.int a',.int b',.int (c+1)]))/\Q (.int d) (upd H p (.lst [.int a',.int b',.int (c+1)])):=fun d h0 h1 a' b'=>by
   obtain⟨n,rfl⟩:=Int.eq_ofNat_of_zero_le h0;exact⟨q n _ h1 (((Sm.refl _ _).upd (by simp)).upd (by simp)) ⟨a',b',A7,by omega⟩,q n _ h1 ((Sm.refl _ _).upd (by simp)) ⟨a',b',A7,by omega⟩⟩
  refine ex1 rfl ⟨p,_,C0 rfl rfl ⟨SqL.of e,rfl,C0 rfl rfl (ex1 rfl ⟨p,_,_,2,rfl,rfl,e,rfl,?_⟩)⟩⟩;refine ex1 rfl ⟨p,_,C0 rfl rfl ⟨SqL.of A7,rfl,C0 rfl rfl (ex1 rfl ?_)⟩⟩;refine Ak (fun h1=>?_) (fun h1=>?_)
  .have h1:(0:Int)<a:=BU h1;refine ex1 rfl ⟨p,_,C0 rfl rfl ⟨SqL.of A7,rfl,ex1 rfl (C0 rfl rfl ⟨m0,?_⟩)⟩⟩;refine ex1 rfl ⟨p,_,C0 rfl rfl ⟨SqL.of A7,rfl,ex1 rfl (C0 rfl rfl ⟨⟨m0,by omega⟩,ex1 rfl ⟨p,_,_,0,rfl,rfl,A7,rfl,?_⟩⟩)⟩⟩;exact⟨_,rfl,(nn _ (Int.emod_nonneg _ (by omega)) (FT _ m0) _ _).1⟩
  .refine ex1 rfl ⟨p,_,C0 rfl rfl ⟨SqL.of A7,rfl,ex1 rfl ⟨p,_,C0 rfl rfl ⟨SqL.of A7,rfl,_,ex1 rfl ⟨by omega,by omega,fun m2 h2 h3=>?_⟩⟩⟩⟩⟩;refine ex1 rfl ⟨p,_,C0 rfl rfl ⟨SqL.of A7,rfl,C0 rfl rfl ⟨_,ex1 rfl ⟨by omega,by omega,fun m3 h4 h5=>?_⟩⟩⟩⟩;refine C0 rfl rfl ⟨⟨by decide,by decide⟩,ex1 rfl (C0 rfl rfl ⟨m0,?_⟩)⟩;exact(nn _ (Int.emod_nonneg _ (by omega)) (FT _ m0) _ _).2
end
theorem six{d n:Nat}(h:d<n):seqIndex? (d:Int) n=some d:=by
 unfold seqIndex?;simp;omega
theorem erase_perm{α:Type}{l:List α}{i:Nat}{x:α}(h:l[i]?=some x):(x::l.eraseIdx i).Perm l:=ST.erase_perm h
theorem Ci{α β:Type}(f:α->β):∀(l:List α) (i:Nat),(l.map f).eraseIdx i =(l.eraseIdx i).map f
 | [],_=>rfl
 | _::_,0=>rfl
 | a::l,i+1=>by
  show f a ::(l.map f).eraseIdx i=f a ::(l.eraseIdx i).map f;rw[Ci f l i]
theorem names_of{all rest got:List Str}(pm:(rest++got).Perm all)(h1:∀x∈all,E4 x=true)(h2:all.Nodup)(h3:all.length<=100):Ei got:=by
 refine⟨fun x hx=>h1 x (pm.mem_iff.mp (BE _ hx)),?_,?_⟩
 .exact(CC.mp (pm.nodup_iff.mpr h2)).2.1
 .have:=pm.length_eq;rw[BA]at this;omega
theorem Om{all rest got:List Str}{d:Nat}{x:Str}(pm:(rest++got).Perm all)(h:rest[d]?=some x):(rest.eraseIdx d ++(got ++ [x])).Perm all:=by
 refine List.Perm.trans ?_ pm;rw[<-BF];refine CM.trans ?_;rw[<-BF];exact(erase_perm h).append_right got
theorem Sm1{p b:Addr}{H H':Hp}{o:HO}(h:Sm [p] H H')(e:H b=some o)(n:b≠p):H' b=some o:=h b o e fun z=>n (AC.mp z)
section
variable{P:Program}{w:World}{K:PySem.W.Frag}{mg:Str->Option Value}{base:Heap}
def all30:List Str:=["b", "aa", "zebra", "c", "quartzes", "ab", "m", "knows", "d", "mm", "likes", "z", "a", "ba", "abcdefgh", "y", "zz", "e", "x", "f", "g", "hh", "i", "jj", "k", "ll", "say", "strike", "fact", "back"]
abbrev txt20:Str := "b aa zebra c quartzes ab m knows d mm likes z a ba abcdefgh y zz e x f"
abbrev txt10:Str := "g hh i jj k ll say strike fact back"
abbrev txt8:Str := "b aa zebra cy quartzes eve m knows"
def all20:List Str:=["b", "aa", "zebra", "c", "quartzes", "ab", "m", "knows", "d", "mm", "likes", "z", "a", "ba", "abcdefgh", "y", "zz", "e", "x", "f"]
def all10:List Str:=["g", "hh", "i", "jj", "k", "ll", "say", "strike", "fact", "back"]
def all8:List Str:=["b", "aa", "zebra", "cy", "quartzes", "eve", "m", "knows"]
theorem Rb:Builtin.Str.partsBetween txt20 (Builtin.Str.occurrences txt20 " " 0 txt20.length (txt20.length+1)) (" ":Str).length=all20:=by decide +kernel
theorem Qj:Builtin.Str.partsBetween txt10 (Builtin.Str.occurrences txt10 " " 0 txt10.length (txt10.length+1)) (" ":Str).length=all10:=by decide +kernel
theorem Uj:Builtin.Str.partsBetween txt8 (Builtin.Str.occurrences txt8 " " 0 txt8.length (txt8.length+1)) (" ":Str).length=all8:=by decide +kernel
theorem all30_ok:(∀x∈all30,E4 x=true)/\all30.Nodup:=⟨by decide +kernel,by decide +kernel⟩
theorem Rg:Ei all8:=⟨by decide +kernel,by decide +kernel,by decide⟩
theorem Qm:all20++all10=all30:=rfl
theorem Xf(Q:VK)(H:Hp)(h:∀l,H l=none->Q (.ref l) (upd H l (.lst (all20.map V.str)))):Fp (.str txt20) [.str " "] H Q:=⟨txt20, " ",all20,rfl,rfl,by decide +kernel,by decide +kernel,by decide +kernel,by decide +kernel,Rb,by decide +kernel,h⟩
theorem Yc(Q:VK)(H:Hp)(h:∀l,H l=none->Q (.ref l) (upd H l (.lst (all10.map V.str)))):Fp (.str txt10) [.str " "] H Q:=⟨txt10, " ",all10,rfl,rfl,by decide +kernel,by decide +kernel,by decide +kernel,by decide +kernel,Qj,by decide +kernel,h⟩
theorem sp8(Q:VK)(H:Hp)(h:∀l,H l=none->Q (.ref l) (upd H l (.lst (all8.map V.str)))):Fp (.str txt8) [.str " "] H Q:=⟨txt8, " ",all8,rfl,rfl,by decide +kernel,by decide +kernel,by decide +kernel,by decide +kernel,Uj,by decide +kernel,h⟩
theorem M9:FnScope ["_law_left_here", "_law_many", "_law_some", "_law_names", "_law_k"] ["_law_left_here", "_law_many"] (B6 s_law_many_names):=fsc
def Bb:Sp:=fun vs H Q _=>∃(p:Addr) (c:Int) (many:Nat),vs = [.ref p,.int (many:Int)]/\LeftAt H p c/\c<=900000/\many<=30 /\
 ∀l (ss:List Str) H',H l=none->Sm [p] H H'->H' l=some (.lst (ss.map V.str))->ss.length=many->Ei ss->(∀x∈ss,x∈all30)->LeftAt H' p (c+many)->Q (.ref l) H'
set_option maxHeartbeats 2000000 in
theorem X3(T:Tx K mg):FnOk P w K mg base CX0 3 T.as.f T.as.fd ["_law_left_here", "_law_many"] Bb:=by
 have G_law_pick:=J3 (P:=P) (w:=w) (base:=base) T;have sc:=M9;refine T.as.F.ok M9 (fun vs H Q E h=>?_) (fun cdv A outer s H vs Q E hr h=>?_)
 .obtain⟨p,c,m,rfl,_⟩:=h;rfl
 .obtain⟨p,c,many,rfl,hL,c1,m1,q⟩:=h;obtain⟨a0,b0,e0,c0⟩:=id hL;refine⟨_,(A9 (C2 (i:=2) sc.nd rfl (.inl rfl) (Mj K PySem.F.plainAttrs_str PySem.F.slot_str_split PySem.F.type_str_split Bc D4 (A6 D4 A8)))
   (A9 (C2 (i:=2) sc.nd rfl (.inl rfl) (E3 T0 (pv 2) (Mj K PySem.F.plainAttrs_str PySem.F.slot_str_split PySem.F.type_str_split Bc D4 (A6 D4 A8))))
   (A9 (C2 (i:=3) sc.nd rfl (.inl rfl) (D7 A8))
   (A9 (L6 PassesOwn.never rfl (Px T.ax (A6 (pv 1) A8)) (D8 (i:=4) sc.nd rfl (.inl rfl))
   (B3 (I0 (Mj K PySem.F.plainAttrs_list PySem.F.slot_list_append PySem.F.type_list_append J5 (pv 3) (A6 (Mj K PySem.F.plainAttrs_list PySem.F.slot_list_pop PySem.F.type_list_pop Mt (pv 2) (A6 (C3 T.ac G_law_pick (Rm hr) (A6 (pv 0) (A6 (D0 (K2 K) T.ai J0 (A6 (pv 2) A8)) A8))) A8)) A8)))))
   (B3 (C1 (pv 3))))))),?_⟩
  refine B5 fun N1 hN1=>?_;refine⟨rfl,?_⟩;dsimp only[Ms,tC,Vk];refine Xf _ _ fun a1 ha1=>?_;have u1:=Same.new (o:=.lst (all20.map V.str)) ha1;have e1:(upd H a1 (.lst (all20.map V.str))) a1=some (.lst (all20.map V.str)):=A7;generalize upd H a1 (.lst (all20.map V.str))=H1 at u1 e1⊢;refine hN1 _ _ (B5 fun N2 hN2=>?_);refine ex1 rfl ⟨rfl,?_⟩;dsimp only[Ms,tC,Vk];refine Yc _ _ fun a2 ha2=>?_;have u2:=Same.new (o:=.lst (all10.map V.str)) ha2;refine⟨a1,a2,_,_,rfl,rfl,u2 _ _ e1,A7,by rw[AB,AB];show 30<=sizeLine;decide,fun a ha=>?_⟩;have u3:=(u1.trans u2).trans (Same.new (o:=.lst (all20.map V.str++all10.map V.str)) ha);have ea:(upd (upd H1 a2 (.lst (all10.map V.str))) a (.lst (all20.map V.str++all10.map V.str))) a=some (.lst (all30.map V.str)):=by rw[A7,<-Qm,BD]
  have ha0:H a=none:=(u1.trans u2).free ha;generalize upd (upd H1 a2 (.lst (all10.map V.str))) a (.lst (all20.map V.str++all10.map V.str))=H2 at u3 ea⊢;clear u1 u2 e1 ha ha1 ha2;have ha:=ha0;have a1:=all30_ok.1;have a2:=all30_ok.2;have al:all30.length=30:=rfl;obtain⟨all,eall⟩:∃all,all=all30:=⟨_,rfl⟩;rw[<-eall]at ea a1 a2 al;refine hN2 _ _ ?_;refine⟨B_ _,fun b hb=>?_⟩;have hb':H b=none:=u3.free hb;have nab:a≠b:=B4 ea hb;have npa:p≠a:=B4 e0 ha;have npb:p≠b:=B4 e0 hb';refine ex1 rfl (ex1 rfl ⟨by omega,by omega,?_⟩);rw[CY];refine K6 (fun i σ H1=>(∃v4,σ = [some (.ref p),some (.int (many:Int)),some (.ref a),some (.ref b),v4])/\Sm [p] H H1/\LeftAt H1 p (c+i)/\∃rest got:List Str,H1 a=some (.lst (rest.map V.str))/\H1 b=some (.lst (got.map V.str))/\(rest++got).Perm all/\got.length=i) ?_ ?_ ?_
  .refine⟨⟨_,rfl⟩,(u3.trans (Same.new hb)).sm,((hL.cast (by omega)).same u3).upd npb,all,[],by rw[B7 nab];exact ea,by rw[A7];rfl,by rw[CQ],rfl⟩
  .rintro i σ H1 hi ⟨⟨v4,rfl⟩,k1,L1,rest,got,ea,eb,pm,hg⟩ D1 hD1 _;have hlen:rest.length=30-i:=by
    have:=pm.length_eq;rw[BA,hg,al]at this;omega
   refine ex1 rfl ⟨.inl ⟨rfl,_,SqL.of eb⟩,ex1 rfl ⟨.inl ⟨rfl,_,SqL.of ea⟩,ex1 rfl (ex1 rfl (C0 (a:=a) rfl (.inl (SqL.of ea)) (Q2 (a:=p) (b:=c+i) rfl L1 (by omega) ?_ ?_ fun d H2 hd k2 L2=>?_)))⟩⟩
   .rw[AB];omega
   .rw[AB];omega
   rw[AB]at hd;have hd':d<rest.length:=by omega
   have hx:rest[d]?=some rest[d]:=AJ hd';have ea2:=Sm1 k2 ea npa.symm;have eb2:=Sm1 k2 eb npb.symm;refine⟨a,_,_,d,.str rest[d],rfl,rfl,ea2,by omega,by omega,six (by rw[AB];exact hd'),by rw[AG,hx];rfl,b,C0 rfl rfl ⟨by rw[B7 nab.symm];exact eb2,?_,?_⟩⟩
   .rw[AB,sizeLine_eq];omega
   refine hD1 _ _ ⟨⟨_,rfl⟩,?_,?_,rest.eraseIdx d,got ++ [rest[d]],?_,?_,Om pm hx,by rw[BA,hg];rfl⟩
   .exact((k1.trans k2).updN ha).updN hb'
   .exact((L2.cast (by omega)).upd npa).upd npb
   .rw[B7 nab,A7,Ci]
   .rw[A7,BD];rfl
  .rintro σ H1 ⟨⟨v4,rfl⟩,k1,L1,rest,got,ea,eb,pm,hg⟩;exact⟨_,rfl,q b got H1 hb' k1 eb hg (names_of pm a1 a2 (by omega)) (fun x hx=>by rw[<-eall];exact pm.mem_iff.mp (BE _ hx)) L1⟩
end
theorem Qe{d:Nat}(h:d<6):∃r:Int,atI [V.int 0,.int 1,.int 1,.int 2,.int 5,.int 9] (d:Int)=some (.int r)/\0<=r/\r<=9:=by
 match d,h with
 | 0,_=>exact⟨0,rfl,by decide,by decide⟩
 | 1,_=>exact⟨1,rfl,by decide,by decide⟩
 | 2,_=>exact⟨1,rfl,by decide,by decide⟩
 | 3,_=>exact⟨2,rfl,by decide,by decide⟩
 | 4,_=>exact⟨5,rfl,by decide,by decide⟩
 | 5,_=>exact⟨9,rfl,by decide,by decide⟩
theorem LeftAt.neL{H:Hp}{p a:Addr}{c:Int}{xs:List V}(h:LeftAt H p c)(e:H a=some (.lst xs))(n:∀x y,xs≠[.int x,.int y,.int c]):a≠p:=fun z=>by
 obtain⟨x,y,e',_⟩:=h;rw[z,e']at e;cases e;exact n x y rfl
theorem LeftAt.neT{H:Hp}{p a:Addr}{c:Int}{xs:List V}(h:LeftAt H p c)(e:H a=some (.tup xs)):a≠p:=fun z=>by
 obtain⟨x,y,e',_⟩:=h;rw[z,e']at e;cases e
theorem LeftAt.neR{H:Hp}{p a:Addr}{c:Int}{as:List Addr}(h:LeftAt H p c)(e:H a=some (.lst (as.map V.ref))):a≠p:=h.neL e fun x y z=>by
 cases as with
 | nil=>cases z
 | cons b r=>cases z
theorem LeftAt.ne{H:Hp}{p a:Addr}{c:Int}{ss:List Str}(h:LeftAt H p c)(e:H a=some (.lst (ss.map V.str))):a≠p:=h.neL e fun x y z=>by
 cases ss with
 | nil=>cases z
 | cons b r=>cases z
theorem RowsAt.sm{H H':Hp}{l p:Addr}{c:Int}{rs:List RW}(h:RowsAt H l rs)(L:LeftAt H p c)(k:Sm [p] H H'):RowsAt H' l rs:=by
 have e:(rs.map fun q=>V.ref q.1) =(rs.map fun q=>q.1).map V.ref:=by rw[BH];rfl
 refine⟨Sm1 k h.at_ (L.neR (by rw[<-e];exact h.at_)),fun q hq=>Sm1 k (h.row q hq) (L.neT (h.row q hq))⟩
theorem RowsAt.snoc{H:Hp}{l t:Addr}{rs:List RW}{n:Str}{xs:List V}(h:RowsAt H l rs)(ht:H t=some (.tup (.str n::xs))):RowsAt (upd H l (.lst ((rs.map fun q=>V.ref q.1) ++ [.ref t]))) l (rs ++ [(t,n,xs)]):=by
 refine⟨by rw[A7,BD];rfl,fun q hq=>?_⟩;rcases AK.mp hq with z | z
 .exact(B7 (p8 (h.row q z) h.at_ (by intro y;cases y))).trans (h.row q z)
 .rw[AC.mp z];exact(B7 (p8 ht h.at_ (by intro y;cases y))).trans ht
section
variable{P:Program}{w:World}{K:PySem.W.Frag}{mg:Str->Option Value}{base:Heap}
theorem V0:FnScope ["_law_left_here", "_law_many", "_law_some"] ["_law_left_here", "_law_many"] (B6 s_law_people):=fsc
def Kn:Sp:=fun vs H Q _=>∃(p:Addr) (c:Int) (many:Nat),vs = [.ref p,.int (many:Int)]/\LeftAt H p c/\c<=800000/\many<=8 /\
 ∀l (pe:List PEr) c' H',H l=none->Sm [p] H H'->RowsAt H' l (pe.map rP)->pe.length=many->(nP pe).Nodup->(∀q∈pe,E4 q.2.1=true/\0<=q.2.2/\q.2.2<=9)->c'<=c+500->LeftAt H' p c'->Q (.ref l) H'
set_option maxHeartbeats 2000000 in
theorem Bk(T:Tx K mg):FnOk P w K mg base CX0 5 T.aK.f T.aK.fd ["_law_left_here", "_law_many"] Kn:=by
 have G_law_pick:=J3 (P:=P) (w:=w) (base:=base) T;have sc:=V0;refine T.aK.F.ok V0 (fun vs H Q E h=>?_) (fun cdv A outer s H vs Q E hr h=>?_)
 .obtain⟨p,c,m,rfl,_⟩:=h;rfl
 .obtain⟨p,c,many,rfl,hL,c1,m1,q⟩:=h;refine⟨_,(A9 (C2 (i:=2) sc.nd rfl (.inr rfl) (Mj K PySem.F.plainAttrs_str PySem.F.slot_str_split PySem.F.type_str_split Bc D4 (A6 D4 A8)))
   (@B3 _ _ _ (@C1 _ _ _ _ (Q7 (N':=["_law_k", "_law_some", "_law_left_here"]) (cap:=[none,some 2,some 0]) (cl:=[("_law_some",_),("_law_left_here",_)]) (O7 ⟨⟨rfl,rfl,rfl,rfl⟩,⟨⟨rfl,rfl,rfl,rfl⟩,trivial⟩⟩ ⟨rfl,⟨rfl,trivial⟩⟩) rfl (Px T.ax (A6 (pv 1) A8)) (fun _ _ _ _=>by exact⟨(pgC 0),G0,(@G9 _ _ _ _ _ (@A6 _ _ _ _ _ (C6 (ixL K) (pv 1) (pv 0) (fun _ _=>rfl)) (@A6 _ _ _ _ _ (@C6 _ _ _ _ _ _ _ (ixL K) (@D7 _ _ _ _ (@A6 _ _ _ _ _ B0 (@A6 _ _ _ _ _ B0 (@A6 _ _ _ _ _ B0 (@A6 _ _ _ _ _ B0 (@A6 _ _ _ _ _ B0 (@A6 _ _ _ _ _ B0 A8 (by rfl)) (by rfl)) (by rfl)) (by rfl)) (by rfl)) (by rfl))) (C3 T.ac G_law_pick (Rm hr) (A6 (pv 2) (A6 B0 A8))) (fun _ _=>rfl)) A8 (by rfl)) (by rfl)))⟩))))),?_⟩
  refine B5 fun N1 hN1=>?_;refine⟨rfl,?_⟩;dsimp only[Ms,tC,Vk];refine sp8 _ _ fun l hl=>?_;have ua:=Same.new (o:=.lst (all8.map V.str)) hl;have k1:Sm [p] H (upd H l (.lst (all8.map V.str))):=ua.sm;have e1:(upd H l (.lst (all8.map V.str))) l=some (.lst (all8.map V.str)):=A7;have L1:=hL.same ua;have N1':=Rg;have len1:all8.length=8:=rfl;have hc1:c<=c+400:=by omega
  generalize upd H l (.lst (all8.map V.str))=H1 at k1 e1 L1 ua⊢;generalize all8=ts at N1' len1 e1 hl⊢;obtain⟨c2,ec2⟩:∃c2,c2=c:=⟨_,rfl⟩;rw[<-ec2]at L1;refine hN1 _ _ ?_;refine ex1 rfl (ex1 rfl ⟨by omega,by omega,fun D hD=>?_⟩);rw[CY];have l8:ts.length=8:=len1;have npD:p≠D:=B4 L1.get hD;have nlD:l≠D:=B4 e1 hD;have hD0:H D=none:=by
   cases z:H D with
   | none=>rfl
   | some o =>
    have:=k1 D o z (by simpa using npD.symm);rw[hD]at this;cases this
  refine Dt (n:=many) (fun i σ H2=>(∃v,σ = [v,some (.ref l),some (.ref p)])/\Sm [p] H H2/\H2 l=some (.lst (ts.map V.str))/\(∃c',c'<=c2+i/\LeftAt H2 p c')/\∃pe:List PEr,RowsAt H2 D (pe.map rP)/\nP pe=ts.take i/\∀q∈pe,0<=q.2.2/\q.2.2<=9) ?_ (fun i _ _ hi _=>hi) (fun _ _ _=>Nat.le_refl _) ?_ ?_
  .exact⟨⟨_,rfl⟩,k1.updN hD0,by rw[B7 nlD];exact e1,⟨_,by omega,L1.upd npD⟩,[],⟨A7,fun q h=>absurd h AO⟩,rfl,fun q h=>absurd h AO⟩
  .rintro i σ H2 v H' N hi ⟨⟨v0,rfl⟩,k2,e2,⟨c3,hc3,L3⟩,pe,R2,n2,r2⟩ ⟨rfl,rfl⟩ hN;have li:i<ts.length:=by omega
   have hi':ts[i]?=some ts[i]:=AJ li;have lpe:pe.length=i:=by
    have:=congrArg List.length n2;unfold nP at this;rw[AB,AL]at this;omega
   refine Ds ?_;rw[Int.zero_add];refine ex1 rfl (ex1 rfl ⟨l,_,C0 rfl rfl ⟨SqL.of e2,B9 (by rw[AG,hi'];rfl),?_⟩⟩);refine⟨by show 6<=sizeLine;decide,fun t ht=>?_⟩;have ut:=Same.new (o:=.lst [V.int 0,.int 1,.int 1,.int 2,.int 5,.int 9]) ht;refine ex1 rfl (Q2 (a:=p) rfl (L3.same ut) (by omega) (by decide) (by decide) fun d H3 hd k3 L4=>?_);obtain⟨r,hr1,hr0,hr9⟩:=Qe (d:=d) (by omega);have e3:H3 t=some (.lst [V.int 0,.int 1,.int 1,.int 2,.int 5,.int 9]):=Sm1 k3 A7 (B4 L3.get ht).symm;refine⟨t,_,C0 rfl rfl ⟨SqL.of e3,hr1,by show 2<=sizeLine;decide,fun t2 ht2=>?_⟩⟩;have R3:=(R2.same ut).sm (L3.same ut) k3;have u2:=Same.new (o:=.tup [.str ts[i],.int r]) ht2;have R4:=R3.same u2;have e4:=Sm1 (k3.trans u2.sm) (ut _ _ e2) ((L3.same ut).ne (ut _ _ e2));have L5:=L4.same u2;have k4:Sm [p] H (upd H3 t2 (.tup [.str ts[i],.int r])):=(k2.trans ut.sm).trans (k3.trans u2.sm);have et:(upd H3 t2 (.tup [.str ts[i],.int r])) t2=some (.tup [.str ts[i],.int r]):=A7;generalize upd H3 t2 (.tup [.str ts[i],.int r])=H4 at R4 e4 L5 k4 et⊢;refine⟨_,R4.at_,by rw[AB,AB,sizeLine_eq];omega,hN _ _ ⟨⟨_,rfl⟩,k4.updN hD0,by rw[B7 nlD];exact e4,⟨_,by omega,L5.upd npD⟩,pe ++ [(t2,ts[i],r)],?_,?_,fun z hz=>?_⟩⟩
   .rw[BD];exact R4.snoc et
   .unfold nP at n2⊢;rw[BD,n2,E6 hi'];rfl
   .rcases AK.mp hz with y | y
    .exact r2 z y
    .rw[AC.mp y];exact⟨hr0,hr9⟩
  .rintro σ H2 ⟨⟨v0,rfl⟩,k2,e2,⟨c3,hc3,L3⟩,pe,R2,n2,r2⟩;have lpe:pe.length=many:=by
    have:=congrArg List.length n2;unfold nP at this;rw[AB,AL]at this;omega
   refine q D pe c3 H2 hD0 k2 R2 lpe (by rw[n2];exact N1'.2.1.sublist (DF _ _)) (fun z hz=>⟨N1'.1 _ (BM (i:=many) (by rw[<-n2];exact BL.mpr ⟨z,hz,rfl⟩)),r2 z hz⟩) (by omega) L3
end
def sd(ss:List Str):PyData:=.list (ss.map PyData.str)
theorem Gd{K:PySem.W.Frag}{H:Hp}:∀ss:List Str,Rps K H (ss.map PyData.str) (ss.map V.str)
 | []=>by simp[Rps]
 | x::r=>by
  simp only[BS,Rps,Rp];exact⟨_,_,rfl,rfl,Gd r⟩
theorem Ps{K:PySem.W.Frag}{H:Hp}{l:Addr}{ss:List Str}(h:SqL K H l (ss.map V.str)):Rp K H (sd ss) (.ref l):=by
 unfold sd;simp only[Rp];exact⟨l,_,rfl,h,Gd ss⟩
theorem Ah:∀ss:List Str,PyData.depthAll (ss.map PyData.str)<=1
 | []=>by simp[PyData.depthAll]
 | x::r=>by
  have:=Ah r;simp only[BS,PyData.depthAll,PyData.depth];omega
theorem Gx:∀{ss:List Str},(∀x∈ss,PySem.PyData.strOk x=true)->PyData.canLayAll0 (ss.map PyData.str)=true
 | [],_=>rfl
 | x::r,h=>by
  rw[BS,PyData.canLayAll0,Gx fun z hz=>h z (AQ _ hz)];simp[PyData.canLay0,h x (BB ..)]
theorem Rh{ss:List Str}(h:∀x∈ss,E4 x=true):Pl (sd ss):=by
 refine⟨?_,?_⟩
 .unfold sd;rw[PyData.canLay0];exact Gx fun x hx=>F6 (h x hx)
 .unfold sd;rw[PyData.depth];have:=Ah ss;omega
theorem Lp{K:PySem.W.Frag}{x y:V}{d:PyData}{H:Hp}{Q:VK}(h1:Rp K H d x)(h2:Rp K H d y)(p:Pl d)(q:Q (.bl false) H):Vj K x y H Q :=
 ⟨d,d,h1,h2,p,p,by rw[PySem.SeqAt.eqv_refl d p.1];exact q⟩
theorem Lm:∀ds:List PyData,PyData.eqv (.list ds) (.list [])=ds.isEmpty
 | []=>by rw[PyData.eqv,PyData.eqvAll];rfl
 | _::_=>by rw[PyData.eqv,PyData.eqvAll];rfl
theorem Ii(ss:List Str):PyData.eqv (sd ss) (.list [])=ss.isEmpty:=by
 unfold sd;rw[Lm];cases ss<;>rfl
theorem Pa:Pl (.list []):=⟨by simp[PyData.canLay0,PyData.canLayAll0],by simp[PyData.depth,PyData.depthAll]⟩
theorem Pd{K:PySem.W.Frag}{H:Hp}{l:Addr}(h:SqL K H l []):Rp K H (.list []) (.ref l):=by
 simp only[Rp];exact⟨l,_,rfl,h,by simp[Rps]⟩
theorem Ft{K:PySem.W.Frag}{H:Hp}{α:Type}{f:α->Addr}{d:α->PyData}:∀{xs:List α},(∀x∈xs,Rp K H (d x) (.ref (f x)))->Rps K H (xs.map d) (xs.map fun x=>V.ref (f x))
 | [],_=>by simp[Rps]
 | x::r,h=>by
  show Rps K H (d x::r.map d) (V.ref (f x)::r.map fun x=>V.ref (f x));simp only[Rps];exact⟨_,_,rfl,h x (BB ..),Ft fun z hz=>h z (AQ _ hz)⟩
theorem Ra{K:PySem.W.Frag}{H:Hp}{α:Type}{f:α->Addr}{d:α->PyData}{xs:List α}{l:Addr}(e:H l=some (.lst (xs.map fun x=>V.ref (f x))))(h:∀x∈xs,Rp K H (d x) (.ref (f x))):Rp K H (.list (xs.map d)) (.ref l):=by
 simp only[Rp];exact⟨l,_,rfl,SqL.of e,Ft h⟩
theorem Js{α:Type}{d:α->PyData}:∀{xs:List α},(∀x∈xs,(d x).canLay0=true)->PyData.canLayAll0 (xs.map d)=true
 | [],_=>rfl
 | x::r,h=>by
  rw[BS,PyData.canLayAll0,Js fun z hz=>h z (AQ _ hz),h x (BB ..)];rfl
theorem Dm{α:Type}{d:α->PyData}{k:Nat}:∀{xs:List α},(∀x∈xs,(d x).depth<=k)->PyData.depthAll (xs.map d)<=k
 | [],_=>by simp[PyData.depthAll]
 | x::r,h=>by
  have h1:=h x (BB ..);have h2:=Dm fun z hz=>h z (AQ _ hz);rw[BS,PyData.depthAll];omega
theorem Ti{α:Type}{d:α->PyData}{xs:List α}(h:∀x∈xs,(d x).canLay0=true/\(d x).depth<=20):Pl (.list (xs.map d)):=by
 refine⟨?_,?_⟩
 .rw[PyData.canLay0];exact Js fun x hx=>(h x hx).1
 .rw[PyData.depth];have:=Dm fun x hx=>(h x hx).2;omega
def pdP(q:PEr):PyData:=.tuple [.str q.2.1,.int q.2.2]
theorem Wb{q:PEr}(h:E4 q.2.1=true):(pdP q).canLay0=true/\(pdP q).depth<=20:=by
 unfold pdP;refine⟨?_,by simp[PyData.depth,PyData.depthAll]⟩;have e:(PyData.int q.2.2).canLay0=true:=rfl;simp[PyData.canLay0,PyData.canLayAll0,F6 h,e]
theorem Xz{K:PySem.W.Frag}{H:Hp}{q:PEr}(h:Rl H (rP q)):Rp K H (pdP q) (.ref q.1):=by
 unfold pdP;simp only[Rp,Rps];exact⟨q.1,_,rfl,SqT.of h,_,_,rfl,rfl,_,_,rfl,rfl,rfl⟩
theorem Uk{K:PySem.W.Frag}{H:Hp}{l:Addr}{pe:List PEr}(h:RowsAt H l (pe.map rP)):Rp K H (.list (pe.map pdP)) (.ref l):=by
 have e:=h.at_;rw[BH]at e;exact Ra (f:=fun q:PEr=>q.1) e fun q hq=>Xz (h.row (rP q) (BL.mpr ⟨q,hq,rfl⟩))
theorem Jz{K:PySem.W.Frag}{H:Hp}{l z:Addr}{pe:List PEr}{Q:VK}(h:RowsAt H l (pe.map rP))(ok:∀q∈pe,E4 q.2.1=true)(hz:H z=some (.lst []))(q:Q (.bl (!pe.isEmpty)) H):Vj K (.ref l) (.ref z) H Q:=by
 refine⟨.list (pe.map pdP),.list [],Uk h,Pd (SqL.of hz),Ti fun q hq=>Wb (ok q hq),Pa,?_⟩;rw[Lm];have e:(pe.map pdP).isEmpty=pe.isEmpty:=by cases pe<;>rfl
 rw[e];exact q
theorem Gu(xs:List V)(i:Nat)(h:i<=xs.length):w4 xs (some (i:Int)) none=xs.drop i:=by
 unfold w4;rw[HT.sIx_none,HT.sIx_nat,DM h];exact CI (by rw[CB];exact Nat.le_refl _)
theorem Of(xs:List V)(i:Nat):w4 xs none (some (i:Int))=xs.take i:=by
 unfold w4;rw[HT.sIx_none,HT.sIx_nat,DT,Nat.sub_zero];by_cases h:i<=xs.length
 .rw[DM h]
 .rw[Nat.min_eq_right (by omega),CV,CI (by omega)]
section
variable{P:Program}{w:World}{K:PySem.W.Frag}{mg:Str->Option Value}{base:Heap}
theorem P2:FnScope ["_law_left_here", "_law_people_here", "_law_found", "_law_k", "_law_name"] ["_law_left_here", "_law_people_here"] (B6 s_law_speakers):=fsc
def Lq:Sp:=fun vs H Q _=>∃(p a:Addr) (c:Int) (pe:List PEr),vs = [.ref p,.ref a]/\LeftAt H p c/\c<=800000/\RowsAt H a (pe.map rP)/\pe.length<=8/\(nP pe).Nodup/\(∀q∈pe,E4 q.2.1=true/\0<=q.2.2/\q.2.2<=9) /\
 ∀l (ss:List Str) c' H',H l=none->Sm [p] H H'->H' l=some (.lst (ss.map V.str))->(∀x∈ss,x∈nP pe)->ss.Nodup->ss.length<=8->c'<=c+4->LeftAt H' p c'->Q (.ref l) H'
set_option maxHeartbeats 2000000 in
theorem i0(T:Tx K mg):FnOk P w K mg base CX0 3 T.aC.f T.aC.fd ["_law_left_here", "_law_people_here"] Lq:=by
 have G_law_pick:=J3 (P:=P) (w:=w) (base:=base) T;have sc:=P2;refine T.aC.F.ok P2 (fun vs H Q E h=>?_) (fun cdv A outer s H vs Q E hr h=>?_)
 .obtain⟨p,a,c,pe,rfl,_⟩:=h;rfl
 .obtain⟨p,a,c,pe,rfl,hL,c1,hR,len,nd,nmP,q⟩:=h;refine⟨_,(A9 (C2 (i:=2) sc.nd rfl (.inl rfl) (D7 A8))
   (A9 (L6 PassesOwn.never rfl (Px T.ax (A6 (C3 T.ac G_law_pick (Rm hr) (A6 (pv 0) (A6 B0 A8))) A8)) (D8 (i:=3) sc.nd rfl (.inl rfl))
   (B3 (E5 (C4 (Mm K hr.units) (pv 1) (D7 A8) (C8 _)) (A9 (C2 (i:=4) sc.nd rfl (.inl rfl) (C6 (ixT K) (C6 (ixL K) (pv 1) (C3 T.ac G_law_pick (Rm hr) (A6 (pv 0) (A6 (D0 (K2 K) T.ai J0 (A6 (pv 1) A8)) A8))) (fun _ _=>rfl)) B0 (fun _ _=>rfl)))
   (B3 (E5 (C4 (At K) (pv 4) (pv 2) rfl) (B3 (I0 (Mj K PySem.F.plainAttrs_list PySem.F.slot_list_append PySem.F.type_list_append J5 (pv 2) (A6 (pv 4) A8)))) C5))) C5)))
   (B3 (C1 (pv 2))))),?_⟩
  refine B5 fun N1 hN1=>?_;refine⟨B_ _,fun D hD=>?_⟩;have uD:=Same.new (o:=.lst []) hD;have npD:p≠D:=B4 hL.get hD;refine hN1 _ _ (B5 fun N2 hN2=>?_);refine ex1 rfl (Q2 (a:=p) rfl (hL.same uD) (by omega) (by decide) (by decide) fun d H2 hd k2 L2=>ex1 rfl ⟨by omega,by omega,?_⟩);have e2:H2 D=some (.lst (([]:List Str).map V.str)):=Sm1 k2 A7 npD.symm;have k2:Sm [p] H H2:=uD.sm.trans k2;have d3:d<3:=by omega
  rw[CY];refine K6 (n:=d) (fun i σ G=>(∃v3 v4,σ = [some (.ref p),some (.ref a),some (.ref D),v3,v4])/\Sm [p] H G/\(∃c',c'<=c+1+i/\LeftAt G p c')/\∃ss:List Str,G D=some (.lst (ss.map V.str))/\(∀x∈ss,x∈nP pe)/\ss.Nodup/\ss.length<=i) ?_ ?_ ?_
  .exact⟨⟨_,_,rfl⟩,k2,⟨_,by omega,L2⟩,[],e2,fun x hx=>absurd hx AO,DA,B_ _⟩
  .rintro i σ G hi ⟨⟨v3,v4,rfl⟩,kG,⟨c3,hc3,LG⟩,ss,eG,sub,nds,lss⟩ D1 hD1 _;have RG:=hR.sm hL kG;refine ex1 rfl ⟨B_ _,fun z hz=>?_⟩;have uz:=Same.new (o:=.lst []) hz;have Rz:=RG.same uz;have ez:=uz _ _ eG;have Lz:=LG.same uz;have kz:=kG.trans uz.sm;have fz:(upd G z (.lst [])) z=some (.lst []):=A7;generalize upd G z (.lst [])=G1 at Rz ez Lz kz fz uz⊢;refine Jz Rz (fun q hq=>(nmP q hq).1) fz ⟨_,rfl,Ak (fun h=>?_) (fun h=>?_)⟩
   .have l1:1<=pe.length:=by
     cases pe with
     | nil=>cases h
     | cons b r=>rw[BK];omega
    refine B5 fun M1 hM1=>?_;refine ex1 rfl (ex1 rfl (ex1 rfl ⟨a,_,rfl,.inl (SqL.of Rz.at_),?_⟩));rw[AB,AB];refine Q2 (a:=p) rfl Lz (by omega) (by omega) (by omega) fun d1 G2 hd1 k3 L3=>?_;have R3:=Rz.sm Lz k3;have e3:=Sm1 k3 ez (Lz.ne ez);have k3:=kz.trans k3;have hi1:pe[d1]?=some (pe[d1]'(by omega)):=AJ (by omega);have mem1:=AH hi1;generalize pe[d1]'(by omega)=y at hi1 mem1;refine⟨a,_,C0 rfl rfl ⟨SqL.of R3.at_,B9 (by rw[BH,AG,hi1];rfl),y.1,_,C0 rfl rfl ⟨SqT.of (R3.row (rP y) (BL.mpr ⟨y,mem1,rfl⟩)),B9 (j:=0) rfl,hM1 _ _ ?_⟩⟩⟩;refine ex1 rfl (ex1 rfl (X6 (.inl (SqL.of e3)) ⟨_,rfl,Ak (fun h=>?_) (fun h=>?_)⟩))
    .have nin:y.2.1∉ss:=fun m=>by
      have h:(!decide (y.2.1∈ss))=true:=h;rw[AI m]at h;cases h
     refine ex1 rfl ⟨.inl ⟨rfl,_,SqL.of e3⟩,ex1 rfl ⟨D,_,_,rfl,rfl,e3,by rw[AB,sizeLine_eq];omega,hD1 _ _ ⟨⟨_,_,rfl⟩,k3.updN hD,⟨_,by omega,L3.upd npD⟩,ss ++ [y.2.1],?_,fun x hx=>?_,?_,?_⟩⟩⟩
     .rw[A7,BD];rfl
     .rcases AK.mp hx with m | m
      .exact sub x m
      .rw[AC.mp m];exact BL.mpr ⟨y,mem1,rfl⟩
     .exact CC.mpr ⟨nds,BP.mpr ⟨AO,DA⟩,fun u hu v hv e=>nin (by rw[AC]at hv;exact hv▸e▸hu)⟩
     .rw[BA,DQ];omega
    .exact hD1 _ _ ⟨⟨_,_,rfl⟩,k3,⟨_,by omega,L3⟩,ss,e3,sub,nds,by omega⟩
   .exact hD1 _ _ ⟨⟨_,_,rfl⟩,kz,⟨_,by omega,Lz⟩,ss,ez,sub,nds,by omega⟩
  .rintro σ G ⟨⟨v3,v4,rfl⟩,kG,⟨c3,hc3,LG⟩,ss,eG,sub,nds,lss⟩;exact hN2 _ _ (ex1 rfl (q D ss c3 G hD kG eG sub nds (by omega) (by omega) LG))
end
structure Sz(n0 n1 n2 n3:Nat):Prop where
 h0:n0<=8
 h1:n1<=12
 h2:n2<=12
 h3:n3<=12
 one:0<n3->0<n1
section
variable{P:Program}{w:World}{K:PySem.W.Frag}{mg:Str->Option Value}{base:Heap}
theorem Z0:FnScope ["_law_left_here", "_law_most", "_law_way", "_law_some"] ["_law_left_here", "_law_most"] (B6 s_law_sizes):=fsc
def Nq:Sp:=fun vs H Q _=>∃(p:Addr) (c:Int),vs = [.ref p,.int 12]/\LeftAt H p c/\c<=800000 /\
 ∀l (n0 n1 n2 n3:Nat) c' H',H l=none->Sm [p] H H'->H' l=some (.lst [.int (n0:Int),.int (n1:Int),.int (n2:Int),.int (n3:Int)])->Sz n0 n1 n2 n3->c'<=c+5->LeftAt H' p c'->Q (.ref l) H'
set_option maxHeartbeats 2000000 in
theorem Dc(T:Tx K mg):FnOk P w K mg base CX0 3 T.aP.f T.aP.fd ["_law_left_here", "_law_most"] Nq:=by
 have G_law_pick:=J3 (P:=P) (w:=w) (base:=base) T;have sc:=Z0;refine T.aP.F.ok Z0 (fun vs H Q E h=>?_) (fun cdv A outer s H vs Q E hr h=>?_)
 .obtain⟨p,c,rfl,_⟩:=h;rfl
 .obtain⟨p,c,rfl,hL,c1,q⟩:=h;refine⟨_,(A9 (C2 (i:=2) sc.nd rfl (.inl rfl) (C3 T.ac G_law_pick (Rm hr) (A6 (pv 0) (A6 B0 A8))))
   (A9 (E5 (C4 w5 (pv 2) B0 (C8 _)) (B3 (C1 (E3 T0 (D7 (A6 (E3 Mb B0 (C3 T.ac G_law_pick (Rm hr) (A6 (pv 0) (A6 B0 A8)))) A8)) (Q7 (N':=["_law_k", "_law_most", "_law_left_here"]) (cap:=[none,some 1,some 0]) (cl:=[("_law_most",_),("_law_left_here",_)]) (O7 ⟨⟨rfl,rfl,rfl,rfl⟩,⟨⟨rfl,rfl,rfl,rfl⟩,trivial⟩⟩ ⟨rfl,⟨rfl,trivial⟩⟩) rfl (Px T.ax (A6 B0 A8)) (fun _ _ _ _=>by exact⟨(pgC 0),G0,(E3 Mb (pv 1) (C3 T.ac G_law_pick (Rm hr) (A6 (pv 2) (A6 B0 A8))))⟩))))) C5)
   (A9 (E5 (C4 w5 (pv 2) B0 (C8 _)) (B3 (C1 (D7 (A6 (C3 T.ac G_law_pick (Rm hr) (A6 (pv 0) (A6 B0 A8))) (A6 (C3 T.ac G_law_pick (Rm hr) (A6 (pv 0) (A6 B0 A8))) (A6 (C3 T.ac G_law_pick (Rm hr) (A6 (pv 0) (A6 B0 A8))) (A6 B0 A8))))))) C5)
   (@A9 _ _ _ _ _ (@C2 _ _ 3 _ _ _ _ sc.nd rfl (.inl rfl) (@D7 _ _ _ _ (@A6 _ _ _ _ _ (D7 (A6 B0 (A6 B0 (A6 B0 (A6 B0 A8))))) (@A6 _ _ _ _ _ (D7 (A6 B0 (A6 B0 (A6 B0 (A6 B0 A8))))) (@A6 _ _ _ _ _ (D7 (A6 B0 (A6 B0 (A6 B0 (A6 B0 A8))))) (@A6 _ _ _ _ _ (D7 (A6 B0 (A6 B0 (A6 B0 (A6 B0 A8))))) (@A6 _ _ _ _ _ (D7 (A6 B0 (A6 B0 (A6 B0 (A6 B0 A8))))) (@A6 _ _ _ _ _ (D7 (A6 B0 (A6 B0 (A6 B0 (A6 B0 A8))))) A8 (by rfl)) (by rfl)) (by rfl)) (by rfl)) (by rfl)) (by rfl))) (by rfl) (by first | exact .inl rfl | exact .inr rfl | assumption))
   (B3 (C1 (C6 (ixL K) (pv 3) (E3 Mb (pv 2) B0) (fun _ _=>rfl)))))))),?_⟩
  have new:∀{G:Hp} {l:Addr},Sm [p] H G->(∃c,LeftAt G p c)->G l=none->H l=none:=fun{G l} k ⟨c,L⟩ hl=>by
   cases z:H l with
   | none=>rfl
   | some o =>
    have:=k l o z (by simpa using (B4 L.get hl).symm);rw[hl]at this;cases this
  refine B5 fun N1 hN1=>?_;refine ex1 rfl (Q2 (a:=p) rfl hL (by omega) (by decide) (by decide) fun d H1 hd k1 L1=>?_);refine hN1 _ _ (B5 fun N2 hN2=>?_);refine ex1 rfl ⟨rfl,ex1 rfl (Ak (fun c0=>?_) (fun c0=>?_))⟩
  .refine ex1 rfl (Q2 (a:=p) rfl L1 (by omega) (by decide) (by decide) fun d1 H2 hd1 k2 L2=>C0 rfl rfl ⟨by show 1<=sizeLine;decide,fun l1 hl1=>?_⟩);have e8:((8:Int)-(d1:Int)) =((8-d1:Nat):Int):=by omega
   dsimp only;rw[e8];have u1:=Same.new (o:=.lst [.int ((8-d1:Nat):Int)]) hl1;have f1:(upd H2 l1 (.lst [.int ((8-d1:Nat):Int)])) l1=some (.lst [.int ((8-d1:Nat):Int)]):=A7;generalize upd H2 l1 (.lst [.int ((8-d1:Nat):Int)])=H3 at u1 f1⊢;have L3:=L2.same u1;have k3:=k1.trans (k2.trans u1.sm);refine ex1 rfl ⟨by decide,by decide,fun D hD=>?_⟩;have npD:p≠D:=B4 L3.get hD;have nlD:l1≠D:=B4 f1 hD;have npl:l1≠p:=(B4 L2.get hl1).symm;have hD0:=new k3 ⟨_,L3⟩ hD;refine Dt (n:=3) (fun i σ G=>(∃v,σ = [v,some (.int 12),some (.ref p)])/\Sm [p] H G/\LeftAt G p (c+2+i)/\G l1=some (.lst [.int ((8-d1:Nat):Int)])/\∃ds:List Nat,G D=some (.lst (ds.map fun n:Nat=>V.int (n:Int)))/\ds.length=i/\∀x∈ds,10<=x/\x<=12) ?_ (fun i _ _ hi _=>hi) (fun _ _ _=>Nat.le_refl _) ?_ ?_
   .exact⟨⟨_,rfl⟩,k3.updN hD0,(L3.cast (by omega)).upd npD,by rw[B7 nlD];exact f1,[],A7,rfl,fun x h=>absurd h AO⟩
   .rintro i σ G v G' N hi ⟨⟨v0,rfl⟩,kG,LG,fG,ds,eG,hl,hx⟩ ⟨rfl,rfl⟩ hN;refine Ds ?_;refine ex1 rfl (ex1 rfl (Q2 (a:=p) rfl LG (by omega) (by decide) (by decide) fun d3 G2 hd3 k4 L4=>C0 rfl rfl ?_));have e12:((12:Int)-(d3:Int)) =((12-d3:Nat):Int):=by omega
    have eD:=Sm1 k4 eG npD.symm;refine⟨_,eD,by rw[AB,sizeLine_eq];omega,hN _ _ ⟨⟨_,rfl⟩,(kG.trans k4).updN hD0,(L4.cast (by omega)).upd npD,by rw[B7 nlD];exact Sm1 k4 fG npl,ds ++ [12-d3],?_,by rw[BA,hl];rfl,fun x hm=>?_⟩⟩
    .rw[A7,BD];dsimp only;rw[e12];rfl
    .rcases AK.mp hm with y | y
     .exact hx x y
     .rw[AC.mp y];omega
   .rintro σ G ⟨⟨v0,rfl⟩,kG,LG,fG,ds,eG,hl,hx⟩;refine⟨l1,D,_,_,rfl,rfl,fG,eG,by rw[AB,hl];show 1+3<=sizeLine;decide,fun l2 hl2=>?_⟩
    match ds,hl,hx with
    | [a,b,e],_,hx =>
     obtain⟨a1,a2⟩:=hx a (by simp);obtain⟨b1,b2⟩:=hx b (by simp);obtain⟨g1,g2⟩:=hx e (by simp);exact q l2 (8-d1) a b e _ _ (new kG ⟨_,LG⟩ hl2) (kG.trans (Same.new hl2).sm) A7 ⟨by omega,a2,b2,g2,fun _=>by omega⟩ (by omega) (LG.same (Same.new hl2))
  refine hN2 _ _ (B5 fun N3 hN3=>?_);refine ex1 rfl ⟨rfl,ex1 rfl (Ak (fun c1=>?_) (fun c1=>?_))⟩
  .refine ex1 rfl (Q2 (a:=p) rfl L1 (by omega) (by decide) (by decide) fun d1 H2 hd1 k2 L2=>?_);refine ex1 rfl (Q2 (a:=p) rfl L2 (by omega) (by decide) (by decide) fun d2 H3 hd2 k3 L3=>?_);refine ex1 rfl (Q2 (a:=p) rfl L3 (by omega) (by decide) (by decide) fun d3 H4 hd3 k4 L4=>?_);have k:=k1.trans (k2.trans (k3.trans k4));refine⟨by show 4<=sizeLine;decide,fun l hl=>?_⟩;exact q l d1 d2 d3 0 _ _ (new k ⟨_,L4⟩ hl) (k.trans (Same.new hl).sm) A7 ⟨by omega,by omega,by omega,by omega,fun h=>absurd h (by omega)⟩ (by omega) (L4.same (Same.new hl))
  refine hN3 _ _ (B5 fun N4 hN4=>?_);refine⟨by show 4<=sizeLine;decide,fun l1 hl1=>?_⟩;have u1:=Same.new (o:=.lst [V.int 3,.int 4,.int 4,.int 0]) hl1;have e1:(upd H1 l1 (.lst [V.int 3,.int 4,.int 4,.int 0])) l1=some (.lst [V.int 3,.int 4,.int 4,.int 0]):=A7;generalize upd H1 l1 (.lst [V.int 3,.int 4,.int 4,.int 0])=G1 at u1 e1⊢;refine⟨by show 4<=sizeLine;decide,fun l2 hl2=>?_⟩;have u2:=Same.new (o:=.lst [V.int 3,.int 4,.int 5,.int 2]) hl2;have e2:(upd G1 l2 (.lst [V.int 3,.int 4,.int 5,.int 2])) l2=some (.lst [V.int 3,.int 4,.int 5,.int 2]):=A7;generalize upd G1 l2 (.lst [V.int 3,.int 4,.int 5,.int 2])=G2 at u2 e2⊢;refine⟨by show 4<=sizeLine;decide,fun l3 hl3=>?_⟩;have u3:=Same.new (o:=.lst [V.int 2,.int 3,.int 3,.int 2]) hl3;have e3:(upd G2 l3 (.lst [V.int 2,.int 3,.int 3,.int 2])) l3=some (.lst [V.int 2,.int 3,.int 3,.int 2]):=A7;generalize upd G2 l3 (.lst [V.int 2,.int 3,.int 3,.int 2])=G3 at u3 e3⊢;refine⟨by show 4<=sizeLine;decide,fun l4 hl4=>?_⟩;have u4:=Same.new (o:=.lst [V.int 4,.int 5,.int 5,.int 3]) hl4;have e4:(upd G3 l4 (.lst [V.int 4,.int 5,.int 5,.int 3])) l4=some (.lst [V.int 4,.int 5,.int 5,.int 3]):=A7;generalize upd G3 l4 (.lst [V.int 4,.int 5,.int 5,.int 3])=G4 at u4 e4⊢;refine⟨by show 4<=sizeLine;decide,fun l5 hl5=>?_⟩;have u5:=Same.new (o:=.lst [V.int 3,.int 3,.int 5,.int 1]) hl5;have e5:(upd G4 l5 (.lst [V.int 3,.int 3,.int 5,.int 1])) l5=some (.lst [V.int 3,.int 3,.int 5,.int 1]):=A7;generalize upd G4 l5 (.lst [V.int 3,.int 3,.int 5,.int 1])=G5 at u5 e5⊢;refine⟨by show 4<=sizeLine;decide,fun l6 hl6=>?_⟩;have u6:=Same.new (o:=.lst [V.int 2,.int 4,.int 4,.int 2]) hl6;have e6:(upd G5 l6 (.lst [V.int 2,.int 4,.int 4,.int 2])) l6=some (.lst [V.int 2,.int 4,.int 4,.int 2]):=A7;generalize upd G5 l6 (.lst [V.int 2,.int 4,.int 4,.int 2])=G6 at u6 e6⊢;refine⟨by show 6<=sizeLine;decide,fun l7 hl7=>?_⟩;have u7:=Same.new (o:=.lst [V.ref l1,.ref l2,.ref l3,.ref l4,.ref l5,.ref l6]) hl7;have e7:(upd G6 l7 (.lst [V.ref l1,.ref l2,.ref l3,.ref l4,.ref l5,.ref l6])) l7=some (.lst [V.ref l1,.ref l2,.ref l3,.ref l4,.ref l5,.ref l6]):=A7;generalize upd G6 l7 (.lst [V.ref l1,.ref l2,.ref l3,.ref l4,.ref l5,.ref l6])=G7 at u7 e7⊢;have v6:=u7;have v5:=u6.trans v6;have v4:=u5.trans v5;have v3:=u4.trans v4;have v2:=u3.trans v3;have v1:=u2.trans v2;have v0:=u1.trans v1;have k7:=k1.trans v0.sm;have L7:=L1.same v0;have n1:H l1=none:=new k1 ⟨_,L1⟩ hl1;have n2:H l2=none:=new (k1.trans u1.sm) ⟨_,(L1.same u1)⟩ hl2;have n3:H l3=none:=new (k1.trans (u1.trans u2).sm) ⟨_,(L1.same (u1.trans u2))⟩ hl3;have n4:H l4=none:=new (k1.trans ((u1.trans u2).trans u3).sm) ⟨_,(L1.same ((u1.trans u2).trans u3))⟩ hl4;have n5:H l5=none:=new (k1.trans (((u1.trans u2).trans u3).trans u4).sm) ⟨_,(L1.same (((u1.trans u2).trans u3).trans u4))⟩ hl5;have n6:H l6=none:=new (k1.trans ((((u1.trans u2).trans u3).trans u4).trans u5).sm) ⟨_,(L1.same ((((u1.trans u2).trans u3).trans u4).trans u5))⟩ hl6;refine hN4 _ _ ?_;have hd2:2<=d:=by
   have a0:d≠0:=fun z=>by subst z;exact absurd rfl (fun y=>c0 (AI y))
   have a1:d≠1:=fun z=>by subst z;exact absurd rfl (fun y=>c1 (AI y))
   omega
  refine ex1 rfl (ex1 rfl (C0 rfl rfl ?_));obtain⟨i,rfl⟩:∃i,d=i+2:=⟨d-2,by omega⟩;have ei:(((i+2:Nat):Int)-2) =(i:Int):=by omega
  dsimp only;rw[ei]
  match i,hd with
  | 0,_=>exact⟨l7,_,_,_,rfl,rfl,SqL.of e7,B9 (j:=0) rfl,q l1 3 4 4 0 _ _ n1 k7 (v1 _ _ e1) ⟨by decide,by decide,by decide,by decide,by decide⟩ (by omega) L7⟩
  | 1,_=>exact⟨l7,_,_,_,rfl,rfl,SqL.of e7,B9 (j:=1) rfl,q l2 3 4 5 2 _ _ n2 k7 (v2 _ _ e2) ⟨by decide,by decide,by decide,by decide,by decide⟩ (by omega) L7⟩
  | 2,_=>exact⟨l7,_,_,_,rfl,rfl,SqL.of e7,B9 (j:=2) rfl,q l3 2 3 3 2 _ _ n3 k7 (v3 _ _ e3) ⟨by decide,by decide,by decide,by decide,by decide⟩ (by omega) L7⟩
  | 3,_=>exact⟨l7,_,_,_,rfl,rfl,SqL.of e7,B9 (j:=3) rfl,q l4 4 5 5 3 _ _ n4 k7 (v4 _ _ e4) ⟨by decide,by decide,by decide,by decide,by decide⟩ (by omega) L7⟩
  | 4,_=>exact⟨l7,_,_,_,rfl,rfl,SqL.of e7,B9 (j:=4) rfl,q l5 3 3 5 1 _ _ n5 k7 (v5 _ _ e5) ⟨by decide,by decide,by decide,by decide,by decide⟩ (by omega) L7⟩
  | 5,_=>exact⟨l7,_,_,_,rfl,rfl,SqL.of e7,B9 (j:=5) rfl,q l6 2 4 4 2 _ _ n6 k7 (v6 _ _ e6) ⟨by decide,by decide,by decide,by decide,by decide⟩ (by omega) L7⟩
  | n+6,hd=>exact absurd hd (by omega)
end
theorem Ro{d:Nat}(h:d<3):∃k:Str,atI [V.str "claim",.str "claim",.str "fact"] (d:Int)=some (.str k)/\(k = "fact"\/k = "claim"):=by
 match d,h with
 | 0,_=>exact⟨"claim",rfl,.inr rfl⟩
 | 1,_=>exact⟨"claim",rfl,.inr rfl⟩
 | 2,_=>exact⟨"fact",rfl,.inl rfl⟩
section
variable{P:Program}{w:World}{K:PySem.W.Frag}{mg:Str->Option Value}{base:Heap}
theorem K8:FnScope ["_law_left_here", "_law_most", "_law_many", "_law_people_here", "_law_names", "_law_said", "_law_sayings", "_law_strikes", "_law_name", "_law_goals", "_law_backs", "_law_k", "_law_pair"] ["_law_left_here", "_law_most"] (B6 s_law_weave_rows):=fsc
def Oj:Sp:=fun vs H Q _=>∃(p:Addr) (c:Int),vs = [.ref p,.int 12]/\LeftAt H p c/\c<=700000 /\
 ∀r a b g d (pe:List PEr) (sa:List SAr) (st:List STr) (ba:List PA2) c' H',Sm [p] H H'->H' r=some (.lst [.ref a,.ref b,.ref g,.ref d])->WRows H' a b g d pe sa st ba->WOk pe sa st ba->(∀x∈nS sa++nT st,x∈all30)->LeftAt H' p c'->c'<=c+5000->Q (.ref r) H'
set_option maxHeartbeats 8000000 in
theorem X5(T:Tx K mg):FnOk P w K mg base CX0 6 T.au.f T.au.fd ["_law_left_here", "_law_most"] Oj:=by
 have G_law_pick:=J3 (P:=P) (w:=w) (base:=base) T;have G_law_sizes:=Dc (P:=P) (w:=w) (base:=base) T;have G_law_people:=Bk (P:=P) (w:=w) (base:=base) T;have G_law_many_names:=X3 (P:=P) (w:=w) (base:=base) T;have G_law_speakers:=i0 (P:=P) (w:=w) (base:=base) T;have sc:=K8;refine T.au.F.ok K8 (fun vs H Q E h=>?_) (fun cdv A outer s H vs Q E hr h=>?_)
 .obtain⟨p,c,rfl,_⟩:=h;rfl
 .obtain⟨p,c,rfl,hL,c0,q⟩:=h;refine⟨_,(A9 (C2 (i:=2) sc.nd rfl (.inl rfl) (C3 T.aP G_law_sizes (Rm hr) (A6 (pv 0) (A6 (pv 1) A8))))
   (A9 (C2 (i:=3) sc.nd rfl (.inr rfl) (C3 T.aK G_law_people (Rm hr) (A6 (pv 0) (A6 (C6 (ixL K) (pv 2) B0 (fun _ _=>rfl)) A8))))
   (A9 (C2 (i:=4) sc.nd rfl (.inl rfl) (C3 T.as G_law_many_names (Rm hr) (A6 (pv 0) (A6 (E3 U1 (C6 (ixL K) (pv 2) B0 (fun _ _=>rfl)) (C6 (ixL K) (pv 2) B0 (fun _ _=>rfl))) A8))))
   (A9 (C2 (i:=5) sc.nd rfl (.inl rfl) (Z7 (slL K) (pv 4) Bx (Bv (C6 (ixL K) (pv 2) B0 (fun _ _=>rfl)))))
   (A9 (Bn (i:=6) (N':=["_law_name", "_law_left_here", "_law_people_here"]) (cap:=[none,some 0,some 3]) (cl:=[("_law_people_here",_),("_law_left_here",_)]) sc.nd rfl (.inl rfl) (O7 ⟨⟨rfl,rfl,rfl,rfl⟩,⟨⟨rfl,rfl,rfl,rfl⟩,trivial⟩⟩ ⟨rfl,⟨rfl,trivial⟩⟩) rfl (piL K (pv 5)) (fun _ _ _ _=>by exact⟨(pgC 0),G0,(G9 (A6 (pv 0) (A6 (C6 (ixL K) (D7 (A6 D4 (A6 D4 (A6 D4 A8)))) (C3 T.ac G_law_pick (Rm hr) (A6 (pv 1) (A6 B0 A8))) (fun _ _=>rfl)) (A6 (C3 T.aC G_law_speakers (Rm hr) (A6 (pv 1) (A6 (pv 2) A8))) A8))))⟩))
   (A9 (C2 (i:=7) sc.nd rfl (.inl rfl) (D7 A8))
   (A9 (L6 PassesOwn.never rfl (piL K (Z7 (slL K) (pv 4) (Bv (C6 (ixL K) (pv 2) B0 (fun _ _=>rfl))) Bx)) (D8 (i:=8) sc.nd rfl (.inl rfl))
   (B3 (E5 (C4 (Mm K hr.units) (pv 5) (D7 A8) (C8 _)) (A9 (C2 (i:=9) sc.nd rfl (.inl rfl) (C6 (ixL K) (D7 (A6 (pv 5) (A6 (pv 5) (A6 (pv 4) A8)))) (C3 T.ac G_law_pick (Rm hr) (A6 (pv 0) (A6 B0 A8))) (fun _ _=>rfl)))
   (B3 (I0 (Mj K PySem.F.plainAttrs_list PySem.F.slot_list_append PySem.F.type_list_append J5 (pv 7) (A6 (G9 (A6 (pv 8) (A6 (C6 (ixL K) (pv 5) (C3 T.ac G_law_pick (Rm hr) (A6 (pv 0) (A6 (D0 (K2 K) T.ai J0 (A6 (pv 5) A8)) A8))) (fun _ _=>rfl)) (A6 (C6 (ixL K) (pv 9) (C3 T.ac G_law_pick (Rm hr) (A6 (pv 0) (A6 (D0 (K2 K) T.ai J0 (A6 (pv 9) A8)) A8))) (fun _ _=>rfl)) A8)))) A8))))) C5)))
   (A9 (C2 (i:=10) sc.nd rfl (.inl rfl) (D7 A8))
   (A9 (L6 PassesOwn.never rfl (Px T.ax (A6 (C6 (ixL K) (pv 2) B0 (fun _ _=>rfl)) A8)) (D8 (i:=11) sc.nd rfl (.inl rfl))
   (A9 (C2 (i:=12) sc.nd rfl (.inl rfl) (G9 (A6 (C6 (ixL K) (pv 5) (C3 T.ac G_law_pick (Rm hr) (A6 (pv 0) (A6 (D0 (K2 K) T.ai J0 (A6 (pv 5) A8)) A8))) (fun _ _=>rfl)) (A6 (C6 (ixL K) (pv 5) (C3 T.ac G_law_pick (Rm hr) (A6 (pv 0) (A6 (D0 (K2 K) T.ai J0 (A6 (pv 5) A8)) A8))) (fun _ _=>rfl)) A8))))
   (B3 (E5 (PW.pt (Ov (C4 Hc (C6 (ixT K) (pv 12) B0 (fun _ _=>rfl)) (C6 (ixT K) (pv 12) B0 (fun _ _=>rfl)) (C8 _)) (Me (C4 (My K hr.units) (pv 12) (pv 10) rfl)))) (B3 (I0 (Mj K PySem.F.plainAttrs_list PySem.F.slot_list_append PySem.F.type_list_append J5 (pv 10) (A6 (pv 12) A8)))) C5))))
   (B3 (C1 (D7 (A6 (pv 3) (A6 (pv 6) (A6 (pv 7) (A6 (pv 10) A8)))))))))))))))),?_⟩
  refine B5 fun N1 hN1=>?_;refine ex1 rfl (ex1 rfl ⟨p,c,rfl,hL,by omega,fun m n0 n1 n2 n3 c1 H1 hm k1 e1 Z hc1 L1=>?_⟩);have nmp:m≠p:=L1.neL e1 fun x y z=>by cases z
  refine hN1 _ _ (B5 fun N2 hN2=>?_);refine ex1 rfl (ex1 rfl ⟨m,_,C0 rfl rfl ⟨SqL.of e1,B9 (j:=0) rfl,?_⟩⟩);refine⟨p,c1,n0,rfl,L1,by omega,Z.h0,fun a pe c2 H2 ha k2 R2 len2 nd2 ok2 hc2 L2=>?_⟩;have e2:=Sm1 k2 e1 nmp;refine hN2 _ _ (B5 fun N3 hN3=>?_);refine ex1 rfl (ex1 rfl ⟨m,_,C0 rfl rfl ⟨SqL.of e2,B9 (j:=1) rfl,ex1 rfl ⟨m,_,C0 rfl rfl ⟨SqL.of e2,B9 (j:=2) rfl,C0 rfl rfl ?_⟩⟩⟩⟩);have e12:((n1:Int) +(n2:Int)) =((n1+n2:Nat):Int):=by omega
  dsimp only;rw[e12];have z1:=Z.h1;have z2:=Z.h2;have z3:=Z.h3;refine⟨p,c2,n1+n2,rfl,L2,by omega,by omega,fun nm ts H4 hnm k4 e4 len4 N4' A4 L4=>?_⟩;have R4:=R2.sm L2 k4;have m4:=Sm1 k4 e2 nmp;have k4:=(k1.trans k2).trans k4;obtain⟨c4,hc4⟩:∃c4,c4=c2 +((n1+n2:Nat):Int):=⟨_,rfl⟩;rw[<-hc4]at L4;clear k1 k2 e1 e2 R2 L1 L2;refine hN3 _ _ (B5 fun N4 hN4=>?_);refine ex1 rfl (ex1 rfl ⟨m,_,C0 rfl rfl ⟨SqL.of m4,B9 (j:=1) rfl,_,rfl,nm,_,rfl,SqL.of e4,fun sq hsd=>?_⟩⟩);have us:=Same.new (o:=.lst (w4 (ts.map V.str) none (some (n1:Int)))) hsd;have e5:(upd H4 sq (.lst (w4 (ts.map V.str) none (some (n1:Int))))) sq=some (.lst ((ts.take n1).map V.str)):=by rw[A7,Of,EL]
  generalize upd H4 sq (.lst (w4 (ts.map V.str) none (some (n1:Int))))=H5 at us e5⊢;have R5:=R4.same us;have m5:=us _ _ m4;have f5:=us _ _ e4;have L5:=L4.same us;have k5:=k4.trans us.sm;clear R4 m4 e4 L4 k4 us hsd;have lts:ts.length=n1+n2:=by omega
  refine hN4 _ _ (B5 fun N5 hN5=>?_);have l8:pe.length<=8:=by have:=Z.h0;omega
  have c5:c4<=c+1000:=by omega
  clear hc1 hc2 hc4;refine ex1 rfl ⟨sq,rfl,⟨_,SqL.of e5⟩,fun D hD=>?_⟩;have npD:p≠D:=B4 L5.get hD;refine p9 (asL (K:=K) (SqL.of e5)) (fun i σ G=>(∃v,σ = [v,some (.ref p),some (.ref a)])/\Sm [p] H5 G/\(∃c',c'<=c4+10*i/\LeftAt G p c')/\∃sa:List SAr,RowsAt G D (sa.map rS)/\(∀q∈sa,q.2.2.2.1≠D/\G q.2.2.2.1=some (.lst (q.2.2.2.2.map V.str))/\(q.2.2.1 = "fact"\/q.2.2.1 = "claim")/\(∀x∈q.2.2.2.2,x∈nP pe)/\q.2.2.2.2.Nodup/\q.2.2.2.2.length<=8)/\nS sa =(ts.take n1).take i)
   ⟨⟨_,rfl⟩,(Sm.refl _ _).updN hD,⟨_,by omega,L5.upd npD⟩,[],⟨A7,fun q h=>absurd h AO⟩,fun q h=>absurd h AO,rfl⟩ (fun i σ G _ ⟨_,kG,_⟩ o e=>kG sq o e (by simpa using L5.ne e5)) ?_ ?_
  .rintro i σ G v N hx ⟨⟨v0,rfl⟩,kG,⟨c6,hc6,LG⟩,sa,RG,spG,nG⟩ hN;rw[AG]at hx;obtain⟨x,hy,rfl⟩:=BC.mp hx;have hx:=hy;have li:=(AM.mp hx).1;rw[AL]at li;have lsa:sa.length=i:=by
    have:=congrArg List.length nG;unfold nS at this;rw[AB,AL,AL]at this;omega
   refine Ds (ex1 rfl ⟨by show 3<=sizeLine;decide,fun t ht=>?_⟩);have ut:=Same.new (o:=.lst [V.str "claim",.str "claim",.str "fact"]) ht;refine ex1 rfl (Q2 (a:=p) rfl (LG.same ut) (by omega) (by decide) (by decide) fun dd G2 hd k2 L2=>?_);obtain⟨kd,hk1,hk2⟩:=Ro (d:=dd) (by omega);have et:G2 t=some (.lst [V.str "claim",.str "claim",.str "fact"]):=Sm1 k2 A7 (B4 LG.get ht).symm;refine⟨t,_,C0 rfl rfl ⟨SqL.of et,hk1,?_⟩⟩;have k2:=ut.sm.trans k2;have kG2:=kG.trans k2;refine ex1 rfl (ex1 rfl ⟨p,a,_,pe,rfl,L2,by omega,R5.sm L5 kG2,l8,nd2,ok2,fun l ss' c7 G3 hl k3 el sub nds lss hc7 L3=>⟨by show 3<=sizeLine;decide,fun t2 ht2=>?_⟩⟩);have u4:=Same.new (o:=.tup [.str x,.str kd,.ref l]) ht2;have k4:Sm [p] G (upd G3 t2 (.tup [.str x,.str kd,.ref l])):=k2.trans (k3.trans u4.sm);have R4:=RG.sm LG k4;have nlD:l≠D:=(B4 (RG.sm LG k2).at_ hl).symm;have e4:=u4 _ _ el;have L4:=L3.same u4;have et2:(upd G3 t2 (.tup [.str x,.str kd,.ref l])) t2=some (.tup [.str x,.str kd,.ref l]):=A7;generalize upd G3 t2 (.tup [.str x,.str kd,.ref l])=G4 at k4 R4 e4 L4 et2⊢;refine⟨_,R4.at_,by rw[AB,AB,sizeLine_eq];omega,hN _ _ ⟨⟨_,rfl⟩,(kG.trans k4).updN hD,⟨_,by omega,L4.upd npD⟩,sa ++ [(t2,x,kd,l,ss')],?_,fun z hz=>?_,?_⟩⟩
   .rw[BD];exact R4.snoc et2
   .rcases AK.mp hz with y | y
    .obtain⟨y1,y2,y3⟩:=spG z y;exact⟨y1,(B7 y1).trans (Sm1 k4 y2 (LG.ne y2)),y3⟩
    .rw[AC.mp y];exact⟨nlD,(B7 nlD).trans e4,hk2,sub,nds,lss⟩
   .unfold nS at nG⊢;rw[BD,nG,E6 hx];rfl
  .rintro σ G ⟨⟨v0,rfl⟩,kG,⟨c6,hc6,LG⟩,sa,RG,spG,nG⟩;rw[AB,CV]at nG;have c6':c6<=c+1200:=by
    rw[AB,AL]at hc6;omega
   clear hc6;have m6:=Sm1 kG m5 nmp;have R6:=R5.sm L5 kG;have f6:=Sm1 kG f5 (L5.ne f5);have e6:=Sm1 kG e5 (L5.ne e5);have k6:=k5.trans kG;clear m5 R5 f5 e5 kG k5;refine hN5 _ _ (B5 fun N6 hN6=>?_);refine⟨B_ _,fun S hS=>?_⟩;have uS:=Same.new (o:=.lst []) hS;have eS:(upd G S (.lst [])) S=some (.lst []):=A7;have L7:=LG.same uS;have k7:Sm [p] G (upd G S (.lst [])):=uS.sm;have npS:p≠S:=B4 LG.get hS;generalize upd G S (.lst [])=H7 at eS L7 k7⊢;refine hN6 _ _ (B5 fun N7 hN7=>?_);have m7:=Sm1 k7 m6 nmp;have f7:=Sm1 k7 f6 (LG.ne f6);refine ex1 rfl (ex1 rfl ⟨m,_,C0 rfl rfl ⟨SqL.of m7,B9 (j:=1) rfl,_,rfl,nm,_,rfl,SqL.of f7,fun rs hrs=>?_⟩⟩);have ur:=Same.new (o:=.lst (w4 (ts.map V.str) (some (n1:Int)) none)) hrs;have e8:(upd H7 rs (.lst (w4 (ts.map V.str) (some (n1:Int)) none))) rs=some (.lst ((ts.drop n1).map V.str)):=by rw[A7,Gu _ _ (by rw[AB];omega),List.map_drop]
   have nrS:rs≠S:=(B4 eS hrs).symm;have nrp:rs≠p:=(B4 L7.get hrs).symm;have eS8:=ur _ _ eS;have L8:=L7.same ur;have k8:=k7.trans ur.sm;clear m7 f7 k7 L7 eS;generalize upd H7 rs (.lst (w4 (ts.map V.str) (some (n1:Int)) none))=H8 at e8 eS8 L8 k8⊢;refine⟨rs,rfl,⟨_,SqL.of e8⟩,S3 (asL (SqL.of e8)) (fun i σ G'=>(∃v8 v9 v10 v11 v12,σ = [some (.ref p),some (.int 12),some (.ref m),some (.ref a),some (.ref nm),some (.ref sq),some (.ref D),some (.ref S),v8,v9,v10,v11,v12])/\Sm [p] G G'/\G' rs=some (.lst ((ts.drop n1).map V.str))/\(∃c',c'<=c6+3*i/\LeftAt G' p c')/\∃st:List STr,RowsAt G' S (st.map rT)/\nT st =(if ts.take n1 = []then []else(ts.drop n1).take i)/\∀q∈st,q.2.2.1∈ts.take n1/\q.2.2.2∈ts) ?_ ?_ ?_ ?_⟩
   .exact⟨⟨_,_,_,_,_,rfl⟩,k8,e8,⟨_,by omega,L8⟩,[],⟨eS8,fun q h=>absurd h AO⟩,by split<;>rfl,fun q h=>absurd h AO⟩
   .rintro i σ G' _ ⟨_,_,er,_⟩ o e;rw[e8]at e;cases e;exact er
   .rintro i σ G' y hy ⟨⟨v8,v9,v10,v11,v12,rfl⟩,kG',er,⟨c9,hc9,L9⟩,st,RS,nS',tS⟩ D1 hD1 _;rw[AG]at hy;obtain⟨x,hx,rfl⟩:=BC.mp hy;have li:=(AM.mp hx).1;rw[CB]at li;have f9:=Sm1 kG' f6 (LG.ne f6);have e9:=Sm1 kG' e6 (LG.ne e6);have R9:=RS.at_;refine ex1 rfl ⟨B_ _,fun z hz=>?_⟩;have uz:=Same.new (o:=.lst []) hz;refine⟨Sw.sd (ts.take n1),.list [],Ps (SqL.of (uz _ _ e9)),Pd (SqL.of A7),Rh (fun y hy=>N4'.1 y (BM hy)),Pa,?_⟩;rw[Ii];have LZ:=L9.same uz;have kZ:=kG'.trans uz.sm;have eZ:=uz _ _ e9;have fZ:=uz _ _ f9;have RZ:=RS.same uz;have rZ:=uz _ _ er;generalize upd G' z (.lst [])=GZ at LZ kZ eZ fZ RZ rZ uz⊢;refine⟨_,rfl,Ak (fun h=>?_) (fun h=>?_)⟩
    .have ne:ts.take n1≠[]:=fun y=>by rw[y]at h;exact absurd h (by decide)
     have lt1:1<=(ts.take n1).length:=List.length_pos_iff.mpr ne;have lt2:(ts.take n1).length<=ts.length:=by rw[AL];omega
     rw[AR ne]at nS';have lst:st.length=i:=by
      have:=congrArg List.length nS';unfold nT at this;rw[AB,AL,CB]at this;omega
     refine B5 fun M1 hM1=>?_;refine ex1 rfl (ex1 rfl (ex1 rfl ⟨by show 3<=sizeLine;decide,fun t ht=>?_⟩));have ut:=Same.new (o:=.lst [V.ref sq,.ref sq,.ref nm]) ht;refine ex1 rfl (Q2 (a:=p) rfl (LZ.same ut) (by omega) (by decide) (by decide) fun dd G2 hdd k2 L2=>?_);have et:G2 t=some (.lst [V.ref sq,.ref sq,.ref nm]):=Sm1 k2 A7 (B4 LZ.get ht).symm;have k2:Sm [p] GZ G2:=ut.sm.trans k2;have e2:=Sm1 k2 eZ (LZ.ne eZ);have f2:=Sm1 k2 fZ (LZ.ne fZ);obtain⟨gl,gs,ga,ge,gm,g1⟩:∃(gl:Addr) (gs:List Str),atI [V.ref sq,.ref sq,.ref nm] (dd:Int)=some (.ref gl)/\G2 gl=some (.lst (gs.map V.str))/\(∀y∈gs,y∈ts)/\1<=gs.length/\gs.length<=30:=by
      match dd,hdd with
      | 0,_=>exact⟨sq,_,B9 (j:=0) rfl,e2,fun y hy=>BM hy,lt1,by omega⟩
      | 1,_=>exact⟨sq,_,B9 (j:=1) rfl,e2,fun y hy=>BM hy,lt1,by omega⟩
      | 2,_=>exact⟨nm,_,B9 (j:=2) rfl,f2,fun y hy=>hy,by omega,by omega⟩
      | n+3,hdd=>exact absurd hdd (by omega)
     refine⟨t,_,C0 rfl rfl ⟨SqL.of et,ga,hM1 _ _ ?_⟩⟩;have R2:=RZ.sm LZ k2;refine ex1 rfl ⟨.inl ⟨rfl,_,SqL.of R2.at_⟩,?_⟩;refine ex1 rfl (ex1 rfl (ex1 rfl (ex1 rfl ⟨sq,_,rfl,.inl (SqL.of e2),?_⟩)));rw[AB];refine Q2 (a:=p) rfl L2 (by omega) (by omega) (by omega) fun d1 G3 hd1 k3 L3=>?_;have e3:=Sm1 k3 e2 (L2.ne e2);have hi1:(ts.take n1)[d1]?=some ((ts.take n1)[d1]'(by omega)):=AJ (by omega);refine⟨sq,_,C0 rfl rfl ⟨SqL.of e3,B9 (by rw[AG,hi1];rfl),?_⟩⟩;have g3:=Sm1 k3 ge (L2.ne ge);refine ex1 rfl (ex1 rfl (ex1 rfl ⟨gl,_,rfl,.inl (SqL.of g3),?_⟩));rw[AB];refine Q2 (a:=p) rfl L3 (by omega) (by omega) (by omega) fun d2 G4 hd2 k4 L4=>?_;have g4:=Sm1 k4 g3 (L3.ne g3);have hi2:gs[d2]?=some (gs[d2]'(by omega)):=AJ (by omega);refine⟨gl,_,C0 rfl rfl ⟨SqL.of g4,B9 (by rw[AG,hi2];rfl),by show 3<=sizeLine;decide,fun t2 ht2=>?_⟩⟩;have mem1:=AH hi1;have mem2:=gm _ (AH hi2);generalize (ts.take n1)[d1]'(by omega)=o1 at mem1 ht2⊢;generalize gs[d2]'(by omega)=o2 at mem2 ht2⊢;have u5:=Same.new (o:=.tup [.str x,.str o1,.str o2]) ht2;have k5:Sm [p] GZ (upd G4 t2 (.tup [.str x,.str o1,.str o2])):=k2.trans (k3.trans (k4.trans u5.sm));have R5:=RZ.sm LZ k5;have r5:=Sm1 k5 rZ nrp;have L5':=L4.same u5;have et2:(upd G4 t2 (.tup [.str x,.str o1,.str o2])) t2=some (.tup [.str x,.str o1,.str o2]):=A7;generalize upd G4 t2 (.tup [.str x,.str o1,.str o2])=G5 at k5 R5 r5 L5' et2⊢;refine⟨S,_,_,rfl,rfl,R5.at_,by rw[AB,AB,sizeLine_eq];omega,hD1 _ _ ⟨⟨_,_,_,_,_,rfl⟩,(kZ.trans k5).updN hS,by rw[B7 nrS];exact r5,⟨_,by omega,L5'.upd npS⟩,st ++ [(t2,x,o1,o2)],?_,?_,fun z hz=>?_⟩⟩
     .rw[BD];exact R5.snoc et2
     .rw[AR ne];unfold nT at nS'⊢;rw[BD,nS',E6 hx];rfl
     .rcases AK.mp hz with y | y
      .exact tS z y
      .rw[AC.mp y];exact⟨mem1,mem2⟩
    .have e0:ts.take n1 = []:=by
      cases y:ts.take n1 with
      | nil=>rfl
      | cons b r=>rw[y]at h;exact absurd rfl h
     rw[AZ e0]at nS';exact hD1 _ _ ⟨⟨_,_,_,_,_,rfl⟩,kZ,rZ,⟨_,by omega,LZ⟩,st,RZ,by rw[AZ e0];exact nS',tS⟩
   .rintro σ G' ⟨⟨v8,v9,v10,v11,v12,rfl⟩,kG',er,⟨c9,hc9,L9⟩,st,RS,nS',tS⟩;rw[AB,CB]at hc9;have nT':nT st=if ts.take n1 = []then []else ts.drop n1:=by
     rw[nS',AB,CV]
    refine hN7 _ _ (B5 fun N8 hN8=>?_);refine⟨B_ _,fun B hB=>?_⟩;have uB:=Same.new (o:=.lst []) hB;have eB:(upd G' B (.lst [])) B=some (.lst []):=A7;have LB:=L9.same uB;have kB:Sm [p] G' (upd G' B (.lst [])):=uB.sm;have npB:p≠B:=B4 L9.get hB;generalize upd G' B (.lst [])=H9 at eB LB kB⊢;refine hN8 _ _ (B5 fun N9 hN9=>?_);have m9:=Sm1 (kG'.trans kB) m6 nmp;refine ex1 rfl ⟨m,_,C0 rfl rfl ⟨SqL.of m9,B9 (j:=3) rfl,ex1 rfl ⟨by omega,by omega,?_⟩⟩⟩;rw[CY];refine K6 (fun i σ F=>(∃v8 v9 v11 v12,σ = [some (.ref p),some (.int 12),some (.ref m),some (.ref a),some (.ref nm),some (.ref sq),some (.ref D),some (.ref S),v8,v9,some (.ref B),v11,v12])/\Sm [p] G' F/\(∃c',c'<=c9+2*i/\LeftAt F p c')/\∃ba:List PA2,F B=some (.lst (Bp ba))/\(∀q∈ba,Q5 F q)/\ba.length<=i/\(ba.map fun q=>q.2).Nodup/\∀q∈ba,q.2.1∈ts.take n1/\q.2.2∈ts.take n1/\q.2.1≠q.2.2) ?_ ?_ ?_
    .exact⟨⟨_,_,_,_,rfl⟩,kB,⟨_,by omega,LB⟩,[],eB,fun q h=>absurd h AO,Nat.le_refl _,DA,fun q h=>absurd h AO⟩
    .rintro i σ F hi ⟨⟨v8,v9,v11,v12,rfl⟩,kF,⟨cF,hcF,LF⟩,ba,eF,pF,lF,nF,tF⟩ D1 hD1 _;have n1p:=Z.one (by omega);have lt1:(ts.take n1).length=n1:=by rw[AL];omega
     have kGF:=kG'.trans kF;have eq0:=Sm1 kGF e6 (LG.ne e6);refine Mw fun M1 hM1=>?_;refine ex1 rfl (ex1 rfl (ex1 rfl ⟨sq,_,rfl,.inl (SqL.of eq0),?_⟩));rw[AB,lt1];refine Q2 (a:=p) rfl LF (by omega) (by omega) (by omega) fun d1 F1 hd1 k1 L1=>?_;have e1:=Sm1 k1 eq0 (LF.ne eq0);have hi1:(ts.take n1)[d1]?=some ((ts.take n1)[d1]'(by omega)):=AJ (by omega);refine⟨sq,_,C0 rfl rfl ⟨SqL.of e1,B9 (by rw[AG,hi1];rfl),?_⟩⟩;refine ex1 rfl (ex1 rfl (ex1 rfl ⟨sq,_,rfl,.inl (SqL.of e1),?_⟩));rw[AB];refine Q2 (a:=p) rfl L1 (by omega) (by omega) (by omega) fun d2 F2 hd2 k2 L2=>?_;have e2:=Sm1 k2 e1 (L1.ne e1);have hi2:(ts.take n1)[d2]?=some ((ts.take n1)[d2]'(by omega)):=AJ (by omega);refine⟨sq,_,C0 rfl rfl ⟨SqL.of e2,B9 (by rw[AG,hi2];rfl),by show 2<=sizeLine;decide,fun t ht=>?_⟩⟩;have mem1:=AH hi1;have mem2:=AH hi2;generalize (ts.take n1)[d1]'(by omega)=o1 at mem1 ht⊢;generalize (ts.take n1)[d2]'(by omega)=o2 at mem2 ht⊢;have u3:=Same.new (o:=.tup [.str o1,.str o2]) ht;have k3:Sm [p] F (upd F2 t (.tup [.str o1,.str o2])):=k1.trans (k2.trans u3.sm);have L3:=L2.same u3;have et:(upd F2 t (.tup [.str o1,.str o2])) t=some (.tup [.str o1,.str o2]):=A7;have nBp:B≠p:=npB.symm;have eB3:=Sm1 k3 eF nBp;have pB3:∀q∈ba,Q5 (upd F2 t (.tup [.str o1,.str o2])) q:=fun q hq=>Sm1 k3 (pF q hq) (LF.neT (pF q hq));generalize upd F2 t (.tup [.str o1,.str o2])=F3 at k3 L3 et eB3 pB3⊢;have nmt:∀y∈ts.take n1,E4 y=true:=fun y hy=>N4'.1 y (BM hy);refine hM1 _ _ ?_;have no:∀(v12:Option V),D1.nx [some (.ref p),some (.int 12),some (.ref m),some (.ref a),some (.ref nm),some (.ref sq),some (.ref D),some (.ref S),v8,v9,some (.ref B),some (.int (0 +(i:Int))),v12] F3:=fun v12=>hD1 _ _ ⟨⟨_,_,_,_,rfl⟩,kF.trans k3,⟨_,by omega,L3⟩,ba,eB3,pB3,by omega,nF,tF⟩;refine ex1 rfl ⟨t,_,C0 rfl rfl ⟨SqT.of et,B9 (j:=0) rfl,ex1 rfl ⟨t,_,C0 rfl rfl ⟨SqT.of et,B9 (j:=1) rfl,rfl,_,rfl,?_⟩⟩⟩⟩;refine Ak (fun h=>?_) (fun h=>no _);have ne12:o1≠o2:=fun y=>by rw[y]at h;exact absurd h (by simp)
     refine ex1 rfl (ex1 rfl (He (k:=(o1,o2)) et eB3 pB3 ⟨F6 (nmt _ mem1),F6 (nmt _ mem2)⟩ (fun q hq=>⟨F6 (nmt _ (tF q hq).1),F6 (nmt _ (tF q hq).2.1)⟩) ⟨_,rfl,Ak (fun h2=>?_) (fun h2=>no _)⟩));have nin:(o1,o2)∉ba.map fun q=>q.2:=by simpa using h2
     have lrb:(Bp ba).length=ba.length:=by unfold Bp;rw[AB]
     refine ex1 rfl ⟨.inl ⟨rfl,_,SqL.of eB3⟩,ex1 rfl ⟨B,_,_,rfl,rfl,eB3,by rw[lrb,sizeLine_eq];omega,hD1 _ _ ⟨⟨_,_,_,_,rfl⟩,(kF.trans k3).updN hB,⟨_,by omega,L3.upd npB⟩,ba ++ [(t,o1,o2)],by rw[A7];unfold Bp;rw[BD];rfl,fun q hq=>?_,by rw[BA];show _+1<=_;omega,?_,fun q hq=>?_⟩⟩⟩
     .rcases AK.mp hq with y | y
      .exact(B7 (p8 (pB3 q y) eB3 (by intro z;cases z))).trans (pB3 q y)
      .rw[AC.mp y];exact(B7 (p8 et eB3 (by intro z;cases z))).trans et
     .rw[BD];exact Kq nF nin
     .rcases AK.mp hq with y | y
      .exact tF q y
      .rw[AC.mp y];exact⟨mem1,mem2,ne12⟩
    .rintro σ F ⟨⟨v8,v9,v11,v12,rfl⟩,kF,⟨cF,hcF,LF⟩,ba,eF,pF,lF,nF,tF⟩;refine hN9 _ _ ?_;refine ex1 rfl (ex1 rfl (ex1 rfl (ex1 rfl ⟨by show 4<=sizeLine;decide,fun r hr=>?_⟩)));have kGF:=kG'.trans kF;have W:WRows F a D S B pe sa st ba:=⟨R6.sm LG kGF,RG.sm LG kGF,fun q hq=>Sm1 kGF (spG q hq).2.1 (LG.ne (spG q hq).2.1),RS.sm L9 kF,eF,pF⟩;have ur:=Same.new (o:=.lst [.ref a,.ref D,.ref S,.ref B]) hr;have lsa:sa.length=n1:=by
      have:=congrArg List.length nG;unfold nS at this;rw[AB,AL]at this;omega
     have lst:st.length<=n2:=by
      have:=congrArg List.length nT';unfold nT at this;rw[AB]at this;split at this
      .rw[this];exact B_ _
      .rw[CB]at this;omega
     have sub:∀x∈nS sa++nT st,x∈ts:=fun x hx=>by
      rw[nG,nT']at hx;rcases AK.mp hx with y | y
      .exact BM y
      .split at y
       .cases y
       .exact DD y
     refine q r a D S B pe sa st ba cF _ (k6.trans (kGF.trans ur.sm)) A7 (W.same ur) ⟨⟨by omega,by omega,by omega,by omega⟩,nd2,ok2,?_,fun x hx=>N4'.1 x (sub x hx),fun z hz=>(spG z hz).2.2.1,fun z hz=>⟨(spG z hz).2.2.2.1,(spG z hz).2.2.2.2.1,Nat.le_trans (spG z hz).2.2.2.2.2 (by decide)⟩,fun z hz=>?_,nF,fun z hz=>by rw[nG];exact tF z hz⟩ (fun x hx=>A4 x (sub x hx)) (LF.same ur) (by omega)
     .rw[nG,nT'];split
      .rename_i e0;rw[e0];exact DA
      .rw[BO];exact N4'.2.1
     .obtain⟨z1,z2⟩:=tS z hz;rw[nG,nT'];refine⟨z1,?_⟩;have ne:ts.take n1≠[]:=fun y=>by rw[y]at z1;cases z1
      rw[AR ne];rw[<-BO n1 ts]at z2;exact AK.mp z2
end
structure MI(ba:List PA2)(ns:List Str)(n:Str)(met:List Str)(i:Nat):Prop where
 nd:met.Nodup
 hd:∃r,met=n::r
 sub:∀x∈met,x∈ns
 rch:∀x∈met,Rch (t8 ba) [n] x
 cl:∀x∈met.take i,∀y∈t8 ba x,y∈met
 le:i<=met.length
theorem MI.step{ba:List PA2}{ns met ts:List Str}{n x:Str}{i:Nat}(h:MI ba ns n met i)(hx:met[i]?=some x)(pm:ts.Perm (t8 ba x))(nd:(t8 ba x).Nodup)(sub:∀y∈t8 ba x,y∈ns):MI ba ns n (met++ts.filter fun y=>!decide (y∈met)) (i+1):=by
 obtain⟨r,hr⟩:=h.hd;have li:=(AM.mp hx).1;have mx:=AH hx;refine⟨?_,⟨r++_,by rw[hr];rfl⟩,fun y hy=>?_,fun y hy=>?_,fun y hy z hz=>?_,by rw[BA];omega⟩
 .refine CC.mpr ⟨h.nd,(pm.nodup_iff.mpr nd).sublist FM,fun a ha b hb e=>?_⟩;have:=(DN.mp hb).2;rw[<-e,AI ha]at this;cases this
 .rcases AK.mp hy with m | m
  .exact h.sub y m
  .exact sub y (pm.mem_iff.mp (DN.mp m).1)
 .rcases AK.mp hy with m | m
  .exact h.rch y m
  .exact(h.rch x mx).step (pm.mem_iff.mp (DN.mp m).1)
 .rw[EQ (by omega),E6 hx]at hy;have all:∀z∈t8 ba x,z∈met++ts.filter fun y=>!decide (y∈met):=fun z hz=>by
   by_cases e:z∈met
   .exact BN _ e
   .exact BE _ (DN.mpr ⟨pm.mem_iff.mpr hz,by rw[A_ e];rfl⟩)
  rcases AK.mp hy with m | m
  .exact BN _ (h.cl y m z hz)
  .rw[AC.mp m]at hz;exact all z hz
theorem MI.fin{ba:List PA2}{ns met:List Str}{n:Str}{i:Nat}(h:MI ba ns n met i)(hi:met.length<=i)(x:Str):x∈met↔Rch (t8 ba) [n] x:=by
 refine⟨h.rch x,fun r=>?_⟩;obtain⟨t,ht⟩:=h.hd;refine r (·∈met) (fun y hy=>by rw[AC.mp hy,ht];exact BB ..) fun y z hy hz=>h.cl y (by rw[CI hi];exact hy) z hz
theorem MI.len{ba:List PA2}{ns met:List Str}{n:Str}{i:Nat}(h:MI ba ns n met i):met.length<=ns.length:=O6 h.nd h.sub
section
variable{P:Program}{w:World}{K:PySem.W.Frag}{mg:Str->Option Value}{base:Heap}
theorem S7:FnScope ["_law_rows", "_law_name", "_law_met", "_law_at", "_law_some"] ["_law_rows", "_law_name"] (B6 s_law_behind):=fsc
def Hr:Sp:=fun vs H Q _=>∃(r a b c d:Addr) (pe:List PEr) (sa:List SAr) (st:List STr) (ba:List PA2) (n:Str),vs = [.ref r,.str n]/\H r=some (.lst [.ref a,.ref b,.ref c,.ref d])/\WRows H a b c d pe sa st ba/\WOk pe sa st ba/\n∈nS sa/\∀(l:Addr) (ms:List Str) H',Same H H'->H l=none->H' l=some (.lst (ms.map V.str))->BackOf ba n ms->Q (.ref l) H'
set_option maxHeartbeats 4000000 in
theorem V1(T:Tx K mg):FnOk P w K mg base CX0 1 T.aw.f T.aw.fd ["_law_rows", "_law_name"] Hr:=by
 have sc:=S7;refine T.aw.F.ok S7 (fun vs H Q E h=>?_) (fun cdv A outer s H vs Q E hr h=>?_)
 .obtain⟨r,a,b,c,d,pe,sa,st,ba,n,rfl,_⟩:=h;rfl
 .obtain⟨r,a,b,c,d,pe,sa,st,ba,n,rfl,er,W,ok,hn,q⟩:=h;have hu:=Jn hr;refine⟨_,(A9 (C2 (i:=2) sc.nd rfl (.inr rfl) (D7 (A6 (pv 1) A8)))
   (A9 (C2 (i:=3) sc.nd rfl (.inr rfl) B0)
   (A9 (Gr PassesOwn.never (C4 Td (pv 3) (D0 (K2 K) T.ai J0 (A6 (pv 2) A8)) (C8 _)) (A9 (C2 (i:=4) sc.nd rfl (.inl rfl) (D0 (Gb w) T.aF K9 (A6 (Be (Ev K w) T.bu Iz (A6 (Q7 (N':=["_law_row", "_law_met", "_law_at"]) (cap:=[none,some 2,some 3]) (cl:=[("_law_met",_),("_law_at",_)]) (O7 ⟨⟨rfl,rfl,rfl,rfl⟩,⟨⟨rfl,rfl,rfl,rfl⟩,trivial⟩⟩ ⟨rfl,⟨rfl,trivial⟩⟩) rfl (piL K (C6 (ixL K) (pv 0) B0 (fun _ _=>rfl))) (fun _ _ _ _=>by exact⟨(pgC 0),(S0 (C4 w5 (C6 (ixT K) (pv 0) B0 (fun _ _=>rfl)) (C6 (ixL K) (pv 1) (pv 2) (fun _ _=>rfl)) (C8 _))),(C6 (ixT K) (pv 0) B0 (fun _ _=>rfl))⟩)) A8)) A8)))
   (A9 (C2 (i:=2) sc.nd rfl (.inr rfl) (E3 T0 (pv 2) (Q7 (N':=["_law_one", "_law_met"]) (cap:=[none,some 2]) (cl:=[("_law_met",_)]) (O7 ⟨⟨rfl,rfl,rfl,rfl⟩,trivial⟩ ⟨rfl,trivial⟩) rfl (piL K (pv 4)) (fun _ _ _ _=>by exact⟨(pgC 0),(S0 (C4 (At K) (pv 0) (pv 1) rfl)),(pv 0)⟩))))
   (B3 (C2 (i:=3) sc.nd rfl (.inr rfl) (E3 U1 (pv 3) B0))))))
   (B3 (C1 (D0 (a8 K) T.aF K9 (A6 (Z7 (slL K) (pv 2) (Bv B0) Bx) A8))))))),?_⟩
  obtain⟨l1,l2,l3,l4⟩:=ok.len;refine B5 fun N1 hN1=>?_;refine ex1 rfl ⟨by show 1<=sizeLine;decide,fun M hM=>?_⟩;have uM:=Same.new (o:=.lst [.str n]) hM;have eM:(upd H M (.lst [.str n])) M=some (.lst (([n]:List Str).map V.str)):=A7;generalize upd H M (.lst [.str n])=H1 at uM eM⊢;refine hN1 _ _ (B5 fun N2 hN2=>hN2 _ _ (B5 fun N3 hN3=>?_));have lns:(nS sa).length=sa.length:=by unfold nS;rw[AB]
  refine⟨fun m σ G=>∃(i:Nat) (L:Addr) (met:List Str) (v4:Option V),σ = [some (.ref r),some (.str n),some (.ref L),some (.int (i:Int)),v4]/\m=sa.length-i/\Same H G/\G L=some (.lst (met.map V.str))/\MI ba (nS sa) n met i,
   ⟨_,0,M,[n],none,rfl,rfl,uM,eM,⟨BP.mpr ⟨AO,DA⟩,⟨[],rfl⟩,fun x hx=>by rw[AC.mp hx];exact hn,fun x hx=>.of hx,fun x hx=>absurd hx AO,B_ _⟩⟩,?_⟩
  rintro m σ G ⟨i,L,met,v4,rfl,rfl,sG,eL,I⟩;have len:=I.len;have lei:=I.le;refine ex1 rfl (ex1 rfl (C0 (a:=L) rfl (.inl (SqL.of eL)) (C0 rfl rfl ?_)));rw[AB];refine⟨_,rfl,Ak (fun h=>?_) (fun h=>?_)⟩
  .have hi:i<met.length:=by
    have:(i:Int) <(met.length:Int):=BU h;omega
   have hx:met[i]?=some (met[i]'hi):=AJ hi;have hsub:=I.sub _ (AH hx);generalize met[i]'hi=x at hx hsub;refine⟨_,fun _ _ z=>z,B5 fun Z1 hZ1=>?_⟩;have WG:=W.same sG;refine ex1 rfl ⟨r,_,C0 rfl rfl ⟨SqL.of (sG _ _ er),B9 (j:=3) rfl,d,rfl,⟨_,SqL.of WG.hb⟩,fun D hD=>?_⟩⟩;refine Tv (fun q:PA2=>V.str q.2.1) (fun q:PA2=>decide (q.2.2=x)) (asL (K:=K) (SqL.of WG.hb)) (fun σ=>∃v0,σ = [v0,some (.ref L),some (.int (i:Int))]) ⟨_,rfl⟩ (by omega) hD ?_ fun σ H2 s2 e2=>?_
   .rintro y hy σ G1 ⟨v0,rfl⟩ sG1 M N hM hN;have ey:=sG1 _ _ (WG.pb y hy);refine ex1 rfl ⟨y.1,_,C0 rfl rfl ⟨SqT.of ey,B9 (j:=1) rfl,ex1 rfl (ex1 rfl ⟨L,_,C0 rfl rfl ⟨SqL.of (sG1 _ _ eL),B9 (by rw[AG,hx];rfl),rfl,_,rfl,?_⟩⟩)⟩⟩;refine Ak (fun h=>ex1 rfl ⟨y.1,_,C0 rfl rfl ⟨SqT.of ey,B9 (j:=0) rfl,hM _ _ ⟨_,rfl⟩ (fun _ _ z=>z) (AI ?_)⟩⟩) (fun h=>hN _ _ ⟨_,rfl⟩ (fun _ _ z=>z) (A_ fun e=>h ?_))
    .exact V.str.inj (BU h)
    .exact AI (by rw[e])
   have e2:H2 D=some (.lst ((t8 ba x).map V.str)):=by rw[e2];unfold t8;rw[BH];rfl
   have nd:=Nd ok.bn x;have lb:=O6 nd fun y hy=>Fx ok x y hy;refine⟨D,t8 ba x,rfl,.inl (SqL.of e2),nd,by omega,fun p hp=>?_⟩;have up:=Same.new (o:=V3 w p (t8 ba x)) hp;refine⟨p,t8 ba x,rfl,A7,fun t ts ht pm so=>?_⟩;have ut:=Same.new (o:=.lst (ts.map V.str)) ht;have et:(upd (upd H2 p (V3 w p (t8 ba x))) t (.lst (ts.map V.str))) t=some (.lst (ts.map V.str)):=A7;have s3:=(s2.trans up).trans ut;generalize upd (upd H2 p (V3 w p (t8 ba x))) t (.lst (ts.map V.str))=H3 at s3 et⊢;refine hZ1 _ _ (B5 fun Z2 hZ2=>?_);refine ex1 rfl (ex1 rfl ⟨t,rfl,⟨_,SqL.of et⟩,fun D2 hD2=>?_⟩);have lts:ts.length<=30:=by rw[pm.length_eq];omega
   refine Uo (r:=V.str) V.str (asL (K:=K) (SqL.of et)) (fun y=>!decide (y∈met)) (by omega) hD2 (fun y my G1 sG1 M hM=>?_) (fun y my G1 sG1 M hM=>ex1 rfl hM) fun σ' H4 s4 e4=>?_
   .exact ex1 rfl (ex1 rfl (X6 (.inl (SqL.of (sG1 _ _ (s3 _ _ eL)))) ⟨_,rfl,hM G1 fun b o e=>e⟩))
   have lf:=List.length_filter_le (fun y=>!decide (y∈met)) ts;refine⟨L,D2,_,_,rfl,rfl,s4 _ _ (s3 _ _ eL),e4,by rw[AB,AB,sizeLine_eq];omega,fun L2 hL2=>?_⟩;have u5:=Same.new (o:=.lst (met.map V.str ++(ts.filter fun y=>!decide (y∈met)).map V.str)) hL2;have e5:(upd H4 L2 (.lst (met.map V.str ++(ts.filter fun y=>!decide (y∈met)).map V.str))) L2=some (.lst ((met++ts.filter fun y=>!decide (y∈met)).map V.str)):=by rw[A7,BD]
   refine hZ2 _ _ ?_;refine ex1 rfl (C0 rfl rfl ?_);refine⟨sa.length-(i+1),by omega,i+1,L2,_,_,rfl,rfl,((sG.trans s3).trans s4).trans u5,e5,I.step hx pm nd fun y hy=>Fx ok x y hy⟩
  .have hi:met.length<=i:=by
    have:¬(i:Int) <(met.length:Int):=fun z=>h (AI z);omega
   refine hN3 _ _ ?_;obtain⟨rest,hrest⟩:=I.hd;refine ex1 rfl ⟨_,rfl,L,_,rfl,SqL.of eL,fun p hp=>?_⟩;have up:=Same.new (o:=.lst (w4 (met.map V.str) (some (1:Int)) none)) hp;have ep:(upd G p (.lst (w4 (met.map V.str) (some (1:Int)) none))) p=some (.lst (rest.map V.str)):=by
    rw[A7,show(1:Int) =((1:Nat):Int)from rfl,Gu _ _ (by rw[AB,hrest,BK];omega),hrest];rfl
   refine⟨p,rest,rfl,SqL.of ep,fun l ms hl pm so=>?_⟩;have nd:=I.nd;rw[hrest,BP]at nd;refine q l ms _ ((sG.trans up).trans (Same.new hl)) ((sG.trans up).free hl) A7 ⟨pm.nodup_iff.mpr nd.2,so,fun x=>?_⟩;rw[pm.mem_iff,<-I.fin hi x,hrest,AS];refine⟨fun h=>⟨.inr h,fun e=>nd.1 (e▸h)⟩,fun⟨h,e⟩=>h.resolve_left e⟩
theorem o0:FnScope ["_law_rows", "_law_goal"] ["_law_rows", "_law_goal"] (B6 s_law_hits):=fsc
def Nf:Sp:=fun vs H Q _=>∃(r a b c d:Addr) (pe:List PEr) (sa:List SAr) (st:List STr) (ba:List PA2) (g:Str),vs = [.ref r,.str g]/\H r=some (.lst [.ref a,.ref b,.ref c,.ref d])/\WRows H a b c d pe sa st ba/\WOk pe sa st ba/\∀(l:Addr) (ms:List Str) H',Same H H'->H l=none->H' l=some (.lst (ms.map V.str))->HitOf sa ba g ms->Q (.ref l) H'
set_option maxHeartbeats 4000000 in
theorem Es(T:Tx K mg):FnOk P w K mg base CX0 2 T.aW.f T.aW.fd ["_law_rows", "_law_goal"] Nf:=by
 have G_law_behind:=V1 (P:=P) (w:=w) (base:=base) T;have sc:=o0;refine T.aW.F.ok o0 (fun vs H Q E h=>?_) (fun cdv A outer s H vs Q E hr h=>?_)
 .obtain⟨r,a,b,c,d,pe,sa,st,ba,g,rfl,_⟩:=h;rfl
 .obtain⟨r,a,b,c,d,pe,sa,st,ba,g,rfl,er,W,ok,q⟩:=h;refine⟨_,(A9 (E5 (C4 (t9 K) (pv 1) (Q7 (N':=["_law_row"]) (cap:=[none]) (cl:=[]) (O7 trivial trivial) rfl (piL K (C6 (ixL K) (pv 0) B0 (fun _ _=>rfl))) (fun _ _ _ _=>by exact⟨(pgC 0),G0,(C6 (ixT K) (pv 0) B0 (fun _ _=>rfl))⟩)) rfl) (B3 (C1 (D0 (a8 K) T.aF K9 (A6 (E3 T0 (D7 (A6 (pv 1) A8)) (C3 T.aw G_law_behind (Rm hr) (A6 (pv 0) (A6 (pv 1) A8)))) A8)))) C5)
   (B3 (C1 (D7 (A6 (pv 1) A8))))),?_⟩
  obtain⟨l1,l2,l3,l4⟩:=ok.len;refine B5 fun N1 hN1=>?_;refine ex1 rfl (ex1 rfl ⟨r,_,C0 rfl rfl ⟨SqL.of er,B9 (j:=1) rfl,b,rfl,⟨_,SqL.of W.hs.at_⟩,fun D hD=>?_⟩⟩);refine Ex (r:=fun q:RW=>V.ref q.1) (fun q=>V.str q.2.1) (asL (SqL.of W.hs.at_)) (fun _=>true) (by rw[AB];omega) hD (fun y my G sG M hM=>hM G fun b o e=>e) (fun y my G sG M hM=>?_) fun σ' H1 s1 e1=>?_
  .exact ex1 rfl ⟨y.1,_,C0 rfl rfl ⟨SqT.of (sG _ _ (W.hs.row y my)),B9 (j:=0) rfl,hM G fun b o e=>e⟩⟩
  have e1:H1 D=some (.lst ((nS sa).map V.str)):=by
   rw[e1,DU.mpr fun _ _=>rfl,BH];unfold nS;rw[BH];rfl
  refine O2 (.inl (SqL.of e1)) ⟨_,rfl,Ak (fun h=>?_) (fun h=>?_)⟩
  .have hg:g∈nS sa:=BU h;refine ex1 rfl ⟨by show 1<=sizeLine;decide,fun o ho=>?_⟩;have uo:=Same.new (o:=.lst [.str g]) ho;have eo:(upd H1 o (.lst [.str g])) o=some (.lst [.str g]):=A7;generalize upd H1 o (.lst [.str g])=H2 at uo eo⊢;have s2:=s1.trans uo;refine ex1 rfl (ex1 rfl ⟨r,a,b,c,d,pe,sa,st,ba,g,rfl,s2 _ _ er,W.same s2,ok,hg,fun l ms H3 s3 hl e3 B=>?_⟩);have lm:ms.length<=30:=by
    have:=O6 B.nd fun z hz=>Gp ok hg ((B.mem z).mp hz).1;unfold nS at this;rw[AB]at this;omega
   refine⟨o,l,_,_,rfl,rfl,s3 _ _ eo,e3,by rw[AB,sizeLine_eq];show 1+_<=_;omega,fun p hp=>?_⟩;have up:=Same.new (o:=.lst ([.str g]++ms.map V.str)) hp;refine⟨p,g::ms,rfl,SqL.of (by rw[A7];rfl),fun l' ms' hl' pm so=>?_⟩;have s5:=(s2.trans s3).trans up;have nin:g∉ms:=fun z=>((B.mem _).mp z).2 rfl;refine q l' ms' _ (s5.trans (Same.new hl')) (s5.free hl') A7 ⟨pm.nodup_iff.mpr (BP.mpr ⟨nin,B.nd⟩),so,fun z=>?_⟩;rw[pm.mem_iff,AZ hg,AS,B.mem];refine⟨fun h=>h.elim (fun h=>h▸ .of (AC.mpr rfl)) fun h=>h.1,fun h=>?_⟩;by_cases e:z=g
   .exact .inl e
   .exact .inr ⟨h,e⟩
  .have hg:g∉nS sa:=fun z=>h (AI z);refine hN1 _ _ (ex1 rfl ⟨by show 1<=sizeLine;decide,fun o ho=>?_⟩);refine q o [g] _ (s1.trans (Same.new ho)) (s1.free ho) A7 ⟨BP.mpr ⟨AO,DA⟩,FU _ _,fun z=>?_⟩;rw[AR hg,AC]
theorem n8:FnScope ["_law_found", "_law_due"] ["_law_found", "_law_due"] (B6 s_law_same):=fsc
def Eu:Sp:=fun _ _ _ _=>False
theorem Rs{f:Addr}{fd:FuncData}{ps:List Str}:FnOk P w K mg base CX0 0 f fd ps Eu:=⟨fun _ _ _ _ h=>h.elim,fun _ _ _ _ _ _ _ _ _ _ _ _ _ h=>h.elim⟩
def Bu(S:Sp):Sp:=fun vs H Q _=>(∃a:Str,vs = [.str a,.str a]/\PySem.PyData.strOk a=true/\∀H',Same H H'->Q (.bl true) H')\/(∃v:V,vs = [v,v]/\(v = .non\/∃i,v = .int i)/\∀H',Same H H'->Q (.bl true) H') \/
 ∃(l m:Addr) (b:Bool) (xs ys:List V),vs = [.ref l,.ref m]/\H l=some (LT b xs)/\H m=some (LT b ys)/\xs.length=ys.length/\xs.length<=200 /\
  (∀(i:Nat) (x y:V) (H':Hp) (Q':VK) (E:XK),xs[i]?=some x->ys[i]?=some y->Same H H'->(∀H'',Same H' H''->Q' (.bl true) H'')->S [x,y] H' Q' E)/\∀H',Same H H'->Q (.bl true) H'
theorem Y4(T:Tx K mg){n:Nat}{S:Sp}(G_law_same:FnOk P w K mg base CX0 n T.ah.f T.ah.fd ["_law_found", "_law_due"] S):FnOk P w K mg base CX0 (n+1) T.ah.f T.ah.fd ["_law_found", "_law_due"] (Bu S):=by
 have sc:=n8;refine T.ah.F.ok n8 (fun vs H Q E h=>?_) (fun cdv A outer s H vs Q E hr h=>?_)
 .rcases h with⟨a,rfl,_⟩ | ⟨v,rfl,_⟩ | ⟨l,m,b,xs,ys,rfl,_⟩
  .rfl
  .rfl
  .rfl
 .refine⟨_,(A9 (E5 (F7 (D0 (Fm K) T.aa B8 (A6 (pv 1) (A6 (G9 (A6 (K5 T.av O3) (A6 (K5 T.aU U3) A8))) A8)))) (A9 (E5 (PW.pt (x6 (C4 Hc (D0 (E8 K) T.aa B8 (A6 (pv 0) (A6 (K5 T.av O3) A8))) (D0 (E8 K) T.aa B8 (A6 (pv 1) (A6 (K5 T.av O3) A8))) (C8 _)) (Y1 (C4 Hc (D0 (E8 K) T.aa B8 (A6 (pv 0) (A6 (K5 T.aU U3) A8))) (D0 (E8 K) T.aa B8 (A6 (pv 1) (A6 (K5 T.aU U3) A8))) (C8 _))))) (B3 (C1 u9)) C5)
   (B3 (C1 (G8 (D9 w5 (D0 (K2 K) T.ai J0 (A6 (pv 0) A8)) (D0 (K2 K) T.ai J0 (A6 (pv 1) A8)) (C8 _)) (K3 (D0 (Jk K) T.bv Jr (A6 (Q7 (N':=["_law_one", "_law_other"]) (cap:=[none,none]) (cl:=[]) (O7 trivial trivial) rfl (Xi K T.bH (A6 (pv 0) (A6 (pv 1) A8))) (fun _ _ _ _=>by exact⟨(pgT K (n:=2) (E1 (pgC 0) (E1 (pgC 1) X7))),G0,(C3 T.ah G_law_same (hr.mono (Nat.le_refl _)) (A6 (pv 0) (A6 (pv 1) A8)))⟩)) A8))))))) C5)
   (A9 (E5 (PW.pt (x6 (C4 c8 (pv 1) Q4 (C8 _)) (Y1 (F7 (D0 (E8 K) T.aa B8 (A6 (pv 1) (A6 (K5 T.bi Fs) A8))))))) (B3 (C1 (G8 (D9 (Pk K hr.units) (pv 0) (pv 1) (C8 _)) (K3 (D9 w5 (D0 (E8 K) T.aa B8 (A6 (pv 0) (A6 (K5 T.bi Fs) A8))) (D0 (E8 K) T.aa B8 (A6 (pv 1) (A6 (K5 T.bi Fs) A8))) (C8 _)))))) C5)
   (A9 (E5 (F7 (D0 (E8 K) T.aa B8 (A6 (pv 1) (A6 (K5 T.a9 Aw) A8)))) (B3 (C1 (G8 (D0 (E8 K) T.aa B8 (A6 (pv 0) (A6 (K5 T.a9 Aw) A8))) (K3 (D9 (Pk K hr.units) (pv 0) (pv 1) (C8 _)))))) C5)
   (B3 (C1 (G8 (D0 (E8 K) T.aa B8 (A6 (pv 0) (A6 (K5 T.bt Ln) A8))) (G8 (Pg (D0 (E8 K) T.aa B8 (A6 (pv 0) (A6 (K5 T.a9 Aw) A8)))) (K3 (D9 (Pk K hr.units) (pv 0) (pv 1) (C8 _)))))))))),?_⟩
  rcases h with⟨b,rfl,ob,q⟩ | ⟨v,rfl,hv,q⟩ | ⟨l,m,b,xs,ys,rfl,hl,hm,el,len,hS,q⟩
  .refine ex1 rfl ⟨by show 2<=sizeLine;decide,fun t ht=>?_⟩;have s1:=Same.new (o:=.tup [.ty "list",.ty "tuple"]) ht;refine .inl ⟨.str b,t,["list", "tuple"],_,false,rfl,A7,.str b,.inl ⟨b,rfl⟩,rfl,?_⟩;generalize upd H t (.tup [.ty "list",.ty "tuple"])=H1 at s1⊢;refine ex1 rfl (Q1 ?_);refine ex1 rfl ⟨rfl,ex1 rfl (Q1 ?_)⟩;refine ex1 rfl ⟨.str b, "str",_,true,rfl,.str b,rfl,ex1 rfl (Y5 ?_)⟩;refine ex1 rfl (ex1 rfl (Oc ob ⟨_,rfl,Y5 ?_⟩));refine ex1 rfl ⟨.str b, "str",_,true,rfl,.str b,rfl,ex1 rfl ⟨.str b, "str",_,true,rfl,.str b,rfl,?_⟩⟩;exact⟨rfl,q _ s1⟩
  .refine ex1 rfl ⟨by show 2<=sizeLine;decide,fun t ht=>?_⟩;have s1:=Same.new (o:=.tup [.ty "list",.ty "tuple"]) ht;have t1:(upd H t (.tup [.ty "list",.ty "tuple"])) t=some (.tup (["list", "tuple"].map V.ty)):=A7;generalize upd H t (.tup [.ty "list",.ty "tuple"])=H1 at s1 t1⊢;rcases hv with rfl | ⟨i,rfl⟩
   .refine .inr ⟨.non,t,["list", "tuple"],false,_,rfl,t1,.inl ⟨rfl,rfl⟩,rfl,?_⟩;refine ex1 rfl (Q1 ?_);refine ex1 rfl ⟨rfl,ex1 rfl (Y5 ?_)⟩;refine ex1 rfl (ex1 rfl (Gs (d:=.none) (by simp only[Rp]) rfl (by rw[PyData.depth];decide) ⟨_,rfl,Y5 ?_⟩));refine ex1 rfl ⟨.non, "str",_,false,rfl,.non,rfl,ex1 rfl ⟨.non, "str",_,false,rfl,.non,rfl,?_⟩⟩;exact⟨rfl,q _ s1⟩
   .refine .inr ⟨.int i,t,["list", "tuple"],false,_,rfl,t1,.inr ⟨i,rfl,rfl⟩,rfl,?_⟩;refine ex1 rfl (Q1 ?_);refine ex1 rfl ⟨rfl,ex1 rfl (Q1 ?_)⟩;refine ex1 rfl ⟨.int i, "str",_,false,rfl,.int i,rfl,ex1 rfl (Q1 ?_)⟩;refine ex1 rfl ⟨.int i, "bool",_,false,rfl,.int i,rfl,ex1 rfl (Q1 ?_)⟩;refine ex1 rfl ⟨.int i, "int",_,true,rfl,.int i,rfl,ex1 rfl (Y5 ?_)⟩;refine ex1 rfl ⟨.int i, "bool",_,false,rfl,.int i,rfl,ex1 rfl (ex1 rfl (Y5 ?_))⟩;exact ex1 rfl (ex1 rfl (Gs (d:=.int i) (by simp only[Rp]) rfl (by rw[PyData.depth];decide) (q _ s1)))
  .refine ex1 rfl ⟨by show 2<=sizeLine;decide,fun t ht=>?_⟩;have s1:=Same.new (o:=.tup [.ty "list",.ty "tuple"]) ht;have l1:=s1 _ _ hl;have m1:=s1 _ _ hm;refine .inl ⟨.ref m,t,["list", "tuple"],_,true,rfl,A7,Ic m1,.inr ⟨m,_,rfl,Qx m1⟩,Su b,?_⟩;generalize upd H t (.tup [.ty "list",.ty "tuple"])=H1 at s1 l1 m1⊢;refine ex1 rfl (Y5 ?_);refine ex1 rfl ⟨.ref l, "list",_,b,rfl,Ic l1,Sd b,ex1 rfl ⟨.ref m, "list",_,b,rfl,Ic m1,Sd b,rfl,?_⟩⟩;refine⟨false,congrArg V.bl (Sf b),Q1 ?_⟩;refine ex1 rfl ⟨.ref l, "tuple",_,_,rfl,Ic l1,Sg b,ex1 rfl ⟨.ref m, "tuple",_,_,rfl,Ic m1,Sg b,rfl,?_⟩⟩;refine⟨false,congrArg V.bl (Sf !b),Q1 ?_⟩;refine ex1 rfl (C0 (a:=l) rfl (Ph l1) (ex1 rfl (C0 (a:=m) rfl (Ph m1) ⟨rfl,ex1 rfl ?_⟩)));refine Ak (fun _=>?_) (fun h=>absurd (AI (congrArg (fun k:Nat=>V.int k) el)) h);refine ex1 rfl (ex1 rfl ⟨l,m,xs,ys,?_⟩);refine⟨rfl,Us l1 m1 fun D hD=>?_⟩;refine Dt (n:=xs.length) (fun i σ H2=>(∃v0 v1,σ = [v0,v1])/\Same H1 H2/\H2 D=some (.lst ((List.replicate i true).map V.bl))) ⟨⟨_,_,rfl⟩,Same.new hD,A7⟩ ?_ ?_ ?_ ?_
   .rintro i σ H2 hi ⟨_,s2,_⟩;exact⟨_,_,_,_,Hw (s2 _ _ l1),Hw (s2 _ _ m1),Nat.le_of_eq el,AJ hi,AJ (el▸hi)⟩
   .rintro σ H2 ⟨_,s2,_⟩;exact⟨_,_,Hw (s2 _ _ l1),Hw (s2 _ _ m1),Nat.le_of_eq el,rfl⟩
   .rintro i σ H2 x H3 N hi ⟨⟨v0,v1,rfl⟩,s2,e2⟩ ⟨u,x,y,rfl,hu,rfl,hx,hy⟩ hN;have s3:=Same.new (o:=.tup [x,y]) hu;refine⟨u,ex1 rfl ⟨SqT.of A7,rfl,_,ex1 rfl (C0 rfl rfl ?_)⟩⟩;refine ex1 rfl (ex1 rfl (hS i x y _ _ _ (hx _ (Hw (s2 _ _ l1))) (hy _ (Hw (s2 _ _ m1))) ((s1.trans s2).trans s3) fun H4 s4=>?_));refine⟨_,s4 _ _ (s3 _ _ e2),by rw[AB,List.length_replicate,sizeLine_eq];omega,hN _ _ ⟨⟨_,_,rfl⟩,((s2.trans s3).trans s4).upd hD,?_⟩⟩;rw[A7,List.replicate_succ',BD];rfl
   .rintro σ H2 ⟨_,s2,e2⟩;have e:(List.replicate xs.length true).all id=true:=EA.mpr fun x hx=>(List.mem_replicate.mp hx).2;have q':Q (.bl ((List.replicate xs.length true).all id)) H2:=e.symm▸q _ (s1.trans s2);exact⟨D,_,rfl,SqL.of e2,q'⟩
end
theorem Qa{K:PySem.W.Frag}{H G:Hp}{u p:Addr}{xs:List V}{ls:List (Pos×Str)}(h:SqL K H u xs)(t:Z6 H p ls)(k:Sm [p] H G):SqL K G u xs:=by
 obtain⟨ps,e,_⟩:=t;have kk:∀{o:HO},H u=some o->o≠ .tbl ps->G u=some o:=fun hz n=>k _ _ hz fun y=>by rw[AC.mp y,e]at hz;cases hz;exact n rfl
 rcases h with(h | ⟨o,h⟩) | h
 .exact .inl (.inl (kk h (by intro z;cases z)))
 .exact .inl (.inr ⟨o,kk h (by intro z;cases z)⟩)
 .exact .inr h
theorem Ox{sa sa':List SAr}(d:sa'.map dS=sa.map dS){q:SAr}(h:q∈sa'):∃q0∈sa,dS q0=dS q:=by
 have:dS q∈sa'.map dS:=BL.mpr ⟨q,h,rfl⟩;rw[d]at this;exact BL.mp this
theorem WOk.of_dS{pe:List PEr}{sa sa':List SAr}{st:List STr}{ba:List PA2}(h:WOk pe sa st ba)(d:sa'.map dS=sa.map dS):WOk pe sa' st ba:=by
 have e:nS sa'=nS sa:=by
  have:=congrArg (List.map fun q:Str×Str×List Str=>q.1) d;rw[BH,BH]at this;exact this
 have l:sa'.length=sa.length:=by
  have:=congrArg List.length d
  rwa [AB,AB]at this
 refine⟨by rw[l];exact h.len,h.pn,h.pm,by rw[e];exact h.sn,by rw[e];exact h.nm,fun q hq=>?_,fun q hq=>?_,by rw[e];exact h.tg,h.bn,by rw[e];exact h.bk⟩
 .obtain⟨q0,h0,e0⟩:=Ox d hq;have:=h.kd q0 h0;have e1:q0.2.2.1=q.2.2.1:=congrArg (fun z:Str×Str×List Str=>z.2.1) e0
  rwa [e1]at this
 .obtain⟨q0,h0,e0⟩:=Ox d hq;have:=h.sk q0 h0;have e1:q0.2.2.2.2=q.2.2.2.2:=congrArg (fun z:Str×Str×List Str=>z.2.2) e0
  rwa [e1]at this
theorem S4{α:Type}{f:α->Str}:∀{xs:List α},(xs.map f).Nodup->∀{a b:α},a∈xs->b∈xs->f a=f b->a=b
 | x::r,h,a,b,ha,hb,e=>by
  rw[BS,BP]at h;rcases AS.mp ha with h1 | h1
  .rcases AS.mp hb with h2 | h2
   .rw[h1,h2]
   .exact absurd (BL.mpr ⟨b,h2,by rw[<-e,h1]⟩) h.1
  .rcases AS.mp hb with h2 | h2
   .exact absurd (BL.mpr ⟨a,h1,by rw[e,h2]⟩) h.1
   .exact S4 h.2 h1 h2 e
theorem Um{x y:Str}(h:x.cps.toList=y.cps.toList):x=y:=by
 cases x;cases y;exact congrArg Str.mk (Array.toList_inj.mp h)
theorem Ny{x y:Str}(h1:leS x y)(h2:leS y x):x=y:=Um (List.le_antisymm (as:=x.cps.toList) (bs:=y.cps.toList) h1 h2)
theorem Ij{a b:List Str}(h1:a.Pairwise leS)(h2:b.Pairwise leS)(h:a.Perm b):a=b:=List.Perm.eq_of_pairwise (fun _ _ _ _=>Ny) h1 h2 h
theorem Pi{k:Str×Str}(h1:PySem.PyData.strOk k.1=true)(h2:PySem.PyData.strOk k.2=true):Pl (pd k):=by
 refine⟨?_,?_⟩
 .unfold pd;simp[PyData.canLay0,PyData.canLayAll0,h1,h2]
 .unfold pd;simp[PyData.depth,PyData.depthAll]
theorem Cd{α:Type}{f:α->Str}{xs:List α}{n:Str}(h:n∉xs.map f):xs.find? (fun q=>decide (f q=n))=none :=
 List.find?_eq_none.mpr fun q hq z=>h (BL.mpr ⟨q,hq,BU z⟩)
theorem Aj{a b:List Str}{p:Str->Prop}(n1:a.Nodup)(n2:b.Nodup)(h1:a.Pairwise leS)(h2:b.Pairwise leS)(m1:∀x,x∈a↔p x)(m2:∀x,x∈b↔p x):a=b :=
 Ij h1 h2 ((List.perm_ext_iff_of_nodup n1 n2).mpr fun x=>(m1 x).trans (m2 x).symm)
theorem BackOf.one{ba:List PA2}{n:Str}{a b:List Str}(h1:BackOf ba n a)(h2:BackOf ba n b):a=b:=Aj h1.nd h2.nd h1.so h2.so h1.mem h2.mem
theorem HitOf.one{sa:List SAr}{ba:List PA2}{n:Str}{a b:List Str}(h1:HitOf sa ba n a)(h2:HitOf sa ba n b):a=b:=Aj h1.nd h2.nd h1.so h2.so h1.mem h2.mem
theorem Tm{sa sa':List SAr}(d:sa'.map dS=sa.map dS):nS sa'=nS sa:=by
 have:=congrArg (List.map fun q:Str×Str×List Str=>q.1) d;rw[BH,BH]at this;exact this
theorem HitOf.of_dS{sa sa':List SAr}{ba:List PA2}{n:Str}{a:List Str}(h:HitOf sa' ba n a)(d:sa'.map dS=sa.map dS):HitOf sa ba n a:=⟨h.nd,h.so,fun x=>by rw[<-Tm d];exact h.mem x⟩
theorem BackOf.names{pe:List PEr}{sa:List SAr}{st:List STr}{ba:List PA2}{n:Str}{ms:List Str}(h:BackOf ba n ms)(ok:WOk pe sa st ba)(hn:n∈nS sa):(∀x∈ms,E4 x=true)/\ms.length<=30:=by
 have sub:∀x∈ms,x∈nS sa:=fun x hx=>Gp ok hn ((h.mem x).mp hx).1;refine⟨fun x hx=>ok.nm x (BN _ (sub x hx)),Nat.le_trans (O6 h.nd sub) ?_⟩;unfold nS;rw[AB];exact ok.len.2.1
theorem HitOf.names{pe:List PEr}{sa:List SAr}{st:List STr}{ba:List PA2}{g:Str}{ms:List Str}(h:HitOf sa ba g ms)(ok:WOk pe sa st ba)(hg:g∈nS sa\/g∈nT st):(∀x∈ms,E4 x=true)/\ms.length<=30:=by
 by_cases e:g∈nS sa
 .have sub:∀x∈ms,x∈nS sa:=fun x hx=>Gp ok e (by have:=(h.mem x).mp hx;rwa [AZ e]at this);refine⟨fun x hx=>ok.nm x (BN _ (sub x hx)),Nat.le_trans (O6 h.nd sub) ?_⟩;unfold nS;rw[AB];exact ok.len.2.1
 .have sub:∀x∈ms,x∈[g]:=fun x hx=>by have:=(h.mem x).mp hx;rw[AR e]at this;rw[this];exact AC.mpr rfl
  refine⟨fun x hx=>by rw[AC.mp (sub x hx)];exact ok.nm g (AK.mpr hg),Nat.le_trans (O6 h.nd sub) (by rw[DQ];decide)⟩
theorem Kh{ms:List Str}(okm:∀y∈ms,E4 y=true){H:Hp}(i:Nat)(x y:V)(H':Hp)(Q':VK)(E:XK)(h1:(ms.map V.str)[i]?=some x)(h2:(ms.map V.str)[i]?=some y)(s:Same H H')(hQ:∀H'',Same H' H''->Q' (.bl true) H''):Bu Eu [x,y] H' Q' E:=by
 rw[h1]at h2;cases h2;rw[AG]at h1;obtain⟨y,hy,rfl⟩:=BC.mp h1;exact .inl ⟨y,rfl,F6 (okm y (AH hy)),hQ⟩
abbrev noOnes:List Str:=["", "nobody"]
theorem Mc{x:Str}(h:x∈noOnes):x∉all30:=by
 have:∀x∈noOnes,x∉all30:=by decide +kernel
 exact this x h
section
variable{P:Program}{w:World}{K:PySem.W.Frag}{mg:Str->Option Value}{base:Heap}
theorem Oq:FnScope ["_law_script", "_law_k", "_law_left_here", "_law_rows", "_law_weave", "_law_said", "_law_struck", "_law_turn", "_law_name", "_law_found", "_law_one", "_law_goal"] ["_law_script"] (B6 s_law):=fsc
def Fz(K:PySem.W.Frag)(pt:Addr):Sp:=fun vs H Q _=>∃(u:Addr) (xs:List Int),vs = [.ref u]/\SqL K H u (xs.map V.int)/\xs.length<=63/\Z6 H pt R0/\∀H',Q (.bl true) H'
set_option maxHeartbeats 8000000 in
theorem Uq(T:Tx K mg)(hB:base.BuiltinsAt mg T.ad){f:Addr}{fd:FuncData}(F:Fun K "law" "law" s_law f fd):FnOk P w K mg base CX0 9 f fd ["_law_script"] (Fz K T.ad):=by
 have G_law_left:=Ez (P:=P) (w:=w) (base:=base) T;have G_law_weave_rows:=X5 (P:=P) (w:=w) (base:=base) T;have G_backers:=Ao (P:=P) (w:=w) (base:=base) T;have G_hit_by:=Jt (P:=P) (w:=w) (base:=base) T;have G_law_behind:=V1 (P:=P) (w:=w) (base:=base) T;have G_law_hits:=Es (P:=P) (w:=w) (base:=base) T;have G_law_asked:=FnOk.either ((Ax (P:=P) (w:=w) (base:=base) T).mono (show 4<=5 by decide)) (By (P:=P) (w:=w) (base:=base) T);have G_law_same:FnOk P w K mg base CX0 2 T.ah.f T.ah.fd ["_law_found", "_law_due"] (Bu (Bu Eu)):=Y4 T (Y4 T Rs);have G_Weave___init__:=Bt (P:=P) (w:=w) T hB;have sc:=Oq;refine F.ok Oq (fun vs H Q E h=>?_) (fun cdv A outer s H vs Q E hr h=>?_)
 .obtain⟨u,xs,rfl,_⟩:=h;rfl
 .obtain⟨u,xs,rfl,hS,hlen,hT,q⟩:=h;refine⟨_,(A9 (L6 PassesOwn.never rfl (Px T.ax (A6 (E3 U1 (D0 (Lk rfl) T.bI Tz (A6 B0 (A6 (D0 (K2 K) T.ai J0 (A6 (pv 0) A8)) A8))) B0) A8)) (D8 (i:=1) sc.nd rfl (.inl rfl))
   (A9 (C2 (i:=2) sc.nd rfl (.inl rfl) (C3 T.aV G_law_left (Rm hr) (A6 (pv 0) (A6 (pv 1) A8))))
   (A9 (Jl (E3 U1 (C6 (ixL K) (pv 2) B0 (fun _ _=>rfl)) B0) (Iu (pv 2) B0 Bl))
   (A9 (C2 (i:=3) sc.nd rfl (.inl rfl) (C3 T.au G_law_weave_rows (Rm hr) (A6 (pv 2) (A6 B0 A8))))
   (A9 (C2 (i:=4) sc.nd rfl (.inl rfl) (Rk T.bE G_Weave___init__ (Rm hr) rfl T.bD T.bs .nil Rt (A6 (C6 (ixL K) (pv 3) B0 (fun _ _=>rfl)) (A6 (C6 (ixL K) (pv 3) B0 (fun _ _=>rfl)) (A6 (C6 (ixL K) (pv 3) B0 (fun _ _=>rfl)) (A6 (C6 (ixL K) (pv 3) B0 (fun _ _=>rfl)) A8))))))
   (A9 (Bn (i:=5) (N':=["_law_row"]) (cap:=[none]) (cl:=[]) sc.nd rfl (.inl rfl) (O7 trivial trivial) rfl (piL K (C6 (ixL K) (pv 3) B0 (fun _ _=>rfl))) (fun _ _ _ _=>by exact⟨(pgC 0),G0,(C6 (ixT K) (pv 0) B0 (fun _ _=>rfl))⟩))
   (A9 (Bn (i:=6) (N':=["_law_row"]) (cap:=[none]) (cl:=[]) sc.nd rfl (.inl rfl) (O7 trivial trivial) rfl (piL K (C6 (ixL K) (pv 3) B0 (fun _ _=>rfl))) (fun _ _ _ _=>by exact⟨(pgC 0),G0,(C6 (ixT K) (pv 0) B0 (fun _ _=>rfl))⟩))
   (A9 (L6 PassesOwn.never rfl (Px T.ax (A6 B0 A8)) (D8 (i:=7) sc.nd rfl (.inl rfl))
   (A9 (L6 PassesOwn.never rfl (piL K (pv 5)) (D8 (i:=8) sc.nd rfl (.inl rfl))
   (A9 (C2 (i:=9) sc.nd rfl (.inl rfl) (C3 T.ag G_backers (Rm hr) (A6 (pv 4) (A6 (pv 8) A8))))
   (A9 (E5 (K1 (F7 (C3 T.ah G_law_same (Rm hr) (A6 (pv 9) (A6 (C3 T.aw G_law_behind (Rm hr) (A6 (pv 3) (A6 (pv 8) A8))) A8))))) (B3 (C1 u9)) C5)
   (B3 (I0 (Mj K PySem.F.plainAttrs_list PySem.F.slot_list_append PySem.F.type_list_append J5 (pv 9) (A6 (pv 8) A8)))))))
   (B3 (L6 PassesOwn.never rfl (piL K (C6 (ixL K) (pv 3) B0 (fun _ _=>rfl))) (pgT K (n:=3) (E1 (D8 (i:=8) sc.nd rfl (.inl rfl)) (E1 (D8 (i:=10) sc.nd rfl (.inl rfl)) (E1 (D8 (i:=11) sc.nd rfl (.inl rfl)) X7))))
   (A9 (C2 (i:=9) sc.nd rfl (.inl rfl) (C3 T.aq G_hit_by (Rm hr) (A6 (pv 4) (A6 (pv 8) A8))))
   (A9 (E5 (K1 (F7 (C3 T.ah G_law_same (Rm hr) (A6 (pv 9) (A6 (C3 T.aW G_law_hits (Rm hr) (A6 (pv 3) (A6 (pv 11) A8))) A8))))) (B3 (C1 u9)) C5)
   (B3 (I0 (Tp K PySem.F.plainAttrs_list PySem.F.slot_list_clear PySem.F.type_list_clear Ol (pv 9))))))))))
   (A9 (L6 PassesOwn.never rfl (piL K (E3 T0 (pv 6) (D7 (A6 D4 (A6 D4 A8))))) (D8 (i:=8) sc.nd rfl (.inl rfl))
   (B3 (E5 (C4 (Mm K hr.units) (C3 T.an G_law_asked (Rm hr) (A6 (O0 T.ag.m) (A6 (pv 4) (A6 (pv 8) A8)))) (G9 (A6 D4 (A6 D4 A8))) (C8 _)) (B3 (C1 u9)) C5)))
   (B3 (L6 PassesOwn.never rfl (piL K (E3 T0 (pv 5) (D7 (A6 D4 (A6 D4 A8))))) (D8 (i:=8) sc.nd rfl (.inl rfl))
   (B3 (E5 (C4 (Mm K hr.units) (C3 T.an G_law_asked (Rm hr) (A6 (O0 T.aq.m) (A6 (pv 4) (A6 (pv 8) A8)))) (G9 (A6 D4 (A6 D4 A8))) (C8 _)) (B3 (C1 u9)) C5)))))))))))))
   (B3 (C1 u9))),?_⟩
  refine B5 fun N0 hN0=>?_;refine⟨_,rfl,u,_,rfl,.inl hS,_,_,rfl,?_⟩;have hz:∀l:Int,0<=l->∃z:Nat,(if l <(10:Int)then l else 10)+1 =(z:Int)/\z<=11:=fun l h0=>by
   by_cases h1:l <(10:Int)
   .rw[AZ h1];exact⟨l.toNat+1,by omega,by omega⟩
   .rw[AR h1];exact⟨11,by decide,by decide⟩
  obtain⟨z,ez,hz⟩:=hz ((xs.map V.int).length:Int) (by omega);refine C0 rfl rfl (ex1 (a:=(z:Int)) (congrArg (fun t=>[V.int t]) ez) ⟨by omega,by omega,?_⟩);rw[CY];refine K6 (fun i σ G=>(∃v1 v2 v3 v4 v5 v6 v7 v8 v9 v10 v11,σ = [some (.ref u),v1,v2,v3,v4,v5,v6,v7,v8,v9,v10,v11])/\Sm [T.ad] H G/\Z6 G T.ad R0) ?_ ?_ ?_
  .exact⟨⟨_,_,_,_,_,_,_,_,_,_,_,rfl⟩,Sm.refl _ _,hT⟩
  .rintro i σ F0 hi ⟨⟨v1,v2,v3,v4,v5,v6,v7,v8,v9,v10,v11,rfl⟩,kF,TF⟩ D1 hD1 _;rw[Int.zero_add];refine Mw fun M1 hM1=>?_;refine ex1 rfl (ex1 rfl ⟨u,xs,i,rfl,Qa hS hT kF,by omega,fun p H1 hp s1 L1=>?_⟩);refine hM1 _ _ (B5 fun M2 hM2=>?_);obtain⟨la0,lb0,e1,_⟩:=L1;refine ex1 rfl ⟨p,_,C0 rfl rfl ⟨SqL.of e1,rfl,_,_,rfl,rfl,ex1 rfl ⟨p,_,_,1,rfl,rfl,e1,rfl,?_⟩⟩⟩;have s2:Same F0 (upd H1 p (.lst (List.set [V.int la0,V.int lb0,V.int 0] 1 (V.int (lb0+300))))):=s1.upd hp;have L2:LeftAt (upd H1 p (.lst (List.set [V.int la0,V.int lb0,V.int 0] 1 (V.int (lb0+300))))) p 0:=⟨la0,lb0+300,A7,Int.le_refl _⟩;have hp0:F0 p=none:=hp;generalize upd H1 p (.lst (List.set [V.int la0,V.int lb0,V.int 0] 1 (V.int (lb0+300))))=H2 at s2 L2⊢;refine hM2 _ _ (B5 fun M3 hM3=>?_);refine ex1 rfl ⟨p,0,rfl,L2,by omega,fun r a b g d pe sa st ba c' H3 k3 er W3 ok A3 L3 hc3=>?_⟩;have s3:Same F0 H3:=fun b o e=>k3 b o (s2 b o e) (by simpa using B4 e hp0);clear L3 hc3 k3 s2 L2 e1 s1 hp;refine hM3 _ _ (B5 fun M4 hM4=>?_);refine ex1 rfl ⟨r,_,C0 rfl rfl ⟨SqL.of er,B9 (j:=0) rfl,ex1 rfl ⟨r,_,C0 rfl rfl ⟨SqL.of er,B9 (j:=1) rfl,ex1 rfl ⟨r,_,C0 rfl rfl ⟨SqL.of er,B9 (j:=2) rfl,ex1 rfl ⟨r,_,C0 rfl rfl ⟨SqL.of er,B9 (j:=3) rfl,?_⟩⟩⟩⟩⟩⟩⟩⟩;intro x dx nx ndx nex;have s0:Same H3 (upd (upd H3 dx (.own x)) x (.ins T.ab dx [])):=fun b o e=>by
    rw[B7 (B4 e nx),B7 (B4 e ndx)];exact e
   have TG:=E7 TF s3;refine⟨x,dx,a,b,g,d,pe,sa,st,ba,rfl,A7,W3.same s0,ok,E7 TG s0,fun sa2 H6 k6 T6 d6 W6=>⟨rfl,?_⟩⟩;have k46:∀z o,H3 z=some o->z≠T.ad->H6 z=some o:=fun z o e n=>k6 z o (s0 _ _ e) fun y=>by
    rcases AS.mp y with y | y
    .rw[y,nx]at e;cases e
    .exact n (AC.mp y)
   have S6:Sm [T.ad] F0 H6:=fun z o e n=>k46 z o (s3 _ _ e) fun y=>n (AC.mpr y);have V6:=W3.keep TG k46;have er6:H6 r=some (.lst [.ref a,.ref b,.ref g,.ref d]):=k46 _ _ er fun y=>by
    obtain⟨ps,e',_⟩:=TG;rw[y,e']at er;cases er
   have W6:=W6.at_;have ok6:=ok.of_dS d6;clear k46 k6 s0 TG W3 er s3 nx ndx nex;have nn:∀q∈pe,0<=q.2.2:=fun q hq=>(ok.pm q hq).2.1;obtain⟨l1,l2,l3,l4⟩:=ok.len;have l2':=ok6.len.2.1;refine hM4 _ _ (B5 fun M5 hM5=>?_);refine ex1 rfl ⟨r,_,C0 rfl rfl ⟨SqL.of er6,B9 (j:=1) rfl,b,rfl,⟨_,SqL.of V6.hs.at_⟩,fun D hD=>?_⟩⟩;refine Ex (r:=fun q:RW=>V.ref q.1) (fun q=>V.str q.2.1) (asL (SqL.of V6.hs.at_)) (fun _=>true) (by rw[AB];omega) hD (fun y my G sG M hM=>hM G fun b o e=>e) (fun y my G sG M hM=>?_) fun σ' H7 s7 e7=>?_
   .exact ex1 rfl ⟨y.1,_,C0 rfl rfl ⟨SqT.of (sG _ _ (V6.hs.row y my)),B9 (j:=0) rfl,hM G fun b o e=>e⟩⟩
   have e7:H7 D=some (.lst ((nS sa).map V.str)):=by
    rw[e7,DU.mpr fun _ _=>rfl,BH];unfold nS;rw[BH];rfl
   have V7:=V6.same s7;refine hM5 _ _ (B5 fun M6 hM6=>?_);refine ex1 rfl ⟨r,_,C0 rfl rfl ⟨SqL.of (s7 _ _ er6),B9 (j:=2) rfl,g,rfl,⟨_,SqL.of V7.ht.at_⟩,fun D' hD'=>?_⟩⟩;refine Ex (r:=fun q:RW=>V.ref q.1) (fun q=>V.str q.2.1) (asL (SqL.of V7.ht.at_)) (fun _=>true) (by rw[AB];omega) hD' (fun y my G sG M hM=>hM G fun b o e=>e) (fun y my G sG M hM=>?_) fun σ' H8 s8 e8'=>?_
   .exact ex1 rfl ⟨y.1,_,C0 rfl rfl ⟨SqT.of (sG _ _ (V7.ht.row y my)),B9 (j:=0) rfl,hM G fun b o e=>e⟩⟩
   have e8':H8 D'=some (.lst ((nT st).map V.str)):=by
    rw[e8',DU.mpr fun _ _=>rfl,BH];unfold nT;rw[BH];rfl
   have s68:=s7.trans s8;have e8:=s8 _ _ e7;have W8:=W6.same s68;have V8:=V6.same s68;have er8:=s68 _ _ er6;have T8:=E7 T6 s68;have S8:Sm [T.ad] F0 H8:=S6.trans s68.sm;clear s68 s7 s8 e7 hD hD' W6 V6 V7 er6 T6 S6;have eS:=Tm d6;refine hM6 _ _ (B5 fun M7 hM7=>?_);refine ex1 rfl ⟨by decide,by decide,?_⟩;refine K6 (n:=2) (fun i' σ G=>(∃v7 v8 v9 v10 v11,σ = [some (.ref u),some (.int (i:Int)),some (.ref p),some (.ref r),some (.ref x),some (.ref D),some (.ref D'),v7,v8,v9,v10,v11])/\Same H8 G) ?_ ?_ ?_
   .exact⟨⟨_,_,_,_,_,rfl⟩,fun _ _ e=>e⟩
   .rintro i' σ G hi' ⟨⟨v7,v8,v9,v10,v11,rfl⟩,sG⟩ D2 hD2 _;refine Mw fun A1 hA1=>?_;refine ex1 rfl ⟨D,rfl,⟨_,SqL.of (sG _ _ e8)⟩,S3 (asL (SqL.of (sG _ _ e8))) (fun j σ G2=>(∃v8 v9 v10 v11,σ = [some (.ref u),some (.int (i:Int)),some (.ref p),some (.ref r),some (.ref x),some (.ref D),some (.ref D'),some (.int (0 +(i':Int))),v8,v9,v10,v11])/\Same H8 G2) ?_ ?_ ?_ ?_⟩
    .exact⟨⟨_,_,_,_,rfl⟩,sG⟩
    .rintro j σ G2 _ ⟨_,s2⟩ o e;rw[sG _ _ e8]at e;cases e;exact s2 _ _ e8
    .rintro j σ G2 v hv ⟨⟨v8,v9,v10,v11,rfl⟩,s2⟩ D3 hD3 _;rw[AG]at hv;obtain⟨n,hn,rfl⟩:=BC.mp hv;have mn:n∈nS sa:=AH hn;refine Mw fun B1 hB1=>?_;refine ex1 rfl (ex1 rfl ⟨x,pe,sa2,st,ba,n,rfl,W8.same s2,ok6,by rw[eS];exact mn,fun l ms G3 t3 hl el Bo=>?_⟩);refine hB1 _ _ (B5 fun B2 hB2=>?_);refine ex1 rfl (ex1 rfl (ex1 rfl ⟨r,a,b,g,d,pe,sa,st,ba,n,rfl,t3 _ _ (s2 _ _ er8),(V8.same s2).same t3,ok,mn,fun l' ms' G4 t4 hl' el' Bo'=>?_⟩));have em:=Bo'.one Bo;subst em;obtain⟨nmB,lnB⟩:=Bo'.names ok mn;refine .inr (.inr ⟨l,l',true,ms'.map V.str,ms'.map V.str,rfl,t4 _ _ el,el',rfl,by rw[AB];omega,Kh nmB,fun G5 t5=>⟨_,rfl,Q1 (hB2 _ _ ?_)⟩⟩);have el5:=t5 _ _ (t4 _ _ el);refine ex1 rfl ⟨.inl ⟨rfl,_,SqL.of el5⟩,ex1 rfl ⟨l,_,_,rfl,rfl,el5,by rw[AB,sizeLine_eq];omega,hD3 _ _ ⟨⟨_,_,_,_,rfl⟩,(((s2.trans t3).trans t4).trans t5).upd (none_of s2.sm AO hl)⟩⟩⟩
    .rintro σ G2 ⟨⟨v8,v9,v10,v11,rfl⟩,s2⟩;refine hA1 _ _ ?_;have as1:=asL (K:=K) (SqL.of (V8.same s2).ht.at_);rw[BH]at as1;refine ex1 rfl ⟨r,_,C0 rfl rfl ⟨SqL.of (s2 _ _ er8),B9 (j:=2) rfl,g,rfl,⟨_,SqL.of (V8.same s2).ht.at_⟩,S3 as1 (fun j σ G3=>(∃v8 v9 v10 v11,σ = [some (.ref u),some (.int (i:Int)),some (.ref p),some (.ref r),some (.ref x),some (.ref D),some (.ref D'),some (.int (0 +(i':Int))),v8,v9,v10,v11])/\Same H8 G3) ?_ ?_ ?_ ?_⟩⟩
     .exact⟨⟨_,_,_,_,rfl⟩,s2⟩
     .rintro j σ G3 _ ⟨_,s3⟩ o e;rw[(V8.same s2).ht.at_]at e;cases e;exact(V8.same s3).ht.at_
     .rintro j σ G3 v hv ⟨⟨v8,v9,v10,v11,rfl⟩,s3⟩ D3 hD3 _;rw[AG]at hv;obtain⟨y,hy,rfl⟩:=BC.mp hv;have my:y∈st:=AH hy;have ey:=(V8.same s3).ht.row (rT y) (BL.mpr ⟨y,my,rfl⟩);refine⟨y.1,ex1 rfl ⟨SqT.of ey,rfl,_,ex1 rfl ⟨_,ex1 rfl (C0 rfl rfl ?_)⟩⟩⟩;obtain⟨z,ez,mz,nz⟩:=Eb (f:=fun q:STr=>q.2.1) (xs:=st) (n:=y.2.1) (BL.mpr ⟨y,my,rfl⟩);have zy:z=y:=S4 (f:=fun q:STr=>q.2.1) (CC.mp ok.sn).2.1 mz my nz;subst zy;refine B5 fun B1 hB1=>?_;refine ex1 rfl (ex1 rfl ⟨x,pe,sa2,st,ba,z.2.1,z,rfl,W8.same s3,ok6,ez,fun l ms G4 t3 hl el Ho=>?_⟩);refine hB1 _ _ (B5 fun B2 hB2=>?_);refine ex1 rfl (ex1 rfl (ex1 rfl ⟨r,a,b,g,d,pe,sa,st,ba,z.2.2.2,rfl,t3 _ _ (s3 _ _ er8),(V8.same s3).same t3,ok,fun l' ms' G5 t4 hl' el' Ho'=>?_⟩));have em:=Ho'.one (Ho.of_dS d6);subst em;obtain⟨nmB,lnB⟩:=Ho'.names ok (ok.tg z my).2;refine .inr (.inr ⟨l,l',true,ms'.map V.str,ms'.map V.str,rfl,t4 _ _ el,el',rfl,by rw[AB];omega,Kh nmB,fun G6 t5=>⟨_,rfl,Q1 (hB2 _ _ ?_)⟩⟩);have el5:=t5 _ _ (t4 _ _ el);refine ex1 rfl ⟨.inl ⟨rfl,_,SqL.of el5⟩,l,_,rfl,rfl,el5,hD3 _ _ ⟨⟨_,_,_,_,rfl⟩,(((s3.trans t3).trans t4).trans t5).upd (none_of s3.sm AO hl)⟩⟩
     .rintro σ G3 ⟨⟨v8,v9,v10,v11,rfl⟩,s3⟩;exact hD2 _ _ ⟨⟨_,_,_,_,_,rfl⟩,s3⟩
   .rintro σ G ⟨⟨v7,v8,v9,v10,v11,rfl⟩,sG⟩;have W9:=W8.same sG;have V9:=V8.same sG;have er9:=sG _ _ er8;have e9:=sG _ _ e8;have e9':=sG _ _ e8';have T9:=E7 T8 sG;have S9:Sm [T.ad] F0 G:=S8.trans sG.sm;clear W8 V8 er8 e8 e8' T8 S8 sG;refine hM7 _ _ (B5 fun M8 hM8=>?_);have lnS:(nS sa).length<=30:=by unfold nS;rw[AB];exact l2
    have lnT:(nT st).length<=30:=by unfold nT;rw[AB];exact l3
    refine ex1 rfl ⟨by show 2<=sizeLine;decide,fun y hy=>?_⟩;have uy:=Same.new (o:=.lst [.str (Str.ofString ""),.str (Str.ofString "nobody")]) hy;refine⟨D',y,_,_,rfl,rfl,uy _ _ e9',A7,by rw[AB,sizeLine_eq];show _+2<=_;omega,fun c hc=>?_⟩;have uc:=Same.new (o:=.lst ((nT st).map V.str ++ [.str (Str.ofString ""),.str (Str.ofString "nobody")])) hc;have fc:(upd (upd G y (.lst [.str (Str.ofString ""),.str (Str.ofString "nobody")])) c (.lst ((nT st).map V.str ++ [.str (Str.ofString ""),.str (Str.ofString "nobody")]))) c=some (.lst ((nT st++noOnes).map V.str)):=by rw[A7,BD];rfl
    have sB:=uy.trans uc;generalize upd (upd G y (.lst [.str (Str.ofString ""),.str (Str.ofString "nobody")])) c (.lst ((nT st).map V.str ++ [.str (Str.ofString ""),.str (Str.ofString "nobody")]))=HB at fc sB⊢;refine⟨c,rfl,⟨_,SqL.of fc⟩,S3 (asL (SqL.of fc)) (fun j σ G'=>(∃v7 v8 v9 v10 v11,σ = [some (.ref u),some (.int (i:Int)),some (.ref p),some (.ref r),some (.ref x),some (.ref D),some (.ref D'),v7,v8,v9,v10,v11])/\Same G G'/\G' c=some (.lst ((nT st++noOnes).map V.str))) ?_ ?_ ?_ ?_⟩
    .exact⟨⟨_,_,_,_,_,rfl⟩,sB,fc⟩
    .rintro j σ G' _ ⟨_,_,f'⟩ o e;rw[fc]at e;cases e;exact f'
    .rintro j σ G' v hv ⟨⟨v7,v8,v9,v10,v11,rfl⟩,sG,f'⟩ D2 hD2 _;rw[AG]at hv;obtain⟨n,hn,rfl⟩:=BC.mp hv;have nin:n∉nS sa2:=fun z=>by
      rw[eS]at z;rcases AK.mp (AH hn)with h | h
      .exact(CC.mp ok.sn).2.2 n z n h rfl
      .exact Mc h (A3 n (BN _ z))
     refine ex1 rfl (ex1 rfl (.inl ⟨x,pe,sa2,st,ba,n,rfl,W9.same sG,l2',Cd (f:=fun q:SAr=>q.2.1) nin,fun t G1 t1 et=>⟨by show 2<=sizeLine;decide,fun t2 ht2=>?_⟩⟩));have u2:=Same.new (o:=.tup [.str (Str.ofString "refused"),.str (Str.ofString "none such")]) ht2;exact Lp (d:=pd ("refused", "none such")) (R1 (u2 _ _ et)) (R1 A7) (Pi (by decide +kernel) (by decide +kernel)) ⟨_,rfl,Q1 (hD2 _ _ ⟨⟨_,_,_,_,_,rfl⟩,(sG.trans t1).trans u2,u2 _ _ (t1 _ _ f')⟩)⟩
    .rintro σ GA ⟨⟨v7,v8,v9,v10,v11,rfl⟩,sA,_⟩;refine hM8 _ _ ?_;have WA:=W9.same sA;have eA:=sA _ _ e9;have TA:=E7 T9 sA;have SA:Sm [T.ad] F0 GA:=S9.trans sA.sm;clear fc sB uy uc hy hc;refine ex1 rfl ⟨by show 2<=sizeLine;decide,fun y hy=>?_⟩;have uy:=Same.new (o:=.lst [.str (Str.ofString ""),.str (Str.ofString "nobody")]) hy;refine⟨D,y,_,_,rfl,rfl,uy _ _ eA,A7,by rw[AB,sizeLine_eq];show _+2<=_;omega,fun c hc=>?_⟩;have uc:=Same.new (o:=.lst ((nS sa).map V.str ++ [.str (Str.ofString ""),.str (Str.ofString "nobody")])) hc;have fc:(upd (upd GA y (.lst [.str (Str.ofString ""),.str (Str.ofString "nobody")])) c (.lst ((nS sa).map V.str ++ [.str (Str.ofString ""),.str (Str.ofString "nobody")]))) c=some (.lst ((nS sa++noOnes).map V.str)):=by rw[A7,BD];rfl
     have sB:=uy.trans uc;generalize upd (upd GA y (.lst [.str (Str.ofString ""),.str (Str.ofString "nobody")])) c (.lst ((nS sa).map V.str ++ [.str (Str.ofString ""),.str (Str.ofString "nobody")]))=HB at fc sB⊢;refine⟨c,rfl,⟨_,SqL.of fc⟩,S3 (asL (SqL.of fc)) (fun j σ G'=>(∃v7 v8 v9 v10 v11,σ = [some (.ref u),some (.int (i:Int)),some (.ref p),some (.ref r),some (.ref x),some (.ref D),some (.ref D'),v7,v8,v9,v10,v11])/\Same GA G'/\G' c=some (.lst ((nS sa++noOnes).map V.str))) ?_ ?_ ?_ ?_⟩
     .exact⟨⟨_,_,_,_,_,rfl⟩,sB,fc⟩
     .rintro j σ G' _ ⟨_,_,f'⟩ o e;rw[fc]at e;cases e;exact f'
     .rintro j σ G' v hv ⟨⟨v7,v8,v9,v10,v11,rfl⟩,sG,f'⟩ D2 hD2 _;rw[AG]at hv;obtain⟨n,hn,rfl⟩:=BC.mp hv;have nin:n∉nT st:=fun z=>by
       rcases AK.mp (AH hn)with h | h
       .exact(CC.mp ok.sn).2.2 n h n z rfl
       .exact Mc h (A3 n (BE _ z))
      refine ex1 rfl (ex1 rfl (.inr ⟨x,pe,sa2,st,ba,n,rfl,WA.same sG,l3,Cd (f:=fun q:STr=>q.2.1) nin,fun t G1 t1 et=>⟨by show 2<=sizeLine;decide,fun t2 ht2=>?_⟩⟩));have u2:=Same.new (o:=.tup [.str (Str.ofString "refused"),.str (Str.ofString "none such")]) ht2;exact Lp (d:=pd ("refused", "none such")) (R1 (u2 _ _ et)) (R1 A7) (Pi (by decide +kernel) (by decide +kernel)) ⟨_,rfl,Q1 (hD2 _ _ ⟨⟨_,_,_,_,_,rfl⟩,(sG.trans t1).trans u2,u2 _ _ (t1 _ _ f')⟩)⟩
     .rintro σ GC ⟨⟨v7,v8,v9,v10,v11,rfl⟩,sC,_⟩;exact hD1 _ _ ⟨⟨_,_,_,_,_,_,_,_,_,_,_,rfl⟩,kF.trans (SA.trans sC.sm),E7 TA sC⟩
  .rintro σ G _;exact hN0 _ _ (q G)
end
section
variable{K:PySem.W.Frag}{h:Heap}{mg:Str->Option Value}
def fn_mk{x:Str}{st:Stmt}{ps:List Str}{f:Addr}{oc:Value}{od an:Option Addr}{osl:Array (Option Value)}{kV doc pm cdv ct:Value}(X:K.In h)(G:h.Ns mainGlobals mg)(a:PySem.W.nsIn K mainGlobals x=some (some (.ref f)))
  (l:K.lookup f=some ⟨oc,od,.func (PySem.W.fnOf x x (O9 st) (J4 st) (B6 st) .none kV doc pm an cdv ct),osl⟩) (c:PySem.W.codeIn K cdv x=true) (k:PySem.W.keepIn K (.ref f)=true)
  (hb:∀(kV doc pm:Value) (an:Option Addr) (cdv ct:Value) (us:List Value),us.length=ps.length->bindArgs (PySem.W.fnOf x x (O9 st) (J4 st) (B6 st) .none kV doc pm an cdv ct) ⟨us,[]⟩=pure (ps.zip us)):Fn K mg x st ps :=
 ⟨f,_,fun_mk l c k,(fun_mk l c k).binds hb,PySem.W.mg_of X G a⟩
theorem str_mk{x z:Str}{v:Value}(X:K.In h)(G:h.Ns mainGlobals mg)(a:PySem.W.nsIn K mainGlobals x=some (some v))(e:∃t,v = .str z t):∃t,mg x=some (.str z t):=by
 obtain⟨t,rfl⟩:=e;exact⟨t,PySem.W.mg_of X G a⟩
theorem int_mk{x:Str}{z:Int}{v:Value}(X:K.In h)(G:h.Ns mainGlobals mg)(a:PySem.W.nsIn K mainGlobals x=some (some v))(e:∃t,v = .int z t):∃t,mg x=some (.int z t):=by
 obtain⟨t,rfl⟩:=e;exact⟨t,PySem.W.mg_of X G a⟩
theorem len1{us:List Value}(h:us.length=1):∃a,us = [a]:=List.length_eq_one_iff.mp h
theorem len2{us:List Value}(h:us.length=2):∃a b,us = [a,b]:=by
 cases us with
 | nil=>cases h
 | cons a r=>obtain⟨b,rfl⟩:=len1 (Nat.succ.inj h);exact⟨a,b,rfl⟩
theorem len3{us:List Value}(h:us.length=3):∃a b c,us = [a,b,c]:=by
 cases us with
 | nil=>cases h
 | cons a r=>obtain⟨b,c,rfl⟩:=len2 (Nat.succ.inj h);exact⟨a,b,c,rfl⟩
theorem len4{us:List Value}(h:us.length=4):∃a b c d,us = [a,b,c,d]:=by
 cases us with
 | nil=>cases h
 | cons a r=>obtain⟨b,c,d,rfl⟩:=len3 (Nat.succ.inj h);exact⟨a,b,c,d,rfl⟩
theorem len5{us:List Value}(h:us.length=5):∃a b c d e,us = [a,b,c,d,e]:=by
 cases us with
 | nil=>cases h
 | cons a r=>obtain⟨b,c,d,e,rfl⟩:=len4 (Nat.succ.inj h);exact⟨a,b,c,d,e,rfl⟩
theorem ni_mk{C:Addr}(h:PySem.W.findIn K (.ref C) "__init__" = some (some (.builtin "ValueError.__init__"))):PySem.W.findIn K (.ref C) "__init__" = some (some (.builtin "ValueError.__init__")):=h
def Ur(vs:Array Value)(c p:Addr):Bool:=decide (vs[11]?=some (.ref p)) &&(match vs.getD 18 .none with | .str _ _=>true | _=>false) &&(match vs.getD 7 .none with | .int _ _=>true | _=>false) &&(match vs.getD 9 .none with | .bool _=>true | _=>false) &&(match vs.getD 10 .none with | .int _ _=>true | _=>false)&&decide (c≠p)&&decide (mainGlobals≠p)
theorem tab_mk{c p:Addr}{od:Option Addr}{vs:Array Value}{sl:Array (Option Value)}(l:K.lookup c=some ⟨.type "code",od,.fields vs,sl⟩)(e1:vs.getD 11 .none = .ref p)(e:Ur vs c p=true):TabAt K mg c p:=by
 unfold Ur at e;simp only[CF,decide_eq_true_eq]at e;obtain⟨⟨⟨⟨⟨⟨e11,e18⟩,e7⟩,e9⟩,e10⟩,ne1⟩,ne2⟩:=e;have h18:∃a t,vs.getD 18 .none = .str a t:=by cases q:vs.getD 18 .none<;>rw[q]at e18<;>first | exact⟨_,_,rfl⟩ | cases e18
 have h7:∃a t,vs.getD 7 .none = .int a t:=by cases q:vs.getD 7 .none<;>rw[q]at e7<;>first | exact⟨_,_,rfl⟩ | cases e7
 have h9:∃a,vs.getD 9 .none = .bool a:=by cases q:vs.getD 9 .none<;>rw[q]at e9<;>first | exact⟨_,rfl⟩ | cases e9
 have h10:∃a t,vs.getD 10 .none = .int a t:=by cases q:vs.getD 10 .none<;>rw[q]at e10<;>first | exact⟨_,_,rfl⟩ | cases e10
 obtain⟨f18,t18,h18⟩:=h18;obtain⟨f7,t7,h7⟩:=h7;obtain⟨f9,h9⟩:=h9;obtain⟨f10,t10,h10⟩:=h10;exact⟨fun g k=>⟨_,vs,f18,t18,f7,t7,f9,f10,t10,k _ _ l,rfl,rfl,e11,e1,h18,h7,h9,h10,ne1⟩,ne2⟩
theorem noattr_mk{C:Addr}{f:Str}(h:PySem.W.findIn K (.ref C) f=some none):NoAttr K C f:=h
end
theorem all_mk{l:PySem.W.OpenLaw}{w:World}{K:PySem.W.Frag}{h:Heap}{mg:Str->Option Value}{fa f pt:Addr}{oc:Value}{od an:Option Addr}{osl:Array (Option Value)}{kV doc pm cdv ct:Value}(X:K.In h)(G:h.Ns mainGlobals mg)(hfa:mg "law" = some (.ref fa))
  (T:Tx K mg) (a:PySem.W.nsIn K mainGlobals "law" = some (some (.ref f))) (lk:K.lookup f=some ⟨oc,od,.func (PySem.W.fnOf "law" "law" (O9 s_law) (J4 s_law) (B6 s_law) .none kV doc pm an cdv ct),osl⟩) (c:PySem.W.codeIn K cdv "law" = true) (k:PySem.W.keepIn K (.ref f)=true) (ep:T.ad=pt) (np:K.lookup pt=none) :
  (∀p∈[pt],isCodeTable h p)/\(∀p∈[pt],K.lookup p=none)/\∃fd:FuncData,(∀(s:Shared) (v:Value),BindsTo s fd ⟨[v],[]⟩ [("_law_script",v)])/\∀base:Heap,K.In base->base.Ns mainGlobals mg->(∀p∈[pt],base.BuiltinsAt mg p)->FnOk l.prog w K mg base CX0 9 fa fd ["_law_script"] (Fz K pt):=by
 subst ep;have e:=hfa.symm.trans (PySem.W.mg_of X G a);cases e;refine⟨fun p hp=>?_,fun p hp=>by rw[AC.mp hp];exact np,PySem.W.fnOf "law" "law" (O9 s_law) (J4 s_law) (B6 s_law) .none kV doc pm an cdv ct,fun s v=>.of_eq rfl,fun base _ _ hB=>Uq T (hB _ (AC.mpr rfl)) (fun_mk lk c k)⟩;obtain⟨o,vs,_,_,_,_,_,_,_,e1,e2,e3,e4,_⟩:=T.aX.hd h X;rw[AC.mp hp];exact⟨_,o,vs,e1,e2,e3,e4⟩
theorem walk{l:PySem.W.OpenLaw}{q:Program}{loose:List Str}{XP:(Str->Option Value)->Heap->Prop}{YP:World->Heap->Prop}{d:DefRec}{K:Params->PySem.W.Frag}{pt:Addr}(hn:l.most=some 63)(hdf:d.params.defaults = [])
  (hY:∀(w:World) (h:Heap),YP w h->(K w.params).In h) (hYt:∀(w:World) (h:Heap),YP w h->∀p∈[pt],h.get? p=some (PySem.W.tabObj #[]))
  (F:∀(w:World) (mg:Str->Option Value) (fa:Addr) (h:Heap),(K w.params).In h->h.Ns mainGlobals mg->mg d.name=some (.ref fa) ->
   (∀p∈[pt],isCodeTable h p)/\(∀p∈[pt],(K w.params).lookup p=none)/\∃fd:FuncData,(∀(s:Shared) (u:Value),BindsTo s fd ⟨[u],[]⟩ [("_law_script",u)])/\∀base:Heap,(K w.params).In base->base.Ns mainGlobals mg->(∀p∈[pt],base.BuiltinsAt mg p)->FnOk l.prog w (K w.params) mg base CX0 9 fa fd ["_law_script"] (Fz (K w.params) pt)) :
  PySem.W.WalkO q loose XP YP l.row.toRowW d [] (fun f vs=>PySem.call f vs) :=
 L2.walk_ofT (n:=63) (k:=9) (x := "_law_script") (ts:=[pt]) (sp:=fun w=>Fz (K w.params) pt) hn (by decide) hdf ⟨rfl,by decide,by decide⟩ hY hYt F (fun _ _ a ns hl hT hS=>⟨a,ns,rfl,hS,hl,⟨#[],hT pt (AC.mpr rfl),trivial,fun _ _=>.inl rfl⟩,fun _=>rfl⟩)
end Sw
open PySem PySem.W PyProof.Rows
set_option maxRecDepth 100000 in
set_option maxHeartbeats 0 in
theorem PySem.Challenge.cw_strikeweave_k58_backers_and_hits_holds : PySem.Challenge.rw_strikeweave_k58_backers_and_hits.Holds := by
 w_on;o_law;k_head;(case hw=>w_witness2)
 k_fill
 refine Sw.walk (l:=PySem.Challenge.rw_strikeweave_k58_backers_and_hits) rfl rfl (fun w h Y=>PySem.W.km_in_of Y) (fun w h Y=>PySem.W.km_tabs_of Y) ?F
 case F =>
  intro w mg fa h KX G hmg;refine' Sw.all_mk KX G hmg (Sw.Tx.mk (Sw.fn_mk KX G ?a1 ?l2 ?c3 ?k4 (fun _ _ _ _ _ _ us hl=>by obtain⟨a,rfl⟩:=Sw.len1 hl;rfl))
   (Sw.fn_mk KX G ?a5 ?l6 ?c7 ?k8 (fun _ _ _ _ _ _ us hl=>by obtain⟨a,rfl⟩:=Sw.len1 hl;rfl))
   (Sw.fn_mk KX G ?a9 ?l10 ?c11 ?k12 (fun _ _ _ _ _ _ us hl=>by obtain⟨a,b,rfl⟩:=Sw.len2 hl;rfl))
   (Sw.fn_mk KX G ?a13 ?l14 ?c15 ?k16 (fun _ _ _ _ _ _ us hl=>by obtain⟨a,rfl⟩:=Sw.len1 hl;rfl))
   (Sw.fn_mk KX G ?a17 ?l18 ?c19 ?k20 (fun _ _ _ _ _ _ us hl=>by obtain⟨a,b,rfl⟩:=Sw.len2 hl;rfl))
   (Sw.fn_mk KX G ?a21 ?l22 ?c23 ?k24 (fun _ _ _ _ _ _ us hl=>by obtain⟨a,b,c,rfl⟩:=Sw.len3 hl;rfl))
   (Sw.fn_mk KX G ?a25 ?l26 ?c27 ?k28 (fun _ _ _ _ _ _ us hl=>by obtain⟨a,rfl⟩:=Sw.len1 hl;rfl))
   (Sw.fn_mk KX G ?a29 ?l30 ?c31 ?k32 (fun _ _ _ _ _ _ us hl=>by obtain⟨a,rfl⟩:=Sw.len1 hl;rfl))
   (Sw.fn_mk KX G ?a33 ?l34 ?c35 ?k36 (fun _ _ _ _ _ _ us hl=>by obtain⟨a,b,rfl⟩:=Sw.len2 hl;rfl))
   (Sw.fn_mk KX G ?a37 ?l38 ?c39 ?k40 (fun _ _ _ _ _ _ us hl=>by obtain⟨a,b,c,rfl⟩:=Sw.len3 hl;rfl))
   (Sw.fn_mk KX G ?a41 ?l42 ?c43 ?k44 (fun _ _ _ _ _ _ us hl=>by obtain⟨a,b,c,d,rfl⟩:=Sw.len4 hl;rfl))
   (Sw.fn_mk KX G ?a45 ?l46 ?c47 ?k48 (fun _ _ _ _ _ _ us hl=>by obtain⟨a,b,c,rfl⟩:=Sw.len3 hl;rfl))
   (Sw.fn_mk KX G ?a49 ?l50 ?c51 ?k52 (fun _ _ _ _ _ _ us hl=>by obtain⟨a,b,rfl⟩:=Sw.len2 hl;rfl))
   (Sw.fn_mk KX G ?a53 ?l54 ?c55 ?k56 (fun _ _ _ _ _ _ us hl=>by obtain⟨a,rfl⟩:=Sw.len1 hl;rfl))
   (Sw.fn_mk KX G ?a57 ?l58 ?c59 ?k60 (fun _ _ _ _ _ _ us hl=>by obtain⟨a,b,rfl⟩:=Sw.len2 hl;rfl))
   (Sw.fn_mk KX G ?a61 ?l62 ?c63 ?k64 (fun _ _ _ _ _ _ us hl=>by obtain⟨a,b,rfl⟩:=Sw.len2 hl;rfl))
   (Sw.fn_mk KX G ?a65 ?l66 ?c67 ?k68 (fun _ _ _ _ _ _ us hl=>by obtain⟨a,b,rfl⟩:=Sw.len2 hl;rfl))
   (Sw.fn_mk KX G ?a69 ?l70 ?c71 ?k72 (fun _ _ _ _ _ _ us hl=>by obtain⟨a,b,rfl⟩:=Sw.len2 hl;rfl))
   (Sw.fn_mk KX G ?a73 ?l74 ?c75 ?k76 (fun _ _ _ _ _ _ us hl=>by obtain⟨a,b,rfl⟩:=Sw.len2 hl;rfl))
   (Sw.fn_mk KX G ?a77 ?l78 ?c79 ?k80 (fun _ _ _ _ _ _ us hl=>by obtain⟨a,b,rfl⟩:=Sw.len2 hl;rfl))
   (Sw.fn_mk KX G ?a81 ?l82 ?c83 ?k84 (fun _ _ _ _ _ _ us hl=>by obtain⟨a,b,rfl⟩:=Sw.len2 hl;rfl))
   (Sw.fn_mk KX G ?a85 ?l86 ?c87 ?k88 (fun _ _ _ _ _ _ us hl=>by obtain⟨a,b,rfl⟩:=Sw.len2 hl;rfl))
   (Sw.fn_mk KX G ?a89 ?l90 ?c91 ?k92 (fun _ _ _ _ _ _ us hl=>by obtain⟨a,b,rfl⟩:=Sw.len2 hl;rfl))
   (Sw.fn_mk KX G ?a93 ?l94 ?c95 ?k96 (fun _ _ _ _ _ _ us hl=>by obtain⟨a,b,rfl⟩:=Sw.len2 hl;rfl))
   (Sw.fn_mk KX G ?a97 ?l98 ?c99 ?k100 (fun _ _ _ _ _ _ us hl=>by obtain⟨a,b,rfl⟩:=Sw.len2 hl;rfl))
   (Sw.fn_mk KX G ?a101 ?l102 ?c103 ?k104 (fun _ _ _ _ _ _ us hl=>by obtain⟨a,b,rfl⟩:=Sw.len2 hl;rfl))
   (Sw.fn_mk KX G ?a105 ?l106 ?c107 ?k108 (fun _ _ _ _ _ _ us hl=>by obtain⟨a,b,rfl⟩:=Sw.len2 hl;rfl))
   (Sw.fn_mk KX G ?a109 ?l110 ?c111 ?k112 (fun _ _ _ _ _ _ us hl=>by obtain⟨a,b,rfl⟩:=Sw.len2 hl;rfl))
   (Sw.fn_mk KX G ?a113 ?l114 ?c115 ?k116 (fun _ _ _ _ _ _ us hl=>by obtain⟨a,b,rfl⟩:=Sw.len2 hl;rfl))
   (Sw.fn_mk KX G ?a117 ?l118 ?c119 ?k120 (fun _ _ _ _ _ _ us hl=>by obtain⟨a,b,rfl⟩:=Sw.len2 hl;rfl))
   (Sw.fn_mk KX G ?a121 ?l122 ?c123 ?k124 (fun _ _ _ _ _ _ us hl=>by obtain⟨a,b,rfl⟩:=Sw.len2 hl;rfl))
   (Sw.fn_mk KX G ?a125 ?l126 ?c127 ?k128 (fun _ _ _ _ _ _ us hl=>by obtain⟨a,b,c,rfl⟩:=Sw.len3 hl;rfl))
   _
   ⟨?g130,?g131,?g132,?g133⟩
   (PySem.W.mg_of KX G ?q129)
   (Sw.noattr_mk ?n134)
   (Sw.noattr_mk ?n135)
   (Sw.noattr_mk ?n136)
   (Sw.noattr_mk ?n137)
   _
   _
   (L2.fun_mk ?l140 ?c141 ?k142)
   (L2.Fun.binds (L2.fun_mk ?l140 ?c141 ?k142) (fun _ _ _ _ _ _ us hl=>by obtain⟨a,b,c,d,e,rfl⟩:=Sw.len5 hl;rfl))
   ⟨?g143,?a138,?i139,?k144⟩
   _
   _
   (Sw.tab_mk ?l146 ?r147 ?r148)
   ?r145
   _
   _
   (L2.xc_mk ?l150 ?t151 ?k152 ?g153 ?g154)
   (PySem.W.mg_of KX G ?q149)
   _
   _
   (L2.xc_mk ?l156 ?t157 ?k158 ?g159 ?g160)
   (PySem.W.mg_of KX G ?q155)
   _
   _
   (L2.xc_mk ?l162 ?t163 ?k164 ?g165 ?g166)
   (PySem.W.mg_of KX G ?q161)
   _
   _
   (L2.xc_mk ?l168 ?t169 ?k170 ?g171 ?g172)
   (PySem.W.mg_of KX G ?q167)
   _
   _
   (L2.xc_mk ?l174 ?t175 ?k176 ?g177 ?g178)
   (PySem.W.mg_of KX G ?q173)
   _
   _
   (L2.xc_mk ?l180 ?t181 ?k182 ?g183 ?g184)
   (PySem.W.mg_of KX G ?q179)
   _
   _
   (L2.xc_mk ?l186 ?t187 ?k188 ?g189 ?g190)
   (PySem.W.mg_of KX G ?q185)
   _
   _
   (L2.xc_mk ?l192 ?t193 ?k194 ?g195 ?g196)
   (PySem.W.mg_of KX G ?q191)
   _
   _
   (L2.xc_mk ?l198 ?t199 ?k200 ?g201 ?g202)
   (PySem.W.mg_of KX G ?q197)
   ⟨?g203,?g204,?g205,?g206⟩
   ⟨?g207,?g208,?g209,?g210,L2.kit_same _ _⟩
   ?u211
   ?w212
   ?w213
   ?w214
   (Sw.noattr_mk ?n215)
   (Sw.noattr_mk ?n216)
   _
   _
   (L2.fun_mk ?l219 ?c220 ?k221)
   (L2.Fun.binds (L2.fun_mk ?l219 ?c220 ?k221) (fun _ _ _ _ _ _ us hl=>by obtain⟨a,b,c,rfl⟩:=Sw.len3 hl;rfl))
   ⟨?a217,?i218,?k221⟩
   ⟨?g222,?g223,?g224,?g225⟩
   ⟨?g226,?g227,?g228,?g229,L2.kit_same _ _⟩
   ?u230
   ?w231
   ?w232
   ?w233
   (Sw.ni_mk ?g234)
   (Sw.str_mk KX G ?v235 ?e236)
   (Sw.int_mk KX G ?v237 ?e238)
   _
   (PySem.W.mg_of KX G ?v239)
   (L2.gtup_mk ?l240 ?y241)
   (Sw.int_mk KX G ?v242 ?e243)
   (PySem.W.mg_none_of KX G ?z244)
   (PySem.W.mg_none_of KX G ?z245)
   (PySem.W.mg_none_of KX G ?z246)
   (PySem.W.mg_none_of KX G ?z247)
   (PySem.W.mg_none_of KX G ?z248)
   (PySem.W.mg_none_of KX G ?z249)
   (PySem.W.mg_none_of KX G ?z250)
   (PySem.W.mg_none_of KX G ?z251)
   (PySem.W.mg_none_of KX G ?z252)
   (PySem.W.mg_none_of KX G ?z253)
   (PySem.W.mg_none_of KX G ?z254)
   (PySem.W.mg_none_of KX G ?z255)
   (PySem.W.mg_none_of KX G ?z256)
   (PySem.W.mg_none_of KX G ?z257)
   (PySem.W.mg_none_of KX G ?z258)
   (PySem.W.mg_none_of KX G ?z259)) ?aL ?lL ?cL ?kL ?rP ?tP
  case a1|l2|c3|k4|a5|l6|c7|k8|a9|l10|c11|k12|a13|l14|c15|k16|a17|l18|c19|k20|a21|l22|c23|k24|a25|l26|c27|k28|a29|l30|c31|k32|a33|l34|c35|k36|a37|l38|c39|k40|a41|l42|c43|k44|a45|l46|c47|k48|a49|l50|c51|k52|a53|l54|c55|k56|a57|l58|c59|k60|a61|l62|c63|k64|a65|l66|c67|k68|a69|l70|c71|k72|a73|l74|c75|k76|a77|l78|c79|k80|a81|l82|c83|k84|a85|l86|c87|k88|a89|l90|c91|k92|a93|l94|c95|k96|a97|l98|c99|k100|a101|l102|c103|k104|a105|l106|c107|k108|a109|l110|c111|k112|a113|l114|c115|k116|a117|l118|c119|k120|a121|l122|c123|k124|a125|l126|c127|k128|q129|g130|g131|g132|g133|n134|n135|n136|n137|a138|i139|l140|c141|k142|g143|k144=>k_is
  case r145=>rfl
  case l146=>k_is
  case r147=>rfl
  case r148=>rfl
  case q149|l150=>k_is
  case t151=>kernel_rfl
  case k152|g153|g154|q155|l156=>k_is
  case t157=>kernel_rfl
  case k158|g159|g160|q161|l162=>k_is
  case t163=>kernel_rfl
  case k164|g165|g166|q167|l168=>k_is
  case t169=>kernel_rfl
  case k170|g171|g172|q173|l174=>k_is
  case t175=>kernel_rfl
  case k176|g177|g178|q179|l180=>k_is
  case t181=>kernel_rfl
  case k182|g183|g184|q185|l186=>k_is
  case t187=>kernel_rfl
  case k188|g189|g190|q191|l192=>k_is
  case t193=>kernel_rfl
  case k194|g195|g196|q197|l198=>k_is
  case t199=>kernel_rfl
  case k200|g201|g202|g203|g204|g205|g206|g207|g208|g209|g210=>k_is
  case u211=>kernel_rfl
  case w212=>kit_is
  case w213=>kit_is
  case w214=>kit_is
  case n215|n216|a217|i218|l219|c220|k221|g222|g223|g224|g225|g226|g227|g228|g229=>k_is
  case u230=>kernel_rfl
  case w231=>kit_is
  case w232=>kit_is
  case w233=>kit_is
  case g234|v235=>k_is
  case e236=>exact⟨_,rfl⟩
  case v237=>k_is
  case e238=>exact⟨_,rfl⟩
  case v239|l240=>k_is
  case y241=>exact⟨_,_,_,_,rfl,rfl⟩
  case v242=>k_is
  case e243=>exact⟨_,rfl⟩
  case z244|z245|z246|z247|z248|z249|z250|z251|z252|z253|z254|z255|z256|z257|z258|z259|aL|lL|cL|kL=>k_is
  case rP=>rfl
  case tP=>kernel_rfl
