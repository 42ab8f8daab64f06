import PyProof.Rows.All
import Wide.All
import OpenK.AllK
import Wide.FinOn
import PyProof.Rows.SortShellK
import KE.KSortTup
import Lean
import PyProof.EqAt
import PyProof.EqKinds
import PyProof.TupleCall
import PyProof.SetRoads
import PyProof.DictRoadsH
import PyProof.IsRules
import PyProof.CollectWalk
import PyProof.FactsAll.set
import PyProof.NeData
import PyProof.P3In
import PyProof.TupleOfSeq
import PyProof.ZipIter
import PyProof.Rows.ZipGen
import KE.KDictOf
import PyProof.AttrMissHeap
import PyProof.Rows.SumAny
import PyProof.DictIter
import PyProof.DictWalks
import PyProof.DictValues
import PyProof.ListRange
import PyProof.ListStr
import PyProof.DictTruth
import PySem.Challenge.RW_strikeweave_k81_whole_tellings_and_whole
namespace PySem.W.Fast
def tw16764966767256382433:=0
def tw8754941056394027373:=0
def tw12243436443339715177:=0
def tw12613179583730677589:=0
def tw14966138776914518528:=0
def tw11324748650147614492:=0
def tw4356466230874533380:=0
def tw9559683685184642648:=0
def tw14424499802850689378:=0
def tw16330934982609401939:=0
def tw3272186067355213306:=0
def tw11822442413195388313:=0
def tw9875421961389122039:=0
def tw8904360129744844251:=0
def tw13875900287229954250:=0
def tw11039085507625009515:=0
def tw7119267778669963201:=0
def tw5590690964884198283:=0
def tw2612745998527408311:=0
def tw7184008590834753551:=0
def tw12600539724971458844:=0
def tw16990407594871285494:=0
def tw4886894498657329902:=0
def tw10419374578057226357:=0
def tw4978235635844554076:=0
def tw13102175703824749757:=0
def tw11849713109920876972:=0
def tw63465518763360680:=0
def tw15443011709514540196:=0
def tw8245421397002895218:=0
def tw153421809432802408:=0
def tw16074688018705528789:=0
def tw18420631513954593772:=0
def tw16623735350315067081:=0
def tw1283007749926113971:=0
def tw18385060309226393984:=0
def tw200965017824846758:=0
def tw3287829839224520283:=0
def tw14559045206277249422:=0
def tw17158446570752890857:=0
def tw17504517657207898184:=0
def tw17514966115100078868:=0
def tw4549073024764894729:=0
def tw13384551586669296902:=0
def tw8320296151960276489:=0
def tw4459099125004677193:=0
def tw4452524557041525276:=0
def tw13984524117687117474:=0
def tw13808535513366571408:=0
def tw15108294552379027084:=0
def tw3428164131423129797:=0
def tw13499536336373991956:=0
def tw3870663589031278518:=0
def tw621210803484070325:=0
def tw15597592789699279029:=0
def tw9303335999232486957:=0
def tw10400411144282960916:=0
def tw16891205465576371137:=0
def tw16798250723427681478:=0
def tw9966490529886078957:=0
def tw15319787603207784717:=0
def tw6465269968747800118:=0
def tw16877386690255324562:=0
def tw13341805792691111917:=0
def tw13627252979710378655:=0
def tw8914012195964921310:=0
def tw10649311923906023475:=0
def tw583170919084164214:=0
def tw17261575279432471301:=0
def tw4277994413994227481:=0
def tw2883845849953032229:=0
def tw12774041222135571316:=0
def tw1352666384006334483:=0
def tw4113985441883612912:=0
def tw5379637766347762644:=0
def tw9510964628471822455:=0
def tw1425633145370083372:=0
def tw6707456724937045776:=0
def tw189213589378549924:=0
def tw8612554701324215811:=0
def tw12010648737500143530:=0
def tw189618472390851307:=0
def tw15794364405948859500:=0
def tw10517434033804828523:=0
def tw7880317197775508595:=0
def tw10482345090837237105:=0
def tw3463166196169962592:=0
def tw7540923898629329500:=0
def tw18134424152692192597:=0
def tw7857109550804956440:=0
def tw1988744675526891006:=0
def tw12321979239116818119:=0
def tw5606567081672387459:=0
def tw14054790691216680930:=0
def tw11050715537824077123:=0
def tw14686013730124498499:=0
def tw14077435623598117353:=0
def tw135847670266962600:=0
def tw18060814910008123102:=0
def tw7895038708001224590:=0
def tw17322281571654847804:=0
def tw5787713223453603208:=0
def tw17424115033647008773:=0
def tw15300644667014779583:=0
def tw16063210613646983942:=0
def tw2949809611169517827:=0
def tw10558140943861502640:=0
def tw18331304301871976503:=0
def tw1590051114740444514:=0
def tw5986325637995042282:=0
def tw13291971393542745338:=0
def tw2233570413421411733:=0
def tw15761857122101708146:=0
def tw9006597607676664922:=0
def tw175057717913775151:=0
def tw16849542505771659624:=0
def tw6939427150167291218:=0
def tw14955297041242647080:=0
def tw2659462417122298170:=0
def tw2602034844217093656:=0
def tw5028757564071460586:=0
def tw17245775948250448449:=0
def tw5692031998636090208:=0
def tw5795239945862969225:=0
def tw8214401389993620694:=0
def tw16394518680310262865:=0
def tw1828813722987774844:=0
def tw17611343725708527857:=0
def tw17105770186072391875:=0
def tw5652390037728079241:=0
def tw16694399603887455842:=0
def tw4613711548895011375:=0
def tw8577575165427489683:=0
def tw16184664959934663403:=0
def tw17458554192970884492:=0
def tw577258007305508085:=0
def tw13604754620504375773:=0
def tw5504261496354867145:=0
def tw4078263154590210601:=0
def tw7745960002968756634:=0
def tw11289312046903802607:=0
def tw14734195128069059416:=0
def tw8684293755125704136:=0
def tw11196454808276081795:=0
def tw5373557957929976093:=0
def tw13868661588586173343:=0
def tw5139567674307756356:=0
def tw1145815557933811724:=0
def tw18192295095421104117:=0
def tw12988721739512067715:=0
def tw10009862999940841612:=0
def tw14824188144217378887:=0
def tw5077584640731963326:=0
def tw8924382494908484276:=0
def tw3982934245918444624:=0
def tw11964230800854005728:=0
def tw14715396190172794432:=0
def tw6017008224500658035:=0
def tw7865577671885745033:=0
def tw9218497219689166754:=0
def tw7426267515101213767:=0
def tw17740302419613285966:=0
def tw10929350074698248893:=0
def tw17667943054647519792:=0
def tw8675605856559410596:=0
def tw1545960078822539253:=0
def tw2138256428958870229:=0
def tw3713106807150805645:=0
def tw9857281413021220314:=0
def tw8504637193373650961:=0
def tw12123809604150403233:=0
def tw12920367718793882027:=0
def tw14041858618925853930:=0
def tw1474181073464737301:=0
def tw5372255584772319563:=0
def tw7497210226128373859:=0
def tw14523464140031492604:=0
def tw4872660606542571290:=0
def tw6630090358769864107:=0
def tw6945225526759083444:=0
def tw12212154129445899388:=0
def tw11481997151109193777:=0
def tw5301232639648941751:=0
def tw5501196970043053437:=0
def tw14129553550269436088:=0
def tw6100540785189916386:=0
def tw16321254624879439350:=0
def tw850559637922410444:=0
def tw3209569024362808035:=0
def tw13452499064514063108:=0
def tw4311800534280660803:=0
def tw11847893426097382615:=0
def tw13489125737908851960:=0
def tw16664353742771111744:=0
def tw16796207110416735504:=0
def tw9259742136090031870:=0
def tw2092675380945064136:=0
def tw3923274901316363606:=0
def tw6984206679482041283:=0
def tw6425916572153648994:=0
def tw3096068790149866997:=0
def tw15539273639441450723:=0
def tw12509212687232429593:=0
def tw18428967118626848727:=0
def tw4212379613228040015:=0
def tw5579849895572394288:=0
def tw11213664877093960791:=0
def tw18364397353274768986:=0
def tw8138837551380912221:=0
def tw2561142430549283261:=0
def tw16548634672943630473:=0
def tw339996484543181571:=0
def tw11709733504742714686:=0
def tw17551583908678500344:=0
def tw8653953777918335179:=0
def tw17339442486239280328:=0
def tw10064439418074179091:=0
def tw14046594988510735565:=0
def tw2838599226839652479:=0
def tw2906197943560728265:=0
def tw18129328832579711340:=0
def tw7062606876243870467:=0
def tw9645100086588666708:=0
def tw982447219732070917:=0
def tw4742734957473055058:=0
def tw821204687673019236:=0
def tw1034978998364924348:=0
def tw4451443861319152672:=0
def tw10242642508035376478:=0
def tw14944421065033752877:=0
def tw17529356404416143982:=0
def tw7355916015964407034:=0
def tw16881780640260528788:=0
def tw10811083582981505429:=0
def tw8434994421893992847:=0
def tw7578754745806908847:=0
def tw6369121417609646597:=0
def tw11818858175147374944:=0
def tw1296996148215404825:=0
def tw9541224804581112592:=0
def tw16219172869632579736:=0
def tw14730907409743347686:=0
def tw12844544293071062686:=0
def tw1552407391934472797:=0
def tw15592007845183748481:=0
def tw1655232969912576749:=0
def tw1090316516223715355:=0
def tw10084437649148853367:=0
def tw13530307471656203988:=0
def tw13668230389650433086:=0
def tw574318123875319093:=0
def tw8132453200681817529:=0
def tw10197805981839407620:=0
def tw6093019540191980756:=0
def tw13773571416921918170:=0
def tw8426157314811100672:=0
def tw12788597382796339493:=0
def tw8218666675906527940:=0
def tw16051888239766898876:=0
def tw2339731504067224708:=0
def tw3567885538847292029:=0
def tw3778685415773661277:=0
def tw9744443965345743900:=0
def tw1267149386354401653:=0
def tw1107769381046788757:=0
def tw7644777669486687690:=0
def tw3418318638004965654:=0
def tw5862602434946317814:=0
def tw7376459507594220407:=0
def tw17027548953636448025:=0
def tw11753945972664586055:=0
def tw15853416868888440327:=0
def tw1505563942783670550:=0
def tw15230270909735986077:=0
def tw10766772730232868233:=0
def tw4078525353389340453:=0
def tw5951229762315417129:=0
def tw8459522900212889486:=0
def tw13221414814110163014:=0
def tw1306539986318612800:=0
def tw14227995376200836137:=0
def tw9241632865625865192:=0
def tw12940205207114771691:=0
def tw12537569890639549549:=0
def tw727821959749786528:=0
def tw8282346450699839009:=0
def tw17430717183916975652:=0
def tw4811352480866655188:=0
def tw15998556352099694360:=0
def tw1904033131589436595:=0
def tw13650164629696164699:=0
def tw11885473758189856122:=0
def tw3282396783188009935:=0
def tw7609481739422855739:=0
def tw7647579970549873141:=0
def tw14797062154542211389:=0
def tw7727285239080223313:=0
def tw8889724335554939500:=0
def tw10954236434758997358:=0
def tw4025038605533396532:=0
def tw16870924022182816347:=0
def tw8102624578290626146:=0
def tw2990112335672170810:=0
def tw5035289782316108704:=0
def tw5332625117414844453:=0
def tw7403597805045349477:=0
def tw4812290403080623689:=0
def tw6694461880415348946:=0
def tw10799057588871533435:=0
def tw2271483006534402329:=0
def tw6273756687109868304:=0
def tw15975075609459657663:=0
def tw8742250297535787445:=0
def tw12596348310323386028:=0
def tw17693404225829132183:=0
def tw11642433463037363358:=0
def tw18354297156671251986:=0
def tw7851497971972281399:=0
def tw9333191480324868173:=0
def tw15432895348590811029:=0
def tw18095417145935356346:=0
def tw10620461281488333078:=0
def tw3670559831029348590:=0
def tw14998633319381878968:=0
def tw6604906531511232915:=0
def tw3898282065465877126:=0
def tw7000592963494668160:=0
def tw1719529276829783166:=0
def tw5522348514086453936:=0
def tw10085983486877733423:=0
def tw14983710373300723176:=0
def tw8730018806186622849:=0
def tw6594265989763384613:=0
def tw9692514463314008851:=0
def tw8274956124279799456:=0
def tw7580667973061669699:=0
def tw18271100614853181282:=0
def tw7058968243863649717:=0
def tw6092735367800230818:=0
def tw12340593195755975908:=0
def tw12103993316415088640:=0
def tw8741379725095971524:=0
def tw11458682035843717805:=0
def tw10020938124679843914:=0
def tw12744720532633053477:=0
def tw15637473439998131855:=0
def tw13663472751131836887:=0
def tw15429951082447683040:=0
def tw3020415159924281446:=0
def tw373206019956467602:=0
def tw16100537093035511898:=0
def tw10522183773653396737:=0
def tw7506506083120994655:=0
def tw11906554333238740233:=0
def tw18407904271726599667:=0
def tw17093078928616497808:=0
def tw8661518537669544571:=0
def tw989844800378738625:=0
def tw3752649861119423048:=0
def tw16838128825480837120:=0
def tw12007898497679248187:=0
def tw5723347264866433004:=0
def tw1776623094732655558:=0
def tw7240325168636869204:=0
def tw15700936124425895400:=0
def tw9413842138829900146:=0
def tw13716200709023804234:=0
def tw14989744926603551582:=0
def tw16084910250774829854:=0
def tw10565982919315509666:=0
def tw7694299670451766473:=0
def tw900531836226100156:=0
def tw7624448721532018003:=0
def tw5454522767776153387:=0
def tw3841891306031877019:=0
def tw7993484708826139757:=0
def tw10494813962956836539:=0
def tw15220826047740813695:=0
def tw15661351283557746222:=0
def tw16248459638041338377:=0
def tw1758429033518977995:=0
def tw3200684092092737795:=0
def tw10214068150328557750:=0
def tw5871214243628461143:=0
def tw12949758642541304068:=0
def tw15352097548430656868:=0
def tw1862612129017294450:=0
def tw9047481427103344981:=0
def tw12476046720186321621:=0
def tw3871726764214865344:=0
def tw15586681027403350074:=0
def tw16152749314642050116:=0
def tw14367173909493756000:=0
def tw9918292165573501196:=0
def tw4364178622581543629:=0
def tw15575927166586366333:=0
def tw12942034568783796690:=0
def tw7827292614354859986:=0
def tw17259456394137381198:=0
def tw9120220953018648018:=0
def tw8689314464714926485:=0
def tw4667359648220672169:=0
def tw8552244686900933886:=0
def tw1653167223584524631:=0
def tw375703426113793972:=0
def tw495778472501269660:=0
def tw1345537194517505676:=0
def tw7831564491482183180:=0
def tw6932615549556268134:=0
def tw8439300089962458323:=0
def tw4157727534504118994:=0
def tw5532910698716821530:=0
def tw2013673999197503245:=0
def tw970482338258818024:=0
def tw8514177555009813983:=0
def tw9155095006128294603:=0
def tw11699555958316791197:=0
def tw12771585762740881053:=0
def tw15747063006960194817:=0
def tw10460833117815194082:=0
def tw13028808060171696997:=0
def tw8770500033690188344:=0
def tw5625086298209300583:=0
def tw4573898402713198680:=0
def tw6858077627955078866:=0
def tw5839441867440696788:=0
def tw1591019603354130367:=0
def tw1772410881887874670:=0
def tw16184631312846847605:=0
def tw5241216596599570819:=0
def tw3132899132986042823:=0
def tw16373007767741073809:=0
def tw15744519048369296295:=0
def tw12768219569653880862:=0
def tw3343058022936302530:=0
def tw8526264192970740636:=0
def tw16070819770797101027:=0
def tw1002687489179757276:=0
def tw1532222787923670090:=0
def tw16780925038134335453:=0
def tw5088746537898655815:=0
def tw5290667210042433659:=0
def tw8856216336528622720:=0
def tw14477097660438750455:=0
def tw1502379578785371828:=0
def tw13215025160852987428:=0
def tw5339499091471051652:=0
def tw2331333621477755459:=0
def tw5615812939403567681:=0
def tw6588180373736556226:=0
def tw1560723843033133646:=0
end PySem.W.Fast
set_option autoImplicit false
set_option genSizeOf false
set_option genSizeOfSpec false
set_option bootstrap.genMatcherCode false
set_option compiler.extract_closed false
set_option linter.all false
set_option maxRecDepth 100000
section
open PySem PySem.Spec PyProof.Rows
abbrev A0:=@List
abbrev A1:=Value
abbrev A2:=Addr
abbrev A3:=Shared
abbrev A4:=@Option
abbrev A6:=Program
abbrev A7:=@Array
abbrev CW:=Keyed
abbrev F1:=World
abbrev F8:=SortSt
abbrev IV:=Heap
abbrev IY:=Expr
abbrev IZ:=Around
abbrev JB:=SetTable
abbrev JF:=Stmt
abbrev JK:=FuncData
abbrev JQ:=SortKind
abbrev JY:=Scope
abbrev NY:=NameKind
abbrev SF:=Env
end
section
open PySem PySem.Spec PyProof.Rows
def AA:=@wpAny_bind
def AB:=@List.length_map
def AC:=@List.getElem?_eq_getElem
def AD:=@List.getElem?_eq_some_iff
def AE:=@wpAny_pure
def AF:=@Heap.get?_push_of_some
def AG:=@List.getElem?_map
def AH:=@List.mem_singleton
def AI:=@List.mem_map
def AJ:=@Heap.lt_size
def AK:=@decide_eq_true
def AL:=@List.map_append
def AM:=@List.mem_of_getElem?
def AN:=@Heap.get?_push_size
def AO:=@if_neg
def AQ:=@List.size_toArray
def AR:=@List.length_take
def AS:=@List.mem_append
def AU:=@if_pos
def AV:=@List.mem_cons
def AW:=@Array.length_toList
def AX:=@decide_eq_false
def AY:=@Nat.ne_of_lt
def AZ:=@Option.map_eq_some_iff
def A_:=@List.mem_cons_of_mem
def BA:=@Option.some.inj
def BB:=@List.map_cons
def BC:=@Bool.false_ne_true
def BD:=@decide_eq_true_iff
def BE:=@Bool.false_eq_true
def BF:=@Nat.lt_of_lt_of_le
def BG:=@List.mem_cons_self
def BH:=@List.not_mem_nil
def BI:=@List.mem_filter
def BJ:=@List.length_append
def BK:=@List.getD_eq_getElem?_getD
def BL:=@of_decide_eq_true
def BM:=@List.append_assoc
def BN:=@wpAny_loadPart'
def BO:=@List.map_map
def BP:=@List.take_length
def BQ:=@Bool.eq_false_iff
def BR:=@List.length_filter_le
def BS:=@List.length_cons
def BT:=@Array.getElem?_toList
def BU:=@Bool.and_eq_true
def BV:=@Array.toList_append
def BW:=@List.take_append_drop
def BX:=@List.pairwise_map
def BZ:=@List.mem_append_right
def B_:=@Bool.eq_iff_iff
def CA:=@List.length_range
def CB:=@List.mem_range
def CC:=@Int.toNat_natCast
def CD:=@Heap.size_push
def CF:=@wpAny_mono
def CG:=@wpAny_holding
def CH:=@Nat.testBit_or
def CI:=@List.all_eq_true
def CJ:=@List.mem_of_mem_take
def CK:=@Nat.zero_le
def CL:=@wpAny_ite_false
def CN:=@Nat.eq_of_testBit_eq
def CO:=@List.drop_eq_getElem_cons
def CP:=@wpAny_setState_of
def CQ:=@Nat.lt_irrefl
def CS:=@Nat.lt_succ_of_lt
def CT:=@wpAny_call_entry
def CU:=@List.filter_cons
def CV:=@List.append_nil
def CY:=@List.take_of_length_le
def CZ:=@Heap.get?_update_other
def C_:=@Array.getD_eq_getD_getElem?
def DA:=@if_false
def DB:=@List.pairwise_append
def DC:=@List.perm_append_comm
def DD:=@Heap.get?_update_self
def DE:=@List.filter_sublist
def DF:=@List.length_drop
def DG:=@Nat.zero_testBit
def DH:=@Nat.testBit_zero
def DI:=@wpAny_truthy_bool
def DJ:=@wpAny_newObj_type
def DK:=@Bool.false_and
def DL:=@wpAny_seqItems
def DM:=@wpAny_field
def DN:=@List.filter_append
def DP:=@Bool.or_eq_true
def DQ:=@Array.getElem?_eq_some_iff
def DR:=@wpAny_callSpecial?_slot
def DT:=@Array.toList_push
def DU:=@wpAny_setField_rec
def DV:=@List.nodup_cons
def DW:=@List.getElem?_take_of_lt
def DX:=@Nat.le_add_right
def DY:=@Nat.zero_lt_succ
def DZ:=@Nat.testBit_succ
def D_:=@Nat.le_succ
def EA:=@Heap.SameBut.update
def EB:=@List.Perm.append_left
def EC:=@List.getElem?_eq_none
def ED:=@List.pairwise_singleton
def EE:=@List.mem_of_mem_drop
def EF:=@wpAny_rule
def EG:=@Nat.testBit_and
def EH:=@List.Perm.append_right
def EI:=@List.getElem_mem
def EJ:=@Nat.testBit_two_pow
def EK:=@List.mem_iff_getElem?
def EL:=@Nat.min_eq_left
def EM:=@List.range_succ
def EN:=@Heap.size_update
def EO:=@List.mem_append_left
def EQ:=@Nat.le_of_succ_le
def ER:=@Nat.zero_add
def ES:=@Array.getElem?_eq_none
def ET:=@List.drop_of_length_le
def EU:=@List.perm_ext_iff_of_nodup
def EV:=@List.map_congr_left
def EW:=@List.replicate_succ
def EX:=@List.find?_cons
def EY:=@List.filter_nil
def EZ:=@List.extract_eq_take_drop
def E_:=@List.Pairwise.and_mem
def FA:=@List.getElem?_toArray
def FB:=@Nat.lt_of_le_of_ne
def FC:=@wpAny_pyIter_zip
def FD:=@Nat.le_of_lt
def FE:=@Bool.not_true
def FF:=@Option.isSome_iff_exists
def FG:=@List.filterMap_cons_some
def FH:=@Bool.true_and
def FI:=@Array.toList_extract
def FJ:=@wpAny_newTuple
def FK:=@if_true
def FM:=@List.take_sublist
def FN:=@List.ext_getElem?
def FO:=@List.nodup_append
def FP:=@codeAny_builtin
def FQ:=@List.filterMap_cons
def FR:=@List.drop_eq_nil_of_le
def FS:=@List.cons.inj
def FT:=@wpAny_standAt
def FU:=@Nat.lt_succ_self
def FV:=@List.drop_drop
def FW:=@List.drop_zero
def FX:=@List.lt_irrefl
def FY:=@wpAny_Call_Name_kw
def FZ:=@Int.emod_lt_of_pos
def F_:=@wpAny_setField
def GA:=@Array.getElem?_eq_getElem
def GB:=@wpAny_passesOwn
def GC:=@List.drop_sublist
def GD:=@List.mem_iff_getElem
def GE:=@Bool.not_eq_true'
def GF:=@Array.toList_reverse
def GG:=@wpAny_of_eq
def GH:=@List.any_cons
def GI:=@Nat.testBit_two_pow_self
def GJ:=@List.Pairwise.imp_of_mem
def GK:=@Nat.add_le_add_left
def GL:=@List.filter_eq_self
def GM:=@List.Perm.refl
def GN:=@Array.size_map
def GO:=@wpAny_eqBool_str
def GP:=@List.length_eq_zero_iff
def GQ:=@List.nodup_nil
def GR:=@Nat.eq_zero_of_not_pos
def GS:=@List.getElem?_drop
def GT:=@Array.size_extract
def GU:=@wpAny_pyIter_tuple
def GV:=@List.all_map
def GW:=@List.map_singleton
def GX:=@Int.emod_nonneg
def GY:=@Nat.not_lt_zero
def GZ:=@wpAny_attempt
def G_:=@wpAny_newList
def HA:=@Nat.lt_of_succ_lt
def HB:=@wpAny_pyIter_list
def HC:=@List.flatten_cons
def HD:=@List.drop_take
def HE:=@List.getElem?_append_right
def HF:=@Bool.and_false
def HG:=@wpAny_updateSeq_pair
def HH:=@Nat.pow_le_pow_right
def HI:=@List.map_nil
def HJ:=@wpAny_askSetting
def HK:=@List.nodup_range
def HL:=@wpAny_isInstance
def HM:=@List.getElem?_append_left
def HN:=@List.getElem?_zip_eq_some
def HP:=@List.reverse_append
def HQ:=@Heap.get?_update_ne
def HR:=@Array.size_setIfInBounds
def HS:=@List.lt_trans
def HU:=@Bool.false_or
def HV:=@wpAny_comprehension_free
def HW:=@List.filterMap_cons_none
def HX:=@Bool.or_false
def HY:=@wpAny_onRaise
def HZ:=@List.Perm.eq_of_pairwise
def H_:=@Nat.zero_lt_one
def IA:=@List.length_nil
def IB:=@List.Perm.of_eq
def IC:=@List.forIn_cons
def ID:=@List.getElem?_cons_zero
def IE:=@Nat.testBit_mod_two_pow
def IG:=@Heap.get?_push_ne
def IH:=@List.getElem?_set_self
def II:=@Bool.not_false
def IJ:=@wpAny_storeSet_of
def IK:=@wpAny_ite_true
def IL:=@wpAny_richCompare_same
def IM:=@Int.zero_add
def IP:=@Array.toList_inj
def IQ:=@List.lookup_cons
def IR:=@Heap.ExtBut.push
def IS:=@decide_eq_decide
end
noncomputable section
namespace TS
open PySem PyProof.Rows
def kk(Z:KeyKind)(p:CW):Z.α:=(Z.keyOf p.1).getD Z.dflt
def SU(Z:KeyKind)(p:CW):Prop:=∃a,Z.keyOf p.1=some a
def le(Z:KeyKind)(p q:CW):Prop:=Z.kle (kk Z p) (kk Z q)
def LV(Z:KeyKind)(l:A0 CW):Prop:=l.Pairwise (le Z)
structure SC(prog:A6)(w:F1)(A:IZ)(s:A3)(Z:KeyKind)(kd:JQ):Prop where
 lt:∀(x y:A1) (a b:Z.α) (Q:Bool->A3->Prop) (E:A1->A3->Prop),Z.keyOf x=some a->Z.keyOf y=some b->Q (Z.blt a b) s->wpAny (model prog w) A (keyLt' kd x y) Q E s
section
variable{prog:A6}{w:F1}{A:IZ}{E:A1->A3->Prop}{s:A3}{Z:KeyKind}{kd:JQ}
theorem Fo(C:SC prog w A s Z kd){st:F8}{x y:CW}{Q:A4 Bool->F8->Prop}(e:kindOf st=kd)(f:SU Z x)(g:SU Z y)
  (h:Q (some (Z.blt (kk Z x) (kk Z y))) st):wpS (model prog w) A E s (lt' x y) Q st:=by
 obtain⟨a,c⟩:=f;obtain⟨b,d⟩:=g;have i:kk Z x=a:=by unfold kk;rw[c];rfl
 have j:kk Z y=b:=by unfold kk;rw[d];rfl
 rw[i,j]at h;rw[lt'_eq];refine wpS_bind (wpS_get ?_);rw[e];refine wpS_bind (wpS_lift (GZ (C.lt x.1 y.1 a b _ _ c d ⟨rfl,?_⟩)));exact wpS_pure h
theorem E1{st:F8}{a:A7 CW}{i:Nat}{p:CW}{Q:CW->F8->Prop}(hi:a[i]?=some p)(h:Q p st):wpS (model prog w) A E s (elem' a i) Q st:=by
 rw[elem'_eq,hi];exact wpS_pure h
def Q9:Bool->CW->A7 CW->Nat->Nat->Nat->StateT F8 Sem (A4 Nat):=sortPriv% PySem.Builtin.gallop
def UE(left:Bool)(a:CW)(b:A7 CW)(bs:Nat)(i:Nat):StateT F8 Sem (A4 Bool):=do
 let x <-elem' b (bs+i)
 if left then lt' x a else return(<-lt' a x).map (!·)
theorem Mw(left:Bool)(c:CW)(d:A7 CW)(bs n b:Nat):Q9 left c d bs n b =(do
  let mut la:=0
  let mut a:=1
  let mut lo:=0
  let mut hi:=0
  let some g <-UE left c d bs b | return none
  if g then
   let e:=n-b
   for _ in [0:n] do
    if a ≥ e then break
    let some f <-UE left c d bs (b+a) | return none
    if !f then break
    la:=a
    a:=2*a+1
   lo:=b+la+1
   hi:=b+min a e
  else
   let e:=b+1
   for _ in [0:n] do
    if a ≥ e then break
    let some h <-UE left c d bs (b-a) | return none
    if h then break
    la:=a
    a:=2*a+1
   lo:=b+1-min a e
   hi:=b-la
  for _ in [0:n] do
   if lo ≥ hi then break
   let m:=lo +(hi-lo) / 2
   let some f <-UE left c d bs m | return none
   if f then lo:=m+1 else hi:=m
  return some hi):=rfl
def PB(Z:KeyKind)(left:Bool)(a:CW)(p:CW):Bool:=if left then Z.blt (kk Z p) (kk Z a)else !Z.blt (kk Z a) (kk Z p)
theorem Ym(C:SC prog w A s Z kd){st:F8}{left:Bool}{b p:CW}{c:A7 CW}{bs i:Nat}{Q:A4 Bool->F8->Prop}(d:kindOf st=kd)(a:SU Z b)(e:SU Z p)(hi:c[bs+i]?=some p)
  (h:Q (some (PB Z left b p)) st):wpS (model prog w) A E s (UE left b c bs i) Q st:=by
 unfold UE;refine wpS_bind (E1 hi ?_);cases left with
 | true=>exact Fo C d e a h
 | false =>
  simp only[BE,DA];refine wpS_bind (Fo C d a e ?_);exact wpS_pure h
theorem Nh(C:SC prog w A s Z kd){st:F8}{left:Bool}{L:CW}{O:A7 CW}{bs n g:Nat}{Q:A4 Nat->F8->Prop}(hk:kindOf st=kd)(R:SU Z L)
  (P:Nat->Bool) (hP:∀i,i<n->∃p,O[bs+i]?=some p/\SU Z p/\PB Z left L p=P i) (o:∀i j,i<=j->j<n->P j=true->P i=true) (T:g<n)
  (h:∀k,k<=n->(∀i,i<k->P i=true)->(∀i,k<=i->i<n->P i=false)->Q (some k) st):wpS (model prog w) A E s (Q9 left L O bs n g) Q st:=by
 have B:∀{a:F8} {i:Nat} {Q:A4 Bool->F8->Prop},a=st->i<n->Q (some (P i)) a->wpS (model prog w) A E s (UE left L O bs i) Q a:=by
  intro a i Q e hi q;subst e;obtain⟨p,U,V,W⟩:=hP i hi;exact Ym C hk R V U (by rw[W];exact q)
 have m:∀i j,i<=j->j<n->P i=false->P j=false:=by
  intro i j X hj hi;cases e:P j with
  | false=>rfl
  | true=>rw[o i j X hj e]at hi;cases hi
 rw[Mw];dsimp only;refine wpS_bind (B rfl T ?_);dsimp only;have S:∀{lo hi:Nat} {f:Nat->(A4 (A4 Nat)×Nat×Nat)->StateT F8 Sem (ForInStep (A4 (A4 Nat)×Nat×Nat))},
   (∀x l h,wpS (model prog w) A E s (f x (none,l,h)) (fun r a=>a=st/\(if h<=l then r = .done (none,l,h)else if P (l +(h-l) / 2)=true then r = .yield (none,l +(h-l) / 2+1,h)else r = .yield (none,l,l +(h-l) / 2))) st\/¬(h<=l\/l +(h-l) / 2<n)) ->
   lo<=hi->hi<=n->(∀i,i<lo->P i=true)->(∀i,hi<=i->i<n->P i=false) ->
   wpS (model prog w) A E s (forIn [0:n] (none,lo,hi) f) (fun c a=>a=st/\∃k,c =(none,k,k)/\k<=n/\(∀i,i<k->P i=true)/\(∀i,k<=i->i<n->P i=false)) st:=by
  intro lo hi f hf U V W h4;refine wpS_forRange (I:=fun x c a=>a=st/\∃l r,c =(none,l,r)/\l<=r/\r<=n/\r-l<=n-x/\(∀i,i<l->P i=true)/\(∀i,r<=i->i<n->P i=false)) ?_ ?_ ⟨rfl,lo,hi,rfl,U,V,by omega,W,h4⟩
  .rintro x c a _ hx ⟨rfl,l,r,rfl,hl,K,hm,M,N⟩;have Y:r<=l\/l +(r-l) / 2<n:=by omega
   rcases hf x l r with q | q
   .refine wpS_mono q fun z st2 ⟨e,F⟩=>?_;subst e;by_cases b:r<=l
    .rw[AU b]at F;subst F;have:l=r:=by omega
     subst this;exact⟨rfl,l,rfl,K,M,N⟩
    .rw[AO b]at F;cases u:P (l +(r-l) / 2)with
     | true =>
      rw[AU u]at F;subst F;exact⟨rfl,_,_,rfl,by omega,by omega,by omega,fun i hi=>o i (l +(r-l) / 2) (by omega) (by omega) u,N⟩
     | false =>
      rw[AO (by rw[u];exact BC)]at F;subst F;exact⟨rfl,_,_,rfl,by omega,by omega,by omega,M,fun i G y=>m (l +(r-l) / 2) i G y u⟩
   .exact absurd Y q
  .rintro c a ⟨rfl,l,r,rfl,hl,K,hm,M,N⟩;have:l=r:=by omega
   subst this;exact⟨rfl,l,rfl,K,M,N⟩
 cases K:P g with
 | true =>
  rw[AU rfl];refine wpS_bind (wpS_mono (wpS_forRange (I:=fun x c a=>a=st/\∃la d,c =(none,la,d)/\la<d/\x+1<=d/\g+la<n/\P (g+la)=true)
   (Q:=fun c a=>a=st/\∃la d,c =(none,la,d)/\la<d/\g+la<n/\P (g+la)=true/\(n-g<=d\/(g+d<n/\P (g+d)=false))) ?st ?en ⟨rfl,0,1,rfl,by omega,by omega,by omega,K⟩) ?po)
  case en =>
   rintro c a ⟨rfl,la,d,rfl,D,a2,v,t⟩;exact⟨rfl,la,d,rfl,D,v,t,.inl (by omega)⟩
  case st =>
   rintro x c a _ hx ⟨rfl,la,d,rfl,D,a2,v,t⟩;dsimp only;by_cases b:d ≥ n-g
   .rw[AU b];exact wpS_pure ⟨rfl,la,d,rfl,D,v,t,.inl b⟩
   .rw[AO b];refine wpS_bind (B rfl (show g+d<n by omega) ?_);cases u:P (g+d)with
    | true=>exact wpS_pure ⟨rfl,d,2*d+1,rfl,by omega,by omega,by omega,u⟩
    | false=>exact wpS_pure ⟨rfl,la,d,rfl,D,v,t,.inr ⟨by omega,u⟩⟩
  case po =>
   rintro c a ⟨rfl,la,d,rfl,D,v,t,H⟩;dsimp only;refine wpS_bind (wpS_mono (S (lo:=g+la+1) (hi:=g+min d (n-g)) (fun x l J=>by
    dsimp only;by_cases b:J<=l
    .refine .inl ?_;rw[AU b];exact wpS_pure ⟨rfl,by rw[AU b]⟩
    .by_cases hn:l +(J - l) / 2<n
     .refine .inl ?_;rw[AO b];refine wpS_bind (B rfl hn ?_);dsimp only;cases u:P (l +(J - l) / 2)with
      | true =>
       simp only[FK];exact wpS_pure ⟨rfl,by rw[AO b]⟩
      | false =>
       simp only[BE,DA];exact wpS_pure ⟨rfl,by rw[AO b]⟩
     .exact .inr (by omega)) (by omega) (by omega) (fun i hi=>o i (g+la) (by omega) v t) fun i G y=>?_) fun c a ⟨e,k,e2,b1,b2,b3⟩=>?_)
   .rcases H with H | ⟨H,a6⟩
    .omega
    .exact m (g+d) i (by omega) y a6
   .subst e e2;exact wpS_pure (h k b1 b2 b3)
 | false =>
  rw[AO BC];refine wpS_bind (wpS_mono (wpS_forRange (I:=fun x c a=>a=st/\∃la d,c =(none,la,d)/\la<d/\x+1<=d/\la<=g/\P (g-la)=false)
   (Q:=fun c a=>a=st/\∃la d,c =(none,la,d)/\la<d/\la<=g/\P (g-la)=false/\(g+1<=d\/(d<=g/\P (g-d)=true))) ?st ?en ⟨rfl,0,1,rfl,by omega,by omega,by omega,K⟩) ?po)
  case en =>
   rintro c a ⟨rfl,la,d,rfl,D,a2,v,t⟩;exact⟨rfl,la,d,rfl,D,v,t,.inl (by omega)⟩
  case st =>
   rintro x c a _ hx ⟨rfl,la,d,rfl,D,a2,v,t⟩;dsimp only;by_cases b:d ≥ g+1
   .rw[AU b];exact wpS_pure ⟨rfl,la,d,rfl,D,v,t,.inl b⟩
   .rw[AO b];refine wpS_bind (B rfl (show g-d<n by omega) ?_);cases u:P (g-d)with
    | false=>exact wpS_pure ⟨rfl,d,2*d+1,rfl,by omega,by omega,by omega,u⟩
    | true=>exact wpS_pure ⟨rfl,la,d,rfl,D,v,t,.inr ⟨by omega,u⟩⟩
  case po =>
   rintro c a ⟨rfl,la,d,rfl,D,v,t,H⟩;dsimp only;refine wpS_bind (wpS_mono (S (lo:=g+1-min d (g+1)) (hi:=g-la) (fun x l J=>by
    dsimp only;by_cases b:J<=l
    .refine .inl ?_;rw[AU b];exact wpS_pure ⟨rfl,by rw[AU b]⟩
    .by_cases hn:l +(J - l) / 2<n
     .refine .inl ?_;rw[AO b];refine wpS_bind (B rfl hn ?_);dsimp only;cases u:P (l +(J - l) / 2)with
      | true =>
       simp only[FK];exact wpS_pure ⟨rfl,by rw[AO b]⟩
      | false =>
       simp only[BE,DA];exact wpS_pure ⟨rfl,by rw[AO b]⟩
     .exact .inr (by omega)) (by omega) (by omega) (fun i hi=>?_) fun i G y=>m (g-la) i (by omega) y t) fun c a ⟨e,k,e2,b1,b2,b3⟩=>?_)
   .rcases H with H | ⟨H,a6⟩
    .omega
    .exact o i (g-d) (by omega) (by omega) a6
   .subst e e2;exact wpS_pure (h k b1 b2 b3)
end
section
variable{Z:KeyKind}
theorem TM(p:CW):le Z p p:=KeyOrd.kle_refl _
theorem JO{p q r:CW}(h1:le Z p q)(h2:le Z q r):le Z p r:=KeyOrd.kle_trans h1 h2
structure ML(Z:KeyKind)(a b:A0 CW)(o:A0 CW)(i j:Nat):Prop where
 perm:o.Perm (a.take i++b.take j)
 sor:LV Z o
 la:∀x∈o,∀y∈a.drop i,le Z x y
 lb:∀x∈o,∀y∈b.drop j,le Z x y
theorem ML.sym{a b o:A0 CW}{i j:Nat}(m:ML Z a b o i j):ML Z b a o j i:=⟨m.perm.trans DC,m.sor,m.lb,m.la⟩
theorem Em{l:A0 CW}(k:Nat)(h:LV Z l):∀x∈l.take k,∀y∈l.drop k,le Z x y:=by
 have a:LV Z (l.take k++l.drop k):=by rw[BW];exact h
 exact(DB.mp a).2.2
theorem ML.addA{a b o:A0 CW}{i j:Nat}(m:ML Z a b o i j)(e:LV Z a)(k:Nat)(f:∀y∈(a.drop i).take k,∀z∈b.drop j,le Z y z):ML Z a b (o ++(a.drop i).take k) (i+k) j:=by
 have d:LV Z (a.drop i):=e.sublist (GC _ _);refine⟨?_,?_,fun x hx y c=>?_,fun x hx y c=>?_⟩
 .rw[List.take_add];refine(EH _ m.perm).trans ?_;rw[BM,BM];exact EB _ DC
 .refine DB.mpr ⟨m.sor,d.sublist (FM _ _),fun x hx y c=>m.la x hx y (CJ c)⟩
 .rw[<-FV]at c;rcases AS.mp hx with hx | hx
  .exact m.la x hx y (EE c)
  .exact Em k d x hx y c
 .rcases AS.mp hx with hx | hx
  .exact m.lb x hx y c
  .exact f x hx y c
theorem ML.addB{a b o:A0 CW}{i j:Nat}(m:ML Z a b o i j)(c:LV Z b)(k:Nat)(d:∀y∈(b.drop j).take k,∀z∈a.drop i,le Z y z):ML Z a b (o ++(b.drop j).take k) i (j+k) :=
 (m.sym.addA c k d).sym
theorem ML.endA{a b o:A0 CW}{i j:Nat}(m:ML Z a b o i j)(e:LV Z a)(f:LV Z b)(h:∀y∈a.drop i,∀z∈b.drop j,le Z y z):LV Z (o++a.drop i++b.drop j)/\(o++a.drop i++b.drop j).Perm (a++b):=by
 refine⟨?_,?_⟩
 .refine DB.mpr ⟨DB.mpr ⟨m.sor,e.sublist (GC _ _),m.la⟩,f.sublist (GC _ _),fun x hx y c=>?_⟩;rcases AS.mp hx with hx | hx
  .exact m.lb x hx y c
  .exact h x hx y c
 .have g:(o++a.drop i++b.drop j).Perm ((a.take i++b.take j)++a.drop i++b.drop j):=EH _ (EH _ m.perm);refine g.trans ?_;have d:((a.take i++b.take j)++a.drop i++b.drop j).Perm ((a.take i++a.drop i) ++(b.take j++b.drop j)):=by
   rw[BM,BM,BM];refine EB _ ?_;rw[<-BM,<-BM];exact EH _ DC
  rw[BW,BW]at d;exact d
theorem ML.endB{a b o:A0 CW}{i j:Nat}(m:ML Z a b o i j)(c:LV Z a)(d:LV Z b)(h:∀y∈b.drop j,∀z∈a.drop i,le Z y z):LV Z (o++b.drop j++a.drop i)/\(o++b.drop j++a.drop i).Perm (a++b) :=
 ⟨(m.sym.endA d c h).1,(m.sym.endA d c h).2.trans DC⟩
structure MH(Z:KeyKind)(a b:A0 CW)(o:A0 CW)(i j:Nat):Prop where
 perm:o.Perm (a.drop i++b.drop j)
 sor:LV Z o
 la:∀x∈o,∀y∈a.take i,le Z y x
 lb:∀x∈o,∀y∈b.take j,le Z y x
theorem MH.sym{a b o:A0 CW}{i j:Nat}(m:MH Z a b o i j):MH Z b a o j i:=⟨m.perm.trans DC,m.sor,m.lb,m.la⟩
theorem MH.addA{a b o:A0 CW}{i j:Nat}(m:MH Z a b o i j)(g:LV Z a)(k:Nat)(d:k<=i)(h:∀y∈(a.take i).drop k,∀z∈b.take j,le Z z y):MH Z a b ((a.take i).drop k++o) k j:=by
 have f:LV Z (a.take i):=g.sublist (FM _ _);have e:a.drop k =(a.take i).drop k++a.drop i:=by
  conv=>lhs;rw[<-BW i a]
  rw[List.drop_append];by_cases l:i<=a.length
  .rw[AR,EL l,Nat.sub_eq_zero_of_le d,FW]
  .have:a.drop i = []:=FR (by lia);rw[this,List.drop_nil]
 have n:(a.take i).take k=a.take k:=by rw[List.take_take,EL d]
 refine⟨?_,?_,fun x hx y c=>?_,fun x hx y c=>?_⟩
 .rw[e,BM];exact EB _ m.perm
 .exact DB.mpr ⟨f.sublist (GC _ _),m.sor,fun x hx y c=>m.la y c x (EE hx)⟩
 .rw[<-n]at c;rcases AS.mp hx with hx | hx
  .exact Em k f y c x hx
  .exact m.la x hx y (CJ c)
 .rcases AS.mp hx with hx | hx
  .exact h x hx y c
  .exact m.lb x hx y c
theorem MH.addB{a b o:A0 CW}{i j:Nat}(m:MH Z a b o i j)(d:LV Z b)(k:Nat)(c:k<=j)(e:∀y∈(b.take j).drop k,∀z∈a.take i,le Z z y):MH Z a b ((b.take j).drop k++o) i k :=
 (m.sym.addA d k c e).sym
theorem MH.endA{a b o:A0 CW}{i j:Nat}(m:MH Z a b o i j)(e:LV Z a)(f:LV Z b)(h:∀y∈a.take i,∀z∈b.take j,le Z y z):LV Z (a.take i++b.take j++o)/\(a.take i++b.take j++o).Perm (a++b):=by
 refine⟨?_,?_⟩
 .refine DB.mpr ⟨DB.mpr ⟨e.sublist (FM _ _),f.sublist (FM _ _),h⟩,m.sor,fun x hx y c=>?_⟩;rcases AS.mp hx with hx | hx
  .exact m.la y c x hx
  .exact m.lb y c x hx
 .have g:(a.take i++b.take j++o).Perm (a.take i++b.take j ++(a.drop i++b.drop j)):=EB _ m.perm;refine g.trans ?_;have d:(a.take i++b.take j ++(a.drop i++b.drop j)).Perm ((a.take i++a.drop i) ++(b.take j++b.drop j)):=by
   rw[BM,BM];refine EB _ ?_;rw[<-BM,<-BM];exact EH _ DC
  rw[BW,BW]at d;exact d
theorem MH.endB{a b o:A0 CW}{i j:Nat}(m:MH Z a b o i j)(c:LV Z a)(d:LV Z b)(h:∀y∈b.take j,∀z∈a.take i,le Z y z):LV Z (b.take j++a.take i++o)/\(b.take j++a.take i++o).Perm (a++b) :=
 ⟨(m.sym.endA d c h).1,(m.sym.endA d c h).2.trans DC⟩
end
section
variable{prog:A6}{w:F1}{A:IZ}{E:A1->A3->Prop}{s:A3}{Z:KeyKind}{kd:JQ}
def Ai(g:Nat):StateT F8 Sem Unit:=modify fun s=>SortSt.mk' (kindOf s) (arrOf s) (pendingOf s) g (failedOf s)
def Dx:A7 CW->A7 CW->StateT F8 Sem (A7 CW):=sortPriv% PySem.Builtin.mergeLo
theorem Il(a b:A7 CW):Dx a b =(do
  rule "list.sort.merge-lo"
  let e:=a.size+b.size
  let d (o:A7 CW) (i j:Nat):=o++a.extract i a.size++b.extract j b.size
  let h (o:A7 CW) (i j:Nat):=o++b.extract j b.size++a.extract i a.size
  let mut o:A7 CW:=#[<-elem' b 0]
  let mut i:=0
  let mut j:=1
  if j == b.size then return d o i j
  if i+1 == a.size then return h o i j
  let mut c:=gallopOf (<-get)
  for _ in [0:e] do
   let mut f:=0
   let mut g:=0
   for _ in [0:e] do
    let some l <-lt' (<-elem' b j) (<-elem' a i) | return d o i j
    if l then
     o:=o.push (<-elem' b j);j:=j+1;g:=g+1;f:=0
     if j == b.size then return d o i j
     if g ≥ c then break
    else
     o:=o.push (<-elem' a i);i:=i+1;f:=f+1;g:=0
     if i+1 == a.size then return h o i j
     if f ≥ c then break
   rule "list.sort.gallop"
   c:=c+1
   for _ in [0:e] do
    if c>1 then c:=c-1
    Ai c
    let some k <-Q9 false (<-elem' b j) a i (a.size-i) 0 | return d o i j
    f:=k
    if k>0 then
     o:=o++a.extract i (i+k);i:=i+k
     if i+1 == a.size then return h o i j
     if i == a.size then return d o i j
    o:=o.push (<-elem' b j);j:=j+1
    if j == b.size then return d o i j
    let some k <-Q9 true (<-elem' a i) b j (b.size-j) 0 | return d o i j
    g:=k
    if k>0 then
     o:=o++b.extract j (j+k);j:=j+k
     if j == b.size then return d o i j
    o:=o.push (<-elem' a i);i:=i+1
    if i+1 == a.size then return h o i j
    if f<7&&g<7 then break
   c:=c+1
   Ai c
  unsupported "internal:list.sort.merge-bound"):=rfl
def Sm(st a:F8):Prop:=kindOf a=kindOf st/\arrOf a=arrOf st/\pendingOf a=pendingOf st/\failedOf a=failedOf st
theorem Sm.refl(st:F8):Sm st st:=⟨rfl,rfl,rfl,rfl⟩
theorem T4{st st0:F8}{g:Nat}{Q:Unit->F8->Prop}(b:Sm st0 st)(h:∀a,Sm st0 a->Q () a):wpS (model prog w) A E s (Ai g) Q st :=
 wpS_modify (h _ ⟨b.1,b.2.1,b.2.2.1,b.2.2.2⟩)
theorem Ci{l:A0 CW}{i k:Nat}{y:CW}(h:y∈(l.drop i).take k):∃t,t<k/\l[i+t]?=some y:=by
 obtain⟨t,a,e⟩:=GD.mp h;rw[AR,DF]at a;refine⟨t,by lia,?_⟩;rw[List.getElem_take,List.getElem_drop]at e;rw[<-e];exact AC (by lia)
theorem Jc{l:A0 CW}{i:Nat}{y:CW}(h:y∈l.drop i):∃t,i+t<l.length/\l[i+t]?=some y:=by
 obtain⟨t,a,e⟩:=GD.mp h;rw[DF]at a;refine⟨t,by lia,?_⟩;rw[List.getElem_drop]at e;rw[<-e];exact AC (by lia)
theorem Mh{l:A0 CW}{i:Nat}{y:CW}(h:y∈l.take i):∃t,t<i/\t<l.length/\l[t]?=some y:=by
 obtain⟨t,a,e⟩:=GD.mp h;rw[AR]at a;refine⟨t,by lia,by lia,?_⟩;rw[List.getElem_take]at e;rw[<-e];exact AC (by lia)
theorem Wr{l:A0 CW}{i k:Nat}{y:CW}(h:y∈(l.take i).drop k):∃t,k<=t/\t<i/\l[t]?=some y:=by
 obtain⟨t,b,a⟩:=Jc h;rw[AR]at b;rw[DW (by lia)]at a;exact⟨k+t,by lia,by lia,a⟩
theorem n8{l:A0 CW}(h:LV Z l){i j:Nat}{p q:CW}(a:i<=j)(b:l[i]?=some p)(c:l[j]?=some q):le Z p q:=by
 obtain⟨d,rfl⟩:=AD.mp b;obtain⟨e,rfl⟩:=AD.mp c;rcases Nat.lt_or_eq_of_le a with z | z
 .exact List.pairwise_iff_getElem.mp h i j d e z
 .subst z;exact TM _
theorem Cv{l:A0 CW}(h:LV Z l){i:Nat}{p:CW}(a:l[i]?=some p):∀z∈l.drop i,le Z p z:=fun z b=>by
 obtain⟨t,_,e⟩:=Jc b;exact n8 h (DX _ _) a e
theorem I7{a:A7 CW}{i:Nat}{p:CW}:a[i]?=some p↔a.toList[i]?=some p:=by rw[BT]
theorem V2{a:A7 CW}{i:Nat}(h:i<a.size):∃p,a[i]?=some p:=⟨a[i],getElem?_pos a i h⟩
theorem Sl{l:A0 CW}{i:Nat}{p:CW}(h:l[i]?=some p):(l.drop i).take 1 = [p]:=by
 obtain⟨a,rfl⟩:=AD.mp h;rw[CO a];rfl
theorem Cw(a:A7 CW)(i k:Nat):(a.extract i (i+k)).toList =(a.toList.drop i).take k:=by
 rw[FI,EZ,Nat.add_sub_cancel_left]
theorem g9(a:A7 CW)(i:Nat):(a.extract i a.size).toList=a.toList.drop i:=by
 rw[FI,EZ,CY];rw[DF,AW];exact Nat.le_refl _
theorem i6(a:A7 CW)(i:Nat):(a.extract 0 i).toList=a.toList.take i:=by
 rw[FI,EZ,FW,Nat.sub_zero]
def Rm(Z:KeyKind)(a b r:A7 CW):Prop:=LV Z r.toList/\r.toList.Perm (a.toList++b.toList)
structure NX(Z:KeyKind)(a b:A7 CW):Prop where
 sa:LV Z a.toList
 sb:LV Z b.toList
 ka:∀(i:Nat) p,a[i]?=some p->SU Z p
 kb:∀(i:Nat) p,b[i]?=some p->SU Z p
 na:1<=a.size
 nb:1<=b.size
 first:∀q,b[0]?=some q->∀z∈a.toList,le Z q z
 last:∀p,a[a.size-1]?=some p->∀z∈b.toList,le Z z p
section
variable{a b o:A7 CW}{i j k:Nat}{p q:CW}
theorem NX.pushB(P:NX Z a b)(m:ML Z a.toList b.toList o.toList i j)(c:b[j]?=some q)(h:∀z∈a.toList.drop i,le Z q z):ML Z a.toList b.toList (o.push q).toList i (j+1):=by
 have d:=m.addB P.sb 1 (by rw[Sl (I7.mp c)];intro y e;rw[AH.mp e];exact h);rw[Sl (I7.mp c)]at d;rw[DT];exact d
theorem NX.pushA(P:NX Z a b)(m:ML Z a.toList b.toList o.toList i j)(c:a[i]?=some p)(h:∀z∈b.toList.drop j,le Z p z):ML Z a.toList b.toList (o.push p).toList (i+1) j:=by
 have d:=m.addA P.sa 1 (by rw[Sl (I7.mp c)];intro y e;rw[AH.mp e];exact h);rw[Sl (I7.mp c)]at d;rw[DT];exact d
theorem NX.extA(P:NX Z a b)(m:ML Z a.toList b.toList o.toList i j)(h:∀y∈(a.toList.drop i).take k,∀z∈b.toList.drop j,le Z y z):ML Z a.toList b.toList (o++a.extract i (i+k)).toList (i+k) j:=by
 rw[BV,Cw];exact m.addA P.sa k h
theorem NX.extB(P:NX Z a b)(m:ML Z a.toList b.toList o.toList i j)(h:∀y∈(b.toList.drop j).take k,∀z∈a.toList.drop i,le Z y z):ML Z a.toList b.toList (o++b.extract j (j+k)).toList i (j+k):=by
 rw[BV,Cw];exact m.addB P.sb k h
theorem NX.doneB(P:NX Z a b)(m:ML Z a.toList b.toList o.toList i j)(d:j=b.size):Rm Z a b (o++a.extract i a.size++b.extract j b.size):=by
 unfold Rm;rw[BV,BV,g9,g9];refine m.endA P.sa P.sb fun y _ z c=>?_;rw[FR (by rw[AW];lia)]at c;exact absurd c (by simp)
theorem NX.doneA(P:NX Z a b)(m:ML Z a.toList b.toList o.toList i j)(hi:i=a.size):Rm Z a b (o++a.extract i a.size++b.extract j b.size):=by
 unfold Rm;rw[BV,BV,g9,g9];refine m.endA P.sa P.sb fun y c z _=>?_;rw[FR (by rw[AW];lia)]at c;exact absurd c (by simp)
theorem NX.lastA(P:NX Z a b)(m:ML Z a.toList b.toList o.toList i j)(hi:i+1=a.size):Rm Z a b (o++b.extract j b.size++a.extract i a.size):=by
 unfold Rm;rw[BV,BV,g9,g9];refine m.endB P.sa P.sb fun y d z f=>?_;obtain⟨t,g,c⟩:=Jc f;rw[AW]at g;have e:i+t=a.size-1:=by lia
 rw[e]at c;exact P.last z (I7.mpr c) y (EE d)
end
theorem Sm.knd{st a:F8}(h:Sm st a){k:JQ}(b:kindOf st=k):kindOf a=k:=h.1.trans b
theorem i5(C:SC prog w A s Z kd){st:F8}{left:Bool}{d:CW}{b:A7 CW}{bs n e:Nat}{Q:A4 Nat->F8->Prop}(D:kindOf st=kd)(f:SU Z d)
  (hsz:bs+n<=b.size) (F:∀(i:Nat) p,b[i]?=some p->SU Z p) (G:∀(u v:Nat) p q,u<=v->v<n->b[bs+u]?=some p->b[bs+v]?=some q->le Z p q) (g:e<n)
  (h:∀k,k<=n->(∀(t:Nat) p,t<k->b[bs+t]?=some p->PB Z left d p=true)->(∀(t:Nat) p,k<=t->t<n->b[bs+t]?=some p->PB Z left d p=false)->Q (some k) st) :
  wpS (model prog w) A E s (Q9 left d b bs n e) Q st:=by
 have c:∀t,t<n->∃p,b[bs+t]?=some p:=fun t e=>V2 (by lia);refine Nh C D f (fun t=>match b[bs+t]? with | some p=>PB Z left d p | none=>false) (fun i H=>?_) (fun i j m y a=>?_) g fun k o I J=>?_
 .obtain⟨p,a⟩:=c i H;exact⟨p,a,F _ p a,by rw[a]⟩
 .obtain⟨p,z⟩:=c i (by lia);obtain⟨q,B⟩:=c j y;rw[B]at a;rw[z];have l:=G i j p q m y z B;dsimp only at a⊢;unfold PB at a⊢;cases left with
  | true =>
   simp only[FK]at a⊢;exact KeyOrd.klt_of_kle_of_klt l a
  | false =>
   simp only[BE,DA,GE]at a⊢;exact KeyOrd.kle_trans l a
 .refine h k o (fun t p e a=>?_) fun t p r x a=>?_
  .have:=I t e;rw[a]at this;exact this
  .have:=J t r x;rw[a]at this;exact this
theorem Dd{a p:CW}(h:PB Z false a p=true):le Z p a:=by
 unfold PB at h;show Z.blt (kk Z a) (kk Z p)=false;simpa using h
theorem Au{a p:CW}(h:PB Z false a p=false):Z.klt (kk Z a) (kk Z p):=by
 unfold PB at h;show Z.blt (kk Z a) (kk Z p)=true;simpa using h
theorem Ix{a p:CW}(h:PB Z true a p=true):Z.klt (kk Z p) (kk Z a):=by
 unfold PB at h;show Z.blt (kk Z p) (kk Z a)=true;simpa using h
theorem Dj{a p:CW}(h:PB Z true a p=false):le Z a p:=by
 unfold PB at h;show Z.blt (kk Z p) (kk Z a)=false;simpa using h
section
variable{α:Type}{Q:α->F8->Prop}{st:F8}
theorem Q7{c:Prop}{_:Decidable c}{t e:StateT F8 Sem α}(h1:c->wpS (model prog w) A E s t Q st)(h2:¬c->wpS (model prog w) A E s e Q st):wpS (model prog w) A E s (if c then t else e) Q st:=by
 split
 .rename_i h;exact h1 h
 .rename_i h;exact h2 h
theorem K9{x y:Nat}{t e:StateT F8 Sem α}(h1:x=y->wpS (model prog w) A E s t Q st)(h2:x≠y->wpS (model prog w) A E s e Q st):wpS (model prog w) A E s (if(x == y)=true then t else e) Q st :=
 Q7 (fun h=>h1 (eq_of_beq h)) fun h=>h2 fun z=>h (beq_iff_eq.mpr z)
theorem Ru{c:Prop}{_:Decidable c}{t:StateT F8 Sem α}{F:Nat->StateT F8 Sem α}(x:Nat){y:Nat}(h:∀g,wpS (model prog w) A E s (F g) Q st)(e:t=F x):wpS (model prog w) A E s (if c then t else F y) Q st:=by
 subst e;exact Q7 (fun _=>h _) fun _=>h _
theorem Ed{c:Prop}{_:Decidable c}{t:StateT F8 Sem α}{F:A7 CW->Nat->StateT F8 Sem α}{o:A7 CW}{i:Nat}(R:A7 CW->Nat->Prop)(h:∀o i,R o i->wpS (model prog w) A E s (F o i) Q st)
  (a:(∀o i,R o i->wpS (model prog w) A E s (F o i) Q st)->c->wpS (model prog w) A E s t Q st) (b:¬c->R o i):wpS (model prog w) A E s (if c then t else F o i) Q st:=Q7 (a h) fun z=>h _ _ (b z)
end
theorem Qm{α β:Type}{h:Sem Unit}{i:StateT F8 Sem CW}{x0:CW}{b e:Prop}{_:Decidable b}{_:Decidable e}{j k:CW->StateT F8 Sem α}{d:CW->F8->β}{n:Nat}{f:Nat->β->StateT F8 Sem (ForInStep β)}{g:β->StateT F8 Sem α}{Q:α->F8->Prop}{st:F8}
  (m:∀R:Unit->F8->Prop,R () st->wpS (model prog w) A E s (liftM h:StateT F8 Sem Unit) R st) (o:∀R:CW->F8->Prop,R x0 st->wpS (model prog w) A E s i R st) (h1:b->wpS (model prog w) A E s (j x0) Q st) (h2:¬b->e->wpS (model prog w) A E s (k x0) Q st)
  (p:¬b->¬e->wpS (model prog w) A E s (forIn [0:n] (d x0 st) f) (fun c a=>wpS (model prog w) A E s (g c) Q a) st) :
  wpS (model prog w) A E s ((liftM h:StateT F8 Sem Unit) >>= fun _=>i >>= fun x=>if b then j x else if e then k x else get >>= fun a=>forIn [0:n] (d x a) f >>= g) Q st :=
 wpS_bind (m _ (wpS_bind (o _ (Q7 h1 fun l=>Q7 (h2 l) fun q=>wpS_bind (wpS_get (wpS_bind (p l q)))))))
def MR(Z:KeyKind)(a b:A7 CW)(st:F8){β:Type}(c:A4 (A7 CW)×β)(d:F8):Prop:=Sm st d/\∃r,c.1=some r/\Rm Z a b r
theorem MR.mk{a b r:A7 CW}{st d:F8}{β:Type}{c:β}(e:Sm st d)(h:Rm Z a b r):MR Z a b st (some r,c) d:=⟨e,r,rfl,h⟩
structure RH(Z:KeyKind)(a b:A7 CW)(n:Nat)(o:A7 CW)(i j:Nat):Prop where
 m:ML Z a.toList b.toList o.toList i j
 hi:i+1<a.size
 hj:j<b.size
 hn:n<=i+j
theorem RH.putB{a b o c:A7 CW}{n i j:Nat}(h:RH Z a b n o i j)(m:ML Z a.toList b.toList c.toList i (j+1))(e:j+1≠b.size):RH Z a b (n+1) c i (j+1):=⟨m,h.hi,FB h.hj e,Nat.succ_le_succ h.hn⟩
theorem RH.putA{a b o c:A7 CW}{n i j:Nat}(h:RH Z a b n o i j)(m:ML Z a.toList b.toList c.toList (i+1) j)(e:i+1+1≠a.size):RH Z a b (n+1) c (i+1) j:=⟨m,FB h.hi e,h.hj,by rw[Nat.add_right_comm];exact Nat.succ_le_succ h.hn⟩
theorem RH.mono{a b o:A7 CW}{n c i j:Nat}(h:RH Z a b n o i j)(l:c<=n):RH Z a b c o i j:=⟨h.m,h.hi,h.hj,Nat.le_trans l h.hn⟩
def zHi(Z:KeyKind)(a b:A7 CW)(st:F8)(n:Nat)(c:A4 (A7 CW)×A7 CW×Nat×Nat×Nat)(d:F8):Prop:=Sm st d/\∃o i j e,c =(none,o,i,j,e)/\RH Z a b n o i j
def QQ(Z:KeyKind)(a b:A7 CW)(st:F8)(n:Nat)(c:A4 (A7 CW)×A7 CW×Nat×Nat×Nat×Nat)(d:F8):Prop:=Sm st d/\∃o i j e f,c =(none,o,i,j,e,f)/\RH Z a b n o i j
def RJ(Z:KeyKind)(a b:A7 CW)(st:F8)(n:Nat)(c:A4 (A7 CW)×A7 CW×Nat×Nat×Nat×Nat×Nat)(d:F8):Prop:=Sm st d/\∃o i j e f g,c =(none,o,i,j,e,f,g)/\RH Z a b n o i j
theorem QQ.mk{a b o:A7 CW}{st c:F8}{n i j d e:Nat}(f:Sm st c)(h:RH Z a b n o i j):QQ Z a b st n (none,o,i,j,d,e) c:=⟨f,_,_,_,_,_,rfl,h⟩
theorem RJ.mk{a b o:A7 CW}{st c:F8}{n i j d e f:Nat}(g:Sm st c)(h:RH Z a b n o i j):RJ Z a b st n (none,o,i,j,d,e,f) c:=⟨g,_,_,_,_,_,_,rfl,h⟩
theorem Hs(C:SC prog w A s Z kd){st:F8}{a b:A7 CW}{Q:A7 CW->F8->Prop}(hk:kindOf st=kd)(P:NX Z a b)
  (h:∀r d,Sm st d->Rm Z a b r->Q r d):wpS (model prog w) A E s (Dx a b) Q st:=by
 rw[Il];obtain⟨b0,O⟩:=V2 (a:=b) (i:=0) P.nb;have m0:ML Z a.toList b.toList (#[]:A7 CW).toList 0 0:=⟨by simp,List.Pairwise.nil,fun x hx=>absurd hx (by simp),fun x hx=>absurd hx (by simp)⟩;have m1:ML Z a.toList b.toList (#[b0]:A7 CW).toList 0 1:=by
  have:=P.pushB m0 O (by rw[FW];exact P.first b0 O);simpa using this
 apply Qm (x0:=b0) (fun R z=>wpS_lift (EF ⟨rfl,z⟩)) (fun R z=>E1 O z)
 case h1=>exact fun S=>wpS_pure (h _ _ (Sm.refl _) (P.doneB m1 (eq_of_beq S)))
 case h2=>exact fun _ T=>wpS_pure (h _ _ (Sm.refl _) (P.lastA m1 (eq_of_beq T)))
 intro S T;have p1:RH Z a b 1 #[b0] 0 1:=⟨m1,FB P.na fun z=>T (beq_iff_eq.mpr z),FB P.nb fun z=>S (beq_iff_eq.mpr z),Nat.le_refl _⟩;refine wpS_mono (wpS_forRange (I:=fun x=>zHi Z a b st (x+1)) (Q:=MR Z a b st) ?st ?en ⟨Sm.refl _,_,_,_,_,rfl,p1⟩) ?po
 case po =>
  rintro⟨c1,c2⟩ d ⟨sm,r,e,hr⟩;cases e;exact wpS_pure (h r d sm hr)
 case en =>
  rintro c d ⟨sm,o,i,j,mg,rfl,p⟩;obtain⟨_,h1,h2,h3⟩:=p;exfalso;lia
 case st =>
  rintro x c d _ hx ⟨sm,o,i,j,mg,rfl,p⟩;refine wpS_bind (wpS_mono (wpS_forRange (I:=fun _=>QQ Z a b st (x+1)) (Q:=fun c d=>MR Z a b st c d\/QQ Z a b st (x+1) c d) ?st1 ?en1 (QQ.mk sm p)) ?po1)
  case en1=>exact fun c st2 z=>.inr z
  case st1 =>
   rintro x2 c st2 _ _ ⟨f,o,i',j',ac,bc,rfl,N⟩;obtain⟨bj,l⟩:=V2 (a:=b) (i:=j') N.hj;obtain⟨ai,n⟩:=V2 (a:=a) (i:=i') (HA N.hi);refine wpS_bind (E1 l (wpS_bind (E1 n (wpS_bind (Fo C (f.knd hk) (P.kb _ _ l) (P.ka _ _ n) ?_)))));refine Q7 (fun U=>wpS_bind (E1 l ?_)) fun U=>wpS_bind (E1 n ?_)
   .have m3:=P.pushB N.m l fun z H=>JO (KeyOrd.kle_of_klt U) (Cv P.sa (I7.mp n) z H);refine K9 (fun G=>wpS_pure (.inl (MR.mk f (P.doneB m3 G)))) fun G=>?_;have D:=(N.putB m3 G).mono (D_ _);exact Q7 (fun _=>wpS_pure (.inr (QQ.mk f D))) fun _=>wpS_pure (QQ.mk f D)
   .have m3:=P.pushA N.m n fun z H=>JO (show le Z ai bj from BQ.mpr U) (Cv P.sb (I7.mp l) z H);refine K9 (fun G=>wpS_pure (.inl (MR.mk f (P.lastA m3 G)))) fun G=>?_;have D:=(N.putA m3 G).mono (D_ _);exact Q7 (fun _=>wpS_pure (.inr (QQ.mk f D))) fun _=>wpS_pure (QQ.mk f D)
  case po1 =>
   rintro⟨c1,c2⟩ st2 (⟨f,r,e,hr⟩ | ⟨f,o2,i2,j2,ac,bc,e,N⟩)
   .cases e;exact wpS_pure (MR.mk f hr)
   .cases e;refine wpS_bind (wpS_lift (EF ⟨rfl,?_⟩));refine wpS_bind (wpS_mono (wpS_forRange (I:=fun x3=>RJ Z a b st (x+1+x3)) (Q:=fun c d=>MR Z a b st c d\/RJ Z a b st (x+1+1) c d) ?st2 ?en2 (RJ.mk f N)) ?po2)
    case en2 =>
     rintro c st3 ⟨F,o',i',j',mg',ac,bc,rfl,D⟩;refine .inr (RJ.mk F (D.mono ?_));have:=P.na;lia
    case po2 =>
     rintro⟨c1,c2⟩ st3 (⟨F,r,e,hr⟩ | ⟨F,o',i',j',mg',ac,bc,e,D⟩)
     .cases e;exact wpS_pure (MR.mk F hr)
     .cases e;refine wpS_bind (T4 F fun st4 B=>?_);exact wpS_pure ⟨B,_,_,_,_,rfl,D⟩
    case st2 =>
     rintro x3 c st3 _ _ ⟨F,o3,V,j3,mg3,ac3,bc3,rfl,D⟩;obtain⟨bj,l⟩:=V2 (a:=b) (i:=j3) D.hj;have hi3:V +(a.size-V)<=a.size:=by rw[Nat.add_sub_cancel' (FD (HA D.hi))];exact Nat.le_refl _
     have hj3:=D.hj;apply Ru (mg3-1) (y:=mg3)
     case e=>exact rfl
     intro g;refine wpS_bind (T4 F fun st4 B=>?_);refine wpS_bind (E1 l (wpS_bind (i5 C (B.knd hk) (P.kb _ _ l) hi3 P.ka (fun u v p q W _ G Y=>n8 P.sa (GK W _) (I7.mp G) (I7.mp Y)) (Nat.sub_pos_of_lt (HA D.hi)) fun k hk1 k1 k2=>?_)));have m4:ML Z a.toList b.toList (o3++a.extract V (V+k)).toList (V+k) j3:=P.extA D.m fun y hy z H=>by
      obtain⟨t,X,e⟩:=Ci hy;exact JO (Dd (k1 t y X (I7.mpr e))) (Cv P.sb (I7.mp l) z H)
     have K:∀z∈a.toList.drop (V+k),le Z bj z:=fun z H=>by
      obtain⟨t,X,e⟩:=Jc H;rw[AW]at X;exact KeyOrd.kle_of_klt (Au (k2 (k+t) z (DX _ _) (by lia) (by rw[<-Nat.add_assoc];exact I7.mpr e)))
     apply Ed (o:=o3) (i:=V) (fun o i=>RH Z a b (x+1+x3) o i j3/\∀z∈a.toList.drop i,le Z bj z)
     .rintro o4 i4 ⟨p4,K⟩;refine wpS_bind (E1 l ?_);have m5:=P.pushB p4.m l K;refine K9 (fun e3=>wpS_pure (.inl (MR.mk B (P.doneB m5 e3)))) fun e3=>?_;have L:=p4.putB m5 e3;generalize o4.push bj=o5 at m5 L⊢;generalize j3+1=j5 at m5 L⊢;obtain⟨ai,n⟩:=V2 (a:=a) (i:=i4) (HA L.hi);refine wpS_bind (E1 n (wpS_bind (i5 C (B.knd hk) (P.ka _ _ n) (by rw[Nat.add_sub_cancel' (FD L.hj)];exact Nat.le_refl _) P.kb (fun u v p q W _ G Y=>n8 P.sb (GK W _) (I7.mp G) (I7.mp Y)) (Nat.sub_pos_of_lt L.hj) fun k' hk1' k1' k2'=>?_)));have M:∀z∈b.toList.drop (j5+k'),le Z ai z:=fun z H=>by
       obtain⟨t,X,e⟩:=Jc H;rw[AW]at X;exact Dj (k2' (k'+t) z (DX _ _) (by lia) (by rw[<-Nat.add_assoc];exact I7.mpr e))
      apply Ed (o:=o5) (i:=j5) (fun o j=>RH Z a b (x+1+x3+1) o i4 j/\∀z∈b.toList.drop j,le Z ai z)
      .rintro o6 j6 ⟨p6,M⟩;refine wpS_bind (E1 n ?_);have m7:=P.pushA p6.m n M;refine K9 (fun e5=>wpS_pure (.inl (MR.mk B (P.lastA m7 e5)))) fun e5=>?_;have p7:=p6.putA m7 e5;exact Q7 (fun _=>wpS_pure (.inr (RJ.mk B (p7.mono (by lia))))) fun _=>wpS_pure (RJ.mk B (p7.mono (by lia)))
      .intro hF J;have m6:ML Z a.toList b.toList (o5++b.extract j5 (j5+k')).toList i4 (j5+k'):=P.extB m5 fun y hy z H=>by
        obtain⟨t,X,e⟩:=Ci hy;exact JO (KeyOrd.kle_of_klt (Ix (k1' t y X (I7.mpr e)))) (Cv P.sa (I7.mp n) z H)
       have hj5:=L.hj;exact K9 (fun e4=>wpS_pure (.inl (MR.mk B (P.doneB m6 e4)))) fun e4=>hF _ _ ⟨⟨m6,L.hi,by lia,Nat.le_trans L.hn (by lia)⟩,M⟩
      .intro J;have z0:k'=0:=GR J;subst z0;exact⟨L,M⟩
     .intro hF J;have hi:=D.hi;exact K9 (fun G=>wpS_pure (.inl (MR.mk B (P.lastA m4 G)))) fun G=>K9 (fun Y=>wpS_pure (.inl (MR.mk B (P.doneA m4 Y)))) fun Y=>hF _ _ ⟨⟨m4,by lia,D.hj,Nat.le_trans D.hn (by lia)⟩,K⟩
     .intro J;have z0:k=0:=GR J;subst z0;exact⟨D,K⟩
end
section
variable{prog:A6}{w:F1}{A:IZ}{E:A1->A3->Prop}{s:A3}{Z:KeyKind}{kd:JQ}
def Du:A7 CW->A7 CW->StateT F8 Sem (A7 CW):=sortPriv% PySem.Builtin.mergeHi
theorem Jl(a b:A7 CW):Du a b =(do
  rule "list.sort.merge-hi"
  let f:=a.size+b.size
  let e (o:A7 CW) (i j:Nat):=a.extract 0 i++b.extract 0 j++o.reverse
  let l (o:A7 CW) (i j:Nat):=b.extract 0 j++a.extract 0 i++o.reverse
  let mut i:=a.size-1
  let mut j:=b.size
  let mut o:A7 CW:=#[<-elem' a i]
  if i == 0 then return e o i j
  if j == 1 then return l o i j
  let mut d:=gallopOf (<-get)
  for _ in [0:f] do
   let mut g:=0
   let mut h:=0
   for _ in [0:f] do
    let some m <-lt' (<-elem' b (j-1)) (<-elem' a (i-1)) | return e o i j
    if m then
     i:=i-1;o:=o.push (<-elem' a i);g:=g+1;h:=0
     if i == 0 then return e o i j
     if g ≥ d then break
    else
     j:=j-1;o:=o.push (<-elem' b j);h:=h+1;g:=0
     if j == 1 then return l o i j
     if h ≥ d then break
   rule "list.sort.gallop"
   d:=d+1
   for _ in [0:f] do
    if d>1 then d:=d-1
    Ai d
    let some c <-Q9 false (<-elem' b (j-1)) a 0 i (i-1) | return e o i j
    let k:=i-c
    g:=k
    if k>0 then
     o:=o ++(a.extract c i).reverse;i:=c
     if i == 0 then return e o i j
    j:=j-1;o:=o.push (<-elem' b j)
    if j == 1 then return l o i j
    let some c <-Q9 true (<-elem' a (i-1)) b 0 j (j-1) | return e o i j
    let k:=j-c
    h:=k
    if k>0 then
     o:=o ++(b.extract c j).reverse;j:=c
     if j == 1 then return l o i j
     if j == 0 then return e o i j
    i:=i-1;o:=o.push (<-elem' a i)
    if i == 0 then return e o i j
    if g<7&&h<7 then break
   d:=d+1
   Ai d
  unsupported "internal:list.sort.merge-bound"):=rfl
abbrev QG(Z:KeyKind)(a b o:A7 CW)(i j:Nat):Prop:=MH Z a.toList b.toList o.toList.reverse i j
section
variable{a b o:A7 CW}{i j k:Nat}{p q:CW}
theorem td1{l:A0 CW}{i:Nat}{p:CW}(hi:1<=i)(h:l[i-1]?=some p):(l.take i).drop (i-1) = [p]:=by
 rw[HD,show i-(i-1)=1 by lia];exact Sl h
theorem Jd(a:A7 CW)(k i:Nat):(a.extract k i).toList =(a.toList.take i).drop k:=by
 rw[FI,EZ,HD]
theorem Co{l:A0 CW}(h:LV Z l){i:Nat}{p:CW}(a:l[i-1]?=some p):∀z∈l.take i,le Z z p:=fun z b=>by
 obtain⟨t,c,_,e⟩:=Mh b;exact n8 h (by lia) e a
theorem NX.hpA(P:NX Z a b)(m:QG Z a b o i j)(hi:1<=i)(c:a[i-1]?=some p)(h:∀z∈b.toList.take j,le Z z p):QG Z a b (o.push p) (i-1) j:=by
 have d:=m.addA P.sa (i-1) (by lia) (by rw[td1 hi (I7.mp c)];intro y e;rw[AH.mp e];exact h);rw[td1 hi (I7.mp c)]at d;unfold QG;rw[DT,HP];exact d
theorem NX.hpB(P:NX Z a b)(m:QG Z a b o i j)(c:1<=j)(d:b[j-1]?=some q)(h:∀z∈a.toList.take i,le Z z q):QG Z a b (o.push q) i (j-1):=by
 have e:=m.addB P.sb (j-1) (by lia) (by rw[td1 c (I7.mp d)];intro y f;rw[AH.mp f];exact h);rw[td1 c (I7.mp d)]at e;unfold QG;rw[DT,HP];exact e
theorem NX.heA(P:NX Z a b)(m:QG Z a b o i j)(c:k<=i)(h:∀y∈(a.toList.take i).drop k,∀z∈b.toList.take j,le Z z y):QG Z a b (o ++(a.extract k i).reverse) k j:=by
 unfold QG;rw[BV,GF,HP,List.reverse_reverse,Jd];exact m.addA P.sa k c h
theorem NX.heB(P:NX Z a b)(m:QG Z a b o i j)(c:k<=j)(h:∀y∈(b.toList.take j).drop k,∀z∈a.toList.take i,le Z z y):QG Z a b (o ++(b.extract k j).reverse) i k:=by
 unfold QG;rw[BV,GF,HP,List.reverse_reverse,Jd];exact m.addB P.sb k c h
theorem NX.hdA(P:NX Z a b)(m:QG Z a b o i j)(hi:i=0):Rm Z a b (a.extract 0 i++b.extract 0 j++o.reverse):=by
 unfold Rm;rw[BV,BV,GF,i6,i6];refine m.endA P.sa P.sb fun y c z _=>?_;rw[hi,List.take_zero]at c;exact absurd c (by simp)
theorem NX.hdB(P:NX Z a b)(m:QG Z a b o i j)(d:j=0):Rm Z a b (a.extract 0 i++b.extract 0 j++o.reverse):=by
 unfold Rm;rw[BV,BV,GF,i6,i6];refine m.endA P.sa P.sb fun y _ z c=>?_;rw[d,List.take_zero]at c;exact absurd c (by simp)
theorem NX.hfB(P:NX Z a b)(m:QG Z a b o i j)(g:j=1):Rm Z a b (b.extract 0 j++a.extract 0 i++o.reverse):=by
 unfold Rm;rw[BV,BV,GF,i6,i6];refine m.endB P.sa P.sb fun y c z d=>?_;obtain⟨t,h,_,e⟩:=Mh c;have f:t=0:=by lia
 rw[f]at e;exact P.first y (I7.mpr e) z (CJ d)
end
structure QF(Z:KeyKind)(a b:A7 CW)(n:Nat)(o:A7 CW)(i j:Nat):Prop where
 m:QG Z a b o i j
 hi:1<=i
 hj:2<=j
 ia:i<=a.size
 jb:j<=b.size
 hn:n+i+j<=a.size+b.size
theorem QF.putA{a b o c:A7 CW}{n i j:Nat}(h:QF Z a b n o i j)(m:QG Z a b c (i-1) j)(e:i-1≠0):QF Z a b (n+1) c (i-1) j:=by
 obtain⟨_,g,d,k,f,l⟩:=h;exact⟨m,by lia,d,by lia,f,by lia⟩
theorem QF.putB{a b o c:A7 CW}{n i j:Nat}(h:QF Z a b n o i j)(m:QG Z a b c i (j-1))(e:j-1≠1):QF Z a b (n+1) c i (j-1):=by
 obtain⟨_,d,g,f,k,l⟩:=h;exact⟨m,d,by lia,f,by lia,by lia⟩
theorem QF.mono{a b o:A7 CW}{n c i j:Nat}(h:QF Z a b n o i j)(l:c<=n):QF Z a b c o i j:=⟨h.m,h.hi,h.hj,h.ia,h.jb,Nat.le_trans (Nat.add_le_add_right (Nat.add_le_add_right l _) _) h.hn⟩
theorem QF.la{a b o:A7 CW}{n i j:Nat}(h:QF Z a b n o i j):i-1<a.size:=BF (Nat.sub_lt h.hi (H_)) h.ia
theorem QF.lb{a b o:A7 CW}{n i j:Nat}(h:QF Z a b n o i j):j-1<b.size:=BF (Nat.sub_lt (HA h.hj) (H_)) h.jb
theorem QF.hj1{a b o:A7 CW}{n i j:Nat}(h:QF Z a b n o i j):1<=j:=EQ h.hj
def zHo(Z:KeyKind)(a b:A7 CW)(st:F8)(n:Nat)(c:A4 (A7 CW)×Nat×Nat×A7 CW×Nat)(d:F8):Prop:=Sm st d/\∃i j o e,c =(none,i,j,o,e)/\QF Z a b n o i j
def QR(Z:KeyKind)(a b:A7 CW)(st:F8)(n:Nat)(c:A4 (A7 CW)×Nat×Nat×A7 CW×Nat×Nat)(d:F8):Prop:=Sm st d/\∃i j o e f,c =(none,i,j,o,e,f)/\QF Z a b n o i j
def RK(Z:KeyKind)(a b:A7 CW)(st:F8)(n:Nat)(c:A4 (A7 CW)×Nat×Nat×A7 CW×Nat×Nat×Nat)(d:F8):Prop:=Sm st d/\∃i j o e f g,c =(none,i,j,o,e,f,g)/\QF Z a b n o i j
theorem QR.mk{a b o:A7 CW}{st c:F8}{n i j d e:Nat}(f:Sm st c)(h:QF Z a b n o i j):QR Z a b st n (none,i,j,o,d,e) c:=⟨f,_,_,_,_,_,rfl,h⟩
theorem RK.mk{a b o:A7 CW}{st c:F8}{n i j d e f:Nat}(g:Sm st c)(h:QF Z a b n o i j):RK Z a b st n (none,i,j,o,d,e,f) c:=⟨g,_,_,_,_,_,_,rfl,h⟩
theorem Ib(C:SC prog w A s Z kd){st:F8}{a b:A7 CW}{Q:A7 CW->F8->Prop}(hk:kindOf st=kd)(P:NX Z a b)
  (h:∀r f,Sm st f->Rm Z a b r->Q r f):wpS (model prog w) A E s (Du a b) Q st:=by
 rw[Jl];have hna:=P.na;have hnb:=P.nb;obtain⟨b0,U⟩:=V2 (a:=a) (i:=a.size-1) (Nat.sub_lt hna H_);have m0:QG Z a b (#[]:A7 CW) a.size b.size:=⟨by simp,List.Pairwise.nil,fun x hx=>absurd hx (by simp),fun x hx=>absurd hx (by simp)⟩;have m1:QG Z a b (#[b0]:A7 CW) (a.size-1) b.size:=by
  have:=P.hpA m0 hna U (fun z J=>P.last b0 U z (CJ J));simpa using this
 apply Qm (x0:=b0) (fun R z=>wpS_lift (EF ⟨rfl,z⟩)) (fun R z=>E1 U z)
 case h1=>exact fun N=>wpS_pure (h _ _ (Sm.refl _) (P.hdA m1 (eq_of_beq N)))
 case h2=>exact fun _ O=>wpS_pure (h _ _ (Sm.refl _) (P.hfB m1 (eq_of_beq O)))
 intro N O;have N:¬a.size-1=0:=fun z=>N (beq_iff_eq.mpr z);have O:¬b.size=1:=fun z=>O (beq_iff_eq.mpr z);have p1:QF Z a b 1 #[b0] (a.size-1) b.size:=⟨m1,by lia,by lia,by lia,by lia,by lia⟩;refine wpS_mono (wpS_forRange (I:=fun x=>zHo Z a b st (x+1)) (Q:=MR Z a b st) ?st ?en ⟨Sm.refl _,_,_,_,_,rfl,p1⟩) ?po
 case po =>
  rintro⟨c1,c2⟩ f ⟨sm,r,e,hr⟩;cases e;exact wpS_pure (h r f sm hr)
 case en =>
  rintro c f ⟨sm,i,j,o,mg,rfl,p⟩;obtain⟨_,h1,h2,_,_,h3⟩:=p;exfalso;lia
 case st =>
  rintro x c f _ hx ⟨sm,i,j,o,mg,rfl,p⟩;refine wpS_bind (wpS_mono (wpS_forRange (I:=fun _=>QR Z a b st (x+1)) (Q:=fun c f=>MR Z a b st c f\/QR Z a b st (x+1) c f) ?st1 ?en1 (QR.mk sm p)) ?po1)
  case en1=>exact fun c st2 z=>.inr z
  case st1 =>
   rintro x2 c st2 _ _ ⟨l,i',j',o,ac,bc,rfl,M⟩;obtain⟨bj,n⟩:=V2 (a:=b) (i:=j' - 1) M.lb;obtain⟨ai,B⟩:=V2 (a:=a) (i:=i' - 1) M.la;refine wpS_bind (E1 n (wpS_bind (E1 B (wpS_bind (Fo C (l.knd hk) (P.kb _ _ n) (P.ka _ _ B) ?_)))));refine Q7 (fun V=>wpS_bind (E1 B ?_)) fun V=>wpS_bind (E1 n ?_)
   .have m3:=P.hpA M.m M.hi B fun z J=>JO (Co P.sb (I7.mp n) z J) (KeyOrd.kle_of_klt V);refine K9 (fun H=>wpS_pure (.inl (MR.mk l (P.hdA m3 H)))) fun H=>?_;have F:=(M.putA m3 H).mono (D_ _);exact Q7 (fun _=>wpS_pure (.inr (QR.mk l F))) fun _=>wpS_pure (QR.mk l F)
   .have m3:=P.hpB M.m M.hj1 n fun z J=>JO (Co P.sa (I7.mp B) z J) (show le Z ai bj from BQ.mpr V);refine K9 (fun H=>wpS_pure (.inl (MR.mk l (P.hfB m3 H)))) fun H=>?_;have F:=(M.putB m3 H).mono (D_ _);exact Q7 (fun _=>wpS_pure (.inr (QR.mk l F))) fun _=>wpS_pure (QR.mk l F)
  case po1 =>
   rintro⟨c1,c2⟩ st2 (⟨l,r,e,hr⟩ | ⟨l,i2,j2,o2,ac,bc,e,M⟩)
   .cases e;exact wpS_pure (MR.mk l hr)
   .cases e;refine wpS_bind (wpS_lift (EF ⟨rfl,?_⟩));refine wpS_bind (wpS_mono (wpS_forRange (I:=fun x3=>RK Z a b st (x+1+x3)) (Q:=fun c f=>MR Z a b st c f\/RK Z a b st (x+1+1) c f) ?st2 ?en2 (RK.mk l M)) ?po2)
    case en2 =>
     rintro c st3 ⟨G,i',j',o',mg',ac,bc,rfl,F⟩;exact .inr (RK.mk G (F.mono (by lia)))
    case po2 =>
     rintro⟨c1,c2⟩ st3 (⟨G,r,e,hr⟩ | ⟨G,i',j',o',mg',ac,bc,e,F⟩)
     .cases e;exact wpS_pure (MR.mk G hr)
     .cases e;refine wpS_bind (T4 G fun st4 D=>?_);exact wpS_pure ⟨D,_,_,_,_,rfl,F⟩
    case st2 =>
     rintro x3 c st3 _ _ ⟨G,i3,j3,o3,mg3,ac3,bc3,rfl,F⟩;obtain⟨bj,n⟩:=V2 (a:=b) (i:=j3-1) F.lb;apply Ru (mg3-1) (y:=mg3)
     case e=>exact rfl
     intro g;refine wpS_bind (T4 G fun st4 D=>?_);refine wpS_bind (E1 n (wpS_bind (i5 C (D.knd hk) (P.kb _ _ n) (by rw[ER];exact F.ia) P.ka (fun u v p q W _ H e2=>n8 P.sa (GK W _) (I7.mp H) (I7.mp e2)) (Nat.sub_lt F.hi H_) fun k X k1 k2=>?_)));dsimp only;have m4:QG Z a b (o3 ++(a.extract k i3).reverse) k j3:=P.heA F.m X fun y hy z J=>by
      obtain⟨t,Y,ht2,e⟩:=Wr hy;exact JO (Co P.sb (I7.mp n) z J) (KeyOrd.kle_of_klt (Au (k2 t y Y ht2 (by rw[ER];exact I7.mpr e))))
     have S:∀z∈a.toList.take k,le Z z bj:=fun z J=>by
      obtain⟨t,ht,_,e⟩:=Mh J;exact Dd (k1 t z ht (by rw[ER];exact I7.mpr e))
     generalize hd:i3-k=d;apply Ed (o:=o3) (i:=i3) (fun o i=>QF Z a b (x+1+x3) o i j3/\∀z∈a.toList.take i,le Z z bj)
     .rintro o4 i4 ⟨p4,S⟩;refine wpS_bind (E1 n ?_);have m5:=P.hpB p4.m p4.hj1 n S;refine K9 (fun e3=>wpS_pure (.inl (MR.mk D (P.hfB m5 e3)))) fun e3=>?_;have p5:=p4.putB m5 e3;generalize o4.push bj=o5 at m5 p5⊢;generalize j3-1=j5 at m5 p5⊢;obtain⟨ai,B⟩:=V2 (a:=a) (i:=i4-1) p5.la;refine wpS_bind (E1 B (wpS_bind (i5 C (D.knd hk) (P.ka _ _ B) (by rw[ER];exact p5.jb) P.kb (fun u v p q W _ H e2=>n8 P.sb (GK W _) (I7.mp H) (I7.mp e2)) (Nat.sub_lt p5.hj1 H_) fun k' K k1' k2'=>?_)));dsimp only;have T:∀z∈b.toList.take k',le Z z ai:=fun z J=>by
       obtain⟨t,ht,_,e⟩:=Mh J;exact KeyOrd.kle_of_klt (Ix (k1' t z ht (by rw[ER];exact I7.mpr e)))
      generalize hd':j5-k'=d';apply Ed (o:=o5) (i:=j5) (fun o j=>QF Z a b (x+1+x3+1) o i4 j/\∀z∈b.toList.take j,le Z z ai)
      .rintro o6 j6 ⟨p6,T⟩;refine wpS_bind (E1 B ?_);have m7:=P.hpA p6.m p6.hi B T;refine K9 (fun e5=>wpS_pure (.inl (MR.mk D (P.hdA m7 e5)))) fun e5=>?_;have p7:=p6.putA m7 e5;exact Q7 (fun _=>wpS_pure (.inr (RK.mk D (p7.mono (by lia))))) fun _=>wpS_pure (RK.mk D (p7.mono (by lia)))
      .intro hF L;have m6:QG Z a b (o5 ++(b.extract k' j5).reverse) i4 k':=P.heB m5 K fun y hy z J=>by
        obtain⟨t,Y,ht2,e⟩:=Wr hy;exact JO (Co P.sa (I7.mp B) z J) (Dj (k2' t y Y ht2 (by rw[ER];exact I7.mpr e)))
       obtain⟨_,h1,h2,h3,h4,h5⟩:=p5;exact K9 (fun e4=>wpS_pure (.inl (MR.mk D (P.hfB m6 e4)))) fun e4=>K9 (fun e5=>wpS_pure (.inl (MR.mk D (P.hdB m6 e5)))) fun e5=>hF _ _ ⟨⟨m6,h1,by lia,h3,Nat.le_trans K h4,by lia⟩,T⟩
      .intro L;have z0:k'=j5:=Nat.le_antisymm K (Nat.le_of_sub_eq_zero (hd'.trans (GR L)));subst z0;exact⟨p5,T⟩
     .intro hF L;obtain⟨_,h1,h2,h3,h4,h5⟩:=F;exact K9 (fun H=>wpS_pure (.inl (MR.mk D (P.hdA m4 H)))) fun H=>hF _ _ ⟨⟨m4,by lia,h2,Nat.le_trans X h3,h4,by lia⟩,S⟩
     .intro L;have z0:k=i3:=Nat.le_antisymm X (Nat.le_of_sub_eq_zero (hd.trans (GR L)));subst z0;exact⟨F,S⟩
end
section
variable{prog:A6}{w:F1}{A:IZ}{E:A1->A3->Prop}{s:A3}{Z:KeyKind}{kd:JQ}
def KI(l:A0 CW)(lo n:Nat):A0 CW:=(l.drop lo).take n
theorem Ow(m:A0 CW)(lo:Nat):∀(n:Nat) (a:A7 CW),lo+n+m.length<=a.size ->
  ((m.zipIdx n).foldl (fun a (x:CW×Nat)=>a.setIfInBounds (lo+x.2) x.1) a).size=a.size /\
  ∀t:Nat,((m.zipIdx n).foldl (fun a (x:CW×Nat)=>a.setIfInBounds (lo+x.2) x.1) a)[t]?=if lo+n<=t/\t<lo+n+m.length then m[t-(lo+n)]? else a[t]?:=by
 induction m with
 | nil =>
  intro n a h;refine⟨rfl,fun t=>?_⟩;rw[AO (by simp only[IA];omega)];rfl
 | cons p m d =>
  intro n a h;rw[BS]at h;rw[List.zipIdx_cons,List.foldl_cons];obtain⟨e,f⟩:=d (n+1) (a.setIfInBounds (lo+n) p) (by rw[HR];omega);refine⟨e.trans HR,fun t=>?_⟩;rw[f t,BS];by_cases b:lo+n=t
  .subst b;rw[AO (by omega),AU (by omega),Array.getElem?_setIfInBounds_self_of_lt (by omega),Nat.sub_self];rfl
  .by_cases c:lo +(n+1)<=t/\t<lo +(n+1)+m.length
   .rw[AU c,AU (by omega),show t-(lo+n) =(t-(lo +(n+1)))+1 by omega,List.getElem?_cons_succ]
   .rw[AO c,AO (by omega),Array.getElem?_setIfInBounds_ne b]
theorem Bm(m:A0 CW)(lo:Nat)(a:A7 CW)(h:lo+m.length<=a.size) :
  (m.zipIdx.foldl (fun a (x:CW×Nat)=>a.setIfInBounds (lo+x.2) x.1) a).toList=a.toList.take lo++m++a.toList.drop (lo+m.length):=by
 obtain⟨e,c⟩:=Ow m lo 0 a (by omega);refine FN fun t=>?_;rw[BT,c t];have b:(a.toList.take lo).length=lo:=by rw[AR,AW];omega
 by_cases d:t<lo
 .rw[AO (by omega),BM,HM (by omega),DW d,BT]
 .by_cases f:t<lo+m.length
  .rw[AU (by omega),HM (by rw[BJ];omega),HE (by omega),b];rfl
  .rw[AO (by omega),HE (by rw[BJ];omega),BJ,b,GS,BT];congr 1;omega
theorem Qp(l:A0 CW)(lo n:Nat):l=l.take lo++KI l lo n++l.drop (lo+n):=by
 unfold KI;rw[BM,<-FV,BW,BW]
theorem Jk(l:A0 CW)(lo n m:Nat):KI l lo (n+m)=KI l lo n++KI l (lo+n) m:=by
 unfold KI;rw[List.take_add,FV]
structure MC(Z:KeyKind)(l l':A0 CW)(lo n:Nat):Prop where
 perm:l'.Perm l
 front:l'.take lo=l.take lo
 back:l'.drop (lo+n)=l.drop (lo+n)
theorem MC.refl(l:A0 CW)(lo n:Nat):MC Z l l lo n:=⟨GM _,rfl,rfl⟩
theorem MC.seg_front{l a:A0 CW}{lo n:Nat}(h:MC Z l a lo n){u m:Nat}(b:u+m<=lo):KI a u m=KI l u m:=by
 have:∀x:A0 CW,KI x u m =((x.take lo).drop u).take m:=fun x=>by
  unfold KI;rw[HD,List.take_take,EL (by omega)]
 rw[this,this,h.front]
theorem MC.seg_back{l a:A0 CW}{lo n:Nat}(h:MC Z l a lo n){u m:Nat}(b:lo+n<=u):KI a u m=KI l u m:=by
 have:∀x:A0 CW,KI x u m =((x.drop (lo+n)).drop (u-(lo+n))).take m:=fun x=>by
  unfold KI;rw[FV,show lo+n +(u-(lo+n))=u by omega]
 rw[this,this,h.back]
theorem MC.of{l z:A0 CW}{lo n:Nat}(a:z.Perm (KI l lo n))(d:lo+n<=l.length):MC Z l (l.take lo++z++l.drop (lo+n)) lo n/\KI (l.take lo++z++l.drop (lo+n)) lo n=z:=by
 have b:(l.take lo).length=lo:=by rw[AR];omega
 have c:z.length=n:=by
  rw[a.length_eq];unfold KI;rw[AR,DF];omega
 refine⟨⟨?_,?_,?_⟩,?_⟩
 .conv=>rhs;rw[Qp l lo n]
  exact EH _ (EB _ a)
 .rw[BM,List.take_append_of_le_length (by omega),CY (by omega)]
 .rw[List.drop_append,FR (by rw[BJ];omega),List.nil_append,BJ,b,c,Nat.sub_self,FW]
 .unfold KI;rw[BM,List.drop_append,FR (by omega),List.nil_append,b,Nat.sub_self,FW,List.take_append_of_le_length (by omega),CY (by omega)]
structure St(Z:KeyKind)(kd:JQ)(a₀:A7 CW)(st:F8):Prop where
 perm:(arrOf st).toList.Perm a₀.toList
 kind:kindOf st=kd
 failed:failedOf st=none
theorem St.size{a₀:A7 CW}{st:F8}(h:St Z kd a₀ st):(arrOf st).size=a₀.size:=by
 have:=h.perm.length_eq;simpa using this
theorem St.has{a₀:A7 CW}{st:F8}(h:St Z kd a₀ st)(b:KeysOf Z a₀)(i:Nat)(p:CW)(e:(arrOf st)[i]?=some p):SU Z p :=
 b p (h.perm.mem_iff.mp (AM (I7.mp e)))
theorem O0{l:A0 CW}{lo n t:Nat}(a:t<n):(KI l lo n)[t]?=l[lo+t]?:=by
 unfold KI;rw[DW a,GS]
theorem Ji(i:Nat):mergeAt' i =(do
  let u <-get
  let(some (b,c,f),some (e,d,_)):=((pendingOf u)[i]?,(pendingOf u)[i+1]?) | unsupported "internal:list.sort.pending"
  set (setPending u (((pendingOf u).setIfInBounds i (b,c+d,f)).eraseIdxIfInBounds (i+1)))
  let some k <-Q9 false (<-elem' (arrOf u) e) (arrOf u) b c 0 | return false
  let(b,c):=(b+k,c-k)
  if c == 0 then return true
  let some d <-Q9 true (<-elem' (arrOf u) (b+c-1)) (arrOf u) e d (d-1) | return false
  if d == 0 then return true
  let x:=(arrOf u).extract b e
  let y:=(arrOf u).extract e (e+d)
  let g <-if c<=d then Dx x y else Du x y
  modify fun v=>setArr v (g.toList.zipIdx.foldl (fun a (z:CW×Nat)=>a.setIfInBounds (b+z.2) z.1) (arrOf v))
  return(failedOf (<-get)).isNone):=rfl
theorem Xx{st st2:F8}{Q:PUnit->F8->Prop}(h:Q ⟨⟩ st2):wpS (model prog w) A E s (set st2:StateT F8 Sem PUnit) Q st:=by
 unfold wpS;rw[StateT.run_set];exact AE ⟨rfl,h⟩
theorem Ho(C:SC prog w A s Z kd){a₀:A7 CW}(L:KeysOf Z a₀){st:F8}{i b c pw sb f pw2:Nat}{Q:Bool->F8->Prop}(j:St Z kd a₀ st)
  (hi:(pendingOf st)[i]?=some (b,c,pw)) (hj:(pendingOf st)[i+1]?=some (sb,f,pw2)) (hsb:sb=b+c) (hsz:sb+f<=a₀.size) (hna:1<=c) (hnb:1<=f)
  (N:LV Z (KI (arrOf st).toList b c)) (O:LV Z (KI (arrOf st).toList sb f))
  (h:∀n,St Z kd a₀ n->MC Z (arrOf st).toList (arrOf n).toList b (c+f)->LV Z (KI (arrOf n).toList b (c+f)) ->
   pendingOf n =((pendingOf st).setIfInBounds i (b,c+f,pw)).eraseIdxIfInBounds (i+1)->Q true n):wpS (model prog w) A E s (mergeAt' i) Q st:=by
 subst hsb;have hL:(arrOf st).toList.length=a₀.size:=by rw[AW];exact j.size
 have hsz':=j.size;rw[Ji];refine wpS_bind (wpS_get ?_);rw[hi,hj];dsimp only;refine wpS_bind (Xx ?_);obtain⟨R,D⟩:=V2 (a:=arrOf st) (i:=b+c) (by omega);have S:∀u v p q,u<=v->v<c->(arrOf st)[b+u]?=some p->(arrOf st)[b+v]?=some q->le Z p q:=fun u v p q H hv T F =>
  n8 N H (by rw[O0 (by omega)];exact I7.mp T) (by rw[O0 hv];exact I7.mp F)
 have U:∀u v p q,u<=v->v<f->(arrOf st)[b+c+u]?=some p->(arrOf st)[b+c+v]?=some q->le Z p q:=fun u v p q H hv T F =>
  n8 O H (by rw[O0 (by omega)];exact I7.mp T) (by rw[O0 hv];exact I7.mp F)
 refine wpS_bind (E1 D (wpS_bind (i5 C j.kind (j.has L _ _ D) (by omega) (j.has L) S (by omega) fun k hk1 k1 k2=>?_)));dsimp only;have V:∀z∈KI (arrOf st).toList (b+c) f,le Z R z:=fun z I=>by
  obtain⟨t,l,e⟩:=Ci I;exact U 0 t R z (by omega) l D (I7.mpr e)
 have xk:∀x∈(KI (arrOf st).toList b c).take k,le Z x R:=fun x hx=>by
  obtain⟨t,l,o,e⟩:=Mh hx;unfold KI at o;rw[AR]at o;rw[O0 (by omega)]at e;exact Dd (k1 t x l (I7.mpr e))
 have kx:∀x∈(KI (arrOf st).toList b c).drop k,le Z R x:=fun x hx=>by
  obtain⟨t,l,e⟩:=Jc hx;unfold KI at l;rw[AR]at l;rw[O0 (by omega)]at e;exact KeyOrd.kle_of_klt (Au (k2 (k+t) x (by omega) (by omega) (I7.mpr e)))
 have W:St Z kd a₀ (setPending st (((pendingOf st).setIfInBounds i (b,c+f,pw)).eraseIdxIfInBounds (i+1))):=⟨j.perm,j.kind,j.failed⟩;by_cases X:c-k=0
 .rw[AU (by simpa using X)];have hkk:k=c:=by omega
  refine wpS_pure (h _ W (MC.refl _ _ _) ?_ rfl);show LV Z (KI (arrOf st).toList b (c+f));rw[Jk];refine DB.mpr ⟨N,O,fun x hx y hy=>JO (xk x ?_) (V y hy)⟩;rw[CY (by unfold KI;rw[AR];omega)];exact hx
 rw[AO (by simpa using X)];obtain⟨M,J⟩:=V2 (a:=arrOf st) (i:=b+k +(c-k)-1) (by omega);refine wpS_bind (E1 J (wpS_bind (i5 C W.kind (j.has L _ _ J) (by omega) (j.has L) U (by omega) fun g Y k1' k2'=>?_)));dsimp only;have G:(arrOf st)[b +(c-1)]?=some M:=by rw[show b +(c-1)=b+k +(c-k)-1 by omega];exact J
 have K:∀x∈KI (arrOf st).toList b c,le Z x M:=fun x hx=>by
  obtain⟨t,l,e⟩:=Ci hx;exact S t (c-1) x M (by omega) (by omega) (I7.mpr e) G
 have yk:∀y∈(KI (arrOf st).toList (b+c) f).take g,le Z y M:=fun y hy=>by
  obtain⟨t,l,o,e⟩:=Mh hy;unfold KI at o;rw[AR]at o;rw[O0 (by omega)]at e;exact KeyOrd.kle_of_klt (Ix (k1' t y l (I7.mpr e)))
 have ky:∀y∈(KI (arrOf st).toList (b+c) f).drop g,le Z M y:=fun y hy=>by
  obtain⟨t,l,e⟩:=Jc hy;unfold KI at l;rw[AR]at l;rw[O0 (by omega)]at e;exact Dj (k2' (g+t) y (by omega) (by omega) (I7.mpr e))
 by_cases B:g=0
 .rw[AU (by simpa using B)];refine wpS_pure (h _ W (MC.refl _ _ _) ?_ rfl);show LV Z (KI (arrOf st).toList b (c+f));rw[Jk];refine DB.mpr ⟨N,O,fun x hx y hy=>JO (K x hx) (ky y ?_)⟩;rw[B,FW];exact hy
 rw[AO (by simpa using B)];have ex:((arrOf st).extract (b+k) (b+c)).toList =(KI (arrOf st).toList b c).drop k:=by
  rw[Jd];unfold KI;rw[HD,HD,FV];congr 1;omega
 have ey:((arrOf st).extract (b+c) (b+c+g)).toList =(KI (arrOf st).toList (b+c) f).take g:=by
  rw[Cw];unfold KI;rw[List.take_take,EL Y]
 have P:NX Z ((arrOf st).extract (b+k) (b+c)) ((arrOf st).extract (b+c) (b+c+g)):=by
  refine⟨by rw[ex];exact N.sublist (GC _ _),by rw[ey];exact O.sublist (FM _ _),fun t p e=>?_,fun t p e=>?_,?_,?_,fun q e z I=>?_,fun p e z I=>?_⟩
  .have m:=AM (I7.mp e);rw[ex]at m;obtain⟨u,_,F⟩:=Ci (EE m);exact j.has L _ p (I7.mpr F)
  .have m:=AM (I7.mp e);rw[ey]at m;obtain⟨u,_,F⟩:=Ci (CJ m);exact j.has L _ p (I7.mpr F)
  .rw[GT];omega
  .rw[GT];omega
  .have m:=I7.mp e;rw[ey,DW (by omega),O0 (by omega)]at m;have:q=R:=by
    have:=I7.mp D;rw[Nat.add_zero,this]at m;exact(BA m).symm
   subst this;rw[ex]at I;exact kx z I
  .have m:=I7.mp e;rw[ex,GT,GS,O0 (by omega)]at m;have:p=M:=by
    have q:=I7.mp G;rw[show k +(min (b+c) (arrOf st).size-(b+k)-1)=c-1 by omega,q]at m;exact(BA m).symm
   subst this;rw[ey]at I;exact yk z I
 have fin:∀(r:A7 CW) (d:F8),Sm (setPending st (((pendingOf st).setIfInBounds i (b,c+f,pw)).eraseIdxIfInBounds (i+1))) d->Rm Z ((arrOf st).extract (b+k) (b+c)) ((arrOf st).extract (b+c) (b+c+g)) r ->
   Q (failedOf (setArr d (r.toList.zipIdx.foldl (fun a (z:CW×Nat)=>a.setIfInBounds (b+k+z.2) z.1) (arrOf d)))).isNone (setArr d (r.toList.zipIdx.foldl (fun a (z:CW×Nat)=>a.setIfInBounds (b+k+z.2) z.1) (arrOf d))):=by
  rintro r d ⟨q1,q2,q3,q4⟩ ⟨r1,r2⟩;rw[ex,ey]at r2;have hrl:r.toList.length =(c-k)+g:=by
   rw[r2.length_eq,BJ];unfold KI;rw[DF,AR,AR,DF,AR,DF];omega
  have q2':arrOf d=arrOf st:=q2;have ef:failedOf (setArr d (r.toList.zipIdx.foldl (fun a (z:CW×Nat)=>a.setIfInBounds (b+k+z.2) z.1) (arrOf d)))=none:=q4.trans j.failed;rw[ef];have el:=Bm r.toList (b+k) (arrOf d) (by rw[q2'];omega);have eq:(r.toList.zipIdx.foldl (fun a (z:CW×Nat)=>a.setIfInBounds (b+k+z.2) z.1) (arrOf d)).toList =(arrOf st).toList.take b ++((KI (arrOf st).toList b c).take k++r.toList ++(KI (arrOf st).toList (b+c) f).drop g) ++(arrOf st).toList.drop (b +(c+f)):=by
   rw[el,q2',hrl];have T:(arrOf st).toList.take (b+k) =(arrOf st).toList.take b ++(KI (arrOf st).toList b c).take k:=by
    unfold KI;rw[List.take_add,List.take_take,EL hk1]
   have F:(arrOf st).toList.drop (b+k +(c-k+g)) =(KI (arrOf st).toList (b+c) f).drop g ++(arrOf st).toList.drop (b +(c+f)):=by
    unfold KI;rw[HD,FV,show b+k +(c-k+g)=b+c+g by omega]
    conv=>lhs;rw[<-BW (f-g) ((arrOf st).toList.drop (b+c+g))]
    rw[FV,show b+c+g +(f-g)=b +(c+f) by omega]
   rw[T,F];simp only[BM]
  have hp:((KI (arrOf st).toList b c).take k++r.toList ++(KI (arrOf st).toList (b+c) f).drop g).Perm (KI (arrOf st).toList b (c+f)):=by
   rw[Jk];have a1:((KI (arrOf st).toList b c).take k++r.toList ++(KI (arrOf st).toList (b+c) f).drop g).Perm ((KI (arrOf st).toList b c).take k ++((KI (arrOf st).toList b c).drop k ++(KI (arrOf st).toList (b+c) f).take g) ++(KI (arrOf st).toList (b+c) f).drop g) :=
    EH _ (EB _ r2)
   refine a1.trans (IB ?_);rw[<-BM,BW,BM,BW]
  obtain⟨pa,ps⟩:=MC.of (Z:=Z) hp (by rw[hL];omega);have hs:LV Z ((KI (arrOf st).toList b c).take k++r.toList ++(KI (arrOf st).toList (b+c) f).drop g):=by
   refine DB.mpr ⟨DB.mpr ⟨N.sublist (FM _ _),r1,fun x hx y hy=>?_⟩,O.sublist (GC _ _),fun x hx y hy=>?_⟩
   .rcases AS.mp (r2.mem_iff.mp hy)with hy | hy
    .exact JO (xk x hx) (kx y hy)
    .exact JO (xk x hx) (V y (CJ hy))
   .rcases AS.mp hx with hx | hx
    .exact JO (K x (CJ hx)) (ky y hy)
    .rcases AS.mp (r2.mem_iff.mp hx)with hx | hx
     .exact JO (K x (EE hx)) (ky y hy)
     .exact JO (yk x hx) (ky y hy)
  refine h _ ⟨?_,q1.trans j.kind,q4.trans j.failed⟩ ?_ ?_ q3
  .show(r.toList.zipIdx.foldl (fun a (z:CW×Nat)=>a.setIfInBounds (b+k+z.2) z.1) (arrOf d)).toList.Perm a₀.toList;rw[eq];exact pa.perm.trans j.perm
  .show MC Z (arrOf st).toList (r.toList.zipIdx.foldl (fun a (z:CW×Nat)=>a.setIfInBounds (b+k+z.2) z.1) (arrOf d)).toList b (c+f);rw[eq];exact pa
  .show LV Z (KI (r.toList.zipIdx.foldl (fun a (z:CW×Nat)=>a.setIfInBounds (b+k+z.2) z.1) (arrOf d)).toList b (c+f));rw[eq,ps];exact hs
 by_cases hab:c-k<=g
 .rw[AU hab];refine wpS_bind (Hs C W.kind P fun r d q r1=>?_);exact wpS_bind (wpS_modify (wpS_bind (wpS_get (wpS_pure (fin r d q r1)))))
 .rw[AO hab];refine wpS_bind (Ib C W.kind P fun r d q r1=>?_);exact wpS_bind (wpS_modify (wpS_bind (wpS_get (wpS_pure (fin r d q r1)))))
end
section
variable{prog:A6}{w:F1}{A:IZ}{E:A1->A3->Prop}{s:A3}{Z:KeyKind}{kd:JQ}{a₀:A7 CW}
theorem Vq{xs:A7 CW}{i:Nat}{p:CW}(h:xs[i]?=some p):KK Z xs i=kk Z p:=by unfold KK kk;rw[h]
def SI(Z:KeyKind)(xs:A7 CW)(lo m:Nat):Prop:=∀i j,i<=j->j<m->Z.kle (KK Z xs (lo+i)) (KK Z xs (lo+j))
def NI(Z:KeyKind)(xs:A7 CW)(lo m:Nat):Prop:=∀i j,i<=j->j<m->Z.kle (KK Z xs (lo+j)) (KK Z xs (lo+i))
theorem SI.sor{xs:A7 CW}{lo m:Nat}(h:SI Z xs lo m):LV Z (KI xs.toList lo m):=by
 refine List.pairwise_iff_getElem.mpr fun i j a b c=>?_;unfold KI at a b;rw[AR]at a b;have d:xs[lo+i]?=some (KI xs.toList lo m)[i]:=by
  rw[I7,<-O0 (n:=m) (by omega)];exact AC _
 have e:xs[lo+j]?=some (KI xs.toList lo m)[j]:=by
  rw[I7,<-O0 (n:=m) (by omega)];exact AC _
 have:=h i j (by omega) (by omega);rw[Vq d,Vq e]at this;exact this
structure Lo(Z:KeyKind)(kd:JQ)(a₀:A7 CW)(st0:F8)(lo n:Nat)(st:F8):Prop where
 S:St Z kd a₀ st
 pend:pendingOf st=pendingOf st0
 out:∀t,t<lo\/lo+n<=t->(arrOf st)[t]? =(arrOf st0)[t]?
theorem Lo.part{st0 st:F8}{lo n:Nat}(h:Lo Z kd a₀ st0 lo n st)(c:St Z kd a₀ st0):MC Z (arrOf st0).toList (arrOf st).toList lo n:=by
 refine⟨h.S.perm.trans c.perm.symm,FN fun t=>?_,FN fun t=>?_⟩
 .by_cases b:t<lo
  .rw[DW b,DW b,BT,BT];exact h.out t (.inl b)
  .rw[EC (by rw[AR];omega),EC (by rw[AR];omega)]
 .rw[GS,GS,BT,BT];exact h.out _ (.inr (by omega))
theorem Lo.mirror{st0 st:F8}{lo n i j:Nat}(h:Lo Z kd a₀ st0 lo n st)(hi:lo<=i)(c:j<=lo+n)(d:lo+n<=a₀.size):Lo Z kd a₀ st0 lo n (setArr st (mirror (arrOf st) i j ((j-i) / 2))):=by
 refine⟨⟨(Array.perm_iff_toList_perm.mp (mirror_perm _ _ _ _)).trans h.S.perm,h.S.kind,h.S.failed⟩,h.pend,fun t b=>?_⟩;show(PyProof.Rows.mirror (arrOf st) i j ((j-i) / 2))[t]?=_;have:=h.S.size;rw[getElem?_mirror_all (by omega),AO (by omega)];exact h.out t b
theorem P4(C:SC prog w A s Z kd)(e:KeysOf Z a₀){st:F8}(b:St Z kd a₀ st){i j:Nat}{Q:A4 Bool->F8->Prop}(hi:i<a₀.size)(f:j<a₀.size)
  (h:Q (some (Z.blt (KK Z (arrOf st) i) (KK Z (arrOf st) j))) st):wpS (model prog w) A E s (ltAt' i j) Q st:=by
 have:=b.size;obtain⟨p,c⟩:=V2 (a:=arrOf st) (i:=i) (by omega);obtain⟨q,d⟩:=V2 (a:=arrOf st) (i:=j) (by omega);rw[ltAt'_eq];refine wpS_bind (wpS_get ?_);refine wpS_bind (E1 c (wpS_bind (E1 d (Fo C b.kind (b.has e _ _ c) (b.has e _ _ d) ?_))));rw[Vq c,Vq d]at h;exact h
theorem UY{st:F8}{lo a b:Nat}{f:Nat->(A4 (A4 Nat)×Nat)->StateT F8 Sem (ForInStep (A4 (A4 Nat)×Nat))}{Q:(A4 (A4 Nat)×Nat)->F8->Prop}
  (y:∀x n,1<=n->n<b->wpS (model prog w) A E s (f x (none,n)) (fun r k=>k=st/\r=if Z.blt (KK Z (arrOf st) (lo+n)) (KK Z (arrOf st) (lo+n-1))=true then .done (none,n)else .yield (none,n+1)) st)
  (B:1<=a) (m:a<=b) (z:SI Z (arrOf st) lo a)
  (h:∀n,a<=n->n<=b->SI Z (arrOf st) lo n->(n=b\/Z.klt (KK Z (arrOf st) (lo+n)) (KK Z (arrOf st) (lo+n-1)))->Q (none,n) st):wpS (model prog w) A E s (forIn [a:b] (none,a) f) Q st:=by
 refine wpS_forRange (I:=fun x c k=>k=st/\c =(none,x)/\SI Z (arrOf st) lo x) ?_ ?_ ⟨rfl,rfl,z⟩
 .rintro x c k o p ⟨rfl,rfl,g⟩;refine wpS_mono (y x x (by omega) p) fun r l ⟨e,er⟩=>?_;subst e;cases d:Z.blt (KK Z (arrOf l) (lo+x)) (KK Z (arrOf l) (lo+x-1))
  .rw[d,AO BC]at er;subst er;refine⟨rfl,rfl,fun i j q C=>?_⟩;by_cases t:j<x
   .exact g i j q t
   .have u:j=x:=by omega
    subst u;by_cases v:i=j
    .subst v;exact KeyOrd.kle_refl _
    .have:=g i (j-1) (by omega) (by omega);rw[show lo +(j-1)=lo+j-1 by omega]at this;exact KeyOrd.kle_trans this d
  .rw[d,AU rfl]at er;subst er;exact h x o (by omega) g (.inr d)
 .rintro c k ⟨rfl,rfl,g⟩;rw[show max a b=b by omega]at g⊢;exact h b m (Nat.le_refl _) g (.inl rfl)
theorem NI.step{xs ys:A7 CW}{lo x:Nat}(h:1<=x)(e:∀k,KK Z ys k=KK Z xs k)(f:NI Z xs lo x)(g:Z.kle (KK Z xs (lo+x)) (KK Z xs (lo+x-1))):NI Z ys lo (x+1):=by
 intro i j a l;rw[e,e];by_cases b:j<x
 .exact f i j a b
 .have c:j=x:=by omega
  subst c;by_cases d:i=j
  .subst d;exact KeyOrd.kle_refl _
  .have:=f i (j-1) (by omega) (by omega);rw[show lo +(j-1)=lo+j-1 by omega]at this;exact KeyOrd.kle_trans g this
abbrev DS:=A4 (A4 Nat)×Nat×Nat
theorem zCj{st0 st:F8}{lo n d:Nat}(hsz:lo+d<=a₀.size){f:Nat->DS->StateT F8 Sem (ForInStep DS)}{Q:DS->F8->Prop}
  (H:∀x n q b,1<=n->n<d->Lo Z kd a₀ st0 lo d b->wpS (model prog w) A E s (f x (none,n,q)) (fun r st2 =>
   if Z.blt (KK Z (arrOf b) (lo+n)) (KK Z (arrOf b) (lo+n-1))=true then(st2=if q>0 then setArr b (mirror (arrOf b) (lo+n-(q+1)) (lo+n) ((lo+n-(lo+n-(q+1))) / 2))else b)/\r = .yield (none,n+1,0)
   else st2=b/\r=if Z.blt (KK Z (arrOf b) (lo+n-1)) (KK Z (arrOf b) (lo+n))=true then .done (none,n,q)else .yield (none,n+1,q+1)) b)
  (h1:1<=n) (z:n<=d) (J:Lo Z kd a₀ st0 lo d st) (K:NI Z (arrOf st) lo n)
  (h:∀m q b,Lo Z kd a₀ st0 lo d b->n<=m->m<=d->NI Z (arrOf b) lo m->q+1<=m->(∀i,m-(q+1)<=i->i<m->KK Z (arrOf b) (lo+i)=KK Z (arrOf b) (lo+m-1))->Q (none,m,q) b) :
  wpS (model prog w) A E s (forIn [n:d] (none,n,0) f) Q st:=by
 refine wpS_forRange (I:=fun x c b=>∃q,c =(none,x,q)/\Lo Z kd a₀ st0 lo d b/\NI Z (arrOf b) lo x/\q+1<=x /\
   (∀i,x-(q+1)<=i->i<x->KK Z (arrOf b) (lo+i)=KK Z (arrOf b) (lo+x-1))) ?_ ?_ ⟨0,rfl,J,K,by omega,fun i h1 M=>by congr 1;omega⟩
 .rintro x c b B C ⟨q,rfl,j,l,v,p⟩;have L:=j.S.size;refine wpS_mono (H x x q b (by omega) C j) fun r st2 y=>?_;cases g:Z.blt (KK Z (arrOf b) (lo+x)) (KK Z (arrOf b) (lo+x-1))
  .rw[g,AO BC]at y;obtain⟨e,er⟩:=y;subst e;cases o:Z.blt (KK Z (arrOf st2) (lo+x-1)) (KK Z (arrOf st2) (lo+x))
   .rw[o,AO BC]at er;subst er;have t:KK Z (arrOf st2) (lo+x)=KK Z (arrOf st2) (lo+x-1):=KeyOrd.kle_antisymm o g;refine⟨q+1,rfl,j,NI.step (by omega) (fun _=>rfl) l o,by omega,fun i D F=>?_⟩;rw[show lo +(x+1)-1=lo+x by omega];by_cases G:i=x
    .subst G;rfl
    .rw[t];exact p i (by omega) (by omega)
   .rw[o,AU rfl]at er;subst er;exact h x q st2 j B (by omega) l v p
  .rw[g,AU rfl]at y;obtain⟨e,er⟩:=y;subst er;have o:Z.kle (KK Z (arrOf b) (lo+x)) (KK Z (arrOf b) (lo+x-1)):=KeyOrd.kle_of_klt g;by_cases u:q>0
   .rw[AU u]at e;subst e;refine⟨0,rfl,j.mirror (by omega) (by omega) hsz,NI.step (by omega) (KK_mirror_equal (by omega) fun k D F=>?_) l o,by omega,fun i D F=>by congr 1;omega⟩;have:=p (k-lo) (by omega) (by omega);rw[show lo +(k-lo)=k by omega]at this;exact this
   .rw[AO u]at e;subst e;exact⟨0,rfl,j,NI.step (by omega) (fun _=>rfl) l o,by omega,fun i D F=>by congr 1;omega⟩
 .rintro c b ⟨q,rfl,j,l,v,p⟩;rw[show max n d=d by omega]at l v p⊢;exact h d q b j z (Nat.le_refl _) l v p
theorem NI.turn{xs:A7 CW}{lo n:Nat}(a:lo+n<=xs.size)(h:NI Z xs lo n):SI Z (mirror xs lo (lo+n) ((lo+n-lo) / 2)) lo n:=by
 intro i j b c;rw[KK_mirror a,KK_mirror a,AU (by omega),AU (by omega)];have:=h (n-1-j) (n-1-i) (by omega) (by omega);rw[show lo +(n-1-i)=lo +(lo+n)-1-(lo+i) by omega,show lo +(n-1-j)=lo +(lo+n)-1-(lo+j) by omega]at this;exact this
theorem Eu(C:SC prog w A s Z kd)(D:KeysOf Z a₀){st:F8}{lo c:Nat}{Q:A4 Nat->F8->Prop}(W:St Z kd a₀ st)(hsz:lo+c<=a₀.size)(h1:1<=c)
  (h:∀m b,Lo Z kd a₀ st lo c b->1<=m->m<=c->SI Z (arrOf b) lo m->Q (some m) b):wpS (model prog w) A E s (countRun' lo c) Q st:=by
 have X:Lo Z kd a₀ st lo c st:=⟨W,rfl,fun _ _=>rfl⟩;rw[countRun'_eq];dsimp only;refine wpS_bind (UY (Z:=Z) (lo:=lo) (fun x n G H=>?_) (Nat.le_refl 1) h1 (fun i j p P=>by have:i=j:=(by omega);subst this;exact KeyOrd.kle_refl _) fun n R T F Y=>?_)
 .dsimp only;refine wpS_bind (P4 C D W (by omega) (by omega) ?_);dsimp only;cases Z.blt (KK Z (arrOf st) (lo+n)) (KK Z (arrOf st) (lo+n-1))
  .exact wpS_pure ⟨rfl,rfl⟩
  .exact wpS_pure ⟨rfl,rfl⟩
 dsimp only;by_cases I:n=c
 .rw[AU (by simpa using I)];exact wpS_pure (h n st X R T F)
 rw[AO (by simpa using I)];have U:Z.klt (KK Z (arrOf st) (lo+n)) (KK Z (arrOf st) (lo+n-1)):=Y.resolve_left I;have hz:=W.size;by_cases V:n>1
 .rw[AU V];refine wpS_bind (P4 C D W (by omega) (by omega) ?_);dsimp only;cases J:Z.blt (KK Z (arrOf st) lo) (KK Z (arrOf st) (lo+n-1))with
  | true =>
   simp only[FK];exact wpS_pure (h n st X R T F)
  | false =>
   simp only[BE,DA];have r:∀k,lo<=k->k<lo+n->KK Z (arrOf st) k=KK Z (arrOf st) (lo+n-1):=by
    intro k hk1 hk2;have a1:=F 0 (k-lo) (by omega) (by omega);have a2:=F (k-lo) (n-1) (by omega) (by omega);rw[Nat.add_zero,show lo +(k-lo)=k by omega]at a1;rw[show lo +(k-lo)=k by omega,show lo +(n-1)=lo+n-1 by omega]at a2;exact KeyOrd.kle_antisymm a2 (KeyOrd.kle_trans J a1)
   have K:=KK_mirror_equal (κ:=Z) (xs:=arrOf st) (i:=lo) (j:=lo+n) (by omega) r;refine wpS_bind (wpS_reverse ?_);have L:=X.mirror (i:=lo) (j:=lo+n) (by omega) (by omega) hsz;have hN:NI Z (mirror (arrOf st) lo (lo+n) ((lo+n-lo) / 2)) lo (n+1):=by
    refine NI.step (by omega) K (fun i j p P=>?_) (KeyOrd.kle_of_klt U);rw[r (lo+i) (by omega) (by omega),r (lo+j) (by omega) (by omega)];exact KeyOrd.kle_refl _
   refine wpS_bind (wpS_lift (EF ⟨rfl,?_⟩));refine wpS_bind (zCj (Z:=Z) (kd:=kd) (a₀:=a₀) (st0:=st) (lo:=lo) hsz (fun x f q b G H t=>?_) (by omega) (by omega) L hN fun m q b l hm1 u v y he=>?_)
   .dsimp only;refine wpS_bind (P4 C D t.S (by omega) (by omega) ?_);dsimp only;cases Z.blt (KK Z (arrOf b) (lo+f)) (KK Z (arrOf b) (lo+f - 1))
    .simp only[BE,DA];refine wpS_bind (P4 C D t.S (by omega) (by omega) ?_);dsimp only;cases Z.blt (KK Z (arrOf b) (lo+f - 1)) (KK Z (arrOf b) (lo+f))
     .exact wpS_pure ⟨rfl,rfl⟩
     .exact wpS_pure ⟨rfl,rfl⟩
    .simp only[FK];by_cases y:q>0
     .rw[AU y,AU y];exact wpS_bind (wpS_reverse (wpS_pure ⟨rfl,rfl⟩))
     .rw[AO y,AO y];exact wpS_pure ⟨rfl,rfl⟩
   .dsimp only;have hz3:=l.S.size;by_cases z:q>0
    .rw[AU z];refine wpS_bind (wpS_reverse (wpS_bind (wpS_reverse ?_)));have g:=l.mirror (i:=lo+m-(q+1)) (j:=lo+m) (by omega) (by omega) hsz;have d:=g.mirror (i:=lo) (j:=lo+m) (by omega) (by omega) hsz;have hz4:=g.S.size;have M:NI Z (mirror (arrOf b) (lo+m-(q+1)) (lo+m) ((lo+m-(lo+m-(q+1))) / 2)) lo m:=by
      have K:=KK_mirror_equal (κ:=Z) (xs:=arrOf b) (i:=lo+m-(q+1)) (j:=lo+m) (by omega) (fun k G H=>by
       have:=he (k-lo) (by omega) (by omega);rw[show lo +(k-lo)=k by omega]at this;exact this)
      intro i j p P;rw[K,K];exact v i j p P
     have N:=M.turn (Z:=Z) (lo:=lo) (n:=m) (by rw[mirror_size];omega);refine wpS_bind (UY (Z:=Z) (lo:=lo) (fun x f G H=>?_) (by omega) u N fun O B e o _=>wpS_pure (h O _ d (by omega) e o));dsimp only;refine wpS_bind (P4 C D d.S (by omega) (by omega) ?_);dsimp only;cases Z.blt (KK Z _ (lo+f)) (KK Z _ (lo+f - 1))
     .exact wpS_pure ⟨rfl,rfl⟩
     .exact wpS_pure ⟨rfl,rfl⟩
    .rw[AO z];refine wpS_bind (wpS_reverse ?_);have d:=l.mirror (i:=lo) (j:=lo+m) (by omega) (by omega) hsz;have N:=v.turn (Z:=Z) (lo:=lo) (n:=m) (by omega);refine wpS_bind (UY (Z:=Z) (lo:=lo) (fun x f G H=>?_) (by omega) u N fun O B e o _=>wpS_pure (h O _ d (by omega) e o));dsimp only;refine wpS_bind (P4 C D d.S (by omega) (by omega) ?_);dsimp only;cases Z.blt (KK Z _ (lo+f)) (KK Z _ (lo+f - 1))
     .exact wpS_pure ⟨rfl,rfl⟩
     .exact wpS_pure ⟨rfl,rfl⟩
 .rw[AO V];have hn1':n=1:=by omega
  have L:=X;have hN:NI Z (arrOf st) lo (n+1):=by
   refine NI.step (by omega) (fun _=>rfl) (fun i j p P=>?_) (KeyOrd.kle_of_klt U);have:i=j:=by omega
   subst this;exact KeyOrd.kle_refl _
  refine wpS_bind (wpS_lift (EF ⟨rfl,?_⟩));refine wpS_bind (zCj (Z:=Z) (kd:=kd) (a₀:=a₀) (st0:=st) (lo:=lo) hsz (fun x f q b G H t=>?_) (by omega) (by omega) L hN fun m q b l hm1 u v y he=>?_)
  .dsimp only;refine wpS_bind (P4 C D t.S (by omega) (by omega) ?_);dsimp only;cases Z.blt (KK Z (arrOf b) (lo+f)) (KK Z (arrOf b) (lo+f - 1))
   .simp only[BE,DA];refine wpS_bind (P4 C D t.S (by omega) (by omega) ?_);dsimp only;cases Z.blt (KK Z (arrOf b) (lo+f - 1)) (KK Z (arrOf b) (lo+f))
    .exact wpS_pure ⟨rfl,rfl⟩
    .exact wpS_pure ⟨rfl,rfl⟩
   .simp only[FK];by_cases y:q>0
    .rw[AU y,AU y];exact wpS_bind (wpS_reverse (wpS_pure ⟨rfl,rfl⟩))
    .rw[AO y,AO y];exact wpS_pure ⟨rfl,rfl⟩
  .dsimp only;have hz3:=l.S.size;by_cases z:q>0
   .rw[AU z];refine wpS_bind (wpS_reverse (wpS_bind (wpS_reverse ?_)));have g:=l.mirror (i:=lo+m-(q+1)) (j:=lo+m) (by omega) (by omega) hsz;have d:=g.mirror (i:=lo) (j:=lo+m) (by omega) (by omega) hsz;have hz4:=g.S.size;have M:NI Z (mirror (arrOf b) (lo+m-(q+1)) (lo+m) ((lo+m-(lo+m-(q+1))) / 2)) lo m:=by
     have K:=KK_mirror_equal (κ:=Z) (xs:=arrOf b) (i:=lo+m-(q+1)) (j:=lo+m) (by omega) (fun k G H=>by
      have:=he (k-lo) (by omega) (by omega);rw[show lo +(k-lo)=k by omega]at this;exact this)
     intro i j p P;rw[K,K];exact v i j p P
    have N:=M.turn (Z:=Z) (lo:=lo) (n:=m) (by rw[mirror_size];omega);refine wpS_bind (UY (Z:=Z) (lo:=lo) (fun x f G H=>?_) (by omega) u N fun O B e o _=>wpS_pure (h O _ d (by omega) e o));dsimp only;refine wpS_bind (P4 C D d.S (by omega) (by omega) ?_);dsimp only;cases Z.blt (KK Z _ (lo+f)) (KK Z _ (lo+f - 1))
    .exact wpS_pure ⟨rfl,rfl⟩
    .exact wpS_pure ⟨rfl,rfl⟩
   .rw[AO z];refine wpS_bind (wpS_reverse ?_);have d:=l.mirror (i:=lo) (j:=lo+m) (by omega) (by omega) hsz;have N:=v.turn (Z:=Z) (lo:=lo) (n:=m) (by omega);refine wpS_bind (UY (Z:=Z) (lo:=lo) (fun x f G H=>?_) (by omega) u N fun O B e o _=>wpS_pure (h O _ d (by omega) e o));dsimp only;refine wpS_bind (P4 C D d.S (by omega) (by omega) ?_);dsimp only;cases Z.blt (KK Z _ (lo+f)) (KK Z _ (lo+f - 1))
    .exact wpS_pure ⟨rfl,rfl⟩
    .exact wpS_pure ⟨rfl,rfl⟩
theorem Lo.bubble{st0 st:F8}{lo n b d:Nat}(h:Lo Z kd a₀ st0 lo n st)(h1:lo+d<=b)(h2:b<lo+n)(e:lo+n<=a₀.size):Lo Z kd a₀ st0 lo n (setArr st (bubble (arrOf st) b d)):=by
 refine⟨⟨(Array.perm_iff_toList_perm.mp (bubble_perm _ _ _)).trans h.S.perm,h.S.kind,h.S.failed⟩,h.pend,fun t c=>?_⟩;show(PyProof.Rows.bubble (arrOf st) b d)[t]?=_;have:=h.S.size;rw[getElem?_bubble (by omega) d (by omega),AO (by omega),AO (by omega)];exact h.out t c
theorem Bk(C:SC prog w A s Z kd)(G:KeysOf Z a₀){st0 st:F8}{lo g n u:Nat}{Q:Bool->F8->Prop}(H:Lo Z kd a₀ st0 lo g st)(hsz:lo+g<=a₀.size)(U:n<=g)(J:u<=n)(K:SI Z (arrOf st) lo u)
  (h:∀b,Lo Z kd a₀ st0 lo g b->SI Z (arrOf b) lo n->Q true b):wpS (model prog w) A E s (binarySort' lo n u) Q st:=by
 rw[binarySort'_eq];refine wpS_bind (wpS_mono (wpS_forRange (I:=fun k c b=>c =(none,())/\Lo Z kd a₀ st0 lo g b/\SI Z (arrOf b) lo (min k n))
  (Q:=fun c b=>c =(none,())/\Lo Z kd a₀ st0 lo g b/\SI Z (arrOf b) lo n) ?step ?fin ?init) ?post)
 case post =>
  rintro c b ⟨rfl,m,f⟩;exact wpS_pure (h b m f)
 case init =>
  refine⟨rfl,H,fun i j v L=>?_⟩;by_cases B:u=0
  .have:i=j:=by omega
   subst this;exact KeyOrd.kle_refl _
  .exact K i j v (by omega)
 case fin =>
  rintro c b ⟨M,m,f⟩;refine⟨M,m,?_⟩
  rwa [show min (max (max u 1) n) n=n by omega]at f
 case step =>
  rintro k c b N O ⟨rfl,m,f⟩;rw[show min k n=k by omega]at f;dsimp only;refine wpS_bind (wpS_mono (wpS_forRange (I:=fun x c d=>d=b/\∃l r,c =(none,l,r)/\l<=r/\r<=k/\r-l<=k-x /\
    (∀i,i<l->Z.kle (KK Z (arrOf b) (lo+i)) (KK Z (arrOf b) (lo+k)))/\(∀i,r<=i->i<k->Z.klt (KK Z (arrOf b) (lo+k)) (KK Z (arrOf b) (lo+i))))
   (Q:=fun c d=>d=b/\∃l r,c =(none,l,r)/\l<=k /\
    (∀i,i<l->Z.kle (KK Z (arrOf b) (lo+i)) (KK Z (arrOf b) (lo+k)))/\(∀i,l<=i->i<k->Z.klt (KK Z (arrOf b) (lo+k)) (KK Z (arrOf b) (lo+i)))) ?istep ?ifin ?iinit) ?ipost)
  case iinit=>exact⟨rfl,0,k,rfl,by omega,by omega,by omega,fun i V=>by omega,fun i B F=>by omega⟩
  case ifin =>
   rintro c d ⟨rfl,l,r,rfl,D,t,P,o,p⟩;have:l=r:=by omega
   subst this;exact⟨rfl,l,l,rfl,t,o,p⟩
  case istep =>
   rintro x c d _ R ⟨rfl,l,r,rfl,D,t,P,o,p⟩;dsimp only;by_cases y:l ≥ r
   .rw[AU y];have:l=r:=by omega
    subst this;exact wpS_pure ⟨rfl,l,l,rfl,t,o,p⟩
   .rw[AO y];refine wpS_bind (P4 C G m.S (by omega) (by omega) ?_);dsimp only;cases q:Z.blt (KK Z (arrOf d) (lo+k)) (KK Z (arrOf d) (lo +(l+r) / 2))
    case true =>
     simp only[FK];refine wpS_pure ⟨rfl,l,(l+r) / 2,rfl,by omega,by omega,by omega,o,fun i B F=>?_⟩;exact KeyOrd.klt_of_klt_of_kle q (f _ _ B F)
    case false =>
     simp only[BE,DA];refine wpS_pure ⟨rfl,(l+r) / 2+1,r,rfl,by omega,by omega,by omega,fun i B=>?_,p⟩;exact KeyOrd.kle_trans (f i ((l+r) / 2) (by omega) (by omega)) (show Z.kle _ _ from q)
  case ipost =>
   rintro c d ⟨rfl,l,r,rfl,T,o,p⟩;have W:=m.S.size;show wpS _ _ _ _ (do moveDown' (lo+k) (lo+l);pure (ForInStep.yield (none,()))) _ _;rw[moveDown'_eq];refine wpS_bind (wpS_modify (wpS_pure ⟨rfl,m.bubble (by omega) (by omega) hsz,?_⟩));rw[show min (k+1) n=k+1 by omega];intro i j v L;show Z.kle (KK Z (bubble (arrOf d) (lo+k) (lo+k-(lo+l))) (lo+i)) (KK Z (bubble (arrOf d) (lo+k) (lo+k-(lo+l))) (lo+j));rw[KK_bubble (by omega) (by omega),KK_bubble (by omega) (by omega),show lo+k-(lo+k-(lo+l))=lo+l by omega];have e:∀z,1<=z->lo+z-1=lo +(z-1):=fun z _=>by omega
   repeat' split
   all_goals first
    | (exfalso;omega)
    | exact KeyOrd.kle_refl _
    | exact o _ (by omega)
    | exact KeyOrd.kle_of_klt (p _ (by omega) (by omega))
    | exact f _ _ (by omega) (by omega)
    | (rw[e j (by omega)];exact KeyOrd.kle_of_klt (p _ (by omega) (by omega)))
    | (rw[e i (by omega)];exact o _ (by omega))
    | (rw[e j (by omega)];exact f _ _ (by omega) (by omega))
    | (rw[e i (by omega),e j (by omega)];exact f _ _ (by omega) (by omega))
    | (rw[e i (by omega)];exact f _ _ (by omega) (by omega))
end
abbrev Run:=Nat×Nat×Nat
def NR:A0 Run->Nat->Nat->Prop
 | [],a,b=>a=b
 | x::r,a,b=>x.1=a/\1<=x.2.1/\NR r (a+x.2.1) b
def NR.app:∀{i l2:A0 Run} {a b:Nat},NR (i++l2) a b↔∃c,NR i a c/\NR l2 c b
 | [],l2,a,b=>⟨fun h=>⟨a,rfl,h⟩,fun⟨c,d,e⟩=>by have:a=c:=d;subst this;exact e⟩
 | x::r,l2,a,b=>by
  constructor
  .rintro⟨d,e,j⟩;obtain⟨c,f,g⟩:=NR.app.mp j;exact⟨c,⟨d,e,f⟩,g⟩
  .rintro⟨c,⟨d,e,f⟩,g⟩;exact⟨d,e,NR.app.mpr ⟨c,f,g⟩⟩
def NR.le:∀{l:A0 Run} {a b:Nat},NR l a b->a+l.length<=b
 | [],a,b,h=>by have:a=b:=h;subst this;simp
 | x::r,a,b,⟨d,e,c⟩=>by have:=NR.le c;rw[BS];omega
def NR.mem:∀{l:A0 Run} {a b:Nat} {x:Run},NR l a b->x∈l->a<=x.1/\x.1+x.2.1<=b
 | [],_,_,_,_,hx=>absurd hx (by simp)
 | y::r,a,b,x,⟨d,f,c⟩,hx=>by
  have g:=NR.le c;rcases AV.mp hx with e | hx
  .subst e;omega
  .have:=NR.mem c hx;omega
def zGp{l:A0 Run}{i:Nat}{x y:Run}(a:l[i]?=some x)(b:l[i+1]?=some y):l=l.take i++x::y::l.drop (i+2):=by
 obtain⟨c,rfl⟩:=AD.mp a;obtain⟨d,rfl⟩:=AD.mp b
 conv=>lhs;rw[<-BW i l]
 rw[CO c,CO d]
def zFa{l:A0 Run}{i:Nat}{x y:Run}(z:Run)(a:l[i]?=some x)(b:l[i+1]?=some y):(l.set i z).eraseIdx (i+1)=l.take i++z::l.drop (i+2):=by
 obtain⟨d,_⟩:=AD.mp a;obtain⟨f,_⟩:=AD.mp b;have e:=zGp a b;have c:(l.take i).length=i:=by rw[AR];omega
 generalize l.take i=p at *;generalize l.drop (i+2)=q at *;subst e;rw[List.set_append_right _ _ (by omega),c,Nat.sub_self,List.eraseIdx_append_of_length_le (by omega),c,show i+1-i=1 by omega];rfl
section
variable{prog:A6}{w:F1}{A:IZ}{E:A1->A3->Prop}{s:A3}{Z:KeyKind}{kd:JQ}{a₀:A7 CW}
structure RI(Z:KeyKind)(kd:JQ)(a₀:A7 CW)(lo:Nat)(st:F8):Prop where
 S:St Z kd a₀ st
 cov:NR (pendingOf st).toList 0 lo
 sor:∀x∈(pendingOf st).toList,LV Z (KI (arrOf st).toList x.1 x.2.1)
theorem Js(C:SC prog w A s Z kd)(I:KeysOf Z a₀){st:F8}{lo i:Nat}{Q:Bool->F8->Prop}(R:RI Z kd a₀ lo st)(J:lo<=a₀.size)(hi:i+1 <(pendingOf st).size)
  (h:∀b,RI Z kd a₀ lo b->(pendingOf b).size+1 =(pendingOf st).size->MC Z (arrOf st).toList (arrOf b).toList 0 lo->Q true b):wpS (model prog w) A E s (mergeAt' i) Q st:=by
 obtain⟨⟨g,d,q⟩,u⟩:∃x,(pendingOf st)[i]?=some x:=⟨_,getElem?_pos _ i (by omega)⟩;obtain⟨⟨K,f,r⟩,n⟩:∃x,(pendingOf st)[i+1]?=some x:=⟨_,getElem?_pos _ (i+1) hi⟩;have j:(pendingOf st).toList[i]?=some (g,d,q):=by rw[BT];exact u
 have k:(pendingOf st).toList[i+1]?=some (K,f,r):=by rw[BT];exact n
 have e:=zGp j k;have c:=R.cov;rw[e]at c;obtain⟨v,B,L⟩:=NR.app.mp c;obtain⟨D,F,M,G,o⟩:=L;dsimp only at D F M G o;have N:=NR.le o;refine Ho C I R.S u n (by omega) (by omega) F G (R.sor _ (AM j)) (R.sor _ (AM k)) fun b O p P T=>?_;have t:(pendingOf b).toList =(pendingOf st).toList.take i ++(g,d+f,q) ::(pendingOf st).toList.drop (i+2):=by
  rw[T,<-zFa (g,d+f,q) j k];simp
 refine h b ⟨O,?_,fun x l=>?_⟩ ?_ ?_
 .rw[t];exact NR.app.mpr ⟨v,B,D,(by show 1<=d+f;omega),(by show NR _ (v +(d+f)) lo;rw[<-Nat.add_assoc];exact o)⟩
 .rw[t]at l;have m:∀y∈(pendingOf st).toList,(y.1+y.2.1<=g\/g +(d+f)<=y.1)->LV Z (KI (arrOf b).toList y.1 y.2.1):=fun y n ho=>by
   have:=R.sor y n;rcases ho with ho | ho
   .rw[p.seg_front ho];exact this
   .rw[p.seg_back ho];exact this
  rcases AS.mp l with hm | hm
  .have:=NR.mem B hm;exact m x (CJ hm) (.inl (by omega))
  .rcases AV.mp hm with hm | hm
   .subst hm;exact P
   .have:=NR.mem o hm;exact m x (EE hm) (.inr (by omega))
 .have:=congrArg List.length t;rw[AW,BJ,BS,AR,DF,AW]at this;omega
 .have H:∀z:A0 CW,z.drop (0+lo) =(z.drop (g +(d+f))).drop (lo-(g +(d+f))):=fun z=>by
   rw[FV];congr 1;omega
  exact⟨p.perm,rfl,by rw[H,H,p.back]⟩
theorem Bc{l:A7 Run}{a:Nat}:(l.modify (l.size-1) fun x=>(x.1,x.2.1,a)).toList.map (fun x:Run=>(x.1,x.2.1))=l.toList.map fun x:Run=>(x.1,x.2.1):=by
 refine FN fun t=>?_;rw[AG,AG,BT,BT,Array.getElem?_modify];split
 .cases l[t]?<;>rfl
 .rfl
theorem NR.congr:∀{l c:A0 Run} {a b:Nat},c.map (fun x:Run=>(x.1,x.2.1))=l.map (fun x:Run=>(x.1,x.2.1))->NR l a b->NR c a b
 | [],[],_,_,_,h=>h
 | [],_::_,_,_,e,_=>by simp at e
 | _::_,[],_,_,e,_=>by simp at e
 | x::r,y::n,a,b,e,⟨f,g,i⟩=>by
  rw[BB,BB]at e;obtain⟨j,k⟩:=FS e;obtain⟨m,d⟩:=Prod.mk.inj j;exact⟨m.trans f,by rw[d];exact g,by rw[d];exact NR.congr k i⟩
theorem RI.congr{lo:Nat}{st:F8}(R:RI Z kd a₀ lo st){p:A7 Run}(e:p.toList.map (fun x:Run=>(x.1,x.2.1)) =(pendingOf st).toList.map fun x:Run=>(x.1,x.2.1)):RI Z kd a₀ lo (setPending st p):=by
 refine⟨⟨R.S.perm,R.S.kind,R.S.failed⟩,NR.congr e R.cov,fun x b=>?_⟩;have:(x.1,x.2.1)∈(pendingOf st).toList.map fun x:Run=>(x.1,x.2.1):=by
  rw[<-e];exact AI.mpr ⟨x,b,rfl⟩
 obtain⟨y,c,d⟩:=AI.mp this;obtain⟨f,g⟩:=Prod.mk.inj d;have:=R.sor y c;rw[f,g]at this;exact this
theorem X9(C:SC prog w A s Z kd)(v:KeysOf Z a₀){st:F8}{Q:Unit->F8->Prop}(hS:St Z kd a₀ st)(hp:pendingOf st = #[])
  (h:∀d,St Z kd a₀ d->LV Z (arrOf d).toList->Q () d):wpS (model prog w) A E s sortRuns' Q st:=by
 rw[sortRuns'_eq];refine wpS_bind (wpS_get ?_);dsimp only;have hz:=hS.size;rw[hz];generalize minRun' a₀.size a₀.size 0=B;refine wpS_bind (wpS_mono (wpS_forRange (I:=fun x c d=>∃lo,c =(none,lo)/\RI Z kd a₀ lo d/\lo<=a₀.size/\min x a₀.size<=lo)
  (Q:=fun c d=>∃lo,c =(none,lo)/\RI Z kd a₀ lo d/\lo=a₀.size) ?st ?en ⟨0,rfl,⟨hS,by rw[hp];rfl,fun x K=>by rw[hp]at K;exact absurd K (by simp)⟩,CK _,by omega⟩) ?po)
 case en =>
  rintro c d ⟨lo,rfl,R,P,h2⟩;exact⟨lo,rfl,R,by omega⟩
 case po =>
  rintro c d ⟨lo,rfl,R,rfl⟩;dsimp only;refine wpS_bind (wpS_mono (wpS_forRange (I:=fun x c d=>c =(none,())/\RI Z kd a₀ a₀.size d/\(pendingOf d).size+x<=a₀.size+1)
   (Q:=fun c d=>c =(none,())/\RI Z kd a₀ a₀.size d/\(pendingOf d).size<=1) ?st3 ?en3 ⟨rfl,R,?in3⟩) ?po3)
  case in3 =>
   have:=NR.le R.cov;rw[AW]at this;omega
  case en3 =>
   rintro c e ⟨rfl,R2,g⟩;exact⟨rfl,R2,by omega⟩
  case po3 =>
   rintro c e ⟨rfl,R2,g⟩;refine wpS_pure (h e R2.S ?_);have c:=R2.cov;have L:=R2.sor;have hz2:=R2.S.size;have M:(pendingOf e).toList.length<=1:=by rw[AW];exact g
   generalize (pendingOf e).toList=l at c L M
   match l,c,L,M with
   | [],c,_,_ =>
    have c':0=a₀.size:=c;have:(arrOf e).toList = []:=List.eq_nil_of_length_eq_zero (by rw[AW];omega);rw[this];exact List.Pairwise.nil
   | [x],⟨c1,c2,c3⟩,L,_ =>
    have c3':0+x.2.1=a₀.size:=c3;have:=L x (AH.mpr rfl);unfold KI at this;rw[c1,FW,CY (by rw[AW];omega)]at this;exact this
   | _::_::_,_,_,M=>exact absurd M (by simp)
  case st3 =>
   rintro x c e _ K ⟨rfl,R2,g⟩
   try dsimp only
   refine wpS_bind (wpS_get ?_);by_cases r:(pendingOf e).size<=1
   .rw[AU r];exact wpS_pure ⟨rfl,R2,r⟩
   rw[AO r];refine wpS_bind (Js C v R2 (Nat.le_refl _) ?_ fun st3 R3 e3 _=>?_)
   .have T:∀{c:Prop} [Decidable c] {n:Nat},(if c then n-1 else n)+1<=n+1:=by intro c _ n;split<;>omega
    exact Nat.lt_of_le_of_lt T (by omega)
   .simp only[FE,BE,DA];exact wpS_pure ⟨rfl,R3,by omega⟩
 case st =>
  rintro x c d _ K ⟨lo,rfl,R,P,h2⟩;dsimp only;by_cases D:lo ≥ a₀.size
  .rw[AU D];exact wpS_pure ⟨lo,rfl,R,by omega⟩
  rw[AO D];refine wpS_bind (Eu C v R.S (by omega) (by omega) fun m e L2 hm1 hm2 t=>?_);dsimp only;by_cases F:m<B
  .rw[AU F];refine wpS_bind (wpS_lift (EF ⟨rfl,?_⟩));refine wpS_bind (Bk C v L2 (by omega) (show min (a₀.size-lo) B<=a₀.size-lo by omega) (by omega) t fun q O U=>?_);simp only[FE,BE,DA];have hN:1<=min (a₀.size-lo) B/\min (a₀.size-lo) B<=a₀.size-lo:=by omega
   generalize min (a₀.size-lo) B=N at hN U⊢;have G:RI Z kd a₀ lo q:=by
    refine⟨O.S,by rw[O.pend];exact R.cov,fun y k=>?_⟩;rw[O.pend]at k;have hc:=NR.mem R.cov k;rw[(O.part R.S).seg_front (by omega)];exact R.sor y k
   refine wpS_bind (wpS_get ?_);have i:∀(b:F8),RI Z kd a₀ lo b->LV Z (KI (arrOf b).toList lo N)->RI Z kd a₀ (lo+N) (setPending b ((pendingOf b).push (lo,N,0))):=fun b f V=>by
    refine⟨⟨f.S.perm,f.S.kind,f.S.failed⟩,?_,fun y k=>?_⟩
    .show NR ((pendingOf b).push (lo,N,0)).toList 0 (lo+N);rw[DT];exact NR.app.mpr ⟨lo,f.cov,rfl,(by show 1<=N;omega),rfl⟩
    .have hy':y∈((pendingOf b).push (lo,N,0)).toList:=k;rw[DT]at hy';rcases AS.mp hy' with hy' | hy'
     .exact f.sor y hy'
     .rw[AH.mp hy'];exact V
   cases W:(pendingOf q).back? with
   | none =>
    dsimp only;refine wpS_bind (wpS_modify (wpS_pure ⟨_,rfl,i _ G U.sor,by omega,by omega⟩))
   | some X =>
    obtain⟨H,u,pb⟩:=X;dsimp only;generalize power' a₀.size (2*H+u) (2*H+u+u+N) a₀.size=Y;refine wpS_bind (wpS_mono (wpS_forRange (I:=fun x c b=>c =(none,())/\RI Z kd a₀ lo b/\MC Z (arrOf q).toList (arrOf b).toList 0 lo)
     (Q:=fun c b=>c =(none,())/\RI Z kd a₀ lo b/\MC Z (arrOf q).toList (arrOf b).toList 0 lo) ?stc1 (fun _ _ z=>z) ⟨rfl,G,MC.refl _ _ _⟩) ?poc1)
    case stc1 =>
     rintro x' c b _ _ ⟨rfl,f,j⟩
     try dsimp only
     refine wpS_bind (wpS_get ?_);by_cases o:(pendingOf b).size>1
     .rw[AU o];obtain⟨⟨u1,u2,ol⟩,hu⟩:∃y,(pendingOf b)[(pendingOf b).size-2]?=some y:=⟨_,getElem?_pos _ _ (by omega)⟩;rw[hu];dsimp only;by_cases p:ol<=Y
      .rw[AU p];exact wpS_pure ⟨rfl,f,j⟩
      rw[AO p];refine wpS_bind (Js C v f P (by omega) fun st7 R7 _ J=>?_);simp only[FE,BE,DA];exact wpS_pure ⟨rfl,R7,⟨J.perm.trans j.perm,rfl,J.back.trans j.back⟩⟩
     .rw[AO o];exact wpS_pure ⟨rfl,f,j⟩
    case poc1 =>
     rintro c b ⟨rfl,f,j⟩;dsimp only;refine wpS_bind (wpS_modify (wpS_bind (wpS_modify (wpS_pure ⟨_,rfl,i _ (f.congr Bc) ?_,by omega,by omega⟩))));show LV Z (KI (arrOf b).toList lo N);rw[j.seg_back (by omega)];exact U.sor
  .rw[AO F];have G:RI Z kd a₀ lo e:=by
    refine⟨L2.S,by rw[L2.pend];exact R.cov,fun y k=>?_⟩;rw[L2.pend]at k;have hc:=NR.mem R.cov k;rw[(L2.part R.S).seg_front (by omega)];exact R.sor y k
   refine wpS_bind (wpS_get ?_);have i:∀(b:F8),RI Z kd a₀ lo b->LV Z (KI (arrOf b).toList lo m)->RI Z kd a₀ (lo+m) (setPending b ((pendingOf b).push (lo,m,0))):=fun b f V=>by
    refine⟨⟨f.S.perm,f.S.kind,f.S.failed⟩,?_,fun y k=>?_⟩
    .show NR ((pendingOf b).push (lo,m,0)).toList 0 (lo+m);rw[DT];exact NR.app.mpr ⟨lo,f.cov,rfl,(by show 1<=m;omega),rfl⟩
    .have hy':y∈((pendingOf b).push (lo,m,0)).toList:=k;rw[DT]at hy';rcases AS.mp hy' with hy' | hy'
     .exact f.sor y hy'
     .rw[AH.mp hy'];exact V
   cases W:(pendingOf e).back? with
   | none =>
    dsimp only;refine wpS_bind (wpS_modify (wpS_pure ⟨_,rfl,i _ G t.sor,by omega,by omega⟩))
   | some X =>
    obtain⟨H,u,pb⟩:=X;dsimp only;generalize power' a₀.size (2*H+u) (2*H+u+u+m) a₀.size=Y;refine wpS_bind (wpS_mono (wpS_forRange (I:=fun x c b=>c =(none,())/\RI Z kd a₀ lo b/\MC Z (arrOf e).toList (arrOf b).toList 0 lo)
     (Q:=fun c b=>c =(none,())/\RI Z kd a₀ lo b/\MC Z (arrOf e).toList (arrOf b).toList 0 lo) ?stc2 (fun _ _ z=>z) ⟨rfl,G,MC.refl _ _ _⟩) ?poc2)
    case stc2 =>
     rintro x' c b _ _ ⟨rfl,f,j⟩
     try dsimp only
     refine wpS_bind (wpS_get ?_);by_cases o:(pendingOf b).size>1
     .rw[AU o];obtain⟨⟨u1,u2,ol⟩,hu⟩:∃y,(pendingOf b)[(pendingOf b).size-2]?=some y:=⟨_,getElem?_pos _ _ (by omega)⟩;rw[hu];dsimp only;by_cases p:ol<=Y
      .rw[AU p];exact wpS_pure ⟨rfl,f,j⟩
      rw[AO p];refine wpS_bind (Js C v f P (by omega) fun st7 R7 _ J=>?_);simp only[FE,BE,DA];exact wpS_pure ⟨rfl,R7,⟨J.perm.trans j.perm,rfl,J.back.trans j.back⟩⟩
     .rw[AO o];exact wpS_pure ⟨rfl,f,j⟩
    case poc2 =>
     rintro c b ⟨rfl,f,j⟩;dsimp only;refine wpS_bind (wpS_modify (wpS_bind (wpS_modify (wpS_pure ⟨_,rfl,i _ (f.congr Bc) ?_,by omega,by omega⟩))));show LV Z (KI (arrOf b).toList lo m);rw[j.seg_back (by omega)];exact t.sor
end
def kd1(Z:KeyKind)(v:A1):Z.α:=(Z.keyOf v).getD Z.dflt
section
variable{prog:A6}{w:F1}{A:IZ}{E:A1->A3->Prop}{s:A3}{Z:KeyKind}{kd:JQ}
def TC(a:A2)(s c:A3):Prop:=∀b o,b≠a->s.heap.get? b=some o->c.heap.get? b=some o
structure TX(prog:A6)(w:F1)(a:A2)(s:A3)(Z:KeyKind)(kd:JQ)(vs:A0 A1):Prop where
 cmp:∀(A:IZ) (s':A3),TC a s s'->SC prog w A s' Z kd
 key:∀v∈vs,∃k,Z.keyOf v=some k
 kind:2<=vs.length->∀(A:IZ) (E:A1->A3->Prop) (s':A3) (Q:JQ->A3->Prop),TC a s s'->Q kd s'->wpAny (model prog w) A (keyKind' vs.toArray) Q E s'
def VH(Z:KeyKind)(vs:A0 A1)(out:A7 A1):Prop:=out.toList.Perm vs/\out.toList.Pairwise fun u v=>Z.kle (kd1 Z u) (kd1 Z v)
theorem Ma{vs:A0 A1}{xs:A7 CW}(a:xs.toList.Perm (pairsOf vs).toList)(b:LV Z xs.toList):VH Z vs (xs.map (·.2)):=by
 rw[pairsOf_toList]at a;have c:∀p∈xs.toList,p.1=p.2:=fun p h=>(mem_zip_self (a.mem_iff.mp h)).1;have e:(xs.map (·.2)).toList=xs.toList.map (·.1):=by
  rw[Array.toList_map];exact EV fun p h=>(c p h).symm
 refine⟨?_,?_⟩
 .rw[e];have:=a.map Prod.fst
  rwa [List.map_fst_zip (Nat.le_refl _)]at this
 .rw[e,BX];exact b
theorem Eb{a:A2}{vs:A0 A1}{n:Nat}{P:Fin->A3->Prop}(k:s.heap.get? a=some (seqObj "list" vs.toArray n))(m:vs.length<=sizeLine)(K:TX prog w a s Z kd vs)
  (h:∀out:A7 A1,VH Z vs out->P (.done (.ret .none)) { s with heap:=sortedHeap s.heap a vs out }) :
  wpAny (model prog w) A (Builtin.«list.sort» ⟨[.ref a],[]⟩) P E s:=by
 rw[list_sort_plain];have q:a<s.heap.objs.size:=AJ k;have i:vs.toArray.size=vs.length:=by simp
 refine AA (listItems_at k rfl ?_);refine AA (listUpdate_at k rfl ?_ (by rw[i];exact m) (by simp));obtain⟨l,j⟩:∃l,(s.heap.update a (Obj.mapSeq fun _=>#[])).get? a=some (seqObj "list" #[] l):=⟨_,get?_update_seq k (fun _=>#[])⟩;refine AA (seqEpoch_at j rfl ?_);refine AA (FJ ?_ (by simpa using m));refine AA (G_ ?_);refine CG ?_;have d:(((s.heap.update a (Obj.mapSeq fun _=>#[])).push (seqObj "tuple" vs.toArray 0)).push (seqObj "list" #[] 0)).get? a=some (seqObj "list" #[] l):=by
  rw[IG _ _ _ (by rw[size_push',EN];exact AY (CS q)),IG _ _ _ (by rw[EN];exact AY q)];exact j
 show wpAny (model prog w) A _ P E { s with heap:=((s.heap.update a (Obj.mapSeq fun _=>#[])).push (seqObj "tuple" vs.toArray 0)).push (seqObj "list" #[] 0) };dsimp only;have r:TC a s { s with heap:=((s.heap.update a (Obj.mapSeq fun _=>#[])).push (seqObj "tuple" vs.toArray 0)).push (seqObj "list" #[] 0) }:=fun b o t e =>
  AF _ (AF _ ((CZ s.heap _ (Ne.symm t)).trans e))
 by_cases f:vs.toArray.size<2
 .rw[AU f,AU f];refine AA (AE ?_);rw[StateT.run_pure];refine AA (AE ?_);dsimp only;refine AA (seqEpoch_at d rfl ?_);refine AA (listUpdate_at d rfl ?_ (by simp) (by rw[GN];show(pairsOf vs).size<=_;rw[pairsOf_size];omega));simp only[bne_self_eq_false,BE,DA];refine AE (h _ (Ma (Z:=Z) (xs:=pairsOf vs) (GM _) ?_));rw[pairsOf_toList];rw[i]at f
  match vs,f with
  | [],_=>exact List.Pairwise.nil
  | [v],_=>exact ED _ _
  | _::_::_,f=>simp at f;omega
 .rw[AO f,AO f];refine AA (K.kind (by omega) A E _ _ r ?_);refine AA (CF (X9 (K.cmp A _ r) (a₀:=pairsOf vs) (st:=SortSt.mk' kd (vs.toArray.zip vs.toArray) #[] 7 none)
   (Q:=fun _ c=>St Z kd (pairsOf vs) c/\LV Z (arrOf c).toList)
   (fun p g=>?_) ⟨GM _,rfl,rfl⟩ rfl fun c u x=>⟨u,x⟩) ?_ fun _ _ e=>e)
  .rw[pairsOf_toList]at g;exact K.key _ (mem_zip_self g).2
  rintro⟨⟨⟩,c⟩ z ⟨rfl,g,y⟩;dsimp only;refine AA (seqEpoch_at d rfl ?_);refine AA (listUpdate_at d rfl ?_ (by simp) (by rw[GN];show(arrOf c).size<=_;rw[g.size,pairsOf_size];omega));rw[show failedOf c=none from g.failed];simp only[bne_self_eq_false,BE,DA];exact AE (h _ (Ma g.perm y))
theorem MM{x:A1}{Q:A1->A3->Prop}
  (g:wpAny (model prog w) A.in1 (collect x) (fun vs s1=>s1.os=s.os/\vs.length<=sizeLine/\(∃(Z:KeyKind) (kd:JQ),(∀d:A3,TC s1.heap.objs.size s1 d->TX prog w s1.heap.objs.size d Z kd vs) /\
   ∀(out:A7 A1) (h':IV) (e:Nat),VH Z vs out->(∀b o,s1.heap.get? b=some o->h'.get? b=some o)->h'.get? s1.heap.objs.size=some (seqObj "list" out e)->Q (.ref s1.heap.objs.size) { s1 with heap:=h' })) E s) :
  wpAny (model prog w) A (call (.builtin "sorted") [x]) Q E s:=by
 refine Calls.call_function_entry kind_sorted plain_sorted entry_sorted (args_sorted1 _) ?_;unfold Builtin.«sorted»;refine AA (m:=checkCount "sorted" 1 1 _) (AE ?_);refine AA (CF g (fun vs s1 ⟨i,j,Z,kd,K,q⟩=>?_) fun _ _ z=>z);refine AA (G_ ?_);have a:(s1.heap.push (seqObj "list" vs.toArray 0)).get? s1.heap.objs.size=some (seqObj "list" vs.toArray 0):=AN _ rfl;show wpAny _ _ _ _ _ { s1 with heap:=s1.heap.push (seqObj "list" vs.toArray 0) };have k:TC s1.heap.objs.size s1 { s1 with heap:=s1.heap.push (seqObj "list" vs.toArray 0) }:=fun b o _ e=>AF _ e;refine AA (CG (CT slot_list_sort ⟨_,a,rfl⟩ entry_list_sort (Eb (s:={ s1 with heap:=s1.heap.push (seqObj "list" vs.toArray 0) }) a j (K _ k) fun out l=>⟨_,rfl,?_⟩) (args_list_sort _)));obtain⟨e,n⟩:=sortedHeap_at (h:=s1.heap.push (seqObj "list" vs.toArray 0)) (out:=out) a;refine AE ⟨_,rfl,q out _ e l (fun b o f=>?_) n⟩;have c:=AJ f;rw[sortedHeap_old (AY c) (by rw[size_push'];exact CS c)];exact AF _ f
theorem ON{a:A2}{vs:A0 A1}{ss:A0 Str}(b:StrsAre vs ss):TX prog w a s strKind oneType' vs:=by
 refine⟨fun A c _=>⟨fun x y k l Q E d e q=>?_⟩,fun v f=>?_,fun g A E c Q _ q=>?_⟩
 .rw[keyLt'_oneType];exact strKind_oneLt prog w A E c x y k l d e q
 .obtain⟨x,t,rfl⟩:=b.all v f;exact⟨_,rfl⟩
 .match vs,g,b with
  | v1::h::r,_,b =>
   rw[keyKind_strs b];exact AE q
def JP(a b:A0 Nat×A0 Nat):Bool:=decide (a.1<b.1)||(decide (a.1=b.1)&&decide (a.2<b.2))
theorem KF{a b:A0 Nat×A0 Nat}:JP a b=true↔a.1<b.1\/(a.1=b.1/\a.2<b.2):=by
 unfold JP;simp
theorem UC(a b:A0 Nat):a<b\/a=b\/b<a:=by
 by_cases h:a<b
 .exact .inl h
 .by_cases c:b<a
  .exact .inr (.inr c)
  .exact .inr (.inl (List.le_antisymm (List.not_lt.mp c) (List.not_lt.mp h)))
def Py:A0 A1->A4 (A0 Nat×A0 Nat)
 | [.str x _,.str y _]=>some (x.cps.toList,y.cps.toList)
 | _=>none
def Sx(c:A1):Data->A4 (A0 Nat×A0 Nat)
 | .seq a _=>if c = .type "tuple" then Py a.toList else none
 | _=>none
def OM(h:IV):A1->A4 (A0 Nat×A0 Nat)
 | .ref p=>(h.get? p).bind fun o=>Sx o.cls o.data
 | _=>none
@[reducible] def pairKind(h:IV):KeyKind where
 α:=A0 Nat×A0 Nat
 blt:=JP
 irrefl a:=by
  rw[BQ];intro z;rcases KF.mp z with z | ⟨_,z⟩
  .exact FX _ z
  .exact FX _ z
 trans a b c e d:=by
  rw[KF]at *;rcases e with e | ⟨e,f⟩
  .rcases d with d | ⟨d,_⟩
   .exact .inl (HS e d)
   .exact .inl (d▸e)
  .rcases d with d | ⟨d,g⟩
   .exact .inl (e▸d)
   .exact .inr ⟨e.trans d,HS f g⟩
 negTrans a b c h:=by
  rw[KF]at h;simp only[KF];rcases h with h | ⟨h,i⟩
  .rcases UC a.1 b.1 with q | q | q
   .exact .inl (.inl q)
   .exact .inr (.inl (q▸h))
   .exact .inr (.inl (HS q h))
  .rcases UC a.1 b.1 with q | q | q
   .exact .inl (.inl q)
   .rcases UC a.2 b.2 with r | r | r
    .exact .inl (.inr ⟨q,r⟩)
    .exact .inr (.inr ⟨q▸h,r▸i⟩)
    .exact .inr (.inr ⟨q▸h,HS r i⟩)
   .exact .inr (.inl (h▸q))
 total a b e d:=by
  rw[BQ]at e d;rcases UC a.1 b.1 with q | q | q
  .exact absurd (KF.mpr (.inl q)) e
  .rcases UC a.2 b.2 with r | r | r
   .exact absurd (KF.mpr (.inr ⟨q,r⟩)) e
   .exact Prod.ext q r
   .exact absurd (KF.mpr (.inr ⟨q.symm,r⟩)) d
  .exact absurd (KF.mpr (.inl q)) d
 keyOf:=OM h
 dflt:=([],[])
def JR(h:IV)(v:A1)(x y:Str):Prop:=∃p o n t u,v = .ref p/\h.get? p=some o/\o.cls = .type "tuple"/\o.data = .seq #[.str x t,.str y u] n
theorem JR.key{h:IV}{v:A1}{x y:Str}(z:JR h v x y):OM h v=some (x.cps.toList,y.cps.toList):=by
 obtain⟨p,o,n,t,u,rfl,e,c,d⟩:=z;show(h.get? p).bind (fun o=>Sx o.cls o.data)=_;rw[e];show Sx o.cls o.data=_;rw[d,c];unfold Sx;exact(AU rfl).trans rfl
theorem zBf{l:A0 A1}{k:A0 Nat×A0 Nat}(e:Py l=some k):∃x t y u,l = [.str x t,.str y u]:=by
 match l,e with
 | [.str x t,.str y u],_=>exact⟨x,t,y,u,rfl⟩
theorem Rn{h:IV}{v:A1}{k:A0 Nat×A0 Nat}(e:OM h v=some k):∃x y,JR h v x y:=by
 match v,e with
 | .ref p,e =>
  have g:(h.get? p).bind (fun o=>Sx o.cls o.data)=some k:=e;obtain⟨o,i,b⟩:=Option.bind_eq_some_iff.mp g;cases d:o.data with
  | seq f n =>
   rw[d]at b;have a:(if o.cls = .type "tuple" then Py f.toList else none)=some k:=b;by_cases c:o.cls = .type "tuple"
   .rw[AU c]at a;obtain⟨x,t,y,u,j⟩:=zBf a;refine⟨x,y,p,o,n,t,u,rfl,i,c,?_⟩;rw[d];have:f = #[.str x t,.str y u]:=by rw[<-IP,j]
    rw[this]
   .rw[AO c]at a;cases a
  | _=>rw[d]at b;cases b
theorem Lh{h:IV}{v:A1}{k:A0 Nat×A0 Nat}{x y:Str}(z:JR h v x y)(e:OM h v=some k):k =(x.cps.toList,y.cps.toList):=by
 rw[z.key]at e;exact(BA e).symm
theorem RQ{a:A2}{vs:A0 A1}{F:IV}(B:∀v∈vs,∃x y,JR F v x y)(C:∀b o,F.get? b=some o->b≠a/\s.heap.get? b=some o) :
  TX prog w a s (pairKind F) (tuples' true) vs:=by
 refine⟨fun A G J=>⟨fun x y k l Q E O P q=>?_⟩,fun v K=>?_,fun h2 A E G Q J q=>?_⟩
 .obtain⟨g,m,R⟩:=Rn O;obtain⟨f,i,S⟩:=Rn P;have Y:=Lh R O;have Z:=Lh S P;subst Y Z;obtain⟨px,ox,nx,t1,u1,rfl,U,_,d1⟩:=R;obtain⟨py,oy,ny,t2,u2,rfl,V,_,d2⟩:=S;have f1:=J _ _ (C _ _ U).1 (C _ _ U).2;have f2:=J _ _ (C _ _ V).1 (C _ _ V).2;refine PySem.W.kat_lt f1 d1 f2 d2 ?_;show PySem.W.KatLex prog w A true _ Q [(.str g t1,.str f t2),(.str m u1,.str i u2)] 0 G;refine PySem.W.kat_cons (GO (PySem.W.kat_go (fun j=>?_) fun j=>?_))
  .have j:g=f:=by simpa using j
   refine PySem.W.kat_yes (PySem.W.kat_cons (GO (PySem.W.kat_go (fun h=>?_) fun h=>?_)))
   .have h:m=i:=by simpa using h
    refine PySem.W.kat_yes (PySem.W.kat_nil ?_);have:JP (g.cps.toList,m.cps.toList) (f.cps.toList,i.cps.toList)=decide (2<2):=by
     rw[j,h];exact(pairKind F).irrefl (f.cps.toList,i.cps.toList)
    show Q (decide (2<2)) G;rw[<-this];exact q
   .refine PySem.W.kat_no (PySem.W.kat_one _ _ (lt_str ?_));have:JP (g.cps.toList,m.cps.toList) (f.cps.toList,i.cps.toList)=decide (m.cps.toList<i.cps.toList):=by
     rw[j];unfold JP;simp[FX]
    show Q (decide (m.cps.toList<i.cps.toList)) G;rw[<-this];exact q
  .have j:¬g=f:=by simpa using j
   refine PySem.W.kat_no (oneLt_str ?_);have L:¬g.cps.toList=f.cps.toList:=fun z=>j (by cases g;cases f;simp at z;simp[z]);have:JP (g.cps.toList,m.cps.toList) (f.cps.toList,i.cps.toList)=decide (g.cps.toList<f.cps.toList):=by
    unfold JP;simp[L]
   rw[<-this];exact q
 .obtain⟨x,y,z⟩:=B v K;exact⟨_,z.key⟩
 .have hT:∀(H:A0 A1),(∀v∈H,∃x y,JR F v x y)->∃D,PySem.W.KatTups G.heap H D/\D.length=H.length/\∀v∈D,∃x t,v = .str x t:=by
   intro H
   induction H with
   | nil=>exact fun _=>⟨[],.nil,rfl,fun v B=>by simp at B⟩
   | cons v r ih =>
    intro I;obtain⟨D,M,X,N⟩:=ih fun u hu=>I u (A_ _ hu);obtain⟨x,y,p,o,n,t,u,rfl,e,c,d⟩:=I v (BG ..);refine⟨.str x t::D,.cons (J _ _ (C _ _ e).1 (C _ _ e).2) c d rfl M,by simp[X],fun z hz=>?_⟩;rcases AV.mp hz with rfl | hz
    .exact⟨x,t,rfl⟩
    .exact N z hz
  obtain⟨D,M,X,N⟩:=hT vs B;refine PySem.W.kat_kind (T:=.type "str") M (by omega) (fun v B=>?_) (by rfl) q;obtain⟨x,t,rfl⟩:=N v B;exact .now
end
end TS
set_option Elab.async false
namespace L2
open PySem PySem.Spec PyProof.Rows
abbrev JZ:=Sum Int Str
def De:JZ->A1->Bool
 | .inl k,v=>Value.isInt k v
 | .inr x,v=>Value.isStrOf x v
def zHj(w:F1):JZ->Int
 | .inl k=>hashInt k
 | .inr x=>hashStr w x
def E7:∀{k:JZ} {v:A1},De k v=true->(∃i t,k=Sum.inl i/\v=Value.int i t)\/(∃x t,k=Sum.inr x/\v=Value.str x t)
 | .inl i,v,h=>by
  obtain⟨t,e⟩:=Value.isInt_shape (k:=i) (v:=v) h;exact .inl ⟨i,t,rfl,e⟩
 | .inr x,v,h=>by
  obtain⟨t,e⟩:=Value.isStrOf_shape (x:=x) (v:=v) h;exact .inr ⟨x,t,rfl,e⟩
def Sc(i:Int)(t:Tok):De (.inl i) (.int i t)=true:=by simp[De,Value.isInt]
def X8(x:Str)(t:Tok):De (.inr x) (.str x t)=true:=by simp[De,Value.isStrOf]
def zCa(a b:Int):decide ((Sum.inl a:JZ)=Sum.inl b) =(a == b):=by
 by_cases e:a=b
 .subst e;simp
 .have h:¬(Sum.inl a:JZ)=Sum.inl b:=fun q=>e (Sum.inl.inj q);rw[AX h];exact(beq_eq_false_iff_ne.mpr e).symm
def zCg(a b:Str):decide ((Sum.inr a:JZ)=Sum.inr b)=decide (a=b):=by
 by_cases e:a=b
 .subst e;simp
 .have h:¬(Sum.inr a:JZ)=Sum.inr b:=fun q=>e (Sum.inr.inj q);rw[AX h,AX e]
def zDv(a:Int)(b:Str):decide ((Sum.inl a:JZ)=Sum.inr b)=false:=AX (fun q=>nomatch q)
def zCe(a:Str)(b:Int):decide ((Sum.inr a:JZ)=Sum.inl b)=false:=AX (fun q=>nomatch q)
def C4(prog:A6)(w:F1):PySem.KeyKind prog w JZ where
 is:=De
 hash:=zHj w
 inj:=fun v a b g f=>by
  rcases E7 g with⟨i,t,rfl,rfl⟩ | ⟨x,t,rfl,rfl⟩
  .rcases E7 f with⟨j,u,rfl,e⟩ | ⟨y,u,rfl,e⟩
   .injection e with c _;rw[c]
   .exact nomatch e
  .rcases E7 f with⟨j,u,rfl,e⟩ | ⟨y,u,rfl,e⟩
   .exact nomatch e
   .injection e with c _;rw[c]
 byValue:=fun k v h=>by
  rcases E7 h with⟨i,t,rfl,rfl⟩ | ⟨x,t,rfl,rfl⟩<;>rfl
 pyHash:=fun d h=>by
  rcases E7 d with⟨i,t,rfl,rfl⟩ | ⟨x,t,rfl,rfl⟩
  .exact wpAny_pyHash_int h
  .exact wpAny_pyHash_str h
 eqBool:=fun l d h=>by
  rcases E7 l with⟨i,t,rfl,rfl⟩ | ⟨x,t,rfl,rfl⟩
  .rcases E7 d with⟨j,u,rfl,rfl⟩ | ⟨y,u,rfl,rfl⟩
   .rw[zCa]at h;exact wpAny_eqBool_int h
   .rw[zDv]at h;exact SeqAt.EqAt.int_str i t y u _ _ _ _ h
  .rcases E7 d with⟨j,u,rfl,rfl⟩ | ⟨y,u,rfl,rfl⟩
   .rw[zCe]at h;exact SeqAt.EqAt.str_int x t j u _ _ _ _ h
   .rw[zCg]at h;exact GO h
 «strs»:=fun k x t v h=>by
  rcases E7 h with⟨i,u,rfl,e⟩ | ⟨y,u,rfl,e⟩
  .exact nomatch e
  .injection e with c _;subst c;cases v<;>rfl
def Im(prog:A6)(w:F1)(i:Int)(t:Tok):(C4 prog w).is (.inl i) (.int i t)=true:=Sc i t
def Ju(prog:A6)(w:F1)(x:Str)(t:Tok):(C4 prog w).is (.inr x) (.str x t)=true:=X8 x t
inductive V where
 | non | bl (b:Bool) | int (i:Int) | str (x:Str) | byt (b:A7 UInt8) | flt (b:UInt64) | ref (a:A2) | ty (n:String)
 deriving DecidableEq
def RelV:V->A1->Prop
 | .non,u=>u=Value.none
 | .bl b,u=>u=Value.bool b
 | .int i,u=>∃t,u=Value.int i t
 | .str x,u=>∃t,u=Value.str x t
 | .byt b,u=>∃t,u=Value.bytes b t
 | .flt b,u=>∃t,u=Value.float b t
 | .ref a,u=>u=Value.ref a
 | .ty n,u=>u=Value.type n
abbrev JA:A0 V->A0 A1->Prop:=Paired RelV
def JA.length{xs:A0 V}{us:A0 A1}(r:JA xs us):xs.length=us.length:=Paired.length r
def JA.get:∀{xs:A0 V} {us:A0 A1} {i:Nat} {x:V},JA xs us->xs[i]?=some x->∃u,us[i]?=some u/\RelV x u
 | _,_,_,_,.nil,e=>by simp at e
 | _,_,0,_,.cons r _,e=>by simp at e;subst e;exact⟨_,rfl,r⟩
 | _,_,i+1,x,.cons _ t,e=>by
  obtain⟨u,a,b⟩:=JA.get (i:=i) (x:=x) t (by simpa using e);exact⟨u,by simpa using a,b⟩
def JA.set{x:V}{u:A1}(r:RelV x u):∀{xs:A0 V} {us:A0 A1} (i:Nat),JA xs us->JA (xs.set i x) (us.set i u)
 | _,_,_,.nil=>.nil
 | _,_,0,.cons _ t=>.cons r t
 | _,_,i+1,.cons q t=>.cons q (JA.set r i t)
def JA.append:∀{xs ys:A0 V} {us a:A0 A1},JA xs us->JA ys a->JA (xs++ys) (us++a)
 | _,_,_,_,.nil,s=>s
 | _,_,_,_,.cons r t,s=>.cons r (JA.append t s)
def JA.take:∀{xs:A0 V} {us:A0 A1} (n:Nat),JA xs us->JA (xs.take n) (us.take n)
 | _,_,0,_=>.nil
 | _,_,_+1,.nil=>.nil
 | _,_,n+1,.cons r t=>.cons r (JA.take n t)
def JA.drop:∀{xs:A0 V} {us:A0 A1} (n:Nat),JA xs us->JA (xs.drop n) (us.drop n)
 | _,_,0,r=>r
 | _,_,_+1,.nil=>.nil
 | _,_,n+1,.cons _ t=>JA.drop n t
def OI:A4 V->A4 A1->Prop
 | some v,some u=>RelV v u
 | none,none=>True
 | _,_=>False
def KV{Z:Type}:A0 (Z×V)->A0 (Z×A1)->Prop:=Paired fun(p:Z×V) (q:Z×A1)=>p.1=q.1/\RelV p.2 q.2
def kV:JZ->V
 | .inl i=>.int i
 | .inr x=>.str x
inductive HO where
 | lst (xs:A0 V)
 | tup (xs:A0 V)
 | dK (kvs:A0 (JZ×V)) | dT (kvs:A0 (A0 JZ×V))
 | set (S:Int->Bool) (n:Nat)
 | ins (C dx:A2) (fs:A0 (Str×V))
 | own (x:A2)
 | xd (fs:A0 (Str×V))
 | met (f x:A2)
 | rng (lo hi:Int)
 | frz (o:Obj) (u:HO)
 | tbl (ps:A7 A1)
 | ext (φ:IV->Prop)
set_option genInjectivity false
abbrev Hp:=A2->A4 HO
def IU(H:Hp)(a:A2)(o:HO):Hp:=fun b=>if b=a then some o else H b
def A9{H:Hp}{a:A2}{o:HO}:IU H a o a=some o:=by unfold IU;rw[AU rfl]
def B6{H:Hp}{a b:A2}{o:HO}(h:b≠a):IU H a o b=H b:=by unfold IU;rw[AO h]
def U6{H:Hp}{a b:A2}{o u:HO}(h:H a=some o)(h':H b=some u)(d:o≠u):a≠b:=by
 intro e;subst e;rw[h]at h';exact d (BA h')
def B1{H:Hp}{a b:A2}{o:HO}(h:H a=some o)(h':H b=none):a≠b:=by
 intro e;subst e;rw[h]at h';cases h'
section
variable(P:A6)(w:F1)
def JH(H:Hp)(h:IV)(a:A2):HO->Prop
 | .lst d=>d.length<=sizeLine/\∃(b:A0 A1) (n:Nat),JA d b/\h.get? a=some { cls:=.type "list",data:=.seq b.toArray n }
 | .tup d=>d.length<=sizeLine/\∃b:A0 A1,JA d b/\IsTup h a b.toArray
 | .dK c=>c.length<=sizeLine/\(a == sysModules)=false/\∃j,KV c j/\h.DictOf (C4 P w) a j
 | .dT c=>c.length<=sizeLine/\(a == sysModules)=false/\∃d:A0 (A0 JZ×A2×A1),
   Paired (fun(p:A0 JZ×V) (q:A0 JZ×A2×A1)=>p.1=q.1/\H q.2.1=some (.tup (p.1.map kV))/\RelV p.2 q.2.2) c d /\
   ∃o k r,h.get? a=some o/\o.ExactDict/\o.data = .dict k r/\k.toList=d.map (entryOfKey (tupleKind (C4 P w)))/\(d.map (·.1)).Nodup
 | .set S n=>h.SetOf (intKind P w) a S n
 | .ins C i g=>H i=some (.own a)/\g.length<=1000/\i≠a/\h.get? a=some (PySem.W.instObj C i) /\
   ∃e,h.Ns1 i e/\(∀f,OI (g.lookup f) (e f))/\PySem.Within e (g.map (·.1))
 | .own _=>∃o,h.get? a=some o
 | .xd g=>∃e,h.Ns1 a e/\∀f,OI (g.lookup f) (e f)
 | .rng lo s=>∃t u v,h.get? a=some { cls:=.type "range",data:=.fields #[.int lo t,.int s u,.int 1 v] }
 | .frz o u=>h.get? a=some o/\JH H h a u
 | .tbl y=>h.get? a=some { cls:=.none,data:=.fields y }
 | .met f x=>h.get? a=some (PySem.W.methodObj (.ref f) (.ref x))
 | .ext φ=>φ h/\(∃o,h.get? a=some o)/\∀l m:IV,φ l->(∀o,l.get? a=some o->m.get? a=some o)->φ m
def OJ(H:Hp)(h:IV):Prop:=∀a o,H a=some o->JH P w H h a o
end
section
variable{P:A6}{w:F1}{H H':Hp}{h h':IV}{a:A2}{o:HO}
theorem JH.lt(x:JH P w H h a o):a<h.objs.size:=by
 cases o with
 | lst c=>obtain⟨_,_,_,_,e⟩:=x;exact AJ e
 | tup c=>obtain⟨_,_,_,p⟩:=x;exact p.lt
 | dK b=>obtain⟨_,_,_,_,o,_,_,e,_⟩:=x;exact AJ e
 | dT b=>obtain⟨_,_,_,_,o,_,_,e,_⟩:=x;exact AJ e
 | set S n=>obtain⟨o,_,_,_,e,_⟩:=x;exact AJ e
 | ins C g d=>obtain⟨_,_,_,e,_⟩:=x;exact AJ e
 | own y=>obtain⟨_,e⟩:=x;exact AJ e
 | xd d=>obtain⟨_,⟨_,_,_,e,_⟩,_⟩:=x;exact AJ e
 | rng lo i=>obtain⟨_,_,_,e⟩:=x;exact AJ e
 | frz j u=>obtain⟨e,_⟩:=x;exact AJ e
 | tbl k=>exact AJ (show h.get? a=some _ from x)
 | met f y=>exact AJ (show h.get? a=some _ from x)
 | ext φ=>obtain⟨_,⟨_,e⟩,_⟩:=x;exact AJ e
theorem Paired.mapP{α β:Type}{F G:α->β->Prop}:∀{l₁:A0 α} {l₂:A0 β},Paired F l₁ l₂->(∀a b,F a b->G a b)->Paired G l₁ l₂
 | _,_,.nil,_=>.nil
 | _,_,.cons r t,f=>.cons (f _ _ r) (Paired.mapP t f)
theorem JH.stay(x:JH P w H h a o)(k:∀b u,(b=a\/H b=some (.own a))->h.get? b=some u->h'.get? b=some u)
  (D:∀b,H b=some (.own a)->H' b=some (.own a)) (E:∀b xs,H b=some (.tup xs)->H' b=some (.tup xs)):JH P w H' h' a o:=by
 induction o with
 | lst xs=>obtain⟨z,l,n,r,e⟩:=x;exact⟨z,l,n,r,k _ _ (.inl rfl) e⟩
 | tup xs=>obtain⟨z,l,r,g,e,c⟩:=x;exact⟨z,l,r,g,k _ _ (.inl rfl) e,c⟩
 | dK m=>obtain⟨z,y,F,r,g,i,j,e,c⟩:=x;exact⟨z,y,F,r,g,i,j,k _ _ (.inl rfl) e,c⟩
 | dT m =>
  obtain⟨z,y,xs,r,g,i,j,e,c⟩:=x;exact⟨z,y,xs,Paired.mapP r fun p q z=>⟨z.1,E _ _ z.2.1,z.2.2⟩,g,i,j,k _ _ (.inl rfl) e,c⟩
 | set S n=>obtain⟨g,i,j,t,e,c⟩:=x;exact⟨g,i,j,t,k _ _ (.inl rfl) e,c⟩
 | ins C L G =>
  obtain⟨d,z,I,e,s,⟨A,i,j,J,c⟩,r⟩:=x;exact⟨D _ d,z,I,k _ _ (.inl rfl) e,s,⟨A,i,j,k _ _ (.inr d) J,c⟩,r⟩
 | own y=>obtain⟨g,e⟩:=x;exact⟨g,k _ _ (.inl rfl) e⟩
 | xd G=>obtain⟨s,⟨A,i,j,e,c⟩,r⟩:=x;exact⟨s,⟨A,i,j,k _ _ (.inl rfl) e,c⟩,r⟩
 | rng lo M=>obtain⟨t,u,v,e⟩:=x;exact⟨t,u,v,k _ _ (.inl rfl) e⟩
 | frz g u K=>obtain⟨e,q⟩:=x;exact⟨k _ _ (.inl rfl) e,K q⟩
 | tbl B =>
  have e:h.get? a=some { cls:=.none,data:=.fields B }:=x;show h'.get? a=some { cls:=.none,data:=.fields B };exact k a _ (.inl rfl) e
 | met f y =>
  have e:h.get? a=some (PySem.W.methodObj (.ref f) (.ref y)):=x;show h'.get? a=some (PySem.W.methodObj (.ref f) (.ref y));exact k a _ (.inl rfl) e
 | ext φ=>obtain⟨p,⟨o,e⟩,st⟩:=x;exact⟨st _ _ p fun o q=>k _ _ (.inl rfl) q,⟨o,k _ _ (.inl rfl) e⟩,st⟩
theorem OJ.lt(x:OJ P w H h)(e:H a=some o):a<h.objs.size:=(x a o e).lt
theorem OJ.fresh(x:OJ P w H h)(e:h.objs.size<=a):H a=none:=by
 cases q:H a with
 | none=>rfl
 | some u=>exact absurd (BF (x.lt q) e) (CQ _)
theorem OJ.kept(x:OJ P w H h)(k:∀b u,h.get? b=some u->h'.get? b=some u):OJ P w H h':=fun a o e =>
 (x a o e).stay (fun b u _ q=>k b u q) (fun _ q=>q) fun _ _ q=>q
theorem OJ.laid(x:OJ P w H h)(k:∀b u,h.get? b=some u->h'.get? b=some u)(i:h.objs.size<=a)(d:JH P w (IU H a o) h' a o):OJ P w (IU H a o) h':=fun b u e=>by
 have f:=x.fresh i;by_cases g:b=a
 .subst g;rw[A9]at e;cases e;exact d
 .rw[B6 g]at e;exact(x b u e).stay (fun c v _ q=>k c v q) (fun c q=>by rw[B6 (B1 q f)];exact q) fun c j q=>by rw[B6 (B1 q f)];exact q
end
def Rd(H:Hp)(a:A2)(u:HO):Prop:=H a=some u\/∃o,H a=some (.frz o u)
def Rd.ok{P:A6}{w:F1}{H:Hp}{h:IV}{a:A2}{u:HO}(r:Rd H a u)(x:OJ P w H h):JH P w H h a u:=by
 rcases r with r | ⟨o,r⟩
 .exact x a u r
 .obtain⟨_,q⟩:=x a _ r;exact q
def VJ:A4 HO->Prop
 | some (.lst _)=>True
 | some (.dK _)=>True
 | some (.dT _)=>True
 | some (.set _ _)=>True
 | some (.ins _ _ _)=>True
 | some (.ext _)=>True
 | _=>False
section
variable{P:A6}{w:F1}{H:Hp}{h h':IV}{x e:A2}{o':HO}
theorem OJ.write(p:OJ P w H h)(g:VJ (H x))(n:e=x\/H e=some (.own x))(k:∀b u,b≠e->h.get? b=some u->h'.get? b=some u)(l:∃u,h'.get? e=some u)
  (m:JH P w (IU H x o') h' x o'):OJ P w (IU H x o') h':=fun b u q=>by
 have d:∀c y,H c=some (.own y)->c≠x:=fun c y r z=>by subst z;rw[r]at g;exact g
 have f:∀c i,H c=some (.tup i)->c≠x:=fun c i r z=>by subst z;rw[r]at g;exact g
 by_cases j:b=x
 .subst j;rw[A9]at q;cases q;exact m
 .rw[B6 j]at q;by_cases a:b=e
  .have o:H b=some (.own x):=by
    rcases n with z | z
    .exact absurd (a.trans z) j
    .rw[a];exact z
   rw[q]at o;cases o;obtain⟨v,s⟩:=l;exact⟨v,by rw[a];exact s⟩
  .refine(p b u q).stay (fun c v hc r=>k c v ?_ r) (fun c r=>by rw[B6 (d c b r)];exact r) fun c i r=>by rw[B6 (f c i r)];exact r
   rcases hc with rfl | hc
   .exact a
   .rintro rfl;rcases n with z | z
    .exact d c b hc z
    .rw[hc]at z;cases z;exact j rfl
end
structure Un(fs ex:A0 A2)(H H':Hp)(h h':IV):Prop where
 keep:∀b o,h.get? b=some o->H b=none->b∉fs->b∉ex->h'.get? b=some o
 slot:∀b o,h.get? b=some o->H b=none->b∈fs->b∉ex->∃sl,h'.get? b=some { o with slots:=sl }
 free:∀b o,h.get? b=some o->H b=none->b∉ex->H' b=none
 there:∀b o,h.get? b=some o->b∉ex->∃o',h'.get? b=some o'
 tups:∀b xs,H b=some (.tup xs)->H' b=some (.tup xs)
 frzs:∀b o u,H b=some (.frz o u)->H' b=some (.frz o u)
 tbls:∀b ps,H b=some (.tbl ps)->∃more,H' b=some (.tbl (ps++more))
section
variable{fs fs' ex ex':A0 A2}{H H1 H2:Hp}{h h1 h2 h':IV}{a x e:A2}{o:HO}
theorem Un.any(u:Un fs ex H H1 h h1){b:A2}{ob:Obj}(q:h.get? b=some ob)(n:H b=none)(a:b∉ex):∃d,h1.get? b=some { ob with slots:=d }:=by
 by_cases c:b∈fs
 .exact u.slot b ob q n c a
 .exact⟨ob.slots,u.keep b ob q n c a⟩
theorem Un.kept(k:∀b u,h.get? b=some u->h'.get? b=some u):Un fs ex H H h h' :=
 ⟨fun b a q _ _ _=>k b a q,fun b a q _ _ _=>⟨a.slots,k b a q⟩,fun _ _ _ n _=>n,fun b a q _=>⟨a,k b a q⟩,fun _ _ q=>q,fun _ _ _ q=>q,fun _ c q=>⟨#[],by rw[q];simp⟩⟩
theorem Un.refl:Un fs ex H H h h:=Un.kept fun _ _ q=>q
theorem Un.laid(k:∀b u,h.get? b=some u->h'.get? b=some u)(d:h.objs.size<=a)(c:H a=none):Un fs ex H (IU H a o) h h' where
 keep:=fun b u q _ _ _=>k b u q
 slot:=fun b u q _ _ _=>⟨u.slots,k b u q⟩
 free:=fun b u q n _=>by rw[B6 (AY (BF (AJ q) d))];exact n
 there:=fun b u q _=>⟨u,k b u q⟩
 tups:=fun b e q=>by rw[B6 (B1 q c)];exact q
 frzs:=fun b u e q=>by rw[B6 (B1 q c)];exact q
 tbls:=fun b f q=>⟨#[],by rw[B6 (B1 q c),q];simp⟩
theorem Un.write(c:VJ (H x))(j:e=x\/H e=some (.own x))(k:∀b u,b≠e->h.get? b=some u->h'.get? b=some u)(d:∃u,h'.get? e=some u):Un fs ex H (IU H x o) h h':=by
 have g:∀b,H b=none->b≠x:=fun b n z=>by subst z;rw[n]at c;exact c
 have i:∀b,H b=none->b≠e:=fun b n z=>by
  subst z;rcases j with r | r
  .exact g b n r
  .rw[n]at r;cases r
 have f:∀b u,H b=some u->¬VJ (some u)->b≠x:=fun b u q l z=>by subst z;rw[q]at c;exact l c
 refine⟨fun b u q n _ _=>k b u (i b n) q,fun b u q n _ _=>⟨u.slots,k b u (i b n) q⟩,fun b u q n _=>by rw[B6 (g b n)];exact n,fun b u q _=>?_,
  fun b m q=>by rw[B6 (f b _ q fun z=>z)];exact q,fun b u m q=>by rw[B6 (f b _ q fun z=>z)];exact q,fun b p q=>⟨#[],by rw[B6 (f b _ q fun z=>z),q];simp⟩⟩
 by_cases a:b=e
 .subst a;exact d
 .exact⟨u,k b u a q⟩
end
def trk(h:IV)(H:Hp):A0 A2:=(List.range h.objs.size).filter fun a=>(H a).isSome
def Vt(h:IV)(H:Hp):IV:=PySem.W.hideAll h (trk h H)
def Oi(h:IV)(H:Hp):(Vt h H).objs.size=h.objs.size:=PySem.W.hideAll_size _ _
def Tw{h:IV}{H:Hp}{b:A2}{o:Obj}(e:h.get? b=some o)(n:H b=none):(Vt h H).get? b=some o :=
 PySem.W.hideAll_get _ e fun a=>by
  have q:(H b).isSome=true:=(BI.mp a).2;rw[n]at q;simp at q
def zAk{h:IV}{H:Hp}{b:A2}{o:Obj}(e:(Vt h H).get? b=some o):h.get? b=some o/\H b=none:=by
 have a:h.get? b=some o:=PySem.W.of_hideAll (trk h H) e;refine⟨a,?_⟩;cases q:H b with
 | none=>rfl
 | some x =>
  have c:b∈trk h H:=BI.mpr ⟨CB.mpr (AJ a),by simp[q]⟩;have z:(Vt h H).get? b=none:=PySem.W.hideAll_none (trk h H) c;rw[z]at e;cases e
structure Mod(K:PySem.W.Frag)(mg:Str->A4 A1)(base:IV):Prop where
 kin:K.In base
 glob:base.Ns mainGlobals mg
 blt:∃mb,base.Ns builtinsNs mb/\∀x:Str,x≠ "__name__"->mb x=bootBuiltins x
 nolimit:base.NoLimit
structure Cx where
 prog:A6
 w:F1
 K:PySem.W.Frag
 mg:Str->A4 A1
 base:IV
 A:IZ
 N:A0 Str
 s₀:A3
 H₀:Hp
 env:SF
 outer:A0 SF
 stack:A0 SF
 ex:A0 A2
 fn:Str->Bool
 calm:Bool
 pn:A0 (A2×Obj)
 xe:A1->A3->Prop
def SO(l:A0 SF):A0 A2:=l.filterMap (·.frame)
abbrev Cx.fs(X:Cx):A0 A2:=SO X.outer
def VD(a:JY)(x:Str):Prop:=a.names.lookup x=some .local\/a.names.lookup x=some .cell\/a.names.lookup x=some .free
def Loc(a:JY)(x:Str):Prop:=a.names.lookup x=some .local\/a.names.lookup x=some .cell
def zHm(a:SF)(h:IV)(m:Str->A4 A1)(x:Str)(u:A1):Prop :=
 (a.kindOf x=some .local/\m x=some u)\/((a.kindOf x=some .cell\/a.kindOf x=some .free)/\∃c,a.cells.lookup x=some c/\h.IsCell c (some u))
structure Cx.Ok(X:Cx):Prop where
 mod:Mod X.K X.mg X.base
 kind:X.env.scope.kind = .function
 glob:X.env.globals=mainGlobals
 blt:X.env.builtins=builtinsNs
 above:X.s₀.heap.objs.size<=X.env.locals
 inj:∀x y c,X.env.cells.lookup x=some c->X.env.cells.lookup y=some c->x=y
 has:∀x,(X.env.kindOf x=some .cell\/X.env.kindOf x=some .free)->∃c,X.env.cells.lookup x=some c
 cab:∀x c,X.fn x=true->X.env.cells.lookup x=some c->X.s₀.heap.objs.size<=c
 hd:X.calm=true->X.A.handled=none
 frames:X.A.frames=some X.stack
 stk:X.stack=X.outer\/(X.stack=X.env::X.outer/\X.env.frame=some X.env.locals)
 exf:∀b∈X.ex,b≠X.env.locals/\∀x c,X.env.cells.lookup x=some c->c≠b
 bs:∀b o,X.base.get? b=some o->X.s₀.heap.get? b=some o/\X.H₀ b=none
 bsz:X.base.objs.size<=X.s₀.heap.objs.size
 noex:∀b o,X.base.get? b=some o->b∉X.ex
 exfs:∀b∈X.ex,b∉X.fs
 funs:X.s₀.heap.FunFrames X.base X.outer
 frf:∀b∈X.fs,X.H₀ b=none
structure Inv(X:Cx)(pins:A0 (A2×Obj))(σ:A0 (A4 V))(H:Hp)(s:A3):Prop where
 ok:X.Ok
 os:s.os=X.s₀.os
 bare:AllBare s.gens
 base:Un X.fs X.ex X.H₀ H X.s₀.heap s.heap
 loc:∃m,s.heap.Ns X.env.locals m/\∀(i:Nat) (x:Str) (v:V),X.N[i]?=some x->σ[i]?=some (some v)->VD X.env.scope x->∃u,RelV v u/\zHm X.env s.heap m x u
 cell:∀x c,X.env.cells.lookup x=some c->∃v,s.heap.IsCell c v
 free:H X.env.locals=none
 freeC:∀x c,X.env.cells.lookup x=some c->H c=none
 pin:∀p∈X.pn++pins,s.heap.get? p.1=some p.2/\H p.1=none/\p.1≠X.env.locals/\p.1∉X.fs/\∀v,p.2.data≠ .cell v
 hok:OJ X.prog X.w H s.heap
 len:σ.length=X.N.length
section
variable{X:Cx}{pins:A0 (A2×Obj)}{σ:A0 (A4 V)}{H H':Hp}{s:A3}{h':IV}
theorem Cx.Ok.nofr(a:X.Ok){b:A2}{o:Obj}(e:X.base.get? b=some o):b∉X.fs:=fun c=>by
 have:=(a.funs.mem c).1;rw[e]at this;cases this
theorem Inv.bs(I:Inv X pins σ H s):∀b o,X.base.get? b=some o->s.heap.get? b=some o/\H b=none:=fun b o e =>
 ⟨I.base.keep b o (I.ok.bs b o e).1 (I.ok.bs b o e).2 (I.ok.nofr e) (I.ok.noex b o e),I.base.free b o (I.ok.bs b o e).1 (I.ok.bs b o e).2 (I.ok.noex b o e)⟩
theorem Inv.bk(I:Inv X pins σ H s):∀b o,X.base.get? b=some o->s.heap.get? b=some o:=fun b o e=>(I.bs b o e).1
theorem Inv.mod(I:Inv X pins σ H s):Mod X.K X.mg X.base:=I.ok.mod
theorem Inv.kIn(I:Inv X pins σ H s):X.K.In s.heap:=I.ok.mod.kin.keeps I.bk
theorem Inv.lt(I:Inv X pins σ H s):X.env.locals<s.heap.objs.size:=let⟨_,a,_⟩:=I.loc;a.lt
theorem Inv.sz(I:Inv X pins σ H s):X.s₀.heap.objs.size<=s.heap.objs.size:=Nat.le_trans I.ok.above (FD I.lt)
theorem Inv.nofs(I:Inv X pins σ H s){a:A2}(h:s.heap.objs.size<=a):a∉X.fs:=fun b=>by
 obtain⟨_,o,c,_⟩:=I.ok.funs.mem b;exact absurd (BF (AJ c) (Nat.le_trans I.sz h)) (CQ _)
theorem Inv.cne(I:Inv X pins σ H s):∀x c,X.env.cells.lookup x=some c->c≠X.env.locals:=fun x c e z=>by
 obtain⟨v,o,d,f⟩:=I.cell x c e;obtain⟨m,⟨g,h,i,a,b,_⟩,_⟩:=I.loc;rw[z,a]at d;cases d;rw[b]at f;cases f
theorem Inv.funs(I:Inv X pins σ H s):s.heap.FunFrames X.base X.outer:=by
 have a:∀(l:A0 SF),(∀b∈SO l,b∈X.fs)->X.s₀.heap.FunFrames X.base l->s.heap.FunFrames X.base l:=by
  intro l
  induction l with
  | nil=>intro _ _;trivial
  | cons h r i =>
   intro g j;obtain⟨k,⟨L,o,c,m,n,p⟩,q⟩:=j;have d:L∈X.fs:=g L (by unfold SO;rw[FQ,c];exact BG);obtain⟨t,e⟩:=I.base.slot L o n (I.ok.frf L d) d fun z=>I.ok.exfs L z d;exact⟨k,⟨L,_,c,m,e,p⟩,i (fun b f=>g b (by unfold SO;rw[FQ,c];exact A_ _ f)) q⟩
 exact a X.outer (fun _ f=>f) I.ok.funs
theorem Inv.stack(I:Inv X pins σ H s):s.heap.FunFrames X.base X.stack:=by
 rcases I.ok.stk with e | ⟨e,a⟩
 .rw[e];exact I.funs
 .rw[e];obtain⟨m,b,_⟩:=I.loc;refine .cons (by rw[I.ok.kind];decide) a b ?_ I.funs;exact Heap.get?_none_of_le (Nat.le_trans I.ok.bsz I.ok.above)
theorem Inv.stkSub(I:Inv X pins σ H s):∀b∈SO X.stack,b∈X.env.locals::X.fs:=fun b a=>by
 rcases I.ok.stk with e | ⟨e,c⟩
 .rw[e]at a;exact A_ _ a
 .rw[e]at a;unfold SO at a;rw[FQ,c]at a;exact a
theorem Inv.stkFree(I:Inv X pins σ H s):∀b∈SO X.stack,H b=none:=fun b hb=>by
 rcases AV.mp (I.stkSub b hb)with e | hb
 .rw[e];exact I.free
 .obtain⟨_,o,a,_⟩:=I.ok.funs.mem hb;exact I.base.free b o a (I.ok.frf b hb) fun z=>I.ok.exfs b z hb
theorem Inv.step{g':A7 GenState}{t':Nat}{d':Drawn}{ch:A0 A2}(I:Inv X pins σ H s)
  (g:∀b∈ch,(b∈X.ex\/X.s₀.heap.objs.size<=b)/\b≠X.env.locals/\(∀x c,X.env.cells.lookup x=some c->c≠b)/\∀p∈X.pn++pins,p.1≠b)
  (h:∀b o,b≠X.env.locals->b∉X.fs->b∉ch->s.heap.get? b=some o->H b=none->h'.get? b=some o)
  (B:∀b o,b≠X.env.locals->b∈X.fs->b∉ch->s.heap.get? b=some o->H b=none->∃N,h'.get? b=some { o with slots:=N }) (f:∀b o,b∉ch->s.heap.get? b=some o->H b=none->H' b=none)
  (C:∀b o,b∉ch->s.heap.get? b=some o->∃F,h'.get? b=some F)
  (G:∀b xs,H b=some (.tup xs)->H' b=some (.tup xs)) (J:∀b o u,H b=some (.frz o u)->H' b=some (.frz o u)) (K:∀b ps,H b=some (.tbl ps)->∃more,H' b=some (.tbl (ps++more)))
  (ns:∀m,s.heap.Ns X.env.locals m->h'.Ns X.env.locals m) (O:OJ X.prog X.w H' h') (V:AllBare g') :
  Inv X pins σ H' { s with heap:=h',gens:=g',drawn:=d',toks:=t' }:=by
 have L:∀b o,X.s₀.heap.get? b=some o->b≠X.env.locals:=fun b o e=>AY (BF (AJ e) I.ok.above);have y:∀b o,X.s₀.heap.get? b=some o->b∉X.ex->b∉ch:=fun b o e a D=>by
  rcases(g b D).1 with z | z
  .exact a z
  .exact absurd (BF (AJ e) z) (CQ _)
 have j:∀x c,X.env.cells.lookup x=some c->∀v,s.heap.IsCell c v->h'.IsCell c v:=fun x c e v ⟨o,E,P⟩=>by
  have t:c∉ch:=fun z=>(g c z).2.2.1 x c e rfl;by_cases R:c∈X.fs
  .obtain⟨N,q⟩:=B c o (I.cne x c e) R t E (I.freeC x c e);exact⟨_,q,P⟩
  .exact⟨o,h c o (I.cne x c e) R t E (I.freeC x c e),P⟩
 refine⟨I.ok,I.os,V,⟨fun b o e n D a=>?_,fun b o e n D a=>?_,fun b o e n a=>?_,fun b o e a=>?_,fun b xs e=>G b xs (I.base.tups b xs e),fun b o xs e=>J b o xs (I.base.frzs b o xs e),fun b ps e=>?_⟩,?_,fun x c e=>?_,?_,fun x c e=>?_,fun p S=>?_,O,I.len⟩
 .exact h b o (L b o e) D (y b o e a) (I.base.keep b o e n D a) (I.base.free b o e n a)
 .obtain⟨N,A⟩:=I.base.slot b o e n D a;obtain⟨Q,M⟩:=B b _ (L b o e) D (y b o e a) A (I.base.free b o e n a);exact⟨Q,M⟩
 .obtain⟨F,A⟩:=I.base.there b o e a;exact f b F (y b o e a) A (I.base.free b o e n a)
 .obtain⟨F,A⟩:=I.base.there b o e a;exact C b F (y b o e a) A
 .obtain⟨W,A⟩:=I.base.tbls b ps e;obtain⟨Y,M⟩:=K b _ A;exact⟨W++Y,by rw[M,Array.append_assoc]⟩
 .obtain⟨m,Z,hl⟩:=I.loc;refine⟨m,ns m Z,fun i x v A M e3=>?_⟩;obtain⟨u,r,l⟩:=hl i x v A M e3;refine⟨u,r,?_⟩;rcases l with l | ⟨k,c,e,z⟩
  .exact .inl l
  .exact .inr ⟨k,c,e,j x c e _ z⟩
 .obtain⟨v,z⟩:=I.cell x c e;exact⟨v,j x c e v z⟩
 .obtain⟨m,⟨o,_,_,E,_⟩,_⟩:=I.loc;exact f _ o (fun z=>(g _ z).2.1 rfl) E I.free
 .obtain⟨v,o,E,P⟩:=I.cell x c e;exact f c o (fun z=>(g c z).2.2.1 x c e rfl) E (I.freeC x c e)
 .obtain⟨e,n,T,U,d⟩:=I.pin p S;have t:p.1∉ch:=fun z=>(g p.1 z).2.2.2 p S rfl;exact⟨h p.1 p.2 T U t e n,f p.1 p.2 t e n,T,U,d⟩
theorem Inv.un{t':Nat}(I:Inv X pins σ H s)(u:Un X.fs [] H H' s.heap h')(c:OJ X.prog X.w H' h'):Inv X pins σ H' { s with heap:=h',toks:=t' }:=by
 obtain⟨m,⟨o,l,p,h,r⟩,_⟩:=id I.loc;obtain⟨q,i⟩:=u.any h I.free (by simp);exact I.step (g':=s.gens) (d':=s.drawn) (ch:=[]) (fun _ z=>nomatch z) (fun b o _ d _ e n=>u.keep b o e n d (by simp)) (fun b o _ d _ e n=>u.slot b o e n d (by simp)) (fun b o _ e n=>u.free b o e n (by simp)) (fun b o _ e=>u.there b o e (by simp)) u.tups u.frzs u.tbls (fun t j=>by
  obtain⟨v,f,g,a,k⟩:=j;rw[h]at a;cases a;exact⟨_,f,g,i,k⟩) c I.bare
theorem Inv.call{g':A7 GenState}{t':Nat}{d':Drawn}{ch:A0 A2}(I:Inv X pins σ H s)(u:Un (SO X.stack) ch H H' s.heap h')(g:OJ X.prog X.w H' h')(l:AllBare g')
  (d:∀b∈ch,(b∈X.ex\/X.s₀.heap.objs.size<=b)/\b≠X.env.locals/\(∀x c,X.env.cells.lookup x=some c->c≠b)/\∀p∈X.pn++pins,p.1≠b) :
  Inv X pins σ H' { s with heap:=h',gens:=g',drawn:=d',toks:=t' }:=by
 obtain⟨m,⟨o,y,A,k,r⟩,_⟩:=id I.loc;obtain⟨B,h⟩:=u.any k I.free fun z=>(d _ z).2.1 rfl;exact I.step (ch:=ch) d (fun b o h q a e n=>u.keep b o e n (fun z=>(AV.mp (I.stkSub b z)).elim h q) a) (fun b o _ _ a e n=>u.any e n a) (fun b o a e n=>u.free b o e n a) (fun b o a e=>u.there b o e a) u.tups u.frzs u.tbls (fun C t=>by
  obtain⟨D,i,j,f,v⟩:=t;rw[k]at f;cases f;exact⟨_,i,j,h,v⟩) g l
theorem Inv.turned{t':Nat}{a:A2}(I:Inv X pins σ H s)(k:∀b o,b≠a->s.heap.get? b=some o->h'.get? b=some o)(h:H a=none)(g:a≠X.env.locals)
  (h1:a∈X.ex\/X.s₀.heap.objs.size<=a) (h2:∀x c,X.env.cells.lookup x=some c->c≠a) (i:∀p∈X.pn++pins,p.1≠a):Inv X pins σ H { s with heap:=h',toks:=t' }:=by
 have f:∀b u,H b=some u->b≠a:=fun b u e z=>by rw[z,h]at e;cases e
 refine I.step (g':=s.gens) (d':=s.drawn) (ch:=[a]) (fun b j=>?_) (fun b o _ _ d e _=>k b o (fun z=>d (by simp[z])) e) (fun b o _ _ d e _=>⟨o.slots,k b o (fun z=>d (by simp[z])) e⟩) (fun _ _ _ _ n=>n)
  (fun b o d e=>⟨o,k b o (fun z=>d (by simp[z])) e⟩) (fun _ _ e=>e) (fun _ _ _ e=>e) (fun b A e=>⟨#[],by rw[e];simp⟩) (fun m l=>?_) (fun b u e=>?_) I.bare
 .have e:b=a:=by simpa using j
  subst e;exact⟨h1,g,h2,i⟩
 .obtain⟨o,t,w,y,r⟩:=l;exact⟨o,t,w,k _ o (Ne.symm g) y,r⟩
 .refine(I.hok b u e).stay (fun c v d q=>k c v ?_ q) (fun _ q=>q) fun _ _ q=>q;rcases d with z | z
  .rw[z];exact f b u e
  .exact f c _ z
theorem Inv.tok(I:Inv X pins σ H s)(t:Nat):Inv X pins σ H { s with toks:=t }:=I.un (h':=s.heap) (t':=t) Un.refl I.hok
theorem Inv.kept{t':Nat}(I:Inv X pins σ H s)(k:∀b u,s.heap.get? b=some u->h'.get? b=some u):Inv X pins σ H { s with heap:=h',toks:=t' }:=I.un (Un.kept k) (I.hok.kept k)
theorem Inv.laid{a:A2}{o:HO}{t':Nat}(I:Inv X pins σ H s)(k:∀b u,s.heap.get? b=some u->h'.get? b=some u)(c:s.heap.objs.size<=a)(d:JH X.prog X.w (IU H a o) h' a o) :
  Inv X pins σ (IU H a o) { s with heap:=h',toks:=t' }:=I.un (Un.laid k c (I.hok.fresh c)) (I.hok.laid k c d)
theorem Inv.write{x e:A2}{o:HO}{t':Nat}(I:Inv X pins σ H s)(d:VJ (H x))(f:e=x\/H e=some (.own x))(k:∀b u,b≠e->s.heap.get? b=some u->h'.get? b=some u)(a:∃u,h'.get? e=some u)
  (c:JH X.prog X.w (IU H x o) h' x o):Inv X pins σ (IU H x o) { s with heap:=h',toks:=t' }:=I.un (Un.write d f k a) (I.hok.write d f k a c)
theorem Inv.pins_of{a:A0 (A2×Obj)}(I:Inv X pins σ H s)(h:∀p∈a,s.heap.get? p.1=some p.2/\H p.1=none/\p.1≠X.env.locals/\p.1∉X.fs/\∀v,p.2.data≠ .cell v):Inv X a σ H s :=
 ⟨I.ok,I.os,I.bare,I.base,I.loc,I.cell,I.free,I.freeC,fun p b=>(AS.mp b).elim (fun z=>I.pin p (EO _ z)) (h p),I.hok,I.len⟩
theorem Kx{N:A0 Str}(c:N.Nodup){i j:Nat}{x:Str}(a:N[i]?=some x)(b:N[j]?=some x):i=j:=by
 obtain⟨f,d⟩:=AD.mp a;obtain⟨g,e⟩:=AD.mp b;exact(List.getElem_inj c).mp (d.trans e.symm)
theorem Fp{M:Model}{A:IZ}{E:A1->A3->Prop}{i:Nat}{x:Str}{v:V}{u:A1}{Q:Unit->A3->Prop}(I:Inv X pins σ H s)(hN:X.N.Nodup)(hi:X.N[i]?=some x)(t:Loc X.env.scope x)(r:RelV v u)
  (h:∀W,Inv X pins (σ.set i (some v)) H W->(∃a,Heap.SameBut a s.heap W.heap/\(a=X.env.locals\/X.env.cells.lookup x=some a))->Q () W) (hf:X.fn x=true\/X.env.scope.names.lookup x=some .local:=by first | exact .inl rfl | exact .inr rfl | assumption):wpAny M A (storeName X.env x u) Q E s:=by
 obtain⟨m,Y,hl⟩:=id I.loc;have K:(X.env.scope.kind == .class||(X.env.scope.kind == .module&&X.env.locals != X.env.globals))=false:=by rw[I.ok.kind];rfl
 have hiσ:i<σ.length:=by rw[I.len];exact(AD.mp hi).1
 have D:=I.cne;have g:∀{a:A2} {h':IV},(∃o,s.heap.get? a=some o/\H a=none)->Heap.SameBut a s.heap h'->OJ X.prog X.w H h':=fun{a h'} ha f b ob e=>by
  obtain⟨_,_,B⟩:=ha;refine(I.hok b ob e).stay (fun c S hc q=>(f.2 c ?_).trans q) (fun _ q=>q) fun _ _ q=>q;rintro rfl;rcases hc with rfl | hc
  .rw[B]at e;cases e
  .rw[B]at hc;cases hc
 rcases t with hk | hk
 .refine wpAny_storeName_local hk Y (fun h' Z f=>?_) K;obtain⟨oL,_,_,hoL,_⟩:=id Y;refine h _ ⟨I.ok,I.os,I.bare,⟨fun b o e n F t=>?_,fun b o e n F t=>?_,I.base.free,fun b o e t=>?_,I.base.tups,I.base.frzs,I.base.tbls⟩,⟨_,Z,fun j y v' l C e3=>?_⟩,fun y c e=>?_,I.free,I.freeC,fun p hp=>?_,g ⟨oL,hoL,I.free⟩ f,by simpa using I.len⟩ ⟨_,f,.inl rfl⟩
  .exact(f.2 b (AY (BF (AJ e) I.ok.above))).trans (I.base.keep b o e n F t)
  .obtain⟨sl,l⟩:=I.base.slot b o e n F t;exact⟨sl,(f.2 b (AY (BF (AJ e) I.ok.above))).trans l⟩
  .obtain⟨o',l⟩:=I.base.there b o e t;exact⟨o',(f.2 b (AY (BF (AJ e) I.ok.above))).trans l⟩
  .by_cases G:j=i
   .subst G;rw[hi]at l;cases l;rw[IH hiσ]at C;cases C;exact⟨u,r,.inl ⟨hk,by simp⟩⟩
   .rw[List.getElem?_set_ne (Ne.symm G)]at C;obtain⟨u',r',q⟩:=hl j y v' l C e3;refine⟨u',r',?_⟩;rcases q with⟨k,e⟩ | ⟨k,c,e,z⟩
    .refine .inl ⟨k,?_⟩;have:y≠x:=fun e=>G (Kx hN l (e▸hi));simp[this,e]
    .exact .inr ⟨k,c,e,z.sameBut f (D y c e)⟩
  .obtain⟨S,z⟩:=I.cell y c e;exact⟨S,z.sameBut f (D y c e)⟩
  .obtain⟨e,n,T,nf,d⟩:=I.pin p hp;exact⟨(f.2 p.1 T).trans e,n,T,nf,d⟩
 .have J:X.fn x=true:=by
   rcases hf with z | z
   .exact z
   .rw[z]at hk;cases hk
  obtain⟨c,hc⟩:=I.ok.has x (.inl hk);obtain⟨S,z⟩:=I.cell x c hc;refine wpAny_storeName_cell I.ok.kind hk hc z (fun h' L f=>?_);obtain⟨oc,O,P⟩:=id z;refine h { s with heap:=h' } ⟨I.ok,I.os,I.bare,⟨fun b o e n F t=>?_,fun b o e n F t=>?_,I.base.free,fun b o e t=>?_,I.base.tups,I.base.frzs,I.base.tbls⟩,⟨m,Y.sameBut f (Ne.symm (D x c hc)),fun j y v' l C e3=>?_⟩,fun y U e=>?_,I.free,I.freeC,fun p hp=>?_,g ⟨oc,O,I.freeC x c hc⟩ f,by simpa using I.len⟩ ⟨c,f,.inr hc⟩
  .exact(f.2 b (AY (BF (AJ e) (I.ok.cab x c J hc)))).trans (I.base.keep b o e n F t)
  .obtain⟨sl,l⟩:=I.base.slot b o e n F t;exact⟨sl,(f.2 b (AY (BF (AJ e) (I.ok.cab x c J hc)))).trans l⟩
  .obtain⟨o',l⟩:=I.base.there b o e t;exact⟨o',(f.2 b (AY (BF (AJ e) (I.ok.cab x c J hc)))).trans l⟩
  .by_cases G:j=i
   .subst G;rw[hi]at l;cases l;rw[IH hiσ]at C;cases C;exact⟨u,r,.inr ⟨.inl hk,c,hc,L⟩⟩
   .rw[List.getElem?_set_ne (Ne.symm G)]at C;obtain⟨u',r',q⟩:=hl j y v' l C e3;refine⟨u',r',?_⟩;rcases q with q | ⟨k,U,e,z'⟩
    .exact .inl q
    .refine .inr ⟨k,U,e,z'.sameBut f ?_⟩;rintro rfl;exact G (Kx hN l (I.ok.inj _ _ _ e hc▸hi))
  .by_cases R:U=c
   .subst R;exact⟨_,L⟩
   .obtain⟨w2,z2⟩:=I.cell y U e;exact⟨w2,z2.sameBut f R⟩
  .obtain⟨e,n,T,nf,d⟩:=I.pin p hp;refine⟨(f.2 p.1 ?_).trans e,n,T,nf,d⟩;intro q;rw[q,O]at e;have q':oc=p.2:=BA e;exact d S (by rw[<-q'];exact P)
theorem d0{M:Model}{A:IZ}{E:A1->A3->Prop}{i:Nat}{x:Str}{v:V}{u:A1}{Q:Unit->A3->Prop}(I:Inv X pins σ H s)(b:X.N.Nodup)(hi:X.N[i]?=some x)(c:Loc X.env.scope x)(r:RelV v u)
  (h:∀a,Inv X pins (σ.set i (some v)) H a->Q () a) (d:X.fn x=true\/X.env.scope.names.lookup x=some .local:=by first | exact .inl rfl | exact .inr rfl | assumption):wpAny M A (storeName X.env x u) Q E s :=
 Fp I b hi c r (fun a e _=>h a e) d
theorem Inv.call'{a:A3}{ch:A0 A2}(I:Inv X pins σ H s)(g:a.os=s.os)(u:Un (SO X.stack) ch H H' s.heap a.heap)(d:OJ X.prog X.w H' a.heap)(h:AllBare a.gens)
  (f:∀b∈ch,(b∈X.ex\/X.s₀.heap.objs.size<=b)/\b≠X.env.locals/\(∀x c,X.env.cells.lookup x=some c->c≠b)/\∀p∈X.pn++pins,p.1≠b):Inv X pins σ H' a:=by
 obtain⟨h',g',d',t',i⟩:=a;have e:i=s.os:=g;subst e;exact I.call (g':=g') (t':=t') (d':=d') u d h f
end
abbrev XK:=A1->A4 A2->Hp->Prop
abbrev St:=A0 (A4 V)
abbrev VK:=V->Hp->Prop
abbrev TE:=St->Hp->VK->Prop
abbrev TT:=St->Hp->(Bool->Hp->Prop)->Prop
abbrev TA:=St->Hp->(A0 V->Hp->Prop)->Prop
structure Ends where
 nx:St->Hp->Prop
 rt:VK
 bk:St->Hp->Prop:=fun _ _=>False
 ct:St->Hp->Prop:=fun _ _=>False
abbrev TS:=Ends->St->Hp->Prop
def EP(X:Cx)(a:A0 (A2×Obj))(σ:St)(Q:VK)(u:A1)(c:A3):Prop:=∃v b,Inv X a σ b c/\RelV v u/\Q v b
def TP(X:Cx)(a:A0 (A2×Obj))(σ:St)(Q:Bool->Hp->Prop)(b:Bool)(d:A3):Prop:=∃c,Inv X a σ c d/\Q b c
def AP(X:Cx)(a:A0 (A2×Obj))(σ:St)(Q:A0 V->Hp->Prop)(us:A0 A1)(d:A3):Prop:=∃b c,Inv X a σ c d/\JA b us/\Q b c
def SP(X:Cx)(a:A0 (A2×Obj))(D:Ends)(f:Flow)(c:A3):Prop :=
 match f with
 | .next=>∃σ' b,Inv X a σ' b c/\D.nx σ' b
 | .brk=>∃σ' b,Inv X a σ' b c/\D.bk σ' b
 | .cont=>∃σ' b,Inv X a σ' b c/\D.ct σ' b
 | .ret u=>∃v σ' b,Inv X a σ' b c/\RelV v u/\D.rt v b
def PE(X:Cx)(e:IY)(t:TE):Prop :=
 ∀(a:A0 (A2×Obj)) (s:A3) (σ:St) (H:Hp) (Q:VK),Inv X a σ H s->t σ H Q->wpAny (model X.prog X.w) X.A (eval e X.env) (EP X a σ Q) X.xe s
def PT(X:Cx)(e:IY)(t:TT):Prop :=
 ∀(a:A0 (A2×Obj)) (s:A3) (σ:St) (H:Hp) (Q:Bool->Hp->Prop),Inv X a σ H s->t σ H Q->wpAny (model X.prog X.w) X.A (isTrue e X.env (eval e X.env)) (TP X a σ Q) X.xe s
def PW(X:Cx)(e:IY)(t:TT):Prop :=
 ∀(b:Sem A1) (a:A0 (A2×Obj)) (s:A3) (σ:St) (H:Hp) (Q:Bool->Hp->Prop),Inv X a σ H s->t σ H Q->wpAny (model X.prog X.w) X.A (isTrue e X.env b) (TP X a σ Q) X.xe s
def PW.pt{X:Cx}{e:IY}{t:TT}(h:PW X e t):PT X e t:=h _
def PA(X:Cx)(c:A0 IY)(t:TA):Prop :=
 ∀(b:Pos) (a:A0 (A2×Obj)) (s:A3) (σ:St) (H:Hp) (Q:A0 V->Hp->Prop),Inv X a σ H s->t σ H Q->wpAny (model X.prog X.w) X.A (spliced (backTo b (starEach c X.env))) (AP X a σ Q) X.xe s
def PS(X:Cx)(st:JF)(t:TS):Prop :=
 ∀(a:A0 (A2×Obj)) (s:A3) (σ:St) (H:Hp) (D:Ends),Inv X a σ H s->t D σ H->wpAny (model X.prog X.w) X.A (exec st X.env) (SP X a D) X.xe s
def R_(X:Cx)(st:A0 JF)(t:TS):Prop :=
 ∀(a:A0 (A2×Obj)) (s:A3) (σ:St) (H:Hp) (D:Ends),Inv X a σ H s->t D σ H->wpAny (model X.prog X.w) X.A (execs st X.env) (SP X a D) X.xe s
def JT{α:Type}{t:Sem α}{Q b:α->A3->Prop}{M:Model}{A:IZ}{E:A1->A3->Prop}{s:A3}(h:wpAny M A t Q E s)(c:∀a s,Q a s->b a s):wpAny M A t b E s:=CF h c fun _ _ x=>x
section
variable{X:Cx}
def Dr(i:Nat):TE:=fun σ H Q=>∃v,σ[i]?=some (some v)/\Q v H
def tC(v:V):TE:=fun _ H Q=>Q v H
theorem Wi{i:Nat}{x:Str}{pos:Pos}(k:X.N[i]?=some x)(n:VD X.env.scope x)(f:(x ==("__debug__":Str))=false:=by decide)(g:(x ==("__classdict__":Str))=false:=by decide):PE X (.Name x pos) (Dr i):=by
 intro d s σ H Q I h;obtain⟨v,e,h⟩:=h;obtain⟨m,o,p⟩:=I.loc;obtain⟨u,r,l⟩:=p i x v k e n;have b:EP X d σ Q u s:=⟨v,H,I,r,h⟩;rcases l with⟨hk,q⟩ | ⟨hk,c,j,a⟩
 .exact wpAny_Name (wpAny_loadName_local I.ok.kind hk o q b) f
 .rcases hk with hk | hk
  .exact wpAny_Name (wpAny_loadName_cell I.ok.kind hk j a b) f
  .exact wpAny_Name (wpAny_loadName_free I.ok.kind hk j a b g) f
theorem B8{i j pos}:PE X (.Constant (.int i) j pos) (tC (.int i)):=fun _ _ _ H _ I h=>wpAny_Constant_int ⟨.int i,H,I.tok _,⟨_,rfl⟩,h⟩
theorem P1{b j pos}:PE X (.Constant (.bool b) j pos) (tC (.bl b)):=fun _ _ _ H _ I h=>Constant_bool ⟨.bl b,H,I,rfl,h⟩
theorem zCi{j pos}:PE X (.Constant .none j pos) (tC .non):=fun _ _ _ H _ I h=>Constant_none ⟨.non,H,I,rfl,h⟩
theorem K1{x j pos}:PE X (.Constant (.str x) j pos) (tC (.str x)):=fun _ _ _ H _ I h=>Calls.Constant_str ⟨.str x,H,I.tok _,⟨_,rfl⟩,h⟩
def Gl(X:Cx)(x:Str):Prop:=X.env.kindOf x=some .globalImplicit
theorem Hw{E:A1->A3->Prop}{a:A0 (A2×Obj)}{s:A3}{σ:St}{H:Hp}{x:Str}{u:A1}{pos:Pos}{Q:A1->A3->Prop}(I:Inv X a σ H s)(b:Gl X x)(c:X.mg x=some u)(h:Q u s)
  (d:(x ==("__debug__":Str))=false:=by decide):wpAny (model X.prog X.w) X.A (eval (.Name x pos) X.env) Q E s :=
 Calls.Name_function_global I.ok.kind b (Calls.loadGlobal_global (by rw[I.ok.glob];exact I.mod.glob.keeps I.bk) c h) d
theorem o9{E:A1->A3->Prop}{a:A0 (A2×Obj)}{s:A3}{σ:St}{H:Hp}{x:Str}{u:A1}{pos:Pos}{Q:A1->A3->Prop}(I:Inv X a σ H s)(b:Gl X x)(c:X.mg x=none)(d:bootBuiltins x=some u)(h:Q u s)
  (e:x≠ "__name__":=by decide) (f:(x ==("__debug__":Str))=false:=by decide):wpAny (model X.prog X.w) X.A (eval (.Name x pos) X.env) Q E s:=by
 obtain⟨j,g,i⟩:=I.mod.blt;exact Calls.Name_function_global I.ok.kind b (Calls.loadGlobal_builtin (by rw[I.ok.glob];exact I.mod.glob.keeps I.bk) c (by rw[I.ok.blt];exact g.keeps I.bk) ((i x e).trans d) h) f
theorem Ij{x:Str}{v:V}{u:A1}{pos:Pos}(a:Gl X x)(b:X.mg x=some u)(r:RelV v u)(c:(x ==("__debug__":Str))=false:=by decide):PE X (.Name x pos) (tC v) :=
 fun _ _ _ H _ I h=>Hw I a b ⟨v,H,I,r,h⟩ c
theorem Zg{x:Str}{v:V}{u:A1}{pos:Pos}(a:Gl X x)(b:X.mg x=none)(c:bootBuiltins x=some u)(r:RelV v u)(d:x≠ "__name__":=by decide)(e:(x ==("__debug__":Str))=false:=by decide):PE X (.Name x pos) (tC v) :=
 fun _ _ _ H _ I h=>o9 I a b c ⟨v,H,I,r,h⟩ d e
variable{a b:IY}{ta tb:TE}{pos:Pos}
def tB(t:TE):TT:=fun σ H Q=>t σ H fun x a=>∃c,x = .bl c/\Q c a
theorem M0{e:IY}{t:TE}(h:PE X e t)(c:∀a,isTrue e X.env a =(do let v <-a;standAt e.pos;holding [v] (truthy v)):=by intro _;rfl):PT X e (tB t):=by
 intro b s σ H Q I f;refine isTrue_plain (JT (h b s σ H _ I f) fun v l ⟨x,g,i,j,k⟩=>?_) (c _);obtain⟨d,rfl,q⟩:=k;cases j;exact DI ⟨g,i,q⟩
variable{tA tB':TT}{rest:A0 IY}
def zHp(t u:TT):TT:=fun σ H Q=>t σ H fun c a=>if c=true then u σ a Q else Q false a
def tOr(t u:TT):TT:=fun σ H Q=>t σ H fun c a=>if c=true then Q true a else u σ a Q
def zHl(t:TT):TT:=fun σ H Q=>t σ H fun c a=>Q (!c) a
theorem Cn(d:PT X a tA):PW X (.BoolOp .And [a] pos) tA:=by
 intro f b s σ H Q I h;refine isTrue_and (JT (d b s σ H Q I h) fun c g e=>?_);cases c with
 | true=>exact isTrue_and_nil e
 | false=>exact e
theorem S6(d:PT X a tA):PW X (.BoolOp .Or [a] pos) tA:=by
 intro f b s σ H Q I h;refine isTrue_or (JT (d b s σ H Q I h) fun c g e=>?_);cases c with
 | false=>exact isTrue_or_nil e
 | true=>exact e
theorem Gu(i:PT X a tA)(j:PW X (.BoolOp .And (b::rest) pos) tB'):PW X (.BoolOp .And (a::b::rest) pos) (zHp tA tB'):=by
 intro k d s σ H Q I h;refine isTrue_and (JT (i d s σ H _ I h) fun c l ⟨e,f,g⟩=>?_);cases c with
 | true=>exact j k d l σ e Q f g
 | false=>exact⟨e,f,g⟩
theorem u7(i:PT X a tA)(j:PW X (.BoolOp .Or (b::rest) pos) tB'):PW X (.BoolOp .Or (a::b::rest) pos) (tOr tA tB'):=by
 intro k d s σ H Q I h;refine isTrue_or (JT (i d s σ H _ I h) fun c l ⟨e,f,g⟩=>?_);cases c with
 | true=>exact⟨e,f,g⟩
 | false=>exact j k d l σ e Q f g
theorem U1(d:PT X a tA):PT X (.UnaryOp .Not a pos) (zHl tA):=by
 intro b s σ H Q I h;exact isTrue_not (d b s σ H (fun c e=>Q (!c) e) I h)
def zFs(ta tb:TE):TE:=fun σ H Q=>ta σ H fun x a=>∃c,x = .bl c/\if c=true then tb σ a Q else Q (.bl false) a
def zFq(ta:TE):TE:=fun σ H Q=>ta σ H fun x a=>∃c,x = .bl c/\Q (.bl (!c)) a
theorem U2{op}{t:TE}(h:PE X a t):PE X (.BoolOp op [a] pos) t:=fun b s σ H Q I c=>BoolOp_one (h b s σ H Q I c)
theorem S0(i:PE X a ta)(j:PE X (.BoolOp .And (b::rest) pos) tb):PE X (.BoolOp .And (a::b::rest) pos) (zFs ta tb):=by
 intro d s σ H Q I h;refine BoolOp_and (JT (i d s σ H _ I h) fun v k ⟨x,f,g,l,e⟩=>?_);obtain⟨c,rfl,e⟩:=e;cases l;refine DI ?_;cases c with
 | true=>exact j d k σ f Q g e
 | false=>exact⟨.bl false,f,g,rfl,e⟩
theorem zEd(e:PE X a ta):PE X (.UnaryOp .Not a pos) (zFq ta):=by
 intro b s σ H Q I h;refine UnaryOp_ (JT (e b s σ H _ I h) fun v j ⟨x,f,g,i,d⟩=>?_);obtain⟨c,rfl,d⟩:=d;cases i;exact not_of (DI ⟨.bl (!c),f,g,rfl,d⟩)
def tIf(t:TT)(ta tb:TE):TE:=fun σ H Q=>t σ H fun c a=>if c=true then ta σ a Q else tb σ a Q
theorem Ug{c:IY}(k:PT X c tA)(l:PE X a ta)(m:PE X b tb):PE X (.IfExp c a b pos) (tIf tA ta tb):=by
 intro e s σ H Q I h;refine wpAny_IfExp (JT (k e s σ H _ I h) fun d f ⟨g,i,j⟩=>?_);cases d with
 | true=>exact l e f σ g Q i j
 | false=>exact m e f σ g Q i j
end
def IW(K:PySem.W.Frag)(H:Hp)(a:A2)(xs:A0 V):Prop :=
 Rd H a (.lst xs) \/
  ∃(o:Obj) (b:A7 A1) (n:Nat),K.lookup a=some o/\o.cls = .type "list"/\o.dict=none/\o.data = .seq b n/\b.size<=sizeLine/\JA xs b.toList
def KQ(K:PySem.W.Frag)(H:Hp)(a:A2)(xs:A0 V):Prop :=
 Rd H a (.tup xs) \/
  ∃(o:Obj) (b:A7 A1) (n:Nat),K.lookup a=some o/\o.cls = .type "tuple"/\o.data = .seq b n/\b.size<=sizeLine/\JA xs b.toList
def zHk:A1->A4 V
 | .none=>some .non
 | .bool b=>some (.bl b)
 | .int i _=>some (.int i)
 | .str x _=>some (.str x)
 | .bytes b _=>some (.byt b)
 | .float b _=>some (.flt b)
 | .ref a=>some (.ref a)
 | .type n=>some (.ty n)
 | _=>none
def RelV.abs{x:V}{u:A1}(r:RelV x u):zHk u=some x:=by
 cases x with
 | non=>cases r;rfl
 | bl _=>cases r;rfl
 | int _=>obtain⟨t,rfl⟩:=r;rfl
 | str _=>obtain⟨t,rfl⟩:=r;rfl
 | byt _=>obtain⟨t,rfl⟩:=r;rfl
 | flt _=>obtain⟨t,rfl⟩:=r;rfl
 | ref _=>cases r;rfl
 | ty _=>cases r;rfl
def RelV.inj{x y:V}{u:A1}(r:RelV x u)(q:RelV y u):x=y:=BA (r.abs.symm.trans q.abs)
def JA.inj:∀{xs ys:A0 V} {us:A0 A1},JA xs us->JA ys us->xs=ys
 | _,_,_,.nil,.nil=>rfl
 | _,_,_,.cons r t,.cons a b=>by rw[r.inj a,JA.inj t b]
section
variable{X:Cx}{pins:A0 (A2×Obj)}{σ:St}{H:Hp}{s:A3}{a:A2}{xs ys:A0 V}
theorem IW.of{K:PySem.W.Frag}(h:H a=some (.lst xs)):IW K H a xs:=.inl (.inl h)
theorem KQ.of{K:PySem.W.Frag}(h:H a=some (.tup xs)):KQ K H a xs:=.inl (.inl h)
theorem Inv.list(I:Inv X pins σ H s)(h:IW X.K H a xs):∃its:A0 A1,JA xs its/\PlainL s.heap a its.toArray/\xs.length<=sizeLine:=by
 rcases h with h | ⟨o,its,n,b,c,d,f,g,r⟩
 .obtain⟨z,its,n,r,e⟩:=h.ok I.hok;exact⟨its,r,⟨_,n,e,rfl,rfl,rfl⟩,z⟩
 .refine⟨its.toList,r,⟨o,n,I.kIn a o b,c,d,by simpa using f⟩,?_⟩;have e:=r.length;simp only[AW]at e;omega
theorem Inv.tuple(I:Inv X pins σ H s)(h:KQ X.K H a xs):∃its:A0 A1,JA xs its/\IsTup s.heap a its.toArray/\xs.length<=sizeLine:=by
 rcases h with h | ⟨o,its,n,b,c,d,f,r⟩
 .obtain⟨z,its,r,p⟩:=h.ok I.hok;exact⟨its,r,p,z⟩
 .refine⟨its.toList,r,⟨o,I.kIn a o b,c,n,by simpa using d⟩,?_⟩;have e:=r.length;simp only[AW]at e;omega
theorem Inv.list_inj(I:Inv X pins σ H s)(h:IW X.K H a xs)(h':IW X.K H a ys):xs=ys:=by
 obtain⟨c,r,⟨o,n,e,_,_,d⟩,_⟩:=I.list h;obtain⟨b,i,⟨k,l,f,_,_,g⟩,_⟩:=I.list h';rw[e]at f;cases f;rw[d]at g;injection g with j _;have:c=b:=by simpa using congrArg Array.toList j
 subst this;exact r.inj i
theorem Inv.tuple_inj(I:Inv X pins σ H s)(h:KQ X.K H a xs)(h':KQ X.K H a ys):xs=ys:=by
 obtain⟨c,r,⟨o,e,_,n,d⟩,_⟩:=I.tuple h;obtain⟨b,i,⟨k,f,_,l,g⟩,_⟩:=I.tuple h';rw[e]at f;cases f;rw[d]at g;injection g with j _;have:c=b:=by simpa using congrArg Array.toList j
 subst this;exact r.inj i
end
abbrev Cx.wish(X:Cx)(E:A1->A3->Prop):Cx:={ X with xe:=E }
abbrev Cx.nox(X:Cx):Cx:=X.wish fun _ _=>False
def Cx.Ok.wish{X:Cx}(a:X.Ok)(E:A1->A3->Prop):(X.wish E).Ok :=
 ⟨a.mod,a.kind,a.glob,a.blt,a.above,a.inj,a.has,a.cab,a.hd,a.frames,a.stk,a.exf,a.bs,a.bsz,a.noex,a.exfs,a.funs,a.frf⟩
def Cx.Ok.unwish{X:Cx}{E:A1->A3->Prop}(a:(X.wish E).Ok):X.Ok :=
 ⟨a.mod,a.kind,a.glob,a.blt,a.above,a.inj,a.has,a.cab,a.hd,a.frames,a.stk,a.exf,a.bs,a.bsz,a.noex,a.exfs,a.funs,a.frf⟩
section
variable{X:Cx}{pins:A0 (A2×Obj)}{σ:St}{H:Hp}{s:A3}{E:A1->A3->Prop}
theorem Inv.wish(I:Inv X pins σ H s)(E:A1->A3->Prop):Inv (X.wish E) pins σ H s:=⟨I.ok.wish E,I.os,I.bare,I.base,I.loc,I.cell,I.free,I.freeC,I.pin,I.hok,I.len⟩
theorem Inv.unwish(I:Inv (X.wish E) pins σ H s):Inv X pins σ H s:=⟨I.ok.unwish,I.os,I.bare,I.base,I.loc,I.cell,I.free,I.freeC,I.pin,I.hok,I.len⟩
theorem SP.unwish{D:Ends}{f:Flow}{b:A3}(h:SP (X.wish E) pins D f b):SP X pins D f b:=by
 cases f with
 | next=>obtain⟨σ',a,I,q⟩:=h;exact⟨σ',a,I.unwish,q⟩
 | brk=>obtain⟨σ',a,I,q⟩:=h;exact⟨σ',a,I.unwish,q⟩
 | cont=>obtain⟨σ',a,I,q⟩:=h;exact⟨σ',a,I.unwish,q⟩
 | ret u=>obtain⟨v,σ',a,I,r,q⟩:=h;exact⟨v,σ',a,I.unwish,r,q⟩
theorem R_.nox{st:A0 JF}{t:TS}(h:R_ X.nox st t):R_ X st t:=fun pins s σ H D I a =>
 CF (h pins s σ H D (I.wish _) a) (fun _ _ q=>q.unwish) fun _ _ z=>False.elim z
end
section
variable{X:Cx}{st:JF}{rest:A0 JF}{t u:TS}{e:IY}{te:TE}{pos:Pos}
def zEv:TS:=fun D σ H=>D.nx σ H
def Tn(t u:TS):TS:=fun D σ H=>t { D with nx:=u D } σ H
theorem C7:R_ X [] zEv:=fun _ _ σ H _ I h=>wpAny_execs_nil ⟨σ,H,I,h⟩
theorem B2(h1:PS X st t)(h2:R_ X rest u):R_ X (st::rest) (Tn t u):=by
 intro a s σ H D I h;refine wpAny_execs_cons (JT (h1 a s σ H { D with nx:=u D } I h) fun f b q=>?_);cases f with
 | next =>
  obtain⟨σ',c,d,q⟩:=q;exact h2 a b σ' c D d q
 | ret v=>exact q
 | brk=>exact q
 | cont=>exact q
theorem B3(h1:PS X st t):R_ X [st] t:=by
 intro a s σ H D I h;refine wpAny_execs_cons (JT (h1 a s σ H D I h) fun f b q=>?_);cases f with
 | next=>exact wpAny_execs_nil q
 | ret v=>exact q
 | brk=>exact q
 | cont=>exact q
theorem Inv.quiet{a:A0 (A2×Obj)}{σ:St}{H:Hp}{s:A3}(I:Inv X a σ H s):interactive X.env=false:=by simp[interactive,I.ok.kind]
def zEg(te:TE):TS:=fun D σ H=>te σ H fun _ a=>D.nx σ a
theorem E8(b:PE X e te)(c:swapsWith e none pos.line X.env=pure false:=by rfl):PS X (.Expr e pos) (zEg te):=by
 intro a s σ H D I h;exact wpAny_Expr_any (JT (b a s σ H _ I h) fun v i ⟨x,d,f,j,g⟩=>⟨σ,d,f,g⟩) I.quiet c
def Wq(te:TE):TS:=fun D σ H=>te σ H D.rt
theorem C0(b:PE X e te):PS X (.Return (some e) pos) (Wq te):=by
 intro a s σ H D I h;exact wpAny_Return_some (JT (b a s σ H _ I h) fun v i ⟨x,c,d,f,g⟩=>⟨x,σ,c,d,f,g⟩)
def zEw:TS:=fun D _ H=>D.rt .non H
theorem Ig:PS X (.Return none pos) zEw:=fun _ _ σ H _ I h=>wpAny_Return_none ⟨.non,σ,H,I,rfl,h⟩
def zHs(c:TT)(t u:TS):TS:=fun D σ H=>c σ H fun b a=>if b=true then t D σ a else u D σ a
theorem G8{c:IY}{a b:A0 JF}{f:TT}(l:PT X c f)(m:R_ X a t)(n:R_ X b u):PS X (.If c a b pos) (zHs f t u):=by
 intro e s σ H D I h;refine wpAny_If (JT (l e s σ H _ I h) fun d g ⟨i,j,k⟩=>?_);cases d with
 | true=>exact m e g σ i D j k
 | false=>exact n e g σ i D j k
def zCt:TS:=fun _ _ _=>False
theorem v9:PS X st zCt:=fun _ _ _ _ _ _ h=>h.elim
end
abbrev TG:=V->St->Hp->(St->Hp->Prop)->Prop
abbrev UA:=A0 V->St->Hp->(St->Hp->Prop)->Prop
def PG(X:Cx)(a:IY)(t:TG):Prop :=
 ∀(b:A0 (A2×Obj)) (s:A3) (σ:St) (H:Hp) (v:V) (u:A1) (Q:St->Hp->Prop),Inv X b σ H s->RelV v u->t v σ H Q ->
  wpAny (model X.prog X.w) X.A (assign a X.env u) (fun _ d=>∃σ' c,Inv X b σ' c d/\Q σ' c) X.xe s
def VE(X:Cx)(e:A0 IY)(t:UA):Prop :=
 ∀(a:A0 (A2×Obj)) (s:A3) (σ:St) (H:Hp) (b:A0 V) (c:A0 A1) (Q:St->Hp->Prop),Inv X a σ H s->JA b c->t b σ H Q ->
  wpAny (model X.prog X.w) X.A (assignInOrder ((assignEach e X.env).map (·.2)) c) (fun _ f=>∃σ' d,Inv X a σ' d f/\Q σ' d) X.xe s
abbrev NW:=V->V->V->Hp->(Hp->Prop)->Prop
def zGm(X:Cx)(t:NW):Prop :=
 ∀(a:A0 (A2×Obj)) (s:A3) (σ:St) (H:Hp) (o i v:V) (b c u:A1) (Q:Hp->Prop),Inv X a σ H s->RelV o b->RelV i c->RelV v u->t o i v H Q ->
  wpAny (model X.prog X.w) X.A (setItem b c u) (fun _ e=>∃d,Inv X a σ d e/\Q d) X.xe s
abbrev TIp:=V->V->Hp->VK->Prop
def PIp(X:Cx)(op:Operator)(t:TIp):Prop :=
 ∀(a:A0 (A2×Obj)) (s:A3) (σ:St) (H:Hp) (x y:V) (v u:A1) (Q:VK),Inv X a σ H s->RelV x v->RelV y u->t x y H Q ->
  wpAny (model X.prog X.w) X.A (inplaceOp op v u) (EP X a σ Q) X.xe s
section
variable{X:Cx}{pos:Pos}
def J7(i:Nat):TG:=fun v σ H Q=>Q (σ.set i (some v)) H
theorem D6{i:Nat}{x:Str}(b:X.N.Nodup)(hi:X.N[i]?=some x)(c:Loc X.env.scope x)(d:X.fn x=true\/X.env.scope.names.lookup x=some .local:=by first | exact .inl rfl | exact .inr rfl | assumption):PG X (.Name x pos) (J7 i):=by
 intro a s σ H v u Q I r h;exact wpAny_assign_Name (d0 I b hi c r (fun f e=>⟨_,H,e,h⟩) d)
def UX:UA:=fun a σ H Q=>a = []/\Q σ H
def Ee(t:TG)(u:UA):UA:=fun a σ H Q=>∃v r,a=v::r/\t v σ H fun σ' b=>u r σ' b Q
theorem M5:VE X [] UX:=by
 intro a s σ H b c Q I r h;obtain⟨e,h⟩:=h;subst e;cases r;exact assignInOrder_nil ⟨σ,H,I,h⟩
theorem C8{e:IY}{b:A0 IY}{t:TG}{u:UA}(h1:PG X e t)(h2:VE X b u)
  (c:(assignEach (e::b) X.env).map (·.2)=assign e X.env ::(assignEach b X.env).map (·.2):=by rfl):VE X (e::b) (Ee t u):=by
 intro a s σ H l m Q I r h;obtain⟨v,n,d,h⟩:=h;subst d;cases r with
 | cons r f =>
  rw[c];refine assignInOrder_cons (JT (h1 a s σ H _ _ _ I r h) fun _ g ⟨σ1,i,j,k⟩=>?_);exact h2 a g σ1 i _ _ Q j f k
def UL(K:PySem.W.Frag)(n:Nat)(t:UA):TG:=fun v σ H Q=>∃a b,v = .ref a/\KQ K H a b/\b.length=n/\t b σ H Q
theorem zEo{d:A0 IY}{k:Nat}{t:UA}{n:Nat}(j:X.calm=true)(h:VE X d t)
  (l:(assignEach d X.env).length=n:=by rfl) (f:(assignEach d X.env).findIdx? (·.1)=none:=by rfl):PG X (.Tuple d k pos) (UL X.K n t):=by
 intro c s σ H v u Q I r g;obtain⟨a,m,p,q,w,g⟩:=g;subst p;cases r;obtain⟨x,i,y,C⟩:=I.tuple q;refine assign_Tuple_tuple (I.ok.hd j) y (by simp[l,<-w,i.length]) f fun z A=>?_;have B:Inv X c σ H { s with heap:=z }:=I.kept (t':=s.toks) fun b o e=>A b o (AY (AJ e)) e;exact h c _ σ H m _ Q B (by simpa using i) g
def zHn(a b:TE)(t:NW):TG:=fun v σ H Q=>a σ H fun o c=>b σ c fun i d=>t o i v d fun e=>Q σ e
theorem Ek{o i:IY}{d e:TE}{t:NW}(f:PE X o d)(hi:PE X i e)(g:zGm X t)
  (j:∀v,assign (.Subscript o i pos) X.env v =(do
   let b <-holding [v] (eval o X.env)
   let c <-holding [v,b] (eval i X.env)
   standAt pos
   holding [v,b,c] (setItem b c v)
   release [v,b,c] []):=by intro _;rfl):PG X (.Subscript o i pos) (zHn d e t):=by
 intro a s σ H v u Q I r h;rw[j];refine AA (CG (JT (f a s σ H _ I h) fun b k ⟨x,l,m,n,p⟩=>?_));refine AA (CG (JT (hi a k σ l _ m p) fun c q ⟨y,w,z,A,B⟩=>?_));refine AA (FT (AA (CG (JT (g a q σ w x y v b c u _ z n A r B) fun _ F ⟨C,D,E⟩=>?_))));exact wpAny_release ⟨σ,C,D,E⟩
def We(a:TE)(g:TG):TS:=fun D σ H=>a σ H fun x b=>g x σ b D.nx
theorem m9{tg e:IY}{b:TE}{g:TG}(c:PE X e b)(d:PG X tg g)(f:swapsWithSole [tg] e pos.line X.env=pure false:=by rfl)(hw:swappedStores [tg] e X.env=pure none:=by rfl)
  (h1:(assignEach [tg] X.env).map (·.2) = [assign tg X.env]:=by rfl):PS X (.Assign [tg] e pos) (We b g):=by
 intro a s σ H D I h;refine wpAny_Assign_stores (JT (c a s σ H _ I h) fun v i ⟨x,j,k,l,m⟩=>?_) f hw;rw[h1];exact JT (d a i σ j x v _ k l m) fun _ n q=>q
theorem C3{i:Nat}{x:Str}{e:IY}{c:TE}{a:Pos}(d:X.N.Nodup)(hi:X.N[i]?=some x)(f:Loc X.env.scope x)(g:PE X e c)(j:swapsWith e (some (.Name x a)) pos.line X.env=pure false:=by rfl)(k:X.fn x=true\/X.env.scope.names.lookup x=some .local:=by first | exact .inl rfl | exact .inr rfl | assumption) :
  PS X (.Assign [.Name x a] e pos) (We c (J7 i)):=by
 intro b s σ H D I h;refine wpAny_Assign_Name (JT (g b s σ H _ I h) fun v q ⟨y,l,m,n,o⟩=>?_) j;exact d0 m d hi f n (fun r p=>⟨_,l,p,o⟩) k
def zHy(i j:Nat)(a:TA):TS:=fun D σ H=>a σ H fun b c=>∃v w,b = [v,w]/\D.nx ((σ.set i (some v)).set j (some w)) c
theorem Wz{i j:Nat}{x y:Str}{a b:IY}{C:TA}{k l m:Pos}{n r d}(L:X.calm=true)(E:X.N.Nodup)(hi:X.N[i]?=some x)(M:X.N[j]?=some y)(t:i≠j)
  (F:X.env.scope.names.lookup x=some .local) (G:X.env.scope.names.lookup y=some .local) (O:PA X [a,b] C)
  (hw:swappedStores [.Tuple [.Name x k,.Name y l] n m] (.Tuple [a,b] r d) X.env=pure (some [x,y]))
  (P:swapsWithSole [.Tuple [.Name x k,.Name y l] n m] (.Tuple [a,b] r d) pos.line X.env=pure false:=by rfl) :
  PS X (.Assign [.Tuple [.Name x k,.Name y l] n m] (.Tuple [a,b] r d) pos) (zHy i j C):=by
 intro c s σ H D I h;rw[exec_Assign_arm];refine AA (FT ?_);rw[P];refine AA (AE ?_);rw[AO (by decide)];refine AA (Tuple_ (JT (O _ c s σ H _ I h) fun Q s1 ⟨vs,J,R,S,u⟩=>?_));obtain⟨v,w,T,u⟩:=u;subst T;obtain⟨f,g,rfl,U,z⟩:∃f g,Q = [f,g]/\RelV v f/\RelV w g:=by
  cases S with
  | cons p q =>
   cases q with
   | cons V W =>
    cases W;exact⟨_,_,rfl,p,V⟩
 refine DJ ?_ (by show 2<=sizeLine;decide);have Y:Inv X c σ J { s1 with heap:=s1.heap.push { cls:=.type "tuple",data:=.seq [f,g].toArray } }:=R.kept (t':=s1.toks) fun b o e=>AF _ e;rw[hw];refine AA (AE ?_);show wpAny (model X.prog X.w) X.A (do rule "assign.swapped-stores";let items <-unpackItems (.ref s1.heap.objs.size) 2 none;assignInOrder [fun v=>bindName X.env y v,fun v=>bindName X.env x v] items.reverse;pure Flow.next) _ _ _;refine AA (EF (AA (unpackItems_tuple (items:=#[f,g]) (I.ok.hd L) (IsTup.new s1.heap _) fun h' B=>?_)));have Z:=Y.kept (h':=h') (t':=s1.toks) fun b o e=>B b o (AY (AJ e)) e;show wpAny _ _ (assignInOrder [fun v=>bindName X.env y v,fun v=>bindName X.env x v] [g,f] >>= fun _=>pure Flow.next) _ _ _;refine AA (assignInOrder_cons (wpAny_bindName (d0 Z E M (.inl G) z (fun s2 I4=>?_) (.inr G))));refine assignInOrder_cons (wpAny_bindName (d0 I4 E hi (.inl F) U (fun s3 K=>assignInOrder_nil (AE ?_)) (.inr F)));rw[List.set_comm _ _ (Ne.symm t)]at K;exact⟨_,J,K,u⟩
def zHw(i:Nat)(a:TE)(b:TIp):TS:=fun D σ H=>∃x,σ[i]?=some (some x)/\a σ H fun y c=>b x y c fun z d=>D.nx (σ.set i (some z)) d
theorem zEa{i:Nat}{x:Str}{e:IY}{j:TE}{op:Operator}{n:TIp}{d:Pos}(o:X.N.Nodup)(hi:X.N[i]?=some x)(f:Loc X.env.scope x)(p:PE X e j)(q:PIp X op n)(t:X.fn x=true\/X.env.scope.names.lookup x=some .local:=by first | exact .inl rfl | exact .inr rfl | assumption) :
  PS X (.AugAssign (.Name x d) op e pos) (zHw i j n):=by
 intro a s σ H D I h;obtain⟨v,B,h⟩:=h;obtain⟨m,C,E⟩:=I.loc;have g:VD X.env.scope x:=by rcases f with k | k;exact .inl k;exact .inr (.inl k)
 obtain⟨u,r,l⟩:=E i x v hi B g;refine wpAny_AugAssign_Name ?_;have go:wpAny (model X.prog X.w) X.A (eval e X.env) (fun w s₂=>wpAny (model X.prog X.w) X.A (inplaceOp op u w) (fun r s₃=>wpAny (model X.prog X.w) X.A (storeName X.env x r) (fun _=>SP X a D .next) X.xe s₃) X.xe s₂) X.xe s:=by
  refine JT (p a s σ H _ I h) fun w F ⟨y,G,J,K,L⟩=>?_;refine JT (q a F σ G v y u w _ J r K L) fun z U ⟨V,M,O,P,Q⟩=>?_;exact d0 O o hi f P (fun W R=>⟨_,M,R,Q⟩) t
 rcases l with⟨hk,S⟩ | ⟨hk,c,T,b⟩
 .exact wpAny_loadName_local I.ok.kind hk C S go
 .rcases hk with hk | hk
  .exact wpAny_loadName_cell I.ok.kind hk T b go
  .rcases f with k | k
   .have:X.env.scope.names.lookup x=some .free:=hk;rw[k]at this;cases this
   .have:X.env.scope.names.lookup x=some .free:=hk;rw[k]at this;cases this
def ipI(f:Int->Int->Int):TIp:=fun x y H Q=>∃i j,x = .int i/\y = .int j/\Q (.int (f i j)) H
def zBp(c:TT)(f:TS):TS:=fun D σ H=>∃W:Nat->St->Hp->Prop,(∃m,W m σ H)/\∀m σ H,W m σ H ->
 c σ H fun b a=>if b=true then ∃N:St->Hp->Prop,(∀σ' d,N σ' d->∃e,e < m/\W e σ' d)/\f { D with nx:=N,ct:=N,bk:=D.nx } σ a else D.nx σ a
theorem Kk{c:IY}{d:A0 JF}{q:TT}{r:TS}(t:PassesOwn (model X.prog X.w) X.A X.env X.xe)(C:PT X c q)(E:R_ X d r):PS X (.While c d [] pos) (zBp q r):=by
 intro a s σ H D I h;obtain⟨W,⟨F,G⟩,e⟩:=h;refine wpAny_While (codeAny_whileLoop (fun n J=>∃σ' u,Inv X a σ' u J/\W n σ' u) ?_ F ⟨σ,H,I,G⟩);rintro n K ⟨σ1,x,L,M⟩;refine GB t (JT (C a K σ1 x _ L (e n σ1 x M)) fun b O ⟨y,z,i⟩=>?_);cases b with
 | true =>
  obtain⟨N,B,i⟩:=i;rw[AU rfl];refine GB t (JT (E a O σ1 y _ z i) fun f P j=>?_);cases f with
  | next =>
   obtain⟨σ3,g,k,l⟩:=j;obtain⟨m,o,p⟩:=B σ3 g l;exact⟨m,o,σ3,g,k,p⟩
  | cont =>
   obtain⟨σ3,g,k,l⟩:=j;obtain⟨m,o,p⟩:=B σ3 g l;exact⟨m,o,σ3,g,k,p⟩
  | brk=>exact j
  | ret v=>exact j
 | false =>
  rw[AO BC];exact wpAny_execs_nil ⟨σ1,y,z,i⟩
end
structure It where
 go:Nat->Hp->Prop
 yld:Nat->Hp->V->Hp->Prop
 stop:Nat->Hp->Prop
def w4(X:Cx)(a:A0 (A2×Obj))(H:Hp)(b:A2):Prop :=
 H b=none/\b≠X.env.locals/\b∉X.fs/\(b∈X.ex\/X.s₀.heap.objs.size<=b)/\(∀x c,X.env.cells.lookup x=some c->c≠b)/\∀p∈X.pn++a,p.1≠b
def Inv.fpOk{X:Cx}{a:A0 (A2×Obj)}{σ:St}{H H':Hp}{s:A3}{b:A2}(I:Inv X a σ H s)(d:s.heap.objs.size<=b)(f:H' b=none):w4 X a H' b:=by
 refine⟨f,Nat.ne_of_gt (BF I.lt d),I.nofs d,.inr (Nat.le_trans I.sz d),fun x c e z=>?_,fun p g z=>?_⟩
 .obtain⟨v,q⟩:=I.cell x c e;exact absurd (BF q.lt (by rw[z];exact d)) (CQ _)
 .exact absurd (BF (AJ (I.pin p g).1) (by rw[z];exact d)) (CQ _)
structure MK(P:A6)(w:F1)(K:PySem.W.Frag)(tg:IY)(J:It)(fp:A0 A2)(it:A2)(tn:Nat->IV->Prop):Prop where
 mem:it∈fp
 obj:∀i h,tn i h->∀b∈fp,∃o,h.get? b=some o/\∀v,o.data≠ .cell v
 keep:∀i h h',tn i h->(∀b∈fp,∀o,h.get? b=some o->h'.get? b=some o)->tn i h'
 item:∀(X:Cx),X.prog=P->X.w=w->X.K=K->X.calm=true->∀(i:Nat) (pins:A0 (A2×Obj)) (s:A3) (σ:St) (H:Hp) (E:A1->A3->Prop),Inv X pins σ H s->(∀b∈fp,w4 X pins H b)->tn i s.heap->J.go i H ->
  wpAny (model P w) X.A (pyNext (.ref it)) (fun r s1=>∃u,r=some u /\
   wpAny (model P w) X.A (letOwnedTupleGo tg (.ref it) u) (fun _ s2=>∃x H',Inv X pins σ H' s2/\RelV x u/\J.yld i H x H'/\tn (i+1) s2.heap/\∀b∈fp,H' b=none) E s1) E s
 done:∀(X:Cx),X.prog=P->X.w=w->X.K=K->X.calm=true->∀(i:Nat) (pins:A0 (A2×Obj)) (s:A3) (σ:St) (H:Hp) (E:A1->A3->Prop),Inv X pins σ H s->(∀b∈fp,w4 X pins H b)->tn i s.heap->J.stop i H ->
  wpAny (model P w) X.A (pyNext (.ref it)) (fun r s1=>r=none/\Inv X pins σ H s1) E s
 self:∀(A:IZ) (i:Nat) (s:A3) (Q:A1->A3->Prop) (E:A1->A3->Prop),tn i s.heap->Q (.ref it) s->wpAny (model P w) A (pyIter (.ref it)) Q E s
abbrev TI:=St->Hp->(It->Hp->Prop)->Prop
def PIE(X:Cx)(a:A0 (A2×Obj))(σ:St)(tg:IY)(R:It->Hp->Prop)(c:A1)(e:A3):Prop :=
 ∃(f:A2) (g:A0 A2) (h:Nat->IV->Prop) (J:It) (d:Hp),c = .ref f/\Inv X a σ d e/\MK X.prog X.w X.K tg J g f h/\h 0 e.heap/\(∀b∈g,w4 X a d b)/\R J d
def PI(X:Cx)(tg iter:IY)(b:TI):Prop :=
 ∀(a:A0 (A2×Obj)) (s:A3) (σ:St) (H:Hp) (R:It->Hp->Prop),Inv X a σ H s->b σ H R ->
  wpAny (model X.prog X.w) X.A (eval iter X.env) (fun v c=>wpAny (model X.prog X.w) X.A (pyIter v) (PIE X a σ tg R) X.xe c) X.xe s
def Na{M:Model}{A:IZ}{E:A1->A3->Prop}{s:A3}{tg:IY}{b:A2}{u:A1}{o:Obj}{n:String}{vs:A7 A1}{Q:Unit->A3->Prop}(c:s.heap.get? b=some o)(d:o.cls = .type n)(e:o.data = .fields vs)
    (f:["enumerate", "zip", "dict_itemiterator", "dict_reverseitemiterator", "odict_iterator", "itertools.zip_longest", "itertools.pairwise"].contains n=false) (a:Q () s):wpAny M A (letOwnedTupleGo tg (.ref b) u) Q E s:=by
  unfold letOwnedTupleGo;cases tg<;>first
    | exact AE a
    | (cases u<;>first
        | exact AE a
        | (refine AA (wpAny_load c ?_)
           rw[d,e];show wpAny M A (if(["enumerate", "zip", "dict_itemiterator", "dict_reverseitemiterator", "odict_iterator", "itertools.zip_longest", "itertools.pairwise"].contains n&&vs[0]? == some (rawInt _))=true then _ else _) Q E s;rw[AO (by intro h;rw[f,DK]at h;cases h)];exact AE a))
def UW(K:PySem.W.Frag)(a:A2):It :=
 ⟨fun i H=>∃b x,IW K H a b/\b[i]?=some x,fun i H x c=>c=H/\∀b,IW K H a b->b[i]?=some x,fun i H=>∃b,IW K H a b/\b.length<=i⟩
def Itt(K:PySem.W.Frag)(a:A2):It :=
 ⟨fun i H=>∃b x,KQ K H a b/\b[i]?=some x,fun i H x c=>c=H/\∀b,KQ K H a b->b[i]?=some x,fun i H=>∃b,KQ K H a b/\b.length<=i⟩
def TB(lo:Int)(n:Nat):It:=⟨fun i _=>i<n,fun i H x a=>a=H/\x = .int (lo+i),fun i _=>n<=i⟩
def Hd{P:A6}{w:F1}{K:PySem.W.Frag}{tg:IY}(a g:A2):MK P w K tg (UW K a) [g] g (fun i h=>h.IsListIter g a i) where
 mem:=by simp
 obj:=fun i h st b j=>by
  have e:b=g:=by simpa using j
  subst e;obtain⟨o,e,c,d⟩:=st;exact⟨o,e,fun v z=>by rw[d]at z;cases z⟩
 keep:=fun i h m st k=>st.at fun o e=>k g (by simp) o e
 item:=by
  intro X r t y N i f s σ H E I n st A;subst r t y;obtain⟨O,x,q,B⟩:=A;obtain⟨C,D,p,Q⟩:=I.list q;obtain⟨u,R,S⟩:=D.get B;obtain⟨F,G,T,J,L,M⟩:=n g (by simp);refine wpAny_pyNext_list_item st p.isList (x:=u) (by simpa using R) fun m l U=>?_;have V:Inv X f σ H { s with heap:=m }:=I.turned (t':=s.toks) (fun b o j e=>(U.2 b j).trans e) F G J L M;obtain⟨o,e,c,d⟩:=id l;exact⟨u,rfl,Na (s:={ s with heap:=m }) e c d (by decide) ⟨x,H,V,S,⟨rfl,fun ys Y=>by rw[I.list_inj Y q];exact B⟩,l,fun b j=>(n b j).1⟩⟩
 done:=by
  intro X r t y N i f s σ H E I n st A;subst r t y;obtain⟨O,q,B⟩:=A;obtain⟨C,D,p,Q⟩:=I.list q;obtain⟨F,G,T,J,L,M⟩:=n g (by simp);have hl:=D.length;exact wpAny_pyNext_list_end (I.ok.hd N) st p.isList (by simp;omega) fun m Z=>⟨rfl,I.turned (t':=s.toks) (fun b o j e=>Z b o j e) F G J L M⟩
 self:=fun _ _ _ _ _ st h=>wpAny_pyIter_listiter st h
def Cb{P:A6}{w:F1}{K:PySem.W.Frag}{tg:IY}(a g:A2):MK P w K tg (Itt K a) [g] g (fun i h=>h.IsTupleIter g a i) where
 mem:=by simp
 obj:=fun i h st b j=>by
  have e:b=g:=by simpa using j
  subst e;obtain⟨o,e,c,d⟩:=st;exact⟨o,e,fun v z=>by rw[d]at z;cases z⟩
 keep:=fun i h n st k=>st.at fun o e=>k g (by simp) o e
 item:=by
  intro X t y A N i f s σ H E I q st B;subst t y A;obtain⟨O,x,r,C⟩:=B;obtain⟨l,D,p,Q⟩:=I.tuple r;obtain⟨u,R,S⟩:=D.get C;obtain⟨F,G,T,J,L,M⟩:=q g (by simp);refine wpAny_pyNext_tuple_item st (show s.heap.IsTuple a l.toArray from p) (x:=u) (by simpa using R) fun n m U=>?_;have V:Inv X f σ H { s with heap:=n }:=I.turned (t':=s.toks) (fun b o j e=>(U.2 b j).trans e) F G J L M;obtain⟨o,e,c,d⟩:=id m;exact⟨u,rfl,Na (s:={ s with heap:=n }) e c d (by decide) ⟨x,H,V,S,⟨rfl,fun ys Y=>by rw[I.tuple_inj Y r];exact C⟩,m,fun b j=>(q b j).1⟩⟩
 done:=by
  intro X t y A N i f s σ H E I q st B;subst t y A;obtain⟨O,r,C⟩:=B;obtain⟨l,D,p,Q⟩:=I.tuple r;obtain⟨F,G,T,J,L,M⟩:=q g (by simp);have hl:=D.length;exact wpAny_pyNext_tuple_end (I.ok.hd N) st (show s.heap.IsTuple a l.toArray from p) (by simp;omega) fun n Z=>⟨rfl,I.turned (t':=s.toks) (fun b o j e=>Z b o j e) F G J L M⟩
 self:=fun _ _ _ _ _ st h=>wpAny_pyIter_tupleiter st h
def No{P:A6}{w:F1}{K:PySem.W.Frag}{tg:IY}(a:A2)(lo:Int)(n:Nat):MK P w K tg (TB lo n) [a] a (fun i h=>IsRangeIter h a (lo +(i:Nat)*1) ((n:Int)-(i:Nat)) 1) where
 mem:=by simp
 obj:=fun i h st b d=>by
  have e:b=a:=by simpa using d
  subst e;exact⟨_,st,fun v z=>by
   have D:Data.fields _=Data.cell v:=z;cases D⟩
 keep:=fun i h g st k=>k a (by simp) _ st
 item:=by
  intro X l m p q i c s σ H E I j st r;subst l m p;obtain⟨u,x,F,y,A,B⟩:=j a (by simp);have W:=Walks.range (prog:=X.prog) (w:=X.w) (I.ok.hd q) a lo 1 n;refine W.item i s _ _ r st fun v g C G f kk=>?_;obtain⟨t,rfl⟩:=G;have J:Inv X c σ H { s with heap:=g,toks:=C }:=I.turned (fun b o d e=>kk b o (by simpa using d) e) u x y A B;refine⟨_,rfl,Na (s:={ s with heap:=g,toks:=C }) (n := "range_iterator") f rfl rfl (by decide) ⟨.int (lo+i),H,J,⟨t,?_⟩,⟨rfl,rfl⟩,f,fun b d=>(j b d).1⟩⟩;rw[Int.mul_one]
 done:=by
  intro X l m p q i c s σ H E I j st r;subst l m p;obtain⟨u,x,F,y,A,B⟩:=j a (by simp);exact wpAny_pyNext_range_end (I.ok.hd q) st (by have:n<=i:=r;omega) fun g L=>⟨rfl,I.turned (t':=s.toks) (fun b o d e=>L b o d e) u x y A B⟩
 self:=fun _ _ _ _ _ st h=>wpAny_pyIter_rangeiter st h
section
variable{X:Cx}{tg:IY}
def zDw(K:PySem.W.Frag)(c:TE):TI:=fun σ H R=>c σ H fun x b=>∃a,x = .ref a/\(∃d,IW K b a d)/\R (UW K a) b
def zGh(K:PySem.W.Frag)(c:TE):TI:=fun σ H R=>c σ H fun x b=>∃a,x = .ref a/\(∃d,KQ K b a d)/\R (Itt K a) b
theorem Zk{l:IY}{g:TE}(i:PE X l g):PI X tg l (zDw X.K g):=by
 intro c s σ H R I h;refine JT (i c s σ H _ I h) fun v d ⟨x,j,f,k,m⟩=>?_;obtain⟨a,e,⟨u,n⟩,q⟩:=m;subst e;cases k;obtain⟨r,w,p,y⟩:=f.list n;refine HB p.isList ?_;refine⟨d.heap.objs.size,[d.heap.objs.size],_,_,j,rfl,f.kept (t':=d.toks) fun b o e=>AF _ e,Hd a _,⟨_,AN _ rfl,rfl,rfl⟩,fun b t=>?_,q⟩;have e:b=d.heap.objs.size:=by simpa using t
 subst e;exact f.fpOk (Nat.le_refl _) (f.hok.fresh (Nat.le_refl _))
theorem zBd{l:IY}{i:TE}(j:PE X l i):PI X tg l (zGh X.K i):=by
 intro c s σ H R I h;refine JT (j c s σ H _ I h) fun v d ⟨x,k,f,m,n⟩=>?_;obtain⟨a,e,⟨u,r⟩,q⟩:=n;subst e;cases m;obtain⟨g,w,p,y⟩:=f.tuple r;refine GU (show d.heap.IsTuple a g.toArray from p) ?_;refine⟨d.heap.objs.size,[d.heap.objs.size],_,_,k,rfl,f.kept (t':=d.toks) fun b o e=>AF _ e,Cb a _,⟨_,AN _ rfl,rfl,rfl⟩,fun b t=>?_,q⟩;have e:b=d.heap.objs.size:=by simpa using t
 subst e;exact f.fpOk (Nat.le_refl _) (f.hok.fresh (Nat.le_refl _))
theorem Ub{a:A0 (A2×Obj)}{σ:St}{H:Hp}{s:A3}{R:It->Hp->Prop}{E:A1->A3->Prop}{lo hi:Int}{t u v:Tok}{c:Nat}(I:Inv X a σ H s)(h1:-(2^62)<=lo)(h2:lo<2^62)(f:-(2^62)<=hi)(g:hi<2^62)
  (q:R (TB lo (hi-lo).toNat) H):wpAny (model X.prog X.w) X.A (pyIter (.ref s.heap.objs.size)) (PIE X a σ tg R) E { s with heap:=s.heap.push { cls:=.type "range",data:=.fields #[.int lo t,.int hi u,.int 1 v] },toks:=c }:=by
 refine wpAny_pyIter_range (IsRange.new ..) (small_one h1 h2 f g) ?_;have d:Inv X a σ H { s with heap:=s.heap.push { cls:=.type "range",data:=.fields #[.int lo t,.int hi u,.int 1 v] },toks:=c }:=I.kept fun b o e=>AF _ e;refine⟨(s.heap.push { cls:=.type "range",data:=.fields #[.int lo t,.int hi u,.int 1 v] }).objs.size,[(s.heap.push { cls:=.type "range",data:=.fields #[.int lo t,.int hi u,.int 1 v] }).objs.size],_,_,H,rfl,
  d.kept (t':=c) fun b o e=>AF _ e,No _ lo (hi-lo).toNat,?_,fun b h=>?_,q⟩
 .have i:lo +((0:Nat):Int)*1=lo:=by simp
  have j:(((hi-lo).toNat:Nat):Int)-((0:Nat):Int)=Builtin.Range.rangeSize lo hi 1:=by rw[rangeSize_one];split<;>omega
  show IsRangeIter _ _ (lo +((0:Nat):Int)*1) ((((hi-lo).toNat:Nat):Int)-((0:Nat):Int)) 1;rw[i,j];exact AN _ rfl
 .have e:b =(s.heap.push { cls:=.type "range",data:=.fields #[.int lo t,.int hi u,.int 1 v] }).objs.size:=by simpa using h
  subst e;exact d.fpOk (Nat.le_refl _) (d.hok.fresh (Nat.le_refl _))
def zBx(a:TA):TI:=fun σ H R=>a σ H fun b c=>∃j:Int,b = [.int j]/\-(2^62)<=j/\j<2^62/\R (TB 0 j.toNat) c
theorem Nw{a:IY}{d:TA}{p pos:Pos}(f:Gl X "range")(g:X.mg "range" = none)(i:PA X [a] d)(k:starEach [a] X.env = [(false,eval a X.env)]:=by rfl):PI X tg (.Call (.Name "range" p) [a] [] pos) (zBx d):=by
 intro b s σ H R I h;refine Call_ (o9 I f g boot_range (PyProof.Rows.callWith_type1 (JT (i pos b s σ H _ I h) fun u v ⟨w,x,l,m,c⟩=>?_) k rfl));obtain⟨j,e,c,n,q⟩:=c;subst e;cases m with
 | cons r o =>
  cases o;obtain⟨t,rfl⟩:=r;exact call_range_1 (Ub l (by omega) (by omega) c n (by simpa using q))
def zHe(c:TI)(g:TG)(d:TS):TS:=fun D σ H=>c σ H fun J e=>∃W:Nat->Nat->St->Hp->Prop,(∃m,W 0 m σ e)/\∀i m σ H,W i m σ H ->
 (J.stop i H/\D.nx σ H)\/(J.go i H/\∃N:St->Hp->Prop,(∀σ' a,N σ' a->∃b,b < m/\W (i+1) b σ' a)/\∀x a,J.yld i H x a->g x σ a fun σ2 f=>d { D with nx:=N,ct:=N,bk:=D.nx } σ2 f)
def Gp(fp:A0 A2)(h:IV):A0 (A2×Obj):=fp.filterMap fun b=>(h.get? b).map fun o=>(b,o)
theorem T5{fp:A0 A2}{h:IV}{b:A2}{o:Obj}(a:b∈fp)(e:h.get? b=some o):(b,o)∈Gp fp h:=List.mem_filterMap.mpr ⟨b,a,by rw[e];rfl⟩
theorem Qj{fp:A0 A2}{h:IV}{p:A2×Obj}(a:p∈Gp fp h):p.1∈fp/\h.get? p.1=some p.2:=by
 obtain⟨b,c,e⟩:=List.mem_filterMap.mp a;cases q:h.get? b with
 | none=>rw[q]at e;cases e
 | some o =>
  rw[q]at e;have d:(b,o)=p:=BA e;subst d;exact⟨c,q⟩
theorem Inv.pinned{a:A0 (A2×Obj)}{σ:St}{H:Hp}{s:A3}{fp:A0 A2}(I:Inv X a σ H s)(g:∀b∈fp,w4 X a H b)(h:∀b∈fp,∃o,s.heap.get? b=some o/\∀v,o.data≠ .cell v):Inv X (a++Gp fp s.heap) σ H s :=
 I.pins_of fun p i=>(AS.mp i).elim (fun z=>I.pin p (BZ _ z)) fun z=>by
  obtain⟨c,e⟩:=Qj z;obtain⟨j,k,l,_⟩:=g p.1 c;obtain⟨o,f,d⟩:=h p.1 c;rw[e]at f;cases f;exact⟨e,j,k,l,d⟩
theorem Inv.unpinned{a pl:A0 (A2×Obj)}{σ:St}{H:Hp}{s:A3}(I:Inv X (a++pl) σ H s):Inv X a σ H s:=I.pins_of fun p b=>I.pin p (BZ _ (EO _ b))
theorem K2{iter:IY}{q:A0 JF}{R:TI}{g:TG}{S:TS}{pos:Pos}(z:PassesOwn (model X.prog X.w) X.A X.env X.xe)(U:X.calm=true)(hi:PI X tg iter R)(hg:PG X tg g)(c:R_ X q S)
  (hs:∀x,foldedSetIterable iter X.env x=pure x:=by intro _;rfl):PS X (.For tg iter q [] pos) (zHe R g S):=by
 intro a s σ H D I h;refine wpAny_For (JT (hi a s σ H _ I h) fun v s1 h1=>JT h1 fun itv s2 h2=>?_) hs;obtain⟨it,B,V,J,H2,e,I2,T,L,Y,W,⟨m0,w0⟩,C⟩:=h2;subst e;have j:∀{p:Hp},(∀b∈B,p b=none)->∀b∈B,w4 X a p b:=fun hn b c=>⟨hn b c,(Y b c).2⟩;refine codeAny_forLoop_any (fun n Z=>∃i σ' p,Inv X a σ' p Z/\V i Z.heap/\(∀b∈B,p b=none)/\W i n σ' p) ?_ m0 ⟨0,σ,H2,I2,L,fun b c=>(Y b c).1,w0⟩;rintro n s3 ⟨i,σ3,K,I3,E,F,w3⟩;rcases C i n σ3 K w3 with⟨stop,qn⟩ | ⟨go,N,hN,step⟩
 .refine GB z (JT (T.done X rfl rfl rfl U i a s3 σ3 K X.xe I3 (j F) E stop) fun r s4 ⟨M,I4⟩=>?_);subst M;exact wpAny_execs_nil ⟨σ3,K,I4,qn⟩
 .refine GB z (JT (T.item X rfl rfl rfl U i a s3 σ3 K X.xe I3 (j F) E go) fun r s4 ⟨u,M,h4⟩=>?_);subst M;refine GB z (JT h4 fun _ s5 ⟨x,H5,I5,r5,y5,y,O⟩=>?_);have P:=I5.pinned (j O) (T.obj _ _ y);refine GB z (JT (hg _ s5 σ3 H5 x u _ P r5 (step x H5 y5)) fun _ s6 ⟨σ6,H6,I6,q6⟩=>?_);refine GB z (JT (c _ s6 σ6 H6 _ I6 q6) fun f Q t=>?_);have again:∀{σ7:St} {k:Hp},Inv X (a++Gp B s5.heap) σ7 k Q->N σ7 k->∃m,m<n/\∃i σ' p,Inv X a σ' p Q/\V i Q.heap/\(∀b∈B,p b=none)/\W i m σ' p:=fun{σ7 k} l G=>by
   obtain⟨m',hm,w7⟩:=hN σ7 k G;refine⟨m',hm,i+1,σ7,k,l.unpinned,T.keep _ _ _ y fun b c o e=>(l.pin (b,o) (BZ _ (BZ _ (T5 c e)))).1,fun b c=>?_,w7⟩;obtain⟨o,e,d⟩:=T.obj _ _ y b c;exact(l.pin (b,o) (BZ _ (BZ _ (T5 c e)))).2.1
  cases f with
  | next=>obtain⟨σ7,k,l,G⟩:=t;exact again l G
  | cont=>obtain⟨σ7,k,l,G⟩:=t;exact again l G
  | brk=>obtain⟨σ7,k,l,t⟩:=t;exact⟨σ7,k,l.unpinned,t⟩
  | ret v=>obtain⟨x7,σ7,k,l,r7,t⟩:=t;exact⟨x7,σ7,k,l.unpinned,r7,t⟩
end
def Pp{lo:Int}{n:Nat}{g:TG}{c:TS}{D:Ends}{σ:St}{H:Hp}(Pv:Nat->St->Hp->Prop)(f:Pv 0 σ H)
  (h:∀i σ H,i<n->Pv i σ H->g (.int (lo+i)) σ H fun σ2 b=>c { D with nx:=Pv (i+1),ct:=Pv (i+1),bk:=D.nx } σ2 b) (j:∀σ H,Pv n σ H->D.nx σ H) :
  ∃W:Nat->Nat->St->Hp->Prop,(∃m,W 0 m σ H)/\∀i m σ H,W i m σ H ->
   ((TB lo n).stop i H/\D.nx σ H)\/((TB lo n).go i H/\∃N:St->Hp->Prop,(∀σ' H',N σ' H'->∃d,d < m/\W (i+1) d σ' H')/\∀x H',(TB lo n).yld i H x H'->g x σ H' fun σ2 b=>c { D with nx:=N,ct:=N,bk:=D.nx } σ2 b):=by
 refine⟨fun i m σ H=>m=n-i/\i<=n/\Pv i σ H,⟨n,by simp,CK _,f⟩,?_⟩;rintro i m σ H ⟨rfl,l,p⟩;by_cases a:i<n
 .refine .inr ⟨a,Pv (i+1),fun σ' H' k=>⟨n-(i+1),by omega,rfl,a,k⟩,fun x H' y=>?_⟩;obtain⟨e,y⟩:=y;subst e y;exact h i σ _ a p
 .have e:i=n:=by omega
  subst e;exact .inl ⟨Nat.le_refl _,j σ H p⟩
abbrev R2:=V->V->Hp->VK->Prop
def LW(X:Cx)(f:A1->A1->Sem A1)(r:R2):Prop :=
 ∀(a:A0 (A2×Obj)) (s:A3) (σ:St) (H:Hp) (x y:V) (v u:A1) (Q:VK),Inv X a σ H s->RelV x v->RelV y u->r x y H Q ->
  wpAny (model X.prog X.w) X.A (f v u) (EP X a σ Q) X.xe s
def UnR(X:Cx)(f:A1->Sem A1)(r:V->Hp->VK->Prop):Prop :=
 ∀(a:A0 (A2×Obj)) (s:A3) (σ:St) (H:Hp) (x:V) (v:A1) (Q:VK),Inv X a σ H s->RelV x v->r x H Q ->
  wpAny (model X.prog X.w) X.A (f v) (EP X a σ Q) X.xe s
def E9(X:Cx)(f:A1)(r:A0 V->Hp->VK->Prop):Prop :=
 ∀(a:A0 (A2×Obj)) (s:A3) (σ:St) (H:Hp) (b:A0 V) (c:A0 A1) (Q:VK),Inv X a σ H s->JA b c->r b H Q ->
  wpAny (model X.prog X.w) X.A (call f c) (EP X a σ Q) X.xe s
def zHc(X:Cx)(r:V->Hp->(Bool->Hp->Prop)->Prop):Prop :=
 ∀(a:A0 (A2×Obj)) (s:A3) (σ:St) (H:Hp) (x:V) (v:A1) (Q:Bool->Hp->Prop),Inv X a σ H s->RelV x v->r x H Q ->
  wpAny (model X.prog X.w) X.A (truthy v) (TP X a σ Q) X.xe s
def UQ(r:R2)(a b:TE):TE:=fun σ H Q=>a σ H fun x c=>b σ c fun y d=>r x y d Q
def tUn(r:V->Hp->VK->Prop)(a:TE):TE:=fun σ H Q=>a σ H fun x b=>r x b Q
def rI(C:Int->Int->Prop)(g:Int->Int->V):R2:=fun x y H Q=>∃i j,x = .int i/\y = .int j/\C i j/\Q (g i j) H
def SW(g:Int->Int->V):R2:=fun x y H Q=>∃i j,x = .int i/\y = .int j/\Q (g i j) H
def rU(g:Int->V):V->Hp->VK->Prop:=fun x H Q=>∃i,x = .int i/\Q (g i) H
section
variable{X:Cx}{a b c:IY}{ta tb tc:TE}{pos:Pos}
theorem zFp(i:PE X a ta)(j:PE X b tb){c:A0 (A2×Obj)}{s:A3}{σ:St}{H:Hp}{R:V->V->Hp->Prop}(I:Inv X c σ H s)
  (h:ta σ H fun x g=>tb σ g fun y d=>R x y d) {Q:A1->A3->Prop} {f:A1->A1->Sem A1}
  (k:∀v u e x y d,Inv X c σ d e->RelV x v->RelV y u->R x y d->wpAny (model X.prog X.w) X.A (f v u) Q X.xe e) :
  wpAny (model X.prog X.w) X.A (eval a X.env) (fun v s₁=>wpAny (model X.prog X.w) X.A (eval b X.env) (fun u s₂=>wpAny (model X.prog X.w) X.A (f v u) Q X.xe s₂) X.xe s₁) X.xe s:=by
 refine JT (i c s σ H _ I h) fun v l ⟨x,g,m,n,o⟩=>?_;refine JT (j c l σ g _ m o) fun u e ⟨y,d,p,q,r⟩=>?_;exact k v u e x y d p n q r
theorem D0{op:Operator}{r:R2}(d:LW X (binaryOp op) r)(e:PE X a ta)(f:PE X b tb):PE X (.BinOp a op b pos) (UQ r ta tb):=by
 intro c s σ H Q I h;exact wpAny_BinOp (zFp e f I h fun v u g x y i j k l q=>d c g σ i x y v u Q j k l q)
theorem Yl{op:UnaryOp}{r:V->Hp->VK->Prop}(c:UnR X (unaryOp op) r)(d:PE X a ta):PE X (.UnaryOp op a pos) (tUn r ta):=by
 intro b s σ H Q I h;exact UnaryOp_ (JT (d b s σ H _ I h) fun v e ⟨x,f,g,i,j⟩=>c b e σ f x v Q g i j)
theorem UU{f:A1->A1->Sem A1}{C:Int->Int->Prop}{g:Int->Int->Int}
  (rule:∀(i j:Int) (t u:Tok) (s:A3) (Q:A1->A3->Prop) (E:A1->A3->Prop),C i j->Q (.int (g i j) s.toks) { s with toks:=s.toks+1 }->wpAny (model X.prog X.w) X.A (f (.int i t) (.int j u)) Q E s) :
  LW X f (rI C fun i j=>.int (g i j)):=by
 intro a s σ H x y v u Q I b c h;obtain⟨i,j,rfl,rfl,d,q⟩:=h;obtain⟨t,rfl⟩:=b;obtain⟨e,rfl⟩:=c;exact rule i j t e s _ _ d ⟨.int (g i j),H,I.tok _,⟨_,rfl⟩,q⟩
theorem zEq{f:A1->A1->Sem A1}{g:Int->Int->Int}
  (rule:∀(i j:Int) (t u:Tok) (s:A3) (Q:A1->A3->Prop) (E:A1->A3->Prop),Q (.int (g i j) s.toks) { s with toks:=s.toks+1 }->wpAny (model X.prog X.w) X.A (f (.int i t) (.int j u)) Q E s) :
  LW X f (SW fun i j=>.int (g i j)):=by
 intro a s σ H x y v u Q I b c h;obtain⟨i,j,rfl,rfl,q⟩:=h;obtain⟨t,rfl⟩:=b;obtain⟨d,rfl⟩:=c;exact rule i j t d s _ _ ⟨.int (g i j),H,I.tok _,⟨_,rfl⟩,q⟩
theorem zEr{f:A1->A1->Sem A1}{g:Int->Int->Bool}
  (rule:∀(i j:Int) (t u:Tok) (s:A3) (Q:A1->A3->Prop) (E:A1->A3->Prop),Q (.bool (g i j)) s->wpAny (model X.prog X.w) X.A (f (.int i t) (.int j u)) Q E s) :
  LW X f (SW fun i j=>.bl (g i j)):=by
 intro a s σ H x y v u Q I b c h;obtain⟨i,j,rfl,rfl,q⟩:=h;obtain⟨t,rfl⟩:=b;obtain⟨d,rfl⟩:=c;exact rule i j t d s _ _ ⟨.bl (g i j),H,I,rfl,q⟩
def zHg(i j:Int):Prop:=0<j/\j<1073741824
def zGk(i j:Int):Prop:=0<=j/\j<=1000000/\i.natAbs<2^64
def UJ(i j:Int):Prop:=(-(2^64)<i/\i<2^64)\/(-(2^64)<j/\j<2^64)
theorem UJ.ok{i j:Int}(h:UJ i j):IntMulOk i j:=by
 rcases h with⟨a,b⟩ | ⟨a,b⟩
 .exact .of_left (intBits_le_64 a b)
 .exact .of_right (intBits_le_64 a b)
theorem Nt(k:Nat):(0:Int)<=2^k:=by
 rw[two_pow_cast];exact Int.natCast_nonneg _
theorem U4:LW X (binaryOp .Add) (SW fun i j=>.int (i+j)):=zEq fun _ _ _ _ _ _ _ q=>add_int q
theorem Cd:LW X (binaryOp .Mult) (rI UJ fun i j=>.int (i*j)):=UU fun _ _ _ _ _ _ _ a q=>mul_int q a.ok
theorem Sh:LW X (binaryOp .FloorDiv) (rI zHg fun i j=>.int (i / j)):=UU fun i j _ _ _ _ _ a q=>by
 have b:(0:Int)<j:=a.1;have c:j<1073741824:=a.2;exact floordiv_int (by omega) (by rw[Int.fdiv_eq_ediv_of_nonneg i (by omega)];exact q) (.inl (PyProof.noPylong_small (by omega)))
theorem Fj:LW X (binaryOp .Mod) (rI (fun _ j=>0<j) fun i j=>.int (i % j)):=UU fun i j _ _ _ _ _ a q=>by
 have b:(0:Int)<j:=a;exact mod_int' (by omega) (by rw[Int.fmod_eq_emod_of_nonneg i (by omega)];exact q)
theorem zDj:LW X (binaryOp .Pow) (rI zGk fun i j=>.int (i^j.toNat)):=UU fun _ _ _ _ _ _ _ a q=>pow_int_small a.1 a.2.1 a.2.2 q
theorem By:LW X (binaryOp .LShift) (rI zGk fun i j=>.int (i*2^j.toNat)):=UU fun _ _ _ _ _ _ _ a q=>lshift_int_small a.1 a.2.1 a.2.2 q
theorem Th:LW X (binaryOp .RShift) (rI (fun _ j=>0<=j) fun i j=>.int (i / 2^j.toNat)):=UU fun i j _ _ _ _ _ a q =>
 rshift_int a (by rw[Int.fdiv_eq_ediv_of_nonneg i (Nt _)];exact q)
theorem Q2:LW X (binaryOp .BitAnd) (SW fun i j=>.int (Builtin.bitAnd i j)):=zEq fun _ _ _ _ _ _ _ q=>and_int q
theorem Y6:LW X (binaryOp .BitOr) (SW fun i j=>.int (Builtin.bitOr i j)):=zEq fun _ _ _ _ _ _ _ q=>or_int q
theorem Ku:LW X (binaryOp .BitXor) (SW fun i j=>.int (Builtin.bitXor i j)):=zEq fun _ _ _ _ _ _ _ q=>xor_int q
theorem unI{f:A1->Sem A1}{g:Int->Int}
  (rule:∀(i:Int) (t:Tok) (s:A3) (Q:A1->A3->Prop) (E:A1->A3->Prop),Q (.int (g i) s.toks) { s with toks:=s.toks+1 }->wpAny (model X.prog X.w) X.A (f (.int i t)) Q E s) :
  UnR X f (rU fun i=>.int (g i)):=by
 intro a s σ H x v Q I b h;obtain⟨i,rfl,q⟩:=h;obtain⟨t,rfl⟩:=b;exact rule i t s _ _ ⟨.int (g i),H,I.tok _,⟨_,rfl⟩,q⟩
theorem zCx:UnR X (unaryOp .USub) (rU fun i=>.int (-i)):=unI fun _ _ _ _ _ q=>neg_int q
theorem Xo:UnR X (unaryOp .Invert) (rU fun i=>.int (Builtin.bitNot i)):=unI fun _ _ _ _ _ q=>invert_int q
end
def zGx:V->V->Bool
 | .non,.non=>true | .non,.int _=>true | .int _,.non=>true | .non,.bl _=>true | .bl _,.non=>true | .non,.str _=>true | .str _,.non=>true
 | .int _,.int _=>true | .bl _,.bl _=>true | .str _,.str _=>true | .byt _,.byt _=>true
 | .int _,.str _=>true | .str _,.int _=>true | .bl _,.str _=>true | .str _,.bl _=>true
 | _,_=>false
def rEq:R2:=fun x y H Q=>zGx x y=true/\Q (.bl (decide (x=y))) H
def rNe:R2:=fun x y H Q=>zGx x y=true/\Q (.bl (!decide (x=y))) H
def Tf{i j:Int}:decide (V.int i=V.int j) =(i == j):=by
 rw[B_];simp
def Gv{i j:Bool}:decide (V.bl i=V.bl j) =(i == j):=by
 rw[B_];simp
def Q0{i j:Str}:decide (V.str i=V.str j) =(i == j):=by
 rw[B_];simp
def Pe{i j:A7 UInt8}:decide (V.byt i=V.byt j) =(i.toList == j.toList):=by
 rw[B_];cases i;cases j;simp
section
variable{X:Cx}{a b c:IY}{ta tb tc:TE}{pos:Pos}
theorem E5{a:A0 (A2×Obj)}{σ:St}{H:Hp}{s:A3}{Q:VK}{k b:Bool}(I:Inv X a σ H s)(q:Q (.bl k) H)(e:k=b):EP X a σ Q (.bool b) s:=by
 subst e;exact⟨.bl k,H,I,rfl,q⟩
theorem N9:LW X (compareOp .Eq) rEq:=by
 intro e s σ H x y v u Q I d a h;obtain⟨c,q⟩:=h;cases x with
 | non =>
  cases d;cases y with
  | non=>cases a;exact PySem.EqNone.eq_none_none (E5 I q (by simp))
  | bl j=>cases a;exact PySem.EqNone.eq_none_bool (E5 I q (by simp))
  | int j=>obtain⟨b,rfl⟩:=a;exact PySem.EqNone.eq_none_int (E5 I q (by simp))
  | str j=>obtain⟨b,rfl⟩:=a;exact PySem.EqNone.eq_none_str (E5 I q (by simp))
  | _=>exact absurd (show false=true from c) BC
 | bl i =>
  cases d;cases y with
  | non=>cases a;exact PySem.EqNone.eq_bool_none (E5 I q (by simp))
  | bl j=>cases a;exact eq_bool (E5 I q Gv)
  | str j=>obtain⟨b,rfl⟩:=a;exact PySem.EqMixed.eq_bool_str (E5 I q (by simp))
  | _=>exact absurd (show false=true from c) BC
 | int i =>
  obtain⟨t,rfl⟩:=d;cases y with
  | non=>cases a;exact PySem.EqNone.eq_int_none (E5 I q (by simp))
  | int j=>obtain⟨b,rfl⟩:=a;exact eq_int (E5 I q Tf)
  | str j=>obtain⟨b,rfl⟩:=a;exact PySem.EqMixed.eq_int_str (E5 I q (by simp))
  | _=>exact absurd (show false=true from c) BC
 | str i =>
  obtain⟨t,rfl⟩:=d;cases y with
  | non=>cases a;exact PySem.EqNone.eq_str_none (E5 I q (by simp))
  | bl j=>cases a;exact PySem.EqMixed.eq_str_bool (E5 I q (by simp))
  | int j=>obtain⟨b,rfl⟩:=a;exact PySem.EqMixed.eq_str_int (E5 I q (by simp))
  | str j=>obtain⟨b,rfl⟩:=a;exact eq_str (E5 I q Q0)
  | _=>exact absurd (show false=true from c) BC
 | byt i =>
  obtain⟨t,rfl⟩:=d;cases y with
  | byt j=>obtain⟨b,rfl⟩:=a;exact PySem.W.eq_bytes (E5 I q Pe)
  | _=>exact absurd (show false=true from c) BC
 | _=>cases y<;>exact absurd (show false=true from c) BC
theorem r9:LW X (compareOp .NotEq) rNe:=by
 intro e s σ H x y v u Q I d a h;obtain⟨c,q⟩:=h;cases x with
 | non =>
  cases d;cases y with
  | non=>cases a;exact PySem.EqNone.ne_none_none (E5 I q (by simp))
  | bl j=>cases a;exact PySem.EqNone.ne_none_bool (E5 I q (by simp))
  | int j=>obtain⟨b,rfl⟩:=a;exact PySem.EqNone.ne_none_int (E5 I q (by simp))
  | str j=>obtain⟨b,rfl⟩:=a;exact PySem.EqNone.ne_none_str (E5 I q (by simp))
  | _=>exact absurd (show false=true from c) BC
 | bl i =>
  cases d;cases y with
  | non=>cases a;exact PySem.EqNone.ne_bool_none (E5 I q (by simp))
  | bl j=>cases a;exact ne_bool (E5 I q (congrArg not Gv))
  | str j=>obtain⟨b,rfl⟩:=a;exact PySem.EqMixed.ne_bool_str (E5 I q (by simp))
  | _=>exact absurd (show false=true from c) BC
 | int i =>
  obtain⟨t,rfl⟩:=d;cases y with
  | non=>cases a;exact PySem.EqNone.ne_int_none (E5 I q (by simp))
  | int j=>obtain⟨b,rfl⟩:=a;exact ne_int (E5 I q (congrArg not Tf))
  | str j=>obtain⟨b,rfl⟩:=a;exact PySem.EqMixed.ne_int_str (E5 I q (by simp))
  | _=>exact absurd (show false=true from c) BC
 | str i =>
  obtain⟨t,rfl⟩:=d;cases y with
  | non=>cases a;exact PySem.EqNone.ne_str_none (E5 I q (by simp))
  | bl j=>cases a;exact PySem.EqMixed.ne_str_bool (E5 I q (by simp))
  | int j=>obtain⟨b,rfl⟩:=a;exact PySem.EqMixed.ne_str_int (E5 I q (by simp))
  | str j=>obtain⟨b,rfl⟩:=a;exact ne_str (E5 I q (congrArg not Q0))
  | _=>exact absurd (show false=true from c) BC
 | byt i =>
  obtain⟨t,rfl⟩:=d;cases y with
  | byt j=>obtain⟨b,rfl⟩:=a;exact PySem.W.ne_bytes (E5 I q (congrArg not Pe))
  | _=>exact absurd (show false=true from c) BC
 | _=>cases y<;>exact absurd (show false=true from c) BC
theorem zDh:LW X (compareOp .Lt) (SW fun i j=>.bl (decide (i<j))):=zEr fun _ _ _ _ _ _ _ q=>lt_int q
theorem zDf:LW X (compareOp .LtE) (SW fun i j=>.bl (decide (i<=j))):=zEr fun _ _ _ _ _ _ _ q=>le_int q
theorem zBs:LW X (compareOp .Gt) (SW fun i j=>.bl (decide (j<i))):=zEr fun _ _ _ _ _ _ _ q=>gt_int q
theorem zFc:LW X (compareOp .GtE) (SW fun i j=>.bl (decide (j<=i))):=zEr fun _ _ _ _ _ _ _ q=>ge_int q
theorem Rw:LW X (compareOp .In) (fun x y H Q=>∃i j,x = .str i/\y = .str j/\Q (.bl (!(Builtin.Str.occurrences j i 0 j.length 1).isEmpty)) H):=by
 intro a s σ H x y v u Q I b c h;obtain⟨i,j,rfl,rfl,q⟩:=h;obtain⟨t,rfl⟩:=b;obtain⟨d,rfl⟩:=c;exact in_str (E5 I q rfl)
theorem zEk:LW X (compareOp .Is) (fun x y H Q=>y = .non/\Q (.bl (decide (x = .non))) H):=by
 intro a s σ H x y v u Q I b c h;obtain⟨rfl,q⟩:=h;cases c;refine is_none_gen (E5 I q ?_);cases x<;>first
  | (cases b;rfl)
  | (obtain⟨t,rfl⟩:=b;rfl)
theorem C5(b:IY){op:CmpOp}(h:op≠ .In:=by decide)(h2:op≠ .NotIn:=by decide):behindInMarks op b=false:=by
 have a:(op == CmpOp.In)=false:=by cases op<;>first | rfl | exact absurd rfl h
 have c:(op == CmpOp.NotIn)=false:=by cases op<;>first | rfl | exact absurd rfl h2
 cases b<;>simp[behindInMarks,a,c]
theorem D9{op:CmpOp}{r:R2}(d:LW X (compareOp op) r)(e:PE X a ta)(f:PE X b tb)(g:behindInMarks op b=false):PE X (.Compare a [op] [b] pos) (UQ r ta tb):=by
 intro c s σ H Q I h;exact wpAny_Compare1 (zFp e f I h fun v u i x y j k l m q=>d c i σ j x y v u Q k l m q) g
def zAp(t:TE):TT:=fun σ H Q=>t σ H fun x a=>∃k,x = .bl k/\Q k a
theorem C2{op:CmpOp}{r:R2}(f:LW X (compareOp op) r)(g:PE X a ta)(i:PE X b tb)(j:behindInMarks op b=false):PT X (.Compare a [op] [b] pos) (zAp (UQ r ta tb)):=by
 intro d s σ H Q I h;refine wpAny_isTrue_Compare1 (JT (g d s σ H _ I h) fun v l ⟨x,m,n,o,p⟩=>JT (i d l σ m _ n p) fun u q ⟨y,t,w,A,B⟩ =>
  JT (f d q σ t x y v u _ w o A B) fun c G ⟨z,C,D,E,k,e,F⟩=>?_) j
 subst e;cases E;exact DI ⟨C,D,F⟩
def zEi(r b:R2)(ta tb tc:TE):TE:=fun σ H Q=>ta σ H fun x c=>tb σ c fun y d=>r x y d fun z a=>∃k,z = .bl k /\
 (if k=true then tc σ a fun e f=>b y e f Q else Q (.bl false) a)
theorem Ur{op g:CmpOp}{r j:R2}(p:LW X (compareOp op) r)(i:LW X (compareOp g) j)(q:PE X a ta)(t:PE X b tb)(w:PE X c tc)
  (A:lastMarks [op,g] [b,c]=false:=by with_unfolding_all rfl):PT X (.Compare a [op,g] [b,c] pos) (zAp (zEi r j ta tb tc)):=by
 intro f s σ H Q I h;refine isTrue_chain (JT (q f s σ H _ I h) fun v B ⟨x,C,D,E,F⟩=>test_link (JT (t f B σ C _ D F) fun u G ⟨y,J,K,l,L⟩ =>
  JT (p f G σ J x y v u _ K E l L) fun d M ⟨z,m,n,N,k,e,o⟩=>?_)) A
 subst e;cases N;refine DI ?_;cases k with
 | false =>
  obtain⟨k',O,P⟩:=o;cases O;exact ite_ff ⟨m,n,P⟩
 | true =>
  refine ite_tt (test_last (JT (w f M σ m _ n o) fun R S ⟨T,U,V,W,Y⟩=>JT (i f S σ U y T u R _ V l W Y) fun d' s5 ⟨z2,Z,I5,r5,k2,e2,q5⟩=>?_));subst e2;cases r5;exact DI ⟨Z,I5,q5⟩
def zFu(K:PySem.W.Frag)(x:V)(H:Hp)(k:Bool):Prop :=
 match x with
 | .non=>k=false
 | .bl b=>k=b
 | .int i=>k =(i != 0)
 | .str y=>y.length<=sizeLine/\k =((y.length:Int) != 0)
 | .byt y=>y.size<=sizeLine/\k =((y.size:Int) != 0)
 | .ref p=>(∃a,IW K H p a/\k=!a.isEmpty)\/(∃a,KQ K H p a/\k=!a.isEmpty)\/∃c,H p=some (.dK c)/\k=!c.isEmpty
 | _=>False
theorem Nj{Z:Type}{a:A0 (Z×V)}{vs:A0 (Z×A1)}(r:KV a vs):(!vs.isEmpty)=!a.isEmpty:=by
 cases r<;>rfl
theorem Cj{xs:A0 V}{its:A0 A1}(r:JA xs its):(!its.toArray.isEmpty)=!xs.isEmpty:=by
 cases r<;>simp
theorem Cg:(sizeLine:Nat)<2^63:=by rw[sizeLine_eq];decide
theorem zEm:zHc X (fun x H Q=>∃k,zFu X.K x H k/\Q k H):=by
 intro u s σ H x v Q I g h;obtain⟨k,e,q⟩:=h;have C:=Cg;have D:sizeLine=16777216:=sizeLine_eq;cases x with
 | non =>
  cases g;have a:k=false:=e;subst a;exact truthy_none ⟨H,I,q⟩
 | bl b =>
  cases g;have a:k=b:=e;subst a;exact DI ⟨H,I,q⟩
 | int i =>
  obtain⟨t,rfl⟩:=g;have a:k =(i != 0):=e;subst a;exact PySem.P.truthy_int ⟨H,I,q⟩
 | str y =>
  obtain⟨t,rfl⟩:=g;obtain⟨A,a⟩:y.length<=sizeLine/\k =((y.length:Int) != 0):=e;subst a;exact PySem.P.truthy_str (by omega) ⟨H,I.tok _,q⟩
 | byt y =>
  obtain⟨t,rfl⟩:=g;obtain⟨A,a⟩:y.size<=sizeLine/\k =((y.size:Int) != 0):=e;subst a;exact PySem.W.truthy_bytes (by omega) ⟨H,I.tok _,q⟩
 | ref p =>
  cases g;have a:(∃f,IW X.K H p f/\k=!f.isEmpty)\/(∃f,KQ X.K H p f/\k=!f.isEmpty)\/∃c,H p=some (.dK c)/\k=!c.isEmpty:=e;rcases a with⟨f,j,a⟩ | ⟨f,j,a⟩ | ⟨c,j,a⟩
  .subst a;obtain⟨n,r,o,z⟩:=I.list j;have d:=r.length;exact wpAny_truthy_list o.isList (by simp only[AQ];omega) ⟨H,I.tok _,by rw[Cj r];exact q⟩
  .subst a;obtain⟨n,r,o,z⟩:=I.tuple j;have d:=r.length;exact truthy_tuple o (by simp only[AQ];omega) ⟨H,I.tok _,by rw[Cj r];exact q⟩
  .subst a;obtain⟨z,B,l,r,m⟩:c.length<=sizeLine/\(p == sysModules)=false/\∃l,KV c l/\s.heap.DictOf (C4 X.prog X.w) p l:=I.hok p _ j;have d:c.length=l.length:=Paired.length r;exact wpAny_truthy_dict B m (by omega) ⟨H,I.tok _,by rw[Nj r];exact q⟩
 | _=>exact(show False from e).elim
theorem Uv(d:PE X a ta)(e:∀b,isTrue a X.env b =(do let v <-b;standAt a.pos;holding [v] (truthy v))) :
  PT X a (fun σ H Q=>ta σ H fun x H'=>∃k,zFu X.K x H' k/\Q k H'):=by
 intro c s σ H Q I h;exact isTrue_plain (JT (d c s σ H _ I h) fun v f ⟨x,g,i,j,l⟩=>zEm c f σ g x v Q i j l) (e _)
theorem S2{x:V}{us:A0 A1}(r:JA [x] us):∃u,us = [u]/\RelV x u:=by
 cases r with
 | cons a b=>cases b;exact⟨_,rfl,a⟩
theorem zFn{x y:V}{us:A0 A1}(r:JA [x,y] us):∃u a,us = [u,a]/\RelV x u/\RelV y a:=by
 cases r with
 | cons b c =>
  cases c with
  | cons d e=>cases e;exact⟨_,_,rfl,b,d⟩
theorem Ka:E9 X (.builtin "abs") (fun xs H Q=>∃i,xs = [.int i]/\Q (.int (if i<0 then -i else i)) H):=by
 intro a s σ H xs b Q I r h;obtain⟨i,rfl,q⟩:=h;obtain⟨u,rfl,t,rfl⟩:=S2 r;exact call_abs_int fun u c=>⟨.int (if i<0 then -i else i),H,I.tok _,⟨_,rfl⟩,q⟩
theorem Oy(c:X.calm=true):E9 X (.builtin "min") (fun xs H Q=>∃i j,xs = [.int i,.int j]/\Q (.int (if j<i then j else i)) H):=by
 intro b s σ H xs d Q I r h;obtain⟨i,j,rfl,q⟩:=h;obtain⟨u,e,rfl,⟨t,rfl⟩,⟨f,rfl⟩⟩:=zFn r;refine min_two_ints (I.ok.hd c) fun g l k=>⟨_,H,I.kept k,?_,q⟩;by_cases a:j<i
 .rw[AU a,AU a];exact⟨_,rfl⟩
 .rw[AO a,AO a];exact⟨_,rfl⟩
theorem Qi:E9 X (.type "int") (fun xs H Q=>(∃i,xs = [.int i]/\Q (.int i) H)\/∃k,xs = [.bl k]/\Q (.int (if k then 1 else 0)) H):=by
 intro a s σ H xs c Q I r h;rcases h with⟨i,rfl,q⟩ | ⟨k,rfl,q⟩
 .obtain⟨u,rfl,t,rfl⟩:=S2 r;exact call_int_int ⟨.int i,H,I,⟨_,rfl⟩,q⟩
 .obtain⟨u,rfl,b⟩:=S2 r;cases b;exact call_int_bool ⟨.int (if k then 1 else 0),H,I.tok _,⟨_,rfl⟩,q⟩
end
structure RS(h:IV)(x dx C:A2)(mA:Str->A4 A1):Prop where
 obj:h.get? x=some (PySem.W.instObj C dx)
 ns:h.Ns1 dx mA
 ne:dx≠x
def Sn{h:IV}{c:A2}{d:Str->A4 A1}(n:h.Ns1 c d):∃f,h.get? c=some f/\∀name,PySem.W.lookIn name f=some (d name):=by
 obtain⟨o,g,r,i,j,k,_,l⟩:=n;refine⟨o,i,fun name=>?_⟩;have e:=l name;unfold nsFind findBy at e;rw[<-Array.find?_toList]at e;unfold PySem.W.lookIn;rw[j];dsimp only;split
 .rename_i y q;rw[q]at e;exact congrArg some e
 .rename_i q;rw[q]at e;have a:g.toList.any (·.refKey)=false:=by
   rw[List.any_eq_false];intro y m;obtain⟨z,t,b⟩:=k y (Array.mem_toList_iff.mp m);simp[DictEntry.refKey,b]
  have p:¬g.toList.any (·.refKey)=true:=by rw[a];exact BC
  rw[AO p];exact congrArg some e
def RS.look{h:IV}{x b C:A2}{c:Str->A4 A1}(I:RS h x b C c):∃a,PySem.W.InstAt h x (PySem.W.instObj C b) C (some a)/\∀name,PySem.W.lookIn name a=some (c name) :=
 let⟨a,d,e⟩:=Sn I.ns
 ⟨a,⟨I.obj,rfl,rfl,d⟩,e⟩
section
variable{prog:A6}{w:F1}{A:IZ}{E:A1->A3->Prop}{s:A3}{K:PySem.W.Frag}{x dx C f:A2}{mA:Str->A4 A1}{name:Str}{v:A1}
theorem zAq{a:Bool}{Q:A1->A3->Prop}(X:K.In s.heap)(I:RS s.heap x dx C mA)(c:PySem.W.plainGet K C name=true)(d:PySem.W.hasDictIn K C=true)
  (e:PySem.W.findIn K (.ref C) name=some none) (f:mA name=some v) (b:PySem.W.handedIn v=true) (h:Q v { s with toks:=s.toks+1 }) :
  wpAny (model prog w) A (getAttr (.ref x) name a) Q E s:=by
 obtain⟨i,J,g⟩:=I.look;exact PySem.W.get_value X J (PySem.W.plainGet_of c).1 (PySem.W.findObj_own d e rfl (by rw[g,f])) b h
theorem Ut{pl:Sem Bool}{Q:A1×A0 A1->A3->Prop}(X:K.In s.heap)(I:RS s.heap x dx C mA)(a:PySem.W.plainGet K C name=true)
  (b:PySem.W.findIn K (.ref C) name=some (some (.ref f))) (c:PySem.W.isFn K (.ref f)=true) (d:mA name=none) (h:Q (.ref f,[.ref x]) s) :
  wpAny (model prog w) A (getMethod (.ref x) name pl) Q E s:=by
 obtain⟨e,J,g⟩:=I.look;exact PySem.W.method_fn X J (PySem.W.plainGet_of a).1 (PySem.W.plainGet_of a).2 b (beq_iff_eq.mp c) (by show(PySem.W.lookIn name e).map (·.isSome)=some false;rw[g,d];rfl) h
theorem zAf{ns:A0 Str}{Q:Unit->A3->Prop}(X:K.In s.heap)(I:RS s.heap x dx C mA)
  (j:PySem.W.findIn K (.ref C) "__setattr__" = some (some (.builtin "object.__setattr__"))) (k:PySem.W.plainOver K C=true) (l:PySem.W.takerIn K C name=some none) (m:PySem.W.hasDictIn K C=true)
  (hw:PySem.Within mA ns) (hsz:ns.length<=sizeLine)
  (h:∀h',RS h' x dx C (fun y=>if y=name then some v else mA y)->Heap.SameBut dx s.heap h'->Q () { s with heap:=h',toks:=s.toks+2 }) :
  wpAny (model prog w) A (setAttr (.ref x) name v) Q E s:=by
 obtain⟨t,J,u⟩:=I.look;refine PySem.W.set_plain X J j (PySem.W.osa_open (s:={ s with toks:=s.toks+1 }) (r:=none) X J k l fun b=>?_);obtain⟨z,n,e⟩:=PySem.W.any_some m;have o:s.heap.get? x=some ⟨.ref C,some dx,.plain,#[]⟩:=I.obj;refine AA (AE (AA (AA (wpAny_loadPart o (AA (PySem.W.Looks.here (s:={ s with toks:=s.toks+1 }) (PySem.W.looks_clsIn X n) ?_))))));rw[e];refine AE (a:=some dx) (AA (AE (AA ?_)));refine wpAny_nsSet1 (s:={ s with toks:=s.toks+1 }) I.ns fun h' c d=>?_;obtain⟨B,p,q,f,g,i⟩:=c.count (PySem.Within.cons name v hw);refine AA (wpAny_lookBehind f (by rw[g];exact pastItsLine_dict (Nat.le_trans i (by rw[BS];omega))) ?_);exact AE (h _ ⟨(d.2 _ (Ne.symm I.ne)).trans I.obj,c,I.ne⟩ d)
theorem Uy{R:Result->A3->Prop}{vs:A0 A1}{b:A0 (Str×A1)}(X:K.In s.heap)(c:PySem.W.makesIn K C=true)
  (hi:PySem.W.findIn K (.ref C) "__init__" = some (some (.ref f))) (e:PySem.W.typeIn K (.ref f)=some (.type "function"))
  (h:codeAny (model prog w) (A.under (.builtin "type.__call__" ⟨.ref C::vs,b⟩)) (.call (.ref f) ⟨.ref (s.heap.objs.size+1)::vs,b⟩) (PySem.W.InitBack (s.heap.objs.size+1) R)
   { s with heap:=(s.heap.push PySem.W.emptyDict).push (PySem.W.instObj C s.heap.objs.size) }) :
  codeAny (model prog w) A (.call (.ref C) ⟨vs,b⟩) R s:=by
 obtain⟨i,g,d,t,os⟩:=s;exact PySem.W.make_core (PySem.W.makes_of X c) (PySem.W.looks_findIn X hi) (fun a=>PySem.W.bind_fn X a e) (.inl rfl) h
end
def O7(f:Str)(v:V):A0 (Str×V)->A0 (Str×V)
 | []=>[(f,v)]
 | (g,x)::r=>if g=f then(g,v)::r else(g,x)::O7 f v r
def Bd(f g:Str)(v:V):∀c:A0 (Str×V),(O7 f v c).lookup g=if g=f then some v else c.lookup g
 | []=>by
  show List.lookup g [(f,v)]=_;by_cases h:g=f
  .have a:(g == f)=true:=beq_iff_eq.mpr h;simp only[List.lookup,a,AU h]
  .have a:(g == f)=false:=beq_eq_false_iff_ne.mpr h;simp only[List.lookup,a,AO h]
 | (k,x)::r=>by
  have d:=Bd f g v r;rw[show O7 f v ((k,x)::r) =(if k=f then(k,v)::r else(k,x)::O7 f v r)from rfl];by_cases b:k=f
  .rw[AU b];by_cases h:g=k
   .have a:(g == k)=true:=beq_iff_eq.mpr h;simp only[List.lookup,a,AU (h.trans b)]
   .have a:(g == k)=false:=beq_eq_false_iff_ne.mpr h;simp only[List.lookup,a,AO (fun e:g=f=>h (e.trans b.symm))]
  .rw[AO b];by_cases h:g=k
   .have a:(g == k)=true:=beq_iff_eq.mpr h;simp only[List.lookup,a,AO (fun e:g=f=>b (h.symm.trans e))]
   .have a:(g == k)=false:=beq_eq_false_iff_ne.mpr h;simp only[List.lookup,a];exact d
def Aj(f:Str)(v:V):∀a:A0 (Str×V),f∈(O7 f v a).map (·.1)/\∀g,g∈a.map (·.1)->g∈(O7 f v a).map (·.1)
 | []=>⟨by simp[O7],fun g h=>by simp at h⟩
 | (k,x)::r=>by
  obtain⟨c,d⟩:=Aj f v r;rw[show O7 f v ((k,x)::r) =(if k=f then(k,v)::r else(k,x)::O7 f v r)from rfl];by_cases b:k=f
  .rw[AU b];subst b;exact⟨by simp,fun g h=>by simpa using h⟩
  .rw[AO b];refine⟨?_,fun g h=>?_⟩
   .rw[BB];exact A_ _ c
   .rw[BB]at h⊢;rcases AV.mp h with e | e
    .exact AV.mpr (.inl e)
    .exact A_ _ (d g e)
def Aq(f:Str)(v:V):∀a:A0 (Str×V),(O7 f v a).length<=a.length+1
 | []=>by simp[O7]
 | (k,x)::r=>by
  have c:=Aq f v r;rw[show O7 f v ((k,x)::r) =(if k=f then(k,v)::r else(k,x)::O7 f v r)from rfl];by_cases b:k=f
  .rw[AU b,BS,BS];omega
  .rw[AO b,BS,BS];omega
def OI.some_of{v:V}{o:A4 A1}(r:OI (some v) o):∃u,o=some u/\RelV v u:=by
 cases o with
 | none=>exact(show False from r).elim
 | some u=>exact⟨u,rfl,r⟩
def OI.none_of{o:A4 A1}(r:OI none o):o=none:=by
 cases o with
 | none=>rfl
 | some u=>exact(show False from r).elim
def Ob{v:V}{u:A1}(r:RelV v u):PySem.W.handedIn u=true:=by
 cases v with
 | non=>cases(show u=Value.none from r);rfl
 | bl b=>cases(show u=Value.bool b from r);rfl
 | int i=>obtain⟨t,e⟩:=(show ∃t,u=Value.int i t from r);cases e;rfl
 | str x=>obtain⟨t,e⟩:=(show ∃t,u=Value.str x t from r);cases e;rfl
 | byt b=>obtain⟨t,e⟩:=(show ∃t,u=Value.bytes b t from r);cases e;rfl
 | flt b=>obtain⟨t,e⟩:=(show ∃t,u=Value.float b t from r);cases e;rfl
 | ref a=>cases(show u=Value.ref a from r);rfl
 | ty n=>cases(show u=Value.type n from r);rfl
section
variable{P:A6}{w:F1}{H H':Hp}{h h':IV}{a C dx:A2}{fs fs':A0 (Str×V)}
theorem Ds(c:OJ P w H h)(e:H a=some (.ins C dx fs)):∃b,RS h a dx C b/\(∀f,OI (fs.lookup f) (b f))/\PySem.Within b (fs.map (·.1))/\fs.length<=1000/\H dx=some (.own a):=by
 obtain⟨d,z,g,i,b,n,r,q⟩:=(show JH P w H h a (.ins C dx fs)from c a _ e);exact⟨b,⟨i,n,g⟩,r,q,z,d⟩
end
structure SH(K:PySem.W.Frag)(C:A2):Prop where
 pg:PySem.W.plainGet K C Str.empty=true
 hd:PySem.W.hasDictIn K C=true
 po:PySem.W.plainOver K C=true
 sa:PySem.W.findIn K (.ref C) "__setattr__" = some (some (.builtin "object.__setattr__"))
def SH.get{K:PySem.W.Frag}{C:A2}(c:SH K C)(f:Str):PySem.W.plainGet K C f=true:=c.pg
def KH(K:PySem.W.Frag)(C:A2)(f:Str):Prop:=PySem.W.findIn K (.ref C) f=some none
def KH.taker{K:PySem.W.Frag}{C:A2}{f:Str}(n:KH K C f):PySem.W.takerIn K C f=some none:=by
 unfold PySem.W.takerIn;rw[show PySem.W.findIn K (.ref C) f=some none from n];rfl
structure TW(K:PySem.W.Frag)(C:A2)(m:Str)(f:A2):Prop where
 at_:PySem.W.findIn K (.ref C) m=some (some (.ref f))
 fn:PySem.W.isFn K (.ref f)=true
 kp:PySem.W.keepIn K (.ref f)=true
section
variable{X:Cx}{pins:A0 (A2×Obj)}{σ:St}{H:Hp}{s:A3}{a C dx:A2}{fs:A0 (Str×V)}{f:Str}{v:V}{A:IZ}{E:A1->A3->Prop}
theorem Nb{b:Bool}{Q:A1->A3->Prop}(I:Inv X pins σ H s)(e:H a=some (.ins C dx fs))(c:SH X.K C)(n:KH X.K C f)(l:fs.lookup f=some v)
  (h:∀u d,Inv X pins σ H d->RelV v u->Q u d):wpAny (model X.prog X.w) A (getAttr (.ref a) f b) Q E s:=by
 obtain⟨i,O,r,_,_,_⟩:=Ds I.hok e;obtain⟨u,j,g⟩:=OI.some_of (v:=v) (o:=i f) (by rw[<-l];exact r f);exact zAq I.kIn O (c.get f) c.hd n j (Ob g) (h u _ (I.tok _) g)
theorem Bu{m:Str}{g:A2}{pl:Sem Bool}{Q:A1×A0 A1->A3->Prop}(I:Inv X pins σ H s)(e:H a=some (.ins C dx fs))(c:SH X.K C)(k:TW X.K C m g)(l:fs.lookup m=none)
  (h:Q (.ref g,[.ref a]) s):wpAny (model X.prog X.w) A (getMethod (.ref a) m pl) Q E s:=by
 obtain⟨b,O,r,_,_,_⟩:=Ds I.hok e;have d:b m=none:=OI.none_of (by rw[<-l];exact r m);exact Ut I.kIn O (c.get m) k.at_ k.fn d h
theorem Ni{y:V}{u:A1}{Q:Unit->A3->Prop}(I:Inv X pins σ H s)(e:H a=some (.ins C dx fs))(c:SH X.K C)(n:KH X.K C f)(J:fs.length<1000)(m:RelV y u)
  (h:∀i,Inv X pins σ (IU H a (.ins C dx (O7 f y fs))) i->Q () i):wpAny (model X.prog X.w) A (setAttr (.ref a) f u) Q E s:=by
 obtain⟨j,O,r,k,_,l⟩:=Ds I.hok e;have p:(fs.map (·.1)).length<=sizeLine:=by rw[AB,sizeLine_eq];omega
 refine zAf I.kIn O c.sa c.po n.taker c.hd k p fun t d v=>h _ ?_;have B:∃o,t.get? dx=some o:=let⟨o,_,_,D,_⟩:=d.ns;⟨o,D⟩;refine I.write (x:=a) (e:=dx) (by rw[e];exact True.intro) (.inr l) (fun b q F z=>(v.2 b F).trans z) B ?_;refine⟨by rw[B6 O.ne];exact l,?_,O.ne,d.obj,_,d.ns,fun g=>?_,fun g G=>?_⟩
 .have:=Aq f y fs;omega
 .show OI ((O7 f y fs).lookup g) (if g=f then some u else j g);rw[Bd];by_cases q:g=f
  .rw[AU q,AU q];exact m
  .rw[AO q,AO q];exact r g
 .by_cases q:g=f
  .rw[q];exact(Aj f y fs).1
  .refine(Aj f y fs).2 g (k g fun z=>G ?_);show(if g=f then some u else j g)=none;rw[AO q];exact z
theorem Inv.made(I:Inv X pins σ H s):Inv X pins σ (IU (IU H s.heap.objs.size (.own (s.heap.objs.size+1))) (s.heap.objs.size+1) (.ins C s.heap.objs.size []))
  { s with heap:=(s.heap.push PySem.W.emptyDict).push (PySem.W.instObj C s.heap.objs.size) }:=by
 have c:(s.heap.push PySem.W.emptyDict).get? s.heap.objs.size=some PySem.W.emptyDict:=AN s.heap rfl;have f:((s.heap.push PySem.W.emptyDict).push (PySem.W.instObj C s.heap.objs.size)).get? (s.heap.objs.size+1)=some (PySem.W.instObj C s.heap.objs.size):=by
  have:=AN (s.heap.push PySem.W.emptyDict) (o:=PySem.W.instObj C s.heap.objs.size) rfl
  rwa [CD]at this
 have g:(s.heap.push PySem.W.emptyDict).Ns s.heap.objs.size (fun _=>none):=⟨PySem.W.emptyDict,#[],_,c,rfl,(fun e h=>absurd h (by simp)),fun _=>rfl⟩;have i:=I.laid (a:=s.heap.objs.size) (o:=.own (s.heap.objs.size+1)) (h':=s.heap.push PySem.W.emptyDict) (t':=s.toks) (fun b u q=>AF _ q) (Nat.le_refl _) ⟨_,c⟩;refine i.laid (a:=s.heap.objs.size+1) (o:=.ins C s.heap.objs.size []) (t':=s.toks) (fun b u q=>AF _ q) (Nat.le_of_eq (CD _ _)) ?_;have d:s.heap.objs.size≠s.heap.objs.size+1:=AY (FU _);refine⟨by rw[B6 d,A9],CK _,d,f,fun _=>none,(Heap.Ns1.of_empty g).at fun o q=>AF _ q,fun _=>True.intro,fun y j=>absurd rfl j⟩
theorem Ye{prog:A6}{w:F1}{a:SF}{e:IY}{f:Str}{pos:Pos}{s:A3}{Q:A1->A3->Prop}(b:attributeBase e f a (eval e a)=eval e a)
  (h:wpAny (model prog w) A (eval e a) (fun o s₁=>wpAny (model prog w) A (getAttr o f true) Q E s₁) E s):wpAny (model prog w) A (eval (.Attribute e f pos) a) Q E s :=
 Attribute_any_ h (by rw[arm_eval_Attribute,b])
end
def zGt(K:PySem.W.Frag)(d:TE)(f:Str):TE:=fun σ H Q=>d σ H fun x b=>∃a C e c v,x = .ref a/\b a=some (.ins C e c)/\SH K C/\KH K C f/\c.lookup f=some v/\Q v b
def zGz(K:PySem.W.Frag)(e g:TE)(f:Str):TS:=fun D σ H=>g σ H fun y h=>e σ h fun x c=>∃a C d b,x = .ref a/\c a=some (.ins C d b)/\SH K C/\KH K C f/\b.length<1000 /\
 D.nx σ (IU c a (.ins C d (O7 f y b)))
section
variable{X:Cx}{o e value:IY}{f:Str}{pos pos' tpos:Pos}{ta tv:TE}
theorem zDz(d:PE X e ta)(g:attributeBase e f X.env (eval e X.env)=eval e X.env):PE X (.Attribute e f pos) (zGt X.K ta f):=by
 intro b s σ H Q I h;refine Ye g (JT (d b s σ H _ I h) fun u t ⟨x,i,j,k,a,C,w,y,v,m,o,c,n,l,q⟩=>?_);subst m;obtain rfl:u=Value.ref a:=k;exact Nb j o c n l fun z A p r=>⟨v,i,p,r,q⟩
theorem zBy(d:PE X o ta)(e:PE X value tv)(g:swapsWith value (some (.Attribute o f pos')) pos.line X.env=pure false):PS X (.Assign [.Attribute o f pos'] value pos) (zGz X.K ta tv f):=by
 intro b s σ H D I h;refine plainObj_wpAny_Assign_Attribute (JT (e b s σ H _ I h) fun u i ⟨y,j,k,m,q⟩=>JT (d b i σ j _ k q) fun p B ⟨x,E,r,t,a,C,F,G,v,w,c,n,l,z⟩=>?_) g;subst v;obtain rfl:p=Value.ref a:=t;exact Ni r w c n l m fun J A=>⟨σ,_,A,z⟩
end
section
variable{X:Cx}{pins:A0 (A2×Obj)}{σ:St}{H:Hp}{s:A3}{A:IZ}{E:A1->A3->Prop}{Q:A1->A3->Prop}{c:A1}{b:Bool}
inductive NN(K:PySem.W.Frag)(H:Hp):V->A1->Prop where
 | non:NN K H .non (.type "NoneType")
 | bl (x:Bool):NN K H (.bl x) (.type "bool")
 | int (i:Int):NN K H (.int i) (.type "int")
 | str (x:Str):NN K H (.str x) (.type "str")
 | flt (x:UInt64):NN K H (.flt x) (.type "float")
 | lst {a:A2} {xs:A0 V} (e:H a=some (.lst xs)):NN K H (.ref a) (.type "list")
 | frz {a:A2} {o:Obj} {xs:A0 V} (e:H a=some (.frz o (.lst xs))):NN K H (.ref a) (.type "list")
 | tup {a:A2} {xs:A0 V} (e:H a=some (.tup xs)):NN K H (.ref a) (.type "tuple")
 | dK {a:A2} {kvs:A0 (JZ×V)} (e:H a=some (.dK kvs)):NN K H (.ref a) (.type "dict")
 | dT {a:A2} {kvs:A0 (A0 JZ×V)} (e:H a=some (.dT kvs)):NN K H (.ref a) (.type "dict")
 | ins {a C dx:A2} {fs:A0 (Str×V)} (e:H a=some (.ins C dx fs)) (cl:SH K C) (ha:PySem.W.findIn K (.ref C) "__class__" = some (some (.builtin "object.__class__")))
   (hn:PySem.W.specialIn K (.builtin "object.__class__") "__get__" = some (some (.builtin "getset_descriptor.__get__"))) (htk:PySem.W.takesIn K (.builtin "object.__class__")=some true)
   (hm:PySem.W.mroIn K C (.type "object")=some true):NN K H (.ref a) (.ref C)
theorem Ri{x:V}{u t:A1}(I:Inv X pins σ H s)(d:RelV x u)(ty:NN X.K H x t)(e:PySem.W.kitOne X.K t c=some b)(h:∀v,Q (.bool b) { s with toks:=v }) :
  wpAny (model X.prog X.w) A (call (.builtin "isinstance") [u,c]) Q E s:=by
 cases ty with
 | non=>cases(show u=Value.none from d);exact PySem.W.kia_one PySem.W.kitx_none I.kIn True.intro e (fun z=>nomatch z) h
 | bl y=>cases(show u=Value.bool y from d);exact PySem.W.kia_one PySem.W.kitx_bool I.kIn True.intro e (fun z=>nomatch z) h
 | int i=>obtain⟨t,q⟩:=(show ∃t,u=Value.int i t from d);cases q;exact PySem.W.kia_one PySem.W.kitx_int I.kIn True.intro e (fun z=>nomatch z) h
 | str y=>obtain⟨t,q⟩:=(show ∃t,u=Value.str y t from d);cases q;exact PySem.W.kia_one PySem.W.kitx_str I.kIn True.intro e (fun z=>nomatch z) h
 | flt y=>obtain⟨t,q⟩:=(show ∃t,u=Value.float y t from d);cases q;exact PySem.W.kia_one PySem.W.kitx_float I.kIn True.intro e (fun z=>nomatch z) h
 | @lst a k f =>
  cases(show u=Value.ref a from d);obtain⟨_,_,n,_,g⟩:=(show JH X.prog X.w H s.heap a (.lst k)from I.hok a _ f);exact PySem.W.kia_one PySem.W.kitx_list I.kIn ⟨_,g,rfl⟩ e (fun z=>nomatch z) h
 | @frz a B k f =>
  cases(show u=Value.ref a from d);obtain⟨_,_,_,n,_,g⟩:=(show JH X.prog X.w H s.heap a (.frz B (.lst k))from I.hok a _ f);exact PySem.W.kia_one PySem.W.kitx_list I.kIn ⟨_,g,rfl⟩ e (fun z=>nomatch z) h
 | @tup a k f =>
  cases(show u=Value.ref a from d);obtain⟨_,_,_,p⟩:=(show JH X.prog X.w H s.heap a (.tup k)from I.hok a _ f);obtain⟨o,g,l,_⟩:=p;exact PySem.W.kia_one PySem.W.kitx_tuple I.kIn ⟨o,g,l⟩ e (fun z=>nomatch z) h
 | @dK a j f =>
  cases(show u=Value.ref a from d);obtain⟨_,_,N,_,p⟩:=(show JH X.prog X.w H s.heap a (.dK j)from I.hok a _ f);obtain⟨o,D,F,g,l,_⟩:=p;exact PySem.W.kia_one PySem.W.kitx_dict I.kIn ⟨o,g,l.1⟩ e (fun z=>nomatch z) h
 | @dT a j f =>
  cases(show u=Value.ref a from d);obtain⟨_,_,k,_,o,D,F,g,l,_⟩:=(show JH X.prog X.w H s.heap a (.dT j)from I.hok a _ f);exact PySem.W.kia_one PySem.W.kitx_dict I.kIn ⟨o,g,l.1⟩ e (fun z=>nomatch z) h
 | @ins a C P R f r G L m M =>
  cases(show u=Value.ref a from d);obtain⟨S,O,_⟩:=Ds I.hok f;obtain⟨T,J,_⟩:=O.look;exact PySem.W.kia_one (PySem.W.kitx_own (r.get _) r.hd G L m M) I.kIn J e (fun z=>nomatch z) h
end
structure KU(k:Nat)(A:IZ):Prop where
 hd:A.handled=none
 dp:A.depth+3*k+5<recursionLimit
 un:A.units+16*k+200<cLine
def KU.mono{j k:Nat}{A:IZ}(r:KU k A)(h:j<=k):KU j A:=⟨r.hd,by have:=r.dp;omega,by have:=r.un;omega⟩
def KU.deeper{k:Nat}{A:IZ}(r:KU (k+1) A)(a:SF):KU k (A.deeper a) :=
 ⟨r.hd,by have:=r.dp;show A.depth+1+3*k+5<_;omega,by have:=r.un;show A.units+3+16*k+200<_;omega⟩
def Mi{A:IZ}{C:A2}{us:A0 A1}{a:A0 (Str×A1)}:(A.under (.builtin "type.__call__" ⟨.ref C::us,a⟩)).depth=A.depth+1:=by
 first | rfl | simp[Around.under,Code.weight,Code.isCreation,Code.isGuard,Code.isCaller,Code.frames,Code.isFrame,guardIds]
def Mq{A:IZ}{C:A2}{us:A0 A1}{a:A0 (Str×A1)}:(A.under (.builtin "type.__call__" ⟨.ref C::us,a⟩)).units=A.units+1:=by
 first | rfl | simp[Around.under,Code.cUnits,Code.frames,Code.isFrame]
def KU.make{k:Nat}{A:IZ}(r:KU (k+1) A)(C:A2)(us:A0 A1)(a:A0 (Str×A1)):KU k (A.under (.builtin "type.__call__" ⟨.ref C::us,a⟩)) :=
 ⟨r.hd,by have:=r.dp;rw[Mi];omega,by have:=r.un;rw[Mq];omega⟩
def KU.depth{k:Nat}{A:IZ}(r:KU k A):A.depth<recursionLimit:=by have:=r.dp;omega
def KU.units{k:Nat}{A:IZ}(r:KU k A):A.units+64<cLine:=by have:=r.un;omega
def Jh:TA:=fun _ H Q=>Q [] H
def V9(a:TE)(b:TA):TA:=fun σ H Q=>a σ H fun x c=>b σ c fun d e=>Q (x::d) e
section
variable{X:Cx}{e:IY}{es:A0 IY}{te:TE}{t:TA}{pos:Pos}
theorem B0:PA X [] Jh:=fun _ _ _ _ H Q I h=>Calls.spliced_nil ⟨[],H,I,.nil,h⟩
theorem A8(b:PE X e te)(c:PA X es t)(d:starEach (e::es) X.env =(false,eval e X.env)::starEach es X.env:=by rfl):PA X (e::es) (V9 te t):=by
 intro pos a s σ H Q I h;rw[d];show wpAny _ _ (spliced ((false,eval e X.env)::backTo pos (starEach es X.env))) _ _ s;refine Calls.spliced_cons (JT (b a s σ H _ I h) fun u f ⟨x,g,i,j,k⟩=>?_);exact JT (c pos a f σ g _ i k) fun q r ⟨l,m,n,o,p⟩=>⟨x::l,m,n,.cons j o,p⟩
def zEp(t:TA):TE:=fun σ H Q=>t σ H fun a b=>a.length<=sizeLine/\∀p,b p=none->Q (.ref p) (IU b p (.tup a))
def zGn(t:TA):TE:=fun σ H Q=>t σ H fun a b=>a.length<=sizeLine/\∀p,b p=none->Q (.ref p) (IU b p (.lst a))
theorem M8{g}(h:PA X es t):PE X (.Tuple es g pos) (zEp t):=by
 intro a s σ H Q I i;refine wpAny_Tuple_spliced (JT (h pos a s σ H _ I i) fun j c ⟨k,d,f,r,z,q⟩=>⟨by rw[<-r.length];exact z,?_⟩);have l:d c.heap.objs.size=none:=f.hok.fresh (Nat.le_refl _);refine⟨.ref c.heap.objs.size,IU d c.heap.objs.size (.tup k),f.laid (t':=c.toks) (fun b u e=>AF _ e) (Nat.le_refl _) ?_,rfl,q _ l⟩;exact⟨z,j,r,⟨_,AN _ rfl,rfl,_,rfl⟩⟩
theorem K8(h:PA X es t):PE X (.List es pos) (zGn t):=by
 intro a s σ H Q I g;refine wpAny_List_spliced (JT (h pos a s σ H _ I g) fun i c ⟨j,d,f,r,z,q⟩=>⟨by rw[<-r.length];exact z,?_⟩);have k:d c.heap.objs.size=none:=f.hok.fresh (Nat.le_refl _);refine⟨.ref c.heap.objs.size,IU d c.heap.objs.size (.lst j),f.laid (t':=c.toks) (fun b u e=>AF _ e) (Nat.le_refl _) ?_,rfl,q _ k⟩;exact⟨z,i,0,r,AN _ rfl⟩
end
abbrev Sp:=A0 V->Hp->VK->XK->Prop
abbrev SD:=A0 SF->Hp->A3->XK->A1->A3->Prop
structure RV(P:A6)(w:F1)(K:PySem.W.Frag)(mg:Str->A4 A1)(base:IV)(A:IZ)(outer:A0 SF)(s:A3)(H:Hp):Prop where
 frames:A.frames=some outer
 mod:Mod K mg base
 bs:∀b o,base.get? b=some o->s.heap.get? b=some o/\H b=none
 bsz:base.objs.size<=s.heap.objs.size
 funs:s.heap.FunFrames base outer
 frf:∀b∈SO outer,H b=none
 hok:OJ P w H s.heap
 bare:AllBare s.gens
def CE(a:A0 SF)(P:A6)(w:F1)(H:Hp)(s:A3)(Q:VK)(u:A1)(b:A3):Prop :=
 ∃v c,b.os=s.os/\AllBare b.gens/\Un (SO a) [] H c s.heap b.heap/\OJ P w c b.heap/\RelV v u/\Q v c
def CR(CX:SD)(a:A0 SF)(P:A6)(w:F1)(H:Hp)(s:A3)(Q:VK)(E:XK)(r:Result)(b:A3):Prop :=
 match r with
 | .ok (.ret u)=>CE a P w H s Q u b
 | .ok _=>False
 | .error e=>CX a H s E e b
structure JC(P:A6)(w:F1)(K:PySem.W.Frag)(mg:Str->A4 A1)(base:IV)(CX:SD)(k:Nat)(f:A2)(fd:JK)(ps:A0 Str)(sp:Sp):Prop where
 len:∀vs H Q E,sp vs H Q E->vs.length=ps.length
 run:∀(A:IZ) (outer:A0 SF) (s:A3) (H:Hp) (args:Args) (us:A0 A1) (vs:A0 V) (Q:VK) (E:XK),KU k A->RV P w K mg base A outer s H->BindsTo s fd args (ps.zip us)->JA vs us->sp vs H Q E ->
  codeAny (model P w) A (.call (.ref f) args) (CR CX outer P w H s Q E) s
def JC.mono{P:A6}{w:F1}{K:PySem.W.Frag}{b:Str->A4 A1}{base:IV}{CX:SD}{j k:Nat}{f:A2}{c:JK}{ps:A0 Str}{sp:Sp}(F:JC P w K b base CX j f c ps sp)(h:j<=k) :
  JC P w K b base CX k f c ps sp:=⟨F.len,fun A a s H args d e Q E g=>F.run A a s H args d e Q E (g.mono h)⟩
def JC.imp{P:A6}{w:F1}{K:PySem.W.Frag}{c:Str->A4 A1}{base:IV}{CX:SD}{k:Nat}{f:A2}{d:JK}{ps:A0 Str}{sp b:Sp}(F:JC P w K c base CX k f d ps sp)
  (h:∀vs H Q E,b vs H Q E->sp vs H Q E):JC P w K c base CX k f d ps b :=
 ⟨fun vs H Q E q=>F.len vs H Q E (h _ _ _ _ q),fun A a s H args e vs Q E g i j l m=>F.run A a s H args e vs Q E g i j l (h _ _ _ _ m)⟩
def RV.make{P:A6}{w:F1}{K:PySem.W.Frag}{b:Str->A4 A1}{base:IV}{A:IZ}{a:A0 SF}{s:A3}{H:Hp}(e:RV P w K b base A a s H)(C:A2)(us:A0 A1)(c:A0 (Str×A1)) :
  RV P w K b base (A.under (.builtin "type.__call__" ⟨.ref C::us,c⟩)) a s H:=⟨by first | exact e.frames | (simpa [Around.under,Code.envs,Code.isFrame,pushEnvs] using e.frames),e.mod,e.bs,e.bsz,e.funs,e.frf,e.hok,e.bare⟩
section
variable{X:Cx}{pins:A0 (A2×Obj)}{σ:St}{H:Hp}{s s':A3}
theorem Inv.env0(I:Inv X pins σ H s):RV X.prog X.w X.K X.mg X.base X.A X.stack s H :=
 ⟨I.ok.frames,I.ok.mod,I.bs,Nat.le_trans I.ok.bsz I.sz,I.stack,I.stkFree,I.hok,I.bare⟩
theorem Inv.after{Q:VK}{u:A1}(I:Inv X pins σ H s)(h:CE X.stack X.prog X.w H s Q u s'):EP X pins σ Q u s':=by
 obtain⟨v,f,os,a,i,c,r,q⟩:=h;obtain⟨j,g,d,t,e⟩:=s';obtain rfl:e=s.os:=os;exact⟨v,f,I.call (h':=j) (g':=g) (d':=d) (t':=t) (ch:=[]) i c a (fun b z=>absurd z (by simp)),r,q⟩
end
def zAa(sp:Sp)(a:A0 V)(E:XK)(t:TA):TE:=fun σ H Q=>t σ H fun b c=>sp (b++a) c Q E
def zBv(C:A2)(m:Str)(sp:Sp)(b:A0 V)(E:XK)(e:TE)(t:TA):TE:=fun σ H Q=>e σ H fun x c=>∃a f d,x = .ref a/\c a=some (.ins C f d)/\d.lookup m=none /\
 t σ c fun g h=>sp (x ::(g++b)) h Q E
def zFl(C:A2)(sp:Sp)(b:A0 V)(E:XK)(t:TA):TE:=fun σ H Q=>t σ H fun d c=>∀x a,c x=none->c a=none->a≠x ->
 sp (.ref x ::(d++b)) (IU (IU c a (.own x)) x (.ins C a [])) (fun v e=>v = .non/\Q (.ref x) e) E
def Binds(K:PySem.W.Frag)(c:JK)(ps:A0 Str)(b:A0 A1):Prop :=
 ∀(s:A3) (a:A0 A1),K.In s.heap->(a++b).length=ps.length->BindsTo s c ⟨a,[]⟩ (ps.zip (a++b))
def Binds.all{K:PySem.W.Frag}{a:JK}{ps:A0 Str}(h:∀us:A0 A1,us.length=ps.length->bindArgs a ⟨us,[]⟩=pure (ps.zip us)):Binds K a ps []:=fun s us _ b=>by
 rw[CV]at b⊢;exact .of_eq (h us b)
def o7(CX:SD)(X:Cx)(E:XK):Prop:=∀(a:A0 (A2×Obj)) (σ:St) (H:Hp) (s:A3) (e:A1) (b:A3),Inv X a σ H s->CX X.stack H s E e b->X.xe e b
section
variable{X:Cx}{CX:SD}{k:Nat}{f C:A2}{fd:JK}{ps:A0 Str}{sp:Sp}{dvs:A0 V}{ds:A0 A1}{E:XK}{x m:Str}{p pos apos:Pos}{e o:IY}{es:A0 IY}{ta:TE}{t:TA}
theorem Kc{a:A0 (A2×Obj)}{σ:St}{H:Hp}{s:A3}{Q:VK}{us:A0 A1}{vs:A0 V}(F:JC X.prog X.w X.K X.mg X.base CX k f fd ps sp)(d:KU k X.A)(g:Binds X.K fd ps ds)(i:JA dvs ds)(j:o7 CX X E)
  (I:Inv X a σ H s) (r:JA vs us) (h:sp (vs++dvs) H Q E):wpAny (model X.prog X.w) X.A (call (.ref f) us) (EP X a σ Q) X.xe s:=by
 have c:JA (vs++dvs) (us++ds):=r.append i;have l:(us++ds).length=ps.length:=by rw[<-c.length];exact F.len _ _ _ _ h
 refine wpAny_call (codeAny_mono (F.run X.A X.stack s H ⟨us,[]⟩ (us++ds) (vs++dvs) Q E d I.env0 (g s us I.kIn l) c h) fun r m b=>?_);cases r with
 | error e=>exact j a σ H s e m I b
 | ok n =>
  cases n with
  | ret u=>exact I.after b
  | next=>exact False.elim b
  | brk=>exact False.elim b
  | cont=>exact False.elim b
theorem Yr(F:JC X.prog X.w X.K X.mg X.base CX k f fd ps sp)(g:KU k X.A)(i:Gl X x)(j:X.mg x=some (.ref f))(l:PySem.W.keepIn X.K (.ref f)=true)(m:Binds X.K fd ps ds)(n:JA dvs ds)(o:o7 CX X E)
  (u:PA X (e::es) t) (b:(x ==("__debug__":Str))=false:=by decide) (v:starEach (e::es) X.env =(false,eval e X.env)::starEach es X.env:=by rfl) (c:(backTo pos (starEach es X.env)).any (·.1)=false:=by rfl) :
  PE X (.Call (.Name x p) (e::es) [] pos) (zAa sp dvs E t):=by
 intro a s σ H Q I h;refine FY (Hw I i j ?_ b);refine PySem.W.callWith_K (h₀:=X.base) I.ok.mod.kin l (JT (u pos a s σ H _ I h) fun y z ⟨B,C,d,r,q⟩=>⟨d.kIn,?_⟩) v c;exact Kc F g m n o d r q
theorem F0{pl:Sem Bool}(v:PE X o ta)(c:SH X.K C)(i:TW X.K C m f)(F:JC X.prog X.w X.K X.mg X.base CX k f fd ps sp)(y:KU k X.A)(z:Binds X.K fd ps ds)(B:JA dvs ds)(D:o7 CX X E)(G:PA X (e::es) t)
  (d:starEach (e::es) X.env =(false,eval e X.env)::starEach es X.env:=by rfl) (g:(backTo pos (starEach es X.env)).any (·.1)=false:=by rfl)
  (J:eval (.Call (.Attribute o m apos) (e::es) [] pos) X.env =(do
   let j <-eval o X.env
   standAt apos.atName
   let(f,first) <-holding [j] (getMethod j m pl)
   callWith pos f first (backTo pos (starEach (e::es) X.env)) (backToKw pos (keywordEach [] X.env))):=by rfl) :
  PE X (.Call (.Attribute o m apos) (e::es) [] pos) (zBv C m sp dvs E ta t):=by
 intro b s σ H Q I h;refine PySem.W.methodCall_KW (pl:=pl) (JT (v b s σ H _ I h) fun u L ⟨x,M,n,N,a,S,T,O,P,l,q⟩=>?_) J;subst O;obtain rfl:u=Value.ref a:=N;refine Bu n P c i l ?_;refine PySem.W.callWith_K (first:=[.ref a]) (h₀:=X.base) I.ok.mod.kin i.kp (JT (G pos b L σ M _ n q) fun us U ⟨vs,V,p,r,R⟩=>⟨p.kIn,?_⟩) d g;exact Kc (us:=.ref a::us) (vs:=.ref a::vs) F y z B D p (.cons rfl r) R
theorem Z7{pl:Sem Bool}(i:PE X o ta)(c:SH X.K C)(e:TW X.K C m f)(F:JC X.prog X.w X.K X.mg X.base CX k f fd ps sp)(j:KU k X.A)(n:Binds X.K fd ps ds)(p:JA dvs ds)(r:o7 CX X E)
  (t:eval (.Call (.Attribute o m apos) [] [] pos) X.env =(do
   let g <-eval o X.env
   standAt apos.atName
   let(f,first) <-holding [g] (getMethod g m pl)
   callWith pos f first (backTo pos (starEach [] X.env)) (backToKw pos (keywordEach [] X.env))):=by rfl) :
  PE X (.Call (.Attribute o m apos) [] [] pos) (zBv C m sp dvs E ta Jh):=by
 intro b s σ H Q I h;refine PySem.W.methodCall_KW (pl:=pl) (JT (i b s σ H _ I h) fun u B ⟨x,D,d,v,a,G,J,y,z,l,q⟩=>?_) t;subst y;obtain rfl:u=Value.ref a:=v;refine Bu d z c e l ?_;exact PySem.W.callWith_K0 (first:=[.ref a]) d.kIn e.kp (Kc (us:=[.ref a]) (vs:=[.ref a]) F j n p r d (.cons rfl .nil) q)
structure Mk(K:PySem.W.Frag)(C f:A2):Prop where
 makes:PySem.W.makesIn K C=true
 init:PySem.W.findIn K (.ref C) "__init__" = some (some (.ref f))
 fn:PySem.W.isFn K (.ref f)=true
 kp:PySem.W.keepIn K (.ref C)=true
theorem Wd{a:A0 (A2×Obj)}{σ:St}{H:Hp}{s:A3}{Q:VK}{us:A0 A1}{vs:A0 V}(M:Mk X.K C f)(F:JC X.prog X.w X.K X.mg X.base CX k f fd ps sp)(j:KU (k+1) X.A)(l:Binds X.K fd ps ds)(m:JA dvs ds)
  (n:o7 CX X E) (I:Inv X a σ H s) (r:JA vs us)
  (h:∀x c,H x=none->H c=none->c≠x->sp (.ref x ::(vs++dvs)) (IU (IU H c (.own x)) x (.ins C c [])) (fun v o=>v = .non/\Q (.ref x) o) E) :
  wpAny (model X.prog X.w) X.A (call (.ref C) us) (EP X a σ Q) X.xe s:=by
 have g:=h (s.heap.objs.size+1) s.heap.objs.size (I.hok.fresh (D_ _)) (I.hok.fresh (Nat.le_refl _)) (AY (FU _));have d:=Inv.made (C:=C) I;have i:JA (V.ref (s.heap.objs.size+1) ::(vs++dvs)) (Value.ref (s.heap.objs.size+1) ::(us++ds)):=.cons rfl (r.append m);have p:(Value.ref (s.heap.objs.size+1)::us++ds).length=ps.length:=by
  have e:=i.length;rw[F.len _ _ _ _ g]at e;exact e.symm
 refine wpAny_call (Uy (f:=f) I.kIn M.makes M.init (beq_iff_eq.mp M.fn) (codeAny_mono (F.run _ X.stack _ _ ⟨Value.ref (s.heap.objs.size+1)::us,[]⟩ (Value.ref (s.heap.objs.size+1) ::(us++ds)) _ _ E (j.make C us [])
  (d.env0.make C us []) (l _ (Value.ref (s.heap.objs.size+1)::us) d.kIn p) i g) fun r q b=>?_))
 cases r with
 | error e=>exact n a σ _ _ e q d b
 | ok t =>
  cases t with
  | ret u =>
   obtain⟨v,y,z,B,D,G⟩:=d.after b;subst D;exact⟨B,⟨V.ref (s.heap.objs.size+1),y,z,rfl,G⟩⟩
  | next=>exact False.elim b
  | brk=>exact False.elim b
  | cont=>exact False.elim b
theorem Rc(M:Mk X.K C f)(F:JC X.prog X.w X.K X.mg X.base CX k f fd ps sp)(g:KU (k+1) X.A)(i:Gl X x)(j:X.mg x=some (.ref C))(l:Binds X.K fd ps ds)(m:JA dvs ds)(n:o7 CX X E)
  (o:PA X (e::es) t) (b:(x ==("__debug__":Str))=false:=by decide) (u:starEach (e::es) X.env =(false,eval e X.env)::starEach es X.env:=by rfl) (c:(backTo pos (starEach es X.env)).any (·.1)=false:=by rfl) :
  PE X (.Call (.Name x p) (e::es) [] pos) (zFl C sp dvs E t):=by
 intro a s σ H Q I h;refine FY (Hw I i j ?_ b);refine PySem.W.callWith_K (h₀:=X.base) I.ok.mod.kin M.kp (JT (o pos a s σ H _ I h) fun v y ⟨z,B,d,r,q⟩=>⟨d.kIn,?_⟩) u c;exact Wd M F g l m n d r q
end
structure IT(N P:A0 Str)(sc:JY):Prop where
 kind:sc.kind = .function
 co:sc.isCoroutine=false
 gen:sc.isGenerator=false
 nd:N.Nodup
 pre:N.take P.length=P
 par:∀x∈P,sc.names.lookup x=some .local\/sc.names.lookup x=some .cell
 nofree:∀y∈sc.names,y.2≠ .free
def Ew{kindOf:Str->A4 NY}{x:Str}:∀{a:A0 (Str×A1)} {m:Str->A4 A1},(∀v,(x,v)∉a)->bindL kindOf a m x=m x
 | [],_,_=>rfl
 | (n,v)::r,m,h=>by
  unfold bindL;rw[Ew fun w b=>h w (A_ _ b)];split
  .have:x≠n:=by rintro rfl;exact h v BG
   simp[this]
  .rfl
def Ev{kindOf:Str->A4 NY}{x:Str}:∀{a:A0 (Str×A1)} {m:Str->A4 A1},(∀v,(x,v)∉a)->bindC kindOf a m x=m x
 | [],_,_=>rfl
 | (n,v)::r,m,h=>by
  unfold bindC;rw[Ev fun w b=>h w (A_ _ b)];split
  .rfl
  .have:x≠n:=by rintro rfl;exact h v BG
   simp[this]
def Fw{kindOf:Str->A4 NY}{x:Str}{v:A1}:∀{P:A0 Str} {vs:A0 A1} {i:Nat} {m:Str->A4 A1},P.Nodup->P[i]?=some x->vs[i]?=some v->kindOf x=some .local ->
  bindL kindOf (P.zip vs) m x=some v
 | [],_,_,_,_,h,_,_=>by simp at h
 | _::_,[],_,_,_,_,h,_=>by simp at h
 | p::P,w::vs,0,m,c,a,b,d=>by
  simp at a b;subst a;subst b;show bindL kindOf ((p,w)::P.zip vs) m p=_;unfold bindL;rw[Ew fun v e=>(DV.mp c).1 (List.of_mem_zip e).1,AU d];simp
 | p::P,w::vs,i+1,m,c,a,b,d=>by
  show bindL kindOf ((p,w)::P.zip vs) m x=_;unfold bindL;exact Fw (i:=i) (DV.mp c).2 (by simpa using a) (by simpa using b) d
def Ex{kindOf:Str->A4 NY}{x:Str}{v:A1}:∀{P:A0 Str} {vs:A0 A1} {i:Nat} {m:Str->A4 A1},P.Nodup->P[i]?=some x->vs[i]?=some v->kindOf x≠some .local ->
  bindC kindOf (P.zip vs) m x=some v
 | [],_,_,_,_,h,_,_=>by simp at h
 | _::_,[],_,_,_,_,h,_=>by simp at h
 | p::P,w::vs,0,m,c,a,b,d=>by
  simp at a b;subst a;subst b;show bindC kindOf ((p,w)::P.zip vs) m p=_;unfold bindC;rw[Ev fun v e=>(DV.mp c).1 (List.of_mem_zip e).1,AO d];simp
 | p::P,w::vs,i+1,m,c,a,b,d=>by
  show bindC kindOf ((p,w)::P.zip vs) m x=_;unfold bindC;exact Ex (i:=i) (DV.mp c).2 (by simpa using a) (by simpa using b) d
def Cq(N:A0 Str)(vs:A0 V):St:=vs.map some++List.replicate (N.length-vs.length) none
def Yo(CX:SD)(P:A6)(w:F1)(K:PySem.W.Frag)(mg:Str->A4 A1)(base:IV)(N:A0 Str)(b:Str)(a:JY)(f:A2)(d:A1)(A:IZ)(outer:A0 SF)(s:A3)(H:Hp)(E:XK):Cx where
 prog:=P
 w:=w
 K:=K
 mg:=mg
 base:=base
 A:=A.deeper (envOfC b a s.heap.objs.size f d)
 N:=N
 s₀:=s
 H₀:=H
 env:=envOfC b a s.heap.objs.size f d
 outer:=outer
 stack:=envOfC b a s.heap.objs.size f d::outer
 ex:=[]
 calm:=true
 fn:=fun _=>true
 pn:=[]
 xe:=fun e g=>wpAny (model P w) (A.deeper (envOfC b a s.heap.objs.size f d)) (leaving (envOfC b a s.heap.objs.size f d) e) (fun _ c=>CX outer H s E e c) (fun h c=>CX outer H s E h c) g
def Kh{a:JY}{n:Nat}{x:Str}(h:a.names.lookup x=some .cell):∃c,(cellsFrom n a.names []).lookup x=some c:=by
 have q:=PySem.W.cellsFrom_some a.names n [] (.inl h);exact FF.mp q
def Ql{CX:SD}{P:A6}{w:F1}{K:PySem.W.Frag}{G:Str->A4 A1}{base:IV}{N ps:A0 Str}{j:Str}{d:JY}{f:A2}{C:A1}{A:IZ}{g:A0 SF}{s I:A3}{H:Hp}{E:XK}{us:A0 A1}{vs:A0 V}
  (S:IT N ps d) (M:A.handled=none) (m:RV P w K G base A g s H) (T:vs.length=ps.length) (r:JA vs us)
  (x:InCallC s s.heap.objs.size (bindL (envOfC j d s.heap.objs.size f C).kindOf (ps.zip us) fun _=>none) (cellsFrom (s.heap.objs.size+1) d.names []) (bindC (envOfC j d s.heap.objs.size f C).kindOf (ps.zip us) fun _=>none) I) :
  Inv (Yo CX P w K G base N j d f C A g s H E) [] (Cq N vs) H I:=by
 have O:ps.length<=N.length:=by have:=congrArg List.length S.pre;rw[AR]at this;omega
 obtain⟨D,U,rfl,J⟩:=x.done;have o:∀b:A2,b∉(Yo CX P w K G base N j d f C A g s H E).ex:=fun b z=>absurd (show b∈([]:A0 A2)from z) (by simp);refine⟨⟨m.mod,S.kind,rfl,rfl,Nat.le_refl _,fun y z c D l=>?_,fun y hy=>?_,fun y c _ h=>?_,fun _=>M,Around.frames_deeper m.frames,.inr ⟨rfl,rfl⟩,fun b z=>absurd z (o b),m.bs,m.bsz,fun b _ _=>o b,fun b z=>absurd z (o b),m.funs,m.frf⟩,
  rfl,m.bare,Un.kept J,⟨_,x.toInCall.ns,fun i y v D l X=>?_⟩,fun y c h=>⟨_,x.cell y c h⟩,m.hok.fresh (Nat.le_refl _),fun y c h=>?_,fun p t=>absurd (show p∈([]:A0 (A2×Obj))from t) (by simp),m.hok.kept J,?_⟩
 .exact name_of_addr x.apart (PySem.mem_of_lookup D) (PySem.mem_of_lookup l)
 .have hy:d.names.lookup y=some .cell\/d.names.lookup y=some .free:=hy;rcases hy with hy | hy
  .exact Kh hy
  .exact absurd rfl (S.nofree _ (PySem.mem_of_lookup hy))
 .exact FD (x.above y c (PySem.mem_of_lookup h))
 .have F:i<vs.length:=by
   unfold Cq at l;by_cases F:i<vs.length
   .exact F
   .rw[HE (by simpa using F)]at l;rw[List.getElem?_replicate]at l;split at l<;>cases l
  have Q:vs[i]?=some v:=by
   unfold Cq at l;rw[HM (by simpa using F),AG]at l;cases e:vs[i]? with
   | none=>rw[e]at l;cases l
   | some a=>rw[e]at l;cases l;rfl
  obtain⟨u,L,R⟩:=r.get Q;have t:ps[i]?=some y:=by
   rw[<-S.pre,DW (by omega)];exact D
  have B:ps.Nodup:=by rw[<-S.pre];exact S.nd.sublist (FM _ _)
  refine⟨u,R,?_⟩;rcases S.par y (AM t)with k | k
  .exact .inl ⟨k,Fw B t L k⟩
  .obtain⟨c,e⟩:=Kh (n:=s.heap.objs.size+1) k;refine .inr ⟨.inl k,c,e,?_⟩;have q:=x.cell y c e;rw[Ex B t L (by show d.names.lookup y≠_;rw[k];decide)]at q;exact q
 .exact m.hok.fresh (FD (x.above y c (PySem.mem_of_lookup h)))
 .unfold Cq;show _=N.length;rw[BJ,AB,List.length_replicate];omega
def zGa{CX:SD}{P:A6}{w:F1}{K:PySem.W.Frag}{F:Str->A4 A1}{base:IV}{k:Nat}{f:A2}{name d:Str}{h:Arguments}{i:A0 JF}{a:JY}{U kV p X g ct oc:A1}{Y od:A4 A2}
  {G:A7 (A4 A1)} {N ps:A0 Str} {sp:Sp} (lk:K.lookup f=some ⟨oc,od,.func (PySem.W.fnOf name d h i a U kV p X Y g ct),G⟩) (L:PySem.W.codeIn K g d=true) (S:IT N ps a)
  (z:∀vs H Q E,sp vs H Q E->vs.length=ps.length)
  (j:∀(A:IZ) (c:A0 SF) (s:A3) (H:Hp) (vs:A0 V) (Q:VK) (E:XK),KU k (A.deeper (envOfC d a s.heap.objs.size f g))->sp vs H Q E ->
   ∃t,R_ (Yo CX P w K F base N d a f g A c s H E) i t/\t { nx:=fun _ H'=>Q .non H',rt:=Q } (Cq N vs) H) :
  JC P w K F base CX (k+1) f (PySem.W.fnOf name d h i a U kV p X Y g ct) ps sp:=by
 refine⟨z,fun A c s H args us vs Q E M B hb r C=>?_⟩;have hl:=z _ _ _ _ C;have Z:K.In s.heap:=B.mod.kin.keeps fun b o e=>(B.bs b o e).1;have O:s.heap.NoLimit:=B.mod.nolimit.keeps fun b o e=>(B.bs b o e).1;have l:∀y∈ps.zip us,a.names.lookup y.1=some .local\/(a.names.lookup y.1=some .cell/\((cellsFrom (s.heap.objs.size+1) a.names []).lookup y.1).isSome=true):=fun⟨n,v⟩ hy=>by
  rcases S.par n (List.of_mem_zip hy).1 with q | q
  .exact .inl q
  .exact .inr ⟨q,PySem.W.cellsFrom_some _ _ _ (.inl q)⟩
 refine codeAny_call_function M.depth (Z _ _ lk) rfl S.co S.gen rfl (PySem.W.codeRec_of Z L) (hb _ _ _ _ ?_);refine wpAny_newFunctionEnv_cells S.kind l fun env he s1 x=>?_;subst he;refine⟨O.keeps x.toInCall.keep,codeAny_func ?_⟩;obtain⟨t,ht,hq⟩:=j A c s H vs Q E (M.deeper _) C;have I:Inv (Yo CX P w K F base N d a f g A c s H E) [] (Cq N vs) H s1:=Ql S M.hd B hl r x;refine CF (ht [] s1 (Cq N vs) H _ I hq) (fun fl R m=>?_) fun e R m=>m;have D:∀{σ':St} {H':Hp} {v:V} {u:A1},Inv (Yo CX P w K F base N d a f g A c s H E) [] σ' H' R->RelV v u->Q v H'->CE c P w H s Q u R :=
  fun{σ' H' v u} J T q=>⟨v,H',J.os,J.bare,J.base,J.hok,T,q⟩
 cases fl with
 | ret u =>
  obtain⟨v,σ',H',J,T,q⟩:=m;exact D J T q
 | next =>
  obtain⟨σ',H',J,q⟩:=m;exact D (v:=V.non) (u:=Value.none) J rfl q
 | brk =>
  obtain⟨_,_,_,q⟩:=m;exact False.elim q
 | cont =>
  obtain⟨_,_,_,q⟩:=m;exact False.elim q
section
variable{X:Cx}{x:Str}{p pos:Pos}{e:IY}{es:A0 IY}{t:TA}{id T:String}{r:A0 V->Hp->VK->Prop}
def SJ(r:A0 V->Hp->VK->Prop)(t:TA):TE:=fun σ H Q=>t σ H fun a b=>r a b Q
theorem Vo(d:E9 X (.builtin id) r)(f:Gl X x)(g:X.mg x=none)(i:bootBuiltins x=some (.builtin id))(j:PA X (e::es) t)(k:x≠ "__name__":=by decide)(b:(x ==("__debug__":Str))=false:=by decide)
  (l:starEach (e::es) X.env =(false,eval e X.env)::starEach es X.env:=by rfl) (c:(backTo pos (starEach es X.env)).any (·.1)=false:=by rfl):PE X (.Call (.Name x p) (e::es) [] pos) (SJ r t):=by
 intro a s σ H Q I h;refine FY (o9 I f g i ?_ k b);exact PyProof.Rows.callWith_builtin1 (JT (j pos a s σ H _ I h) fun m n ⟨o,q,u,v,w⟩=>d a n σ q o m Q u v w) l c
theorem Sq(d:E9 X (.type T) r)(f:Gl X x)(g:X.mg x=none)(i:bootBuiltins x=some (.type T))(j:PA X (e::es) t)(k:x≠ "__name__":=by decide)(b:(x ==("__debug__":Str))=false:=by decide)
  (l:starEach (e::es) X.env =(false,eval e X.env)::starEach es X.env:=by rfl) (c:(backTo pos (starEach es X.env)).any (·.1)=false:=by rfl):PE X (.Call (.Name x p) (e::es) [] pos) (SJ r t):=by
 intro a s σ H Q I h;refine FY (o9 I f g i ?_ k b);exact PyProof.Rows.callWith_type1 (JT (j pos a s σ H _ I h) fun m n ⟨o,q,u,v,w⟩=>d a n σ q o m Q u v w) l c
theorem Bz(c:E9 X (.type T) r)(d:Gl X x)(e:X.mg x=none)(f:bootBuiltins x=some (.type T))(g:x≠ "__name__":=by decide)(b:(x ==("__debug__":Str))=false:=by decide) :
  PE X (.Call (.Name x p) [] [] pos) (SJ r Jh):=by
 intro a s σ H Q I h;refine FY (o9 I d e f ?_ g b);exact PyProof.Rows.callWith_type0 (c a s σ H [] [] Q I .nil h)
end
end L2
namespace HT
open PySem PyProof.Rows
section
variable{prog:A6}{w:F1}{A:IZ}{E:A1->A3->Prop}{s:A3}
def QZ(n d:Nat):A4 Int->Nat
 | none=>d
 | some v=>if v<0 then(v +(n:Int)).toNat else min v.toNat n
theorem QY(n d:Nat):QZ n d none=d:=rfl
theorem RX(n d k:Nat):QZ n d (some (k:Int))=min k n:=by
 show(if(k:Int)<0 then((k:Int) +(n:Int)).toNat else min (k:Int).toNat n)=min k n;rw[AO (by omega),CC]
end
end HT
namespace L2
open PySem PySem.Spec PyProof.Rows
abbrev TO:=St->Hp->(A4 Int->Hp->Prop)->Prop
def PO(X:Cx)(e:A4 IY)(t:TO):Prop :=
 ∀(a:A0 (A2×Obj)) (s:A3) (σ:St) (H:Hp) (Q:A4 Int->Hp->Prop),Inv X a σ H s->t σ H Q ->
  wpAny (model X.prog X.w) X.A (evalPart e X.env) (fun u c=>∃o b,Inv X a σ b c/\IsPart u o/\Q o b) X.xe s
def Ya:TO:=fun _ H Q=>Q none H
def zGd(t:TE):TO:=fun σ H Q=>t σ H fun x a=>∃i,x = .int i/\Q (some i) a
def Ng{ns:A0 Int}:∀{us:A0 A1},JA (ns.map V.int) us->IntsAre us ns:=by
 induction ns with
 | nil=>intro us r;rw[HI]at r;cases r;exact .nil
 | cons n ns a =>
  intro us r;rw[BB]at r;cases r with
  | cons b c =>
   obtain⟨t,e⟩:=b;subst e;exact .cons n t (a c)
section
variable{X:Cx}{e:IY}{te:TE}{lo hi:A4 IY}{tl th:TO}{pos p2:Pos}
theorem Pd:PO X none Ya:=by
 intro a s σ H Q I h;rw[evalPart_none];exact AE ⟨none,H,I,.none,h⟩
theorem Sr(h:PE X e te):PO X (some e) (zGd te):=by
 intro a s σ H Q I b;rw[evalPart_some];refine JT (h a s σ H _ I b) fun u j ⟨x,c,d,f,g⟩=>?_;obtain⟨i,rfl,q⟩:=g;obtain⟨t,rfl⟩:=f;exact⟨some i,c,d,.int i t,q⟩
def SlR(X:Cx)(r:V->A4 Int->A4 Int->Hp->VK->Prop):Prop :=
 ∀(a:A0 (A2×Obj)) (s:A3) (σ:St) (H:Hp) (x:V) (v b c:A1) (lo hi:A4 Int) (d:A2) (Q:VK),Inv X a σ H s->RelV x v->s.heap.IsSliceOf d b c .none->IsPart b lo->IsPart c hi->r x lo hi H Q ->
  ∃T id,typeLookup (.type T) "__getitem__" = pure (some (.builtin id))/\s.TypeIs v T/\wpAny (model X.prog X.w) X.A (getItem v (.ref d)) (EP X a σ Q) X.xe s
def tSl(r:V->A4 Int->A4 Int->Hp->VK->Prop)(te:TE)(tl th:TO):TE:=fun σ H Q=>te σ H fun x a=>tl σ a fun l b=>th σ b fun u c=>r x l u c Q
theorem Ld{r:V->A4 Int->A4 Int->Hp->VK->Prop}(f:SlR X r)(g:PE X e te)(i:PO X lo tl)(j:PO X hi th):PE X (.Subscript e (.Slice lo hi none p2) pos) (tSl r te tl th):=by
 intro a s σ H Q I h;refine Subscript_ (JT (g a s σ H _ I h) fun v k ⟨x,m,n,o,p⟩=>?_);refine wpAny_Slice (JT (i a k σ m _ n p) fun c t ⟨l,y,z,B,C⟩=>JT (j a t σ y _ z C) fun vu s3 ⟨u,d,D,E,F⟩=>?_);rw[evalPart_none];refine AE ?_;have G:Inv X a σ d { s3 with heap:=s3.heap.push { cls:=.type "slice",data:=.fields #[c,vu,.none] } }:=D.kept (t':=s3.toks) fun b M q=>AF _ q;obtain⟨T,id,J,K,L⟩:=f a { s3 with heap:=s3.heap.push { cls:=.type "slice",data:=.fields #[c,vu,.none] } } σ d x v c vu l u s3.heap.objs.size Q G o (Heap.IsSliceOf.new ..) B E F;show wpAny (model X.prog X.w) X.A (subscriptTail e (.Slice lo hi none p2) v (.ref s3.heap.objs.size)) (EP X a σ Q) X.xe { s3 with heap:=s3.heap.push { cls:=.type "slice",data:=.fields #[c,vu,.none] } };exact tail_any (ops:=[.ref s3.heap.objs.size,v]) K J L (by with_unfolding_all rfl)
def Wx(xs:A0 V)(lo hi:A4 Int):A0 V:=(xs.drop (HT.QZ xs.length 0 lo)).take (HT.QZ xs.length xs.length hi-HT.QZ xs.length 0 lo)
theorem Jt(xs:A0 V)(lo hi:A4 Int):(Wx xs lo hi).length<=xs.length:=by
 unfold Wx;rw[AR,DF];omega
end
def TN(n:Nat)(i:Int):A4 Nat:=if 0<=i then(if i<n then some i.toNat else none)else if -(n:Int)<=i then some (i+n).toNat else none
def SR{α:Type}(xs:A0 α)(i:Int):A4 α:=(TN xs.length i).bind fun j=>xs[j]?
def Qn{n:Nat}{i:Int}{j:Nat}(h:TN n i=some j):seqIndex? i n=some j/\j<n/\-(n:Int)<=i/\i<n:=by
 unfold TN at h;by_cases b:0<=i
 .rw[AU b]at h;by_cases a:i<n
  .rw[AU a]at h;have e:i.toNat=j:=BA h;exact⟨by rw[seqIndex_of b a,e],by omega,by omega,a⟩
  .rw[AO a]at h;cases h
 .rw[AO b]at h;by_cases a:-(n:Int)<=i
  .rw[AU a]at h;have e:(i+n).toNat=j:=BA h;exact⟨by rw[seqIndex_neg (by omega) a,e],by omega,a,by omega⟩
  .rw[AO a]at h;cases h
def Ss{α:Type}{xs:A0 α}{i:Int}{v:α}(h:SR xs i=some v):∃j,seqIndex? i xs.length=some j/\xs[j]?=some v/\j<xs.length/\-(xs.length:Int)<=i/\i<xs.length:=by
 unfold SR at h;cases e:TN xs.length i with
 | none=>rw[e]at h;cases h
 | some j =>
  rw[e]at h;obtain⟨a,b,c,d⟩:=Qn e;exact⟨j,a,h,b,c,d⟩
def S4{α:Type}{xs:A0 α}{j:Nat}{v:α}(h:xs[j]?=some v):SR xs (j:Int)=some v:=by
 have a:j<xs.length:=(AD.mp h).1;have e:TN xs.length (j:Int)=some j:=by
  unfold TN;rw[AU (by omega),AU (by omega)];simp
 unfold SR;rw[e];exact h
def Yx(b:IY):Prop:=∀o i,subscripted b false o i=operate [o,i] (getItem o i)
def VL(X:Cx)(r:R2):Prop :=
 ∀(c a:IY) (b:A0 (A2×Obj)) (s:A3) (σ:St) (H:Hp) (x y:V) (v u:A1) (Q:VK),Inv X b σ H s->RelV x v->RelV y u->r x y H Q ->
  subscripted a false v u=operate [v,u] (getItem v u)->wpAny (model X.prog X.w) X.A (subscriptTail c a v u) (EP X b σ Q) X.xe s
def MtR(X:Cx)(id:String)(r:V->A0 V->Hp->VK->Prop):Prop :=
 ∀(a:A0 (A2×Obj)) (s:A3) (σ:St) (H:Hp) (x:V) (b:A0 V) (v:A1) (c:A0 A1) (Q:VK),Inv X a σ H s->RelV x v->JA b c->r x b H Q ->
  wpAny (model X.prog X.w) X.A (call (.builtin id) (v::c)) (EP X a σ Q) X.xe s
section
variable{X:Cx}{a b:IY}{ta tb:TE}{pos:Pos}
theorem K3{r:R2}(d:VL X r)(e:PE X a ta)(f:PE X b tb)(g:Yx b):PE X (.Subscript a b pos) (UQ r ta tb):=by
 intro c s σ H Q I h;exact Subscript_ (zFp e f I h fun v u i x y j k l m q=>d a b c i σ j x y v u Q k l m q (g _ _))
def zGs(K:PySem.W.Frag):R2:=fun x y H Q=>∃p a i v,x = .ref p/\y = .int i/\IW K H p a/\SR a i=some v/\Q v H
def zHb(K:PySem.W.Frag):R2:=fun x y H Q=>∃p a i v,x = .ref p/\y = .int i/\KQ K H p a/\SR a i=some v/\Q v H
theorem Zu:VL X (zGs X.K):=by
 intro d e a s σ H x y v u Q I A B h m;obtain⟨p,M,i,z,rfl,rfl,C,D,q⟩:=h;cases A;obtain⟨t,rfl⟩:=B;obtain⟨f,r,g,N⟩:=I.list C;obtain⟨j,c,E,O,F,G⟩:=Ss D;obtain⟨w,n,k⟩:=r.get E;have J:=r.length;have P:=Cg;have b:EP X a σ Q w s:=⟨z,H,I,k,q⟩;by_cases o:0<=i
 .have l:i.toNat=j:=by
   rw[seqIndex_of o G]at c;exact BA c
  exact item_listR g.isList o (by omega) (by rw[l];simpa using n) b m
 .have l:(i +(f.toArray.size:Int)).toNat=j:=by
   rw[seqIndex_neg (by omega) F]at c;rw[AQ,<-J];exact BA c
  exact subscriptTail_builtinR (x:=w) g.isList.typeIs slot_list_getitem.lookup
   (wpAny_getItem_list_neg (Q:=fun r L=>r=w/\EP X a σ Q r L) g.isList (by omega) (by rw[AQ]<;>omega) (by omega) (by rw[l];simpa using n) ⟨rfl,b⟩) m
theorem zCm:VL X (zHb X.K):=by
 intro b c a s σ H x y v u Q I g k h l;obtain⟨p,F,i,z,rfl,rfl,m,n,q⟩:=h;cases g;obtain⟨t,rfl⟩:=k;obtain⟨o,r,f,G⟩:=I.tuple m;obtain⟨j,A,B,J,L,M⟩:=Ss n;obtain⟨w,C,d⟩:=r.get B;have D:=r.length;have N:=Cg;have e:EP X a σ Q w s:=⟨z,H,I,d,q⟩;exact subscriptTail_builtinR (x:=w) f.typeIs slot_tuple_getitem.lookup
  (getItem_tuple (j:=j) (Q:=fun r E=>r=w/\EP X a σ Q r E) f (by omega) (by omega) (by rw[AQ,<-D];exact A) (by simpa using C) ⟨rfl,e⟩) l
theorem Mj(its:A0 A1)(n j:Nat)(u:A1):Obj.mapSeq (·.setIfInBounds j u) { cls:=.type "list",data:=.seq its.toArray n } ={ cls:=.type "list",data:=.seq (its.set j u).toArray n }:=by
 simp[Obj.mapSeq]
theorem Inv.lst{a:A0 (A2×Obj)}{σ:St}{H:Hp}{s:A3}{p:A2}{xs:A0 V}(I:Inv X a σ H s)(h:H p=some (.lst xs)) :
  ∃(its:A0 A1) (n:Nat),JA xs its/\s.heap.get? p=some { cls:=.type "list",data:=.seq its.toArray n }/\xs.length<=sizeLine:=by
 obtain⟨z,its,n,r,e⟩:=I.hok p _ h;exact⟨its,n,r,e,z⟩
theorem Inv.lstUpd{a:A0 (A2×Obj)}{σ:St}{H:Hp}{s:A3}{p:A2}{xs ys:A0 V}{its its':A0 A1}{n c:Nat}{f:Obj->Obj}(I:Inv X a σ H s)(h:H p=some (.lst xs))
  (g:s.heap.get? p=some { cls:=.type "list",data:=.seq its.toArray n }) (d:f { cls:=.type "list",data:=.seq its.toArray n } ={ cls:=.type "list",data:=.seq its'.toArray c }) (r:JA ys its') (i:ys.length<=sizeLine) (t:Nat) :
  Inv X a σ (IU H p (.lst ys)) { s with heap:=s.heap.update p f,toks:=t }:=by
 have e:(s.heap.update p f).get? p=some { cls:=.type "list",data:=.seq its'.toArray c }:=by
  rw[DD f g (by rw[d]<;>rfl),d]
 refine I.write (x:=p) (e:=p) (by rw[h];trivial) (.inl rfl) (fun b u j q=>(CZ _ _ (Ne.symm j)).trans q) ⟨_,e⟩ ?_;exact⟨i,its',c,r,e⟩
def zFo:V->V->V->Hp->(Hp->Prop)->Prop:=fun o i v H Q=>∃p a k j,o = .ref p/\i = .int k/\H p=some (.lst a)/\TN a.length k=some j/\Q (IU H p (.lst (a.set j v)))
theorem b9:zGm X zFo:=by
 intro a s σ H o i v E F u Q I y z A h;obtain⟨p,B,k,j,rfl,rfl,g,C,q⟩:=h;cases y;obtain⟨t,rfl⟩:=z;obtain⟨b,n,r,d,D⟩:=I.lst g;obtain⟨c,G,l,m⟩:=Qn C;have e:=r.length;have J:=Cg;have w:Inv X a σ (IU H p (.lst (B.set j v))) { s with heap:=s.heap.update p (Obj.mapSeq (·.setIfInBounds j u)) } :=
  I.lstUpd g d (Mj b n j u) (r.set A j) (by rw[List.length_set];exact D) s.toks
 by_cases x:0<=k
 .have f:k.toNat=j:=by
   rw[seqIndex_of x m]at c;exact BA c
  exact PySem.W.ki_setAt d x (by omega) (by rw[AQ,<-e];exact m) (by rw[f];exact⟨_,w,q⟩)
 .have f:(k +(b.toArray.size:Int)).toNat=j:=by
   rw[seqIndex_neg (by omega) l]at c;rw[AQ,<-e];exact BA c
  exact PySem.W.ki_setBack d (by omega) (by rw[AQ,<-e];exact l) (by omega) (by rw[f];exact⟨_,w,q⟩)
theorem Fy(lo hi:A4 Int)(n:Nat):(sliceBounds lo hi none n).1 =((HT.QZ n 0 lo:Nat):Int)/\(sliceBounds lo hi none n).2.1 =((HT.QZ n n hi:Nat):Int)/\(sliceBounds lo hi none n).2.2=1:=by
 refine⟨?_,?_,rfl⟩
 .cases lo with
  | none=>simp[sliceBounds,HT.QZ]
  | some i =>
   simp only[sliceBounds,HT.QZ,Option.getD_none,show(1:Int)>0 by decide,FK];by_cases h:i<0
   .simp only[h,FK]<;>omega
   .simp only[h,DA]<;>omega
 .cases hi with
  | none=>simp[sliceBounds,HT.QZ]
  | some i =>
   simp only[sliceBounds,HT.QZ,Option.getD_none,show(1:Int)>0 by decide,FK];by_cases h:i<0
   .simp only[h,FK]<;>omega
   .simp only[h,DA]<;>omega
theorem Dp(its:A0 A1)(lo hi:A4 Int):slicePick its.toArray lo hi none =((its.drop (HT.QZ its.length 0 lo)).take (HT.QZ its.length its.length hi-HT.QZ its.length 0 lo)).toArray:=by
 obtain⟨a,b,c⟩:=Fy lo hi its.toArray.size;unfold slicePick;rw[a,b,c];simp only[sliceRange_one,pick_run,AQ]<;>rfl
def zGy(K:PySem.W.Frag):V->A4 Int->A4 Int->Hp->VK->Prop:=fun x lo c H Q=>∃a b,x = .ref a/\IW K H a b/\∀p,H p=none->Q (.ref p) (IU H p (.lst (Wx b lo c)))
theorem zAt:SlR X (zGy X.K):=by
 intro f s σ H x v t u lo e w Q I i j k l h;obtain⟨a,c,rfl,m,q⟩:=h;cases i;obtain⟨n,r,g,p⟩:=I.list m;have d:=r.length;refine⟨"list",_,slot_list_getitem.lookup,g.isList.typeIs,?_⟩;refine wpAny_getItem_list_slice g.isList j k l .none (by simp) ?_ (by rw[AQ]<;>omega);rw[Dp,<-d];refine⟨.ref s.heap.objs.size,_,I.laid (t':=s.toks) (o:=.lst (Wx c lo e)) (fun b y q=>AF _ q) (Nat.le_refl _) ?_,rfl,q _ (I.hok.fresh (Nat.le_refl _))⟩;exact⟨Nat.le_trans (Jt c lo e) p,_,0,(r.drop (HT.QZ c.length 0 lo)).take (HT.QZ c.length c.length e-HT.QZ c.length 0 lo),AN _ rfl⟩
def Dh:V->Bool
 | .non=>true
 | .bl _=>true
 | .int _=>true
 | .str _=>true
 | _=>false
def TZ:V->V->Bool
 | .non,.non=>true
 | .bl a,.bl b=>a == b
 | .bl a,.int b=>(if a then 1 else 0) == b
 | .int a,.bl b=>a ==(if b then 1 else 0)
 | .int a,.int b=>a == b
 | .str a,.str b=>a == b
 | _,_=>false
theorem zDb{A:IZ}{s:A3}{y x:V}{u v:A1}(e:RelV y u)(c:RelV x v)(g:Dh y=true)(f:Dh x=true):SeqAt.EqAt A s u v (TZ y x):=by
 cases y with
 | non =>
  cases e;cases x with
  | non=>cases c;exact SeqAt.EqAt.same _
  | bl b=>cases c;exact SeqAt.EqAt.none_bool b
  | int b=>obtain⟨t,rfl⟩:=c;exact SeqAt.EqAt.none_int b t
  | str b=>obtain⟨t,rfl⟩:=c;exact SeqAt.EqAt.none_str b t
  | _=>exact absurd (show false=true from f) BC
 | bl a =>
  cases e;cases x with
  | non=>cases c;exact SeqAt.EqAt.bool_none a
  | bl b=>cases c;exact SeqAt.EqAt.bool_bool a b
  | int b=>obtain⟨t,rfl⟩:=c;exact SeqAt.EqAt.bool_int a b t
  | str b=>obtain⟨t,rfl⟩:=c;exact SeqAt.EqAt.bool_str a b t
  | _=>exact absurd (show false=true from f) BC
 | int a =>
  obtain⟨d,rfl⟩:=e;cases x with
  | non=>cases c;exact SeqAt.EqAt.int_none a d
  | bl b=>cases c;exact SeqAt.EqAt.int_bool a d b
  | int b=>obtain⟨t,rfl⟩:=c;exact SeqAt.EqAt.int_int a d b t
  | str b=>obtain⟨t,rfl⟩:=c;exact SeqAt.EqAt.int_str a d b t
  | _=>exact absurd (show false=true from f) BC
 | str a =>
  obtain⟨d,rfl⟩:=e;cases x with
  | non=>cases c;exact SeqAt.EqAt.str_none a d
  | bl b=>cases c;exact SeqAt.EqAt.str_bool a d b
  | int b=>obtain⟨t,rfl⟩:=c;exact SeqAt.EqAt.str_int a d b t
  | str b=>obtain⟨t,rfl⟩:=c;exact SeqAt.EqAt.str_str a d b t
  | _=>exact absurd (show false=true from f) BC
 | _=>exact absurd (show false=true from g) BC
def RR(x:V)(u:A1):Bool:=match u with
 | .none=>TZ .non x
 | .bool b=>TZ (.bl b) x
 | .int i _=>TZ (.int i) x
 | .str z _=>TZ (.str z) x
 | _=>false
theorem Wt{x y:V}{u:A1}(r:RelV y u)(f:Dh y=true):RR x u=TZ y x:=by
 cases y with
 | non=>cases r;rfl
 | bl b=>cases r;rfl
 | int i=>obtain⟨t,rfl⟩:=r;rfl
 | str z=>obtain⟨t,rfl⟩:=r;rfl
 | _=>exact absurd (show false=true from f) BC
theorem Aw{x:V}:∀{xs:A0 V} {us:A0 A1},JA xs us->xs.all Dh=true->us.any (RR x)=xs.any fun y=>TZ y x
 | _,_,.nil,_=>rfl
 | y::xs,u::us,.cons r t,f=>by
  rw[List.all_cons,BU]at f;rw[GH,GH,Wt r f.1,Aw t f.2]
theorem Y0{A:IZ}{s:A3}{x:V}{v:A1}(a:RelV x v)(b:Dh x=true):∀{xs:A0 V} {us:A0 A1},JA xs us->xs.all Dh=true->∀u∈us,SeqAt.EqAt A s u v (RR x u)
 | _,_,.nil,_=>fun u hu=>by cases hu
 | y::xs,u::us,.cons r t,f=>fun c hu=>by
  rw[List.all_cons,BU]at f;rcases AV.mp hu with rfl | hu
  .rw[Wt r f.1];exact zDb r a f.1 b
  .exact Y0 a b t f.2 c hu
def inV(x:V)(xs:A0 V):Bool:=xs.any fun y=>TZ y x
def US(K:PySem.W.Frag)(neg:Bool):R2:=fun x y H Q=>∃p a,y = .ref p/\(IW K H p a\/KQ K H p a)/\Dh x=true/\a.all Dh=true/\Q (.bl (if neg then !inV x a else inV x a)) H
theorem Pj:LW X (compareOp .In) (US X.K false):=by
 intro e s σ H x y v u Q I f i h;obtain⟨p,k,rfl,hq,g,b,q⟩:=h;cases i;rcases hq with hq | hq
 .obtain⟨a,r,c,j⟩:=I.list hq;refine SeqAt.in_listAt (RR x) c.isList (fun w d=>Y0 f g r b w (by simpa using d)) ⟨.bl _,H,I,rfl,?_⟩;rw[show a.toArray.any (RR x)=a.any (RR x) by simp,Aw r b];exact q
 .obtain⟨a,r,c,j⟩:=I.tuple hq;refine SeqAt.in_tupleAt (RR x) c (fun w d=>Y0 f g r b w (by simpa using d)) ⟨.bl _,H,I,rfl,?_⟩;rw[show a.toArray.any (RR x)=a.any (RR x) by simp,Aw r b];exact q
theorem Fq:LW X (compareOp .NotIn) (US X.K true):=by
 intro e s σ H x y v u Q I f i h;obtain⟨p,k,rfl,hq,g,b,q⟩:=h;cases i;rcases hq with hq | hq
 .obtain⟨a,r,c,j⟩:=I.list hq;refine SeqAt.notIn_listAt (RR x) c.isList (fun w d=>Y0 f g r b w (by simpa using d)) ⟨.bl _,H,I,rfl,?_⟩;rw[show a.toArray.any (RR x)=a.any (RR x) by simp,Aw r b];exact q
 .obtain⟨a,r,c,j⟩:=I.tuple hq;refine SeqAt.notIn_tupleAt (RR x) c (fun w d=>Y0 f g r b w (by simpa using d)) ⟨.bl _,H,I,rfl,?_⟩;rw[show a.toArray.any (RR x)=a.any (RR x) by simp,Aw r b];exact q
theorem Ga:E9 X (.builtin "len") (fun xs H Q=>∃p ys,xs = [.ref p]/\(IW X.K H p ys\/KQ X.K H p ys)/\Q (.int ys.length) H):=by
 intro e s σ H xs i Q I r h;obtain⟨p,ys,rfl,hq,q⟩:=h;obtain⟨u,rfl,f⟩:=S2 r;cases f;have j:=Cg;rcases hq with hq | hq
 .obtain⟨b,c,d,g⟩:=I.list hq;have a:=c.length;exact Calls.call_len_list d.isList (by simp only[AQ]<;>omega) ⟨.int ys.length,H,I.tok _,⟨s.toks+1,by rw[AQ,a]⟩,q⟩
 .obtain⟨b,c,d,g⟩:=I.tuple hq;have a:=c.length;exact len_tuple d (by simp only[AQ]<;>omega) ⟨.int ys.length,H,I.tok _,⟨s.toks+1,by rw[AQ,a]⟩,q⟩
theorem El:E9 X (.builtin "len") (fun xs H Q=>∃z,xs = [.str z]/\z.length<=sizeLine/\Q (.int z.length) H):=by
 intro a s σ H xs b Q I r h;obtain⟨z,rfl,c,q⟩:=h;obtain⟨u,rfl,t,rfl⟩:=S2 r;have d:=Cg;exact len_str (by omega) ⟨.int z.length,H,I.tok _,⟨_,rfl⟩,q⟩
theorem Gs:E9 X (.type "list") (fun xs H Q=>∃p ys,xs = [.ref p]/\(IW X.K H p ys\/KQ X.K H p ys)/\∀l,H l=none->Q (.ref l) (IU H l (.lst ys))):=by
 intro g s σ H xs B Q I r h;obtain⟨p,ys,rfl,hq,q⟩:=h;obtain⟨u,rfl,A⟩:=S2 r;cases A;have i:∀(a:A0 A1),JA ys a->ys.length<=sizeLine->∀(c:IV) (d:Nat),(∀b z,s.heap.get? b=some z->c.get? b=some z) ->
   c.get? s.heap.objs.size=some { cls:=.type "list",dict:=none,data:=.seq a.toArray d,slots:=#[] }->EP X g σ Q (.ref s.heap.objs.size) { s with heap:=c }:=fun a f j c d k e =>
  ⟨.ref s.heap.objs.size,_,I.laid (t':=s.toks) k (Nat.le_refl _) (show JH X.prog X.w _ c _ (.lst ys)from⟨j,a,d,f,e⟩),rfl,q _ (I.hok.fresh (Nat.le_refl _))⟩
 rcases hq with hq | hq
 .obtain⟨a,f,t,j⟩:=I.list hq;have m:=f.length;obtain⟨o,v,x,n,y⟩:=t.isList;exact call_list_seq p (.inl rfl) v x y (fun c d k e=>i a f j c d k e) (by simp only[AQ]<;>omega)
 .obtain⟨a,f,t,j⟩:=I.tuple hq;have m:=f.length;obtain⟨o,v,x,n,y⟩:=t;exact call_list_seq p (.inr rfl) v x y (fun c d k e=>i a f j c d k e) (by simp only[AQ]<;>omega)
def tyV(K:PySem.W.Frag)(T:String)(x:V)(H:Hp):Prop:=match x with
 | .str _=>T = "str"
 | .int _=>T = "int"
 | .ref p=>(T = "list"/\∃b,IW K H p b)\/(T = "tuple"/\∃o,K.lookup p=some o/\o.cls = .type "tuple"/\o.dict=none) \/
   (T = "dict"/\((∃a,H p=some (.dK a))\/∃a,H p=some (.dT a)))\/(T = "set"/\∃S n,H p=some (.set S n))
 | _=>False
theorem zBr{f:A0 (A2×Obj)}{σ:St}{H:Hp}{s:A3}{T:String}{x:V}{v:A1}(I:Inv X f σ H s)(r:RelV x v)(ty:tyV X.K T x H) :
  s.TypeIs v T/\∀a,v = .ref a->∃k,s.heap.get? a=some k/\k.dict=none:=by
 cases x with
 | str z =>
  obtain⟨t,rfl⟩:=r;cases(show T = "str" from ty);exact⟨typeIs_str s z t,fun _ e=>nomatch e⟩
 | int i =>
  obtain⟨t,rfl⟩:=r;cases(show T = "int" from ty);exact⟨typeIs_int s i t,fun _ e=>nomatch e⟩
 | ref p =>
  cases r;rcases ty with⟨rfl,w,m⟩ | ⟨rfl,o,b,q,g⟩ | ⟨rfl,b⟩ | ⟨rfl,S,n,b⟩
  .obtain⟨u,_,l,_⟩:=I.list m;refine⟨l.isList.typeIs,fun a e=>?_⟩;cases e;obtain⟨o,n,e,c,g,_⟩:=l;exact⟨o,e,g⟩
  .refine⟨⟨o,I.kIn p o b,q⟩,fun a e=>?_⟩;cases e;exact⟨o,I.kIn _ o b,g⟩
  .have z:∃o,s.heap.get? p=some o/\o.ExactDict:=by
    rcases b with⟨h,b⟩ | ⟨h,b⟩
    .obtain⟨_,_,_,_,o,_,_,e,d,_⟩:=I.hok p _ b;exact⟨o,e,d⟩
    .obtain⟨_,_,_,_,o,_,_,e,d,_⟩:=I.hok p _ b;exact⟨o,e,d⟩
   obtain⟨o,e,d⟩:=z;refine⟨⟨o,e,d.1⟩,fun a j=>?_⟩;cases j;exact⟨o,e,d.2.1⟩
  .obtain⟨o,_,_,_,e,d,_⟩:=I.hok p _ b;refine⟨⟨o,e,d.1⟩,fun a j=>?_⟩;cases j;exact⟨o,e,d.2.1⟩
 | _=>exact False.elim ty
def tBM(K:PySem.W.Frag)(T:String)(r:V->A0 V->Hp->VK->Prop)(b:TE)(t:TA):TE:=fun σ H Q=>b σ H fun x a=>tyV K T x a/\t σ a fun c d=>r x c d Q
variable{o e:IY}{es:A0 IY}{to:TE}{t:TA}{name:Str}{apos cpos:Pos}{T id:String}{r:V->A0 V->Hp->VK->Prop}
theorem zFi(m:PlainAttrs T)(f:Slot T name id)(i:typeOf (.builtin id)=pure (.type "method_descriptor"))(n:MtR X id r)(p:PE X o to)(q:PA X (e::es) t)
  (c:attributeBase o name X.env (eval o X.env)=eval o X.env:=by rfl)
  (g:((backTo cpos (starEach (e::es) X.env)).all (fun x=>!x.1) &&(backToKw cpos (keywordEach [] X.env)).all (fun x=>x.1.isSome)
   && decide ((e::es).length +([]:A0 Keyword).length +(if([]:A0 Keyword).isEmpty then 0 else 1)<30))=true:=by rfl)
  (d:(apos.endLine == cpos.line)=true:=by rfl) (u:starEach (e::es) X.env =(false,eval e X.env)::starEach es X.env:=by rfl) (b:(backTo cpos (starEach es X.env)).any (·.1)=false:=by rfl) :
  PE X (.Call (.Attribute o name apos) (e::es) [] cpos) (tBM X.K T r to t):=by
 intro a s σ H Q I h;refine wpAny_Call_method_late c g d rfl (JT (p a s σ H _ I h) fun v w ⟨x,y,j,k,ty,z⟩=>?_);obtain⟨A,B⟩:=zBr j k ty;refine⟨T,id,m,f,i,A,B,?_⟩;have l:=q cpos a w σ y _ j z;rw[u]at l⊢;refine Calls.callWith_builtin (by show(false||(backTo cpos (starEach es X.env)).any (·.1))=false;rw[b]<;>rfl) (Calls.evalArgs_plain ?_);exact JT l fun C D ⟨E,F,G,J,L⟩=>n a D σ F x E v C Q G k J L
end
def RT(X:Cx)(id:String)(r:V->A0 V->Hp->VK->Prop):Prop :=
 ∀(a:A0 (A2×Obj)) (s:A3) (σ:St) (H:Hp) (x:V) (b:A0 V) (v:A1) (c:A0 A1) (Q:VK),Inv X a σ H s->RelV x v->JA b c->r x b H Q ->
  wpAny (model X.prog X.w) X.A (call (.builtin id) (v::c)) (EP X a σ Q) X.xe s
def JA.one:∀{x:V} {us:A0 A1},JA [x] us->∃u,us = [u]/\RelV x u
 | _,_,.cons r .nil=>⟨_,rfl,r⟩
def JA.two:∀{x y:V} {us:A0 A1},JA [x,y] us->∃u v,us = [u,v]/\RelV x u/\RelV y v
 | _,_,_,.cons r (.cons q .nil)=>⟨_,_,rfl,r,q⟩
def JA.eraseIdx:∀{xs:A0 V} {us:A0 A1} (i:Nat),JA xs us->JA (xs.eraseIdx i) (us.eraseIdx i)
 | _,_,_,.nil=>.nil
 | _,_,0,.cons _ t=>t
 | _,_,i+1,.cons r t=>.cons r (JA.eraseIdx i t)
def JA.rep{xs:A0 V}{us:A0 A1}(h:JA xs us):∀k:Nat,JA (List.replicate k xs).flatten (List.replicate k us).flatten
 | 0=>.nil
 | k+1=>by
  rw[EW,EW,HC,HC];exact JA.append h (JA.rep h k)
def Er{α:Type}:∀(l:A0 α) (i:Nat),(l.eraseIdx i).length<=l.length
 | [],_=>Nat.le_refl _
 | _::_,0=>D_ _
 | _::r,i+1=>Nat.succ_le_succ (Er r i)
def Fk(its:A0 A1):∀(k:Nat) (a:A0 A1),
  List.foldl (fun b c=>b++c) a.toArray (List.replicate k its.toArray) =(a ++(List.replicate k its).flatten).toArray
 | 0,a=>by simp
 | k+1,a=>by
  have e:a.toArray++its.toArray =(a++its).toArray:=by simp
  have d:(a++its) ++(List.replicate k its).flatten=a ++(List.replicate (k+1) its).flatten:=by
   rw[EW,HC,BM]
  rw[<-d,<-Fk its k (a++its),<-e,EW,List.foldl_cons]
section
variable{X:Cx}{pins:A0 (A2×Obj)}{σ:St}{H:Hp}{s:A3}{l b:A2}{xs ys zs:A0 V}
theorem Inv.lset{its its':A0 A1}{n:Nat}{f:A7 A1->A7 A1}{t':Nat}(I:Inv X pins σ H s)(a:H l=some (.lst xs))
  (e:s.heap.get? l=some { cls:=.type "list",data:=.seq its.toArray n }) (b:f its.toArray=its'.toArray) (c:JA ys its') (d:ys.length<=sizeLine) :
  Inv X pins σ (IU H l (.lst ys)) { s with heap:=s.heap.update l (Obj.mapSeq f),toks:=t' }:=by
 have q:=PySem.IsL.update e f;rw[b]at q;refine I.write (x:=l) (e:=l) (by rw[a];exact trivial) (.inl rfl) (fun i u g h=>(CZ s.heap (Obj.mapSeq f) (Ne.symm g)).trans h) ⟨_,q⟩ ?_;exact⟨d,its',_,c,q⟩
theorem Inv.lnew{its:A0 A1}{t':Nat}(I:Inv X pins σ H s)(a:JA ys its)(b:ys.length<=sizeLine) :
  Inv X pins σ (IU H s.heap.objs.size (.lst ys)) { s with heap:=s.heap.push { cls:=.type "list",data:=.seq its.toArray },toks:=t' } :=
 I.laid (fun _ _ q=>AF _ q) (Nat.le_refl _) ⟨b,its,0,a,AN _ rfl⟩
theorem Inv.fresh(I:Inv X pins σ H s):H s.heap.objs.size=none:=I.hok.fresh (Nat.le_refl _)
theorem Inv.lstM(I:Inv X pins σ H s)(a:H l=some (.lst xs)):xs.length<=sizeLine/\∃(its:A0 A1) (n:Nat),JA xs its/\xs.length=its.length/\s.heap.get? l=some { cls:=.type "list",data:=.seq its.toArray n }:=by
 obtain⟨z,its,n,r,e⟩:=I.hok l _ a;exact⟨z,its,n,r,r.length,e⟩
theorem Lv{n:Nat}(h:n<=sizeLine):Builtin.List.listTooLong n=false:=by
 unfold Builtin.List.listTooLong;exact AX (by omega)
end
section
variable{X:Cx}
def Td:V->A0 V->Hp->VK->Prop:=fun x b H Q=>∃l a y,x = .ref l/\b = [y]/\H l=some (.lst a)/\a.length<sizeLine/\Q .non (IU H l (.lst (a ++ [y])))
theorem J2:RT X "list.append" Td:=by
 intro b s σ H x i v j Q I d f h;obtain⟨l,k,y,rfl,rfl,c,m,q⟩:=h;cases d;obtain⟨u,rfl,g⟩:=f.one;obtain⟨z,a,n,r,o,e⟩:=I.lstM c;refine call_meets F.slot_list_append ⟨_,e,rfl⟩ F.entry_list_append (F.args_list_append_2 _ _) (PySem.list_append l a.toArray n u (by rw[AQ];omega)) ⟨e,?_⟩;refine⟨.non,_,I.lset (its':=a ++ [u]) c e (by simp) (r.append (.cons g .nil)) ?_,rfl,q⟩;rw[BJ,List.length_singleton];omega
def Zn:V->A0 V->Hp->VK->Prop:=fun x d H Q=>∃l b a c,x = .ref l/\d = [.ref b]/\H l=some (.lst a)/\H b=some (.lst c)/\a.length+c.length<=sizeLine/\Q .non (IU H l (.lst (a++c)))
theorem Ny:RT X "list.extend" Zn:=by
 intro g s σ H x A v B Q I j k h;obtain⟨l,b,C,D,rfl,rfl,i,m,E,q⟩:=h;cases j;obtain⟨u,rfl,o⟩:=k.one;cases o;obtain⟨z,c,n,r,G,e⟩:=I.lstM i;obtain⟨J,a,p,t,w,y⟩:=I.lstM m;have f:c.toArray.size+a.toArray.size<=sizeLine:=by rw[AQ,AQ];omega
 have d:¬(!c.toArray.isEmpty&&Builtin.List.listTooLong (c.toArray.size+a.toArray.size))=true:=by
  rw[Lv f,HF];exact BC
 refine call_meets F.slot_list_extend ⟨_,e,rfl⟩ F.entry_list_extend (F.args_list_extend_2 _ _)
  (AutoSeq1.list_extend_list_list_0 l c.toArray n b a.toArray p d (by rw[AQ];omega) (by omega)) ⟨e,y,?_⟩
 refine⟨.non,_,I.lset (its':=c++a) i e (by simp) (r.append t) ?_,rfl,q⟩;rw[BJ];omega
def zCk:V->A0 V->Hp->VK->Prop:=fun x b H Q=>∃l a i k y,x = .ref l/\b = [.int i]/\H l=some (.lst a)/\-(2^63)<=i/\i<2^63/\seqIndex? i a.length=some k/\a[k]?=some y/\Q y (IU H l (.lst (a.eraseIdx k)))
theorem Wb:RT X "list.pop" zCk:=by
 intro c s σ H x E v G Q I f g h;obtain⟨l,j,i,k,y,rfl,rfl,d,m,o,p,A,q⟩:=h;cases f;obtain⟨u,rfl,B⟩:=g.one;obtain⟨t,rfl⟩:=B;obtain⟨z,a,n,r,C,e⟩:=I.lstM d;obtain⟨w,D,b⟩:=r.get A;refine call_meets F.slot_list_pop ⟨_,e,rfl⟩ F.entry_list_pop (F.args_list_pop_2 _ _)
  (MeetsSeq.list_pop_at l a.toArray n i t k w (fitsIndex_both m o) (by rw[AQ,<-C];exact p) (by rw[<-BT];exact D) (by rw[AQ];omega)) ⟨e,?_⟩
 refine⟨y,_,I.lset (its':=a.eraseIdx k) d e ?_ (r.eraseIdx k) ?_,b,q⟩
 .show a.toArray.eraseIdxIfInBounds k =(a.eraseIdx k).toArray;rw[List.eraseIdxIfInBounds_toArray]
 .have:=Er j k;omega
def zHx:R2:=fun x y H Q=>∃l b a c,x = .ref l/\y = .ref b/\H l=some (.lst a)/\H b=some (.lst c)/\a.length+c.length<=sizeLine/\∀p,H p=none->Q (.ref p) (IU H p (.lst (a++c)))
theorem Tl:LW X (binaryOp .Add) zHx:=by
 intro d s σ H x y v u Q I f g h;obtain⟨l,b,t,w,rfl,rfl,i,j,A,q⟩:=h;cases f;cases g;obtain⟨z,c,n,r,B,e⟩:=I.lstM i;obtain⟨C,a,D,k,m,o⟩:=I.lstM j;refine PySem.P.add_list e o ?_ (by rw[AQ,AQ];omega);have p:c.toArray++a.toArray =(c++a).toArray:=by simp
 rw[p];exact⟨.ref _,_,I.lnew (t':=s.toks) (r.append k) (by rw[BJ];omega),rfl,q _ I.fresh⟩
def zHr:R2:=fun x y H Q=>∃l k a,x = .ref l/\y = .int k/\H l=some (.lst a)/\-(2^63)<=k/\k<2^63/\a.length*k.toNat<=sizeLine /\
 ∀p,H p=none->Q (.ref p) (IU H p (.lst (List.replicate k.toNat a).flatten))
theorem Yv{α:Type}(xs:A0 α)(k:Nat):(List.replicate k xs).flatten.length=k*xs.length:=by
 induction k with
 | zero=>simp
 | succ k a=>rw[EW,HC,BJ,a,Nat.succ_mul,Nat.add_comm]
theorem Xa:LW X (binaryOp .Mult) zHr:=by
 intro p s σ H x y v u Q I A B h;obtain⟨l,k,L,rfl,rfl,C,D,E,w,q⟩:=h;cases A;obtain⟨t,rfl⟩:=B;obtain⟨z,b,n,r,G,e⟩:=I.lstM C;have d:b.toArray.size*k.toNat<=sizeLine:=by rw[AQ,<-G];exact w
 have f:¬b.toArray.size*k.toNat >(2^63-1) / 8:=by
  have:(sizeLine:Nat)<=(2^63-1) / 8:=by decide
  omega
 have g:¬(!Builtin.List.listFitsIndex k)=true:=by
  rw[fitsIndex_both D E];exact BC
 have c:¬Builtin.List.listTooLong (b.toArray.size*k.toNat)=true:=by
  rw[Lv d];exact BC
 have i:List.foldl (fun j o=>j++o) #[] (List.replicate (if b.toArray.isEmpty=true then 0 else k.toNat) b.toArray) =(List.replicate k.toNat b).flatten.toArray:=by
  have J:∀m:Nat,List.foldl (fun j o=>j++o) #[] (List.replicate m b.toArray) =(List.replicate m b).flatten.toArray:=fun m=>by
   have:=Fk b m [];rw[List.nil_append]at this;exact this
  rw[J];cases b with
  | nil=>simp
  | cons a M=>rw[AO (by simp)]
 refine wpAny_binaryOp_repeat_ref (T := "list") (U := "int") (by decide) ⟨_,e,rfl⟩ (fun K=>typeIs_int K k t) noFill_list_mul F.fills_int_mul F.slot_int_rmul repeat_list F.slot_int_index.lookup
  (call_meets F.slot_int_rmul (typeIs_int s k t) F.entry_int_rmul (F.args_int_rmul_2 _ _) (int___rmul___int_list k t l b.toArray n)
   ⟨e,rfl,⟨_,e,rfl⟩,call_meets F.slot_list_mul ⟨_,e,rfl⟩ F.entry_list_mul (F.args_list_mul_2 _ _) (AutoListH.list___mul___list_int_3 l b.toArray n k t g f c) ⟨e,?_⟩⟩)
 rw[i];exact⟨.ref _,_,I.lnew (t':=s.toks) (r.rep k.toNat) (by rw[Yv,Nat.mul_comm];exact w),rfl,q _ I.fresh⟩
end
section
variable{Z:Type}[DecidableEq Z]
def R9(a:A0 (Z×V))(k:Z):A4 V:=(a.find? fun b=>decide (b.1=k)).map (·.2)
def Lf(a:A0 (Z×V))(k:Z)(v:V):A0 (Z×V) :=
 if(a.any fun b=>decide (b.1=k))=true then a.map (fun b=>if b.1=k then(b.1,v)else b)else a ++ [(k,v)]
theorem K5{p:Z×V}{r:A0 (Z×V)}{k:Z}(e:p.1=k):R9 (p::r) k=some p.2:=by simp[R9,EX,e]
theorem K7{p:Z×V}{r:A0 (Z×V)}{k:Z}(e:¬p.1=k):R9 (p::r) k=R9 r k:=by simp[R9,EX,e]
theorem y6(k:Z):∀a:A0 (Z×V),(a.any fun b=>decide (b.1=k)) =(R9 a k).isSome
 | []=>rfl
 | p::r=>by
  rw[GH];by_cases e:p.1=k
  .simp only[K5 e,AK e,Bool.true_or,Option.isSome_some]
  .rw[K7 e,AX e,HU];exact y6 k r
theorem Jx(k j:Z)(y:V):∀a:A0 (Z×V),R9 (a.map fun b=>if b.1=k then(b.1,y)else b) j =(R9 a j).map fun x=>if j=k then y else x
 | []=>rfl
 | p::r=>by
  have c:=Jx k j y r;rw[BB];by_cases h:p.1=k
  .rw[AU h];by_cases e:p.1=j
   .rw[K5 (p:=(p.1,y)) e,K5 e,Option.map_some,AU (e.symm.trans h)]
   .rw[K7 (p:=(p.1,y)) e,K7 e,c]
  .rw[AO h];by_cases e:p.1=j
   .rw[K5 (p:=p) e,K5 e,Option.map_some,AO (fun z=>h (e.trans z))]
   .rw[K7 (p:=p) e,K7 e,c]
theorem Gi(k j:Z)(y:V):∀a:A0 (Z×V),R9 a k=none->R9 (a ++ [(k,y)]) j=if j=k then some y else R9 a j
 | [],_=>by
  by_cases e:k=j
  .rw[AU e.symm];exact K5 (p:=(k,y)) e
  .rw[AO (fun z=>e z.symm)];exact K7 (p:=(k,y)) e
 | p::r,b=>by
  rw[List.cons_append];have c:¬p.1=k:=fun z=>by rw[K5 z]at b;cases b
  rw[K7 c]at b;have d:=Gi k j y r b;by_cases e:p.1=j
  .rw[K5 e,K5 e,AO (fun z=>c (e.trans z))]
  .rw[K7 e,K7 e,d]
theorem Vn(b:A0 (Z×V))(k j:Z)(y:V):R9 (Lf b k y) j=if j=k then some y else R9 b j:=by
 unfold Lf;by_cases a:(b.any fun c=>decide (c.1=k))=true
 .rw[AU a,Jx];rw[y6]at a;by_cases e:j=k
  .obtain⟨x,d⟩:=FF.mp a;rw[AU e,e,d,Option.map_some,AU rfl]
  .rw[AO e];cases R9 b j with
   | none=>rfl
   | some x=>rw[Option.map_some,AO e]
 .rw[AO a];refine Gi k j y b ?_;rw[y6]at a;cases q:R9 b k with
  | none=>rfl
  | some x=>rw[q]at a;exact(a rfl).elim
theorem V1(a:A0 (Z×V))(k:Z)(v:V):(Lf a k v).length<=a.length+1:=by
 unfold Lf;split
 .rw[AB];omega
 .rw[BJ,BS,IA];omega
theorem Ty{a:A0 (Z×V)}{k:Z}(v:V)(h:R9 a k=none):Lf a k v=a ++ [(k,v)]:=by
 unfold Lf;rw[y6,h];exact AO (by decide)
theorem KV.val{a:A0 (Z×V)}{vs:A0 (Z×A1)}(r:KV a vs)(k:Z):OI (R9 a k) (valueAt vs k):=by
 unfold KV at r
 induction r with
 | nil=>exact True.intro
 | @cons p q j c h t g =>
  obtain⟨f,i⟩:=h;by_cases e:p.1=k
  .have d:q.1=k:=f.symm.trans e;have b:valueAt (q::c) k=some q.2:=by simp[valueAt,EX,d]
   rw[K5 e,b];exact i
  .have d:¬q.1=k:=fun z=>e (f.trans z);have b:valueAt (q::c) k=valueAt c k:=by simp[valueAt,EX,d]
   rw[K7 e,b];exact g
theorem KV.any{a:A0 (Z×V)}{vs:A0 (Z×A1)}(r:KV a vs)(k:Z):(a.any fun b=>decide (b.1=k))=vs.any fun b=>decide (b.1=k):=by
 unfold KV at r
 induction r with
 | nil=>rfl
 | cons h t c=>rw[GH,GH,c,h.1]
theorem KV.repl{b:A0 (Z×V)}{vs:A0 (Z×A1)}(r:KV b vs)(k:Z){y:V}{u:A1}(d:RelV y u) :
  KV (b.map fun a=>if a.1=k then(a.1,y)else a) (vs.map fun a=>if a.1=k then(a.1,u)else a):=by
 unfold KV at r⊢
 induction r with
 | nil=>exact .nil
 | @cons p q i j h t f =>
  rw[BB,BB];refine .cons ?_ f;obtain⟨c,g⟩:=h;by_cases e:p.1=k
  .rw[AU e,AU (c.symm.trans e)];exact⟨c,d⟩
  .rw[AO e,AO (fun z=>e (c.trans z))];exact⟨c,g⟩
theorem KV.put{a:A0 (Z×V)}{vs:A0 (Z×A1)}(r:KV a vs)(k:Z){y:V}{u:A1}(b:RelV y u):KV (Lf a k y) (stored vs k u):=by
 unfold Lf stored;rw[r.any k];by_cases e:(vs.any fun c=>decide (c.1=k))=true
 .rw[AU e,AU e];exact r.repl k b
 .rw[AO e,AO e];exact Paired.snoc r ⟨rfl,b⟩
theorem KV.length{a:A0 (Z×V)}{vs:A0 (Z×A1)}(r:KV a vs):a.length=vs.length:=Paired.length r
end
def Pb{P:A6}{w:F1}{k:JZ}{u:A1}(r:RelV (kV k) u):(C4 P w).is k u=true:=by
 cases k with
 | inl i=>obtain⟨t,e⟩:=(show ∃t,u=Value.int i t from r);subst e;exact Im P w i t
 | inr x=>obtain⟨t,e⟩:=(show ∃t,u=Value.str x t from r);subst e;exact Ju P w x t
def Gd{P:A6}{w:F1}:∀{ks:A0 JZ} {us:A0 A1},JA (ks.map kV) us->ItemsAre (C4 P w) ks us
 | [],_,r=>by rw[HI]at r;cases r;exact .nil
 | k::ks,_,r=>by
  rw[BB]at r;cases r with
  | cons h t=>exact .cons (Pb h) (Gd t)
abbrev KT(H:Hp):A0 (A0 JZ×V)->A0 (A0 JZ×A2×A1)->Prop:=Paired fun p q=>p.1=q.1/\H q.2.1=some (.tup (p.1.map kV))/\RelV p.2 q.2.2
def KT.val{H:Hp}{a:A0 (A0 JZ×V)}{xs:A0 (A0 JZ×A2×A1)}(r:KT H a xs)(k:A0 JZ):OI (R9 a k) ((atKey xs k).map (·.2)):=by
 induction r with
 | nil=>exact True.intro
 | @cons p q j c h t g =>
  obtain⟨f,_,i⟩:=h;by_cases e:p.1=k
  .have d:q.1=k:=f.symm.trans e;have b:atKey (q::c) k=some q.2:=by simp[atKey,EX,d]
   rw[K5 e,b];exact i
  .have d:¬q.1=k:=fun z=>e (f.trans z);have b:atKey (q::c) k=atKey c k:=by simp[atKey,EX,d]
   rw[K7 e,b];exact g
section
variable{P:A6}{w:F1}{H:Hp}{h:IV}{a:A2}
theorem zBt{u:HO}(b:OJ P w H h)(e:Rd H a u):JH P w H h a u:=e.ok b
theorem Ui{b:A0 (JZ×V)}(c:OJ P w H h)(e:Rd H a (.dK b)):b.length<=sizeLine/\(a == sysModules)=false/\∃vs,KV b vs/\h.DictOf (C4 P w) a vs :=
 show JH P w H h a (.dK b)from zBt c e
theorem zBm{b:A0 (JZ×V)}(c:OJ P w H h)(e:H a=some (.dK b)):b.length<=sizeLine/\(a == sysModules)=false/\∃vs,KV b vs/\h.DictOf (C4 P w) a vs:=Ui c (.inl e)
theorem Bx{ks:A0 JZ}(c:OJ P w H h)(e:H a=some (.tup (ks.map kV))):(tupleKind (C4 P w)).is h ks a:=by
 obtain⟨_,b,r,o,d,f,n,g⟩:=(show JH P w H h a (.tup (ks.map kV))from c a _ e);exact⟨o,b.toArray,n,d,f,g,by simpa using Gd r⟩
theorem Xr{b:A0 (A0 JZ×V)}(d:OJ P w H h)(e:Rd H a (.dT b)):b.length<=sizeLine/\(a == sysModules)=false /\
  ∃xs,KT H b xs/\h.DictOfH (tupleKind (C4 P w)) a xs:=by
 obtain⟨z,y,xs,r,o,g,i,j,k,n,s,u⟩:=(show JH P w H h a (.dT b)from zBt d e);refine⟨z,y,xs,r,o,g,i,j,k,n,s,fun x hx=>?_,u⟩;have c:∀{l:A0 (A0 JZ×V)} {m:A0 (A0 JZ×A2×A1)},KT H l m->∀x∈m,(tupleKind (C4 P w)).is h x.1 x.2.1:=by
  intro l m q
  induction q with
  | nil=>intro x hx;exact nomatch hx
  | @cons p q A B f t v =>
   intro x hx;rcases AV.mp hx with e | hx
   .subst e;exact Bx d (by rw[<-f.1];exact f.2.1)
   .exact v x hx
 exact c r x hx
end
def QH(H:Hp)(a:A2)(y:V)(r:A4 V):Prop :=
 (∃c k,Rd H a (.dK c)/\y=kV k/\r=R9 c k)\/∃c k b,Rd H a (.dT c)/\y = .ref b/\H b=some (.tup (k.map kV))/\r=R9 c k
def QH.k{H:Hp}{a:A2}{b:A0 (JZ×V)}{k:JZ}(e:H a=some (.dK b)):QH H a (kV k) (R9 b k):=.inl ⟨b,k,.inl e,rfl,rfl⟩
section
variable{X:Cx}{pins:A0 (A2×Obj)}{σ:St}{H:Hp}{s:A3}{a:A2}{y v:V}{u r:A1}{o:A4 V}{A:IZ}{E:A1->A3->Prop}
theorem Inv.big(I:Inv X pins σ H s):sysModules<s.heap.objs.size:=by
 have h:mainGlobals<s.heap.objs.size:=(I.mod.glob.keeps I.bk).lt;exact Nat.lt_trans (by decide) h
theorem Sb{Q:A1->A3->Prop}(x:A.units+1<cLine)(I:Inv X pins σ H s)(g:QH H a y (some v))(r:RelV y u)(h:∀f t,Inv X pins σ H t->RelV v f->Q f t) :
  wpAny (model X.prog X.w) A (getItem (.ref a) u) Q E s:=by
 rcases g with⟨i,k,e,j,l⟩ | ⟨i,k,b,e,j,B,l⟩
 .subst j;obtain⟨z,C,D,c,m⟩:=Ui I.hok e;obtain⟨f,n,d⟩:=OI.some_of (v:=v) (o:=valueAt D k) (by rw[l];exact c.val k);exact wpAny_getItem_of (Pb r) m.mapOf n (h f _ (I.tok _) d)
 .subst j;cases(show u=Value.ref b from r);obtain⟨z,C,F,c,m⟩:=Xr I.hok e;obtain⟨f,n,d⟩:=OI.some_of (v:=v) (o:=(atKey F k).map (·.2)) (by rw[l];exact c.val k);obtain⟨p,G,q⟩:=AZ.mp n;refine wpAny_getItem_heap (tupleKind_room_in1 x) (Bx I.hok B) m G ?_;rw[q];exact h f _ (I.tok _) d
theorem Xy{h':IV}{t':Nat}{c:HO}(I:Inv X pins σ H s)(f:VJ (H a))(g:Heap.SameBut a s.heap h')(h:∃q,h'.get? a=some q)(d:JH X.prog X.w (IU H a c) h' a c) :
  Inv X pins σ (IU H a c) { s with heap:=h',toks:=t' } :=
 I.write (x:=a) (e:=a) f (.inl rfl) (fun b q i z=>(g.2 b i).trans z) h d
theorem zBc{P:A6}{w:F1}{H':Hp}{h':IV}{b:A0 (JZ×V)}{vs:A0 (JZ×A1)}(z:b.length<=sizeLine)(d:(a == sysModules)=false)(c:KV b vs)(e:h'.DictOf (C4 P w) a vs) :
  JH P w H' h' a (.dK b):=⟨z,d,vs,c,e⟩
end
def zGw(i:IY):Prop:=∀a b,subscripted i false a b=operate [a,b] (getItem a b)
def zAw{prog:A6}{w:F1}{A:IZ}{E:A1->A3->Prop}{s:A3}{c:SF}{b a:IY}{pos:Pos}{T id:String}{Q:A1->A3->Prop}
  (f:typeLookup (.type T) "__getitem__" = pure (some (.builtin id))) (g:zGw a)
  (h:wpAny (model prog w) A (eval b c) (fun o s₁=>wpAny (model prog w) A (eval a c) (fun i s₂=>s₂.TypeIs o T/\wpAny (model prog w) A (getItem o i) Q E s₂) E s₁) E s) :
  wpAny (model prog w) A (eval (.Subscript b a pos) c) Q E s:=by
 refine Subscript_ (CF h (fun o s₁ h₁=>CF h₁ (fun i s₂ h₂=>?_) fun _ _ x=>x) fun _ _ x=>x);obtain⟨e,h₂⟩:=h₂;unfold subscriptTail;refine AA ?_;rw[getitemInPython_of_ne e.not_modules];refine AA (wpAny_specialOf e f ?_);have d:wpAny (model prog w) A (subscripted a false o i) (fun r s₃=>wpAny (model prog w) A (letTemporaryGo b o r >>= fun _=>pure r) Q E s₃) E s₂:=by
  rw[g o i];exact wpAny_operating (CF h₂ (fun r s₃ h₃=>AA (wpAny_letTemporaryGo (AE h₃))) fun _ _ x=>x)
 first
  | exact AE (AA d)
  | exact AA (AE (AA d))
  | exact AA d
def Hx{X:Cx}{c:A0 (A2×Obj)}{σ:St}{H:Hp}{s:A3}{a:A2}{y:V}{o:A4 V}(I:Inv X c σ H s)(g:QH H a y o):s.TypeIs (.ref a) "dict":=by
 rcases g with⟨d,k,e,_,_⟩ | ⟨d,k,b,e,_,_,_⟩
 .obtain⟨_,_,h,_,f⟩:=Ui I.hok e;exact f.typeIs
 .obtain⟨_,_,i,_,f⟩:=Xr I.hok e;exact f.typeIs
def zBj(c ty:TE):TE:=fun σ H Q=>c σ H fun x d=>ty σ d fun y b=>∃a v,x = .ref a/\QH b a y (some v)/\Q v b
section
variable{X:Cx}{o i e value:IY}{pos pos' tpos:Pos}{td ty tv:TE}
theorem K0(e:X.A.units+1<cLine)(f:PE X o td)(hi:PE X i ty)(j:zGw i):PE X (.Subscript o i pos) (zBj td ty):=by
 intro b s σ H Q I h;refine zAw PySem.F.slot_dict_getitem.lookup j (JT (f b s σ H _ I h) fun u k ⟨x,l,m,n,p⟩=>JT (hi b k σ l _ m p) fun B C ⟨y,q,d,r,a,v,t,g,w⟩=>?_);subst t;obtain rfl:u=Value.ref a:=n;exact⟨Hx d g,Sb e d g r fun D E z c=>⟨v,q,z,c,w⟩⟩
end
def Us{P:A6}{w:F1}{H:Hp}(h:IV)(a:sysModules<h.objs.size):JH P w H (h.push { cls:=.type "dict",data:=.dict #[] }) h.objs.size (.dK []) :=
 ⟨CK _,beq_eq_false_iff_ne.mpr (Ne.symm (AY a)),[],.nil,Heap.DictOf.new h⟩
def IsD(H:Hp)(a:A2):Prop:=(∃b,Rd H a (.dK b))\/∃b,Rd H a (.dT b)
def zDp{X:Cx}{f:A0 (A2×Obj)}{σ:St}{H:Hp}{s:A3}{a:A2}(I:Inv X f σ H s)(d:IsD H a) :
  s.TypeIs (.ref a) "dict"/\(∀b,Value.ref a = .ref b->∃c,s.heap.get? b=some c/\c.dict=none)/\(a == sysModules)=false:=by
 rcases d with⟨h,e⟩ | ⟨h,e⟩
 .obtain⟨_,i,l,_,g⟩:=Ui I.hok e;refine⟨g.typeIs,fun b q=>?_,i⟩;cases q;obtain⟨c,_,_,j,k,_⟩:=g;exact⟨c,j,k.2.1⟩
 .obtain⟨_,i,m,_,g⟩:=Xr I.hok e;refine⟨g.typeIs,fun b q=>?_,i⟩;cases q;obtain⟨c,_,_,j,k,_⟩:=g;exact⟨c,j,k.2.1⟩
end L2
namespace Att
open PySem PySem.W PySem.Calls PyProof.Rows
def Ax{P:Params}{h:IV}:∀(ns:A0 Int) (vs:A0 A1),WellAll P h vs (ns.map WData.int)->IntsAre vs ns:=by
 intro ns
 induction ns with
 | nil =>
  intro vs w;rw[HI]at w;cases w;exact .nil
 | cons n ns c =>
  intro vs w;rw[BB]at w;cases w with
  | cons a b =>
   cases a;exact .cons _ _ (c _ b)
def So{l:OpenLaw}{n:Nat}(o:l.most=some n){P:Params}{h:IV}{args:A0 WData}{b:A0 A1}
  (c:l.row.toRowW.claim.pre args=true) (j:WellAll P h b args) :
  ∃a vs ns,b = [Value.ref a]/\args = [WData.list (ns.map WData.int)]/\h.get? a=some { cls:=.type "list",data:=.seq vs.toArray }/\IntsAre vs ns/\ns.length<=n:=by
 have k:WShape.hasAll [] args [.list .int]=true:=(pre_splitW c).1;have m:l.pre.holds [] { args:=args }=true:=(pre_splitW c).2;obtain⟨d,r,rfl,p,s⟩:=hasAllW_cons k;obtain rfl:=hasAllW_nil s;obtain⟨y,rfl,t⟩:=hasW_list p;obtain⟨ns,rfl⟩:=items_int t;have e:ns.length<=n:=by
  unfold OpenLaw.pre at m;have g:(WTm.not (.lt (.lit (.int (n:Int))) (.len (.arg 0)))).holds [] { args:=[.list (ns.map .int)] }=true:=by
   have g:=(holds_andW m).1;rw[o]at g;exact g
  have i:=condW_of g (w_not (w_lt w_lit (w_len_list (w_arg rfl))));rw[AB]at i;refine Nat.le_of_not_lt fun q=>?_;have u:(n:Int) <((ns.length:Nat):Int):=by omega
  first
   | (rw[AK u]at i;exact absurd i (by decide))
   | (simp at i;omega)
 cases j with
 | cons v w =>
  cases w;cases v with
  | list x f=>exact⟨_,_,ns,rfl,rfl,x,Ax ns _ f,e⟩
def Qy(l:OpenLaw)(args:A0 WData):l.row.toRowW.claim.post args (.bool true) args=true :=
 postW_of (r:=l.row.toRowW) (X:=(true == true))
  (show WShape.has [] (.bool true) .bool=true by first | rfl | decide | simp[WShape.has,WShape.arms,WShape.armsAll])
  (show(WTm.eq .res (.lit (.bool true))).value [] { args:=args,res:=some (.bool true),after:=args }=some (.bool (true == true))from w_eq_bool (w_res rfl) w_lit) rfl
def RE{l:OpenLaw}{n:Nat}{q:A6}{b:A0 Str}{A:(Str->A4 A1)->IV->Prop}{B:F1->IV->Prop}{d:DefRec}
  (F:l.most=some n) (t:d.params.defaults = [])
  (call:∀(w:F1) (s₀ s₁:A3) (k u:Str->A4 A1) (g:A2) (o:Obj) (v m c:A1) (a:A2) (vs:A0 A1) (ns:A0 Int),
   Ground q b [] A w s₀ k u s₁.heap->B w s₁.heap ->
   s₁.heap.get? g=some o->o.data = .func (docDef d.name d.params d.body d.scope v m c)->s₁.heap.CodeRec m d.name->k d.name=some (.ref g) ->
   s₁.heap.get? a=some { cls:=.type "list",data:=.seq vs.toArray }->IntsAre vs ns->ns.length<=n->s₁.gens = #[] ->
   codeAny (model l.prog w) callerA (.call (.ref g) ⟨[.ref a],[]⟩) (fun r p=>r = .ok (.ret (.bool true))/\OldK s₁.heap p.heap/\p.os=s₁.os/\AllBare p.gens) s₁) :
  WalkO q b A B l.row.toRowW d [] (fun f vs=>PySem.call f vs):=by
 intro w s₀ s₁ k u G Y g o v m c H kV I J x C y K args D S h E L z M;obtain rfl:H = .none:=Dflts.none C t;obtain rfl:kV = .none:=Dflts.noKw C;obtain⟨a,vs,ns,rfl,rfl,i,e,j⟩:=So F h z;refine enter_call (codeAny_mono (call w s₀ s₁ k u g o v m c a vs ns G Y I (fd_plain J) x y i e j K) fun r p N=>?_);obtain⟨rfl,O,P,Q⟩:=N;exact⟨.inl ⟨.bool true,.bool true,[],rfl,fun _=>rfl,.bool true,Qy l _,fun _=>⟨List.Pairwise.nil,fun _ R=>(nomatch R)⟩⟩,O,P,Q⟩
end Att
namespace L2
open PySem PySem.Spec PyProof.Rows
def Es:∀{vs:A0 A1} {ns:A0 Int},IntsAre vs ns->JA (ns.map V.int) vs
 | _,_,.nil=>.nil
 | _,_,.cons n t h=>.cons ⟨t,rfl⟩ (Es h)
def zFy(H:Hp):Prop:=∀b,H b=none\/∃o a,H b=some (.frz o (.lst a))
def Uq{P:A6}{w:F1}{K:PySem.W.Frag}{p M:Str->A4 A1}{CX:SD}{k:Nat}{N a:A2}{X:JK}{x:Str}{sp:Sp}{s₁:A3}{vs:A0 A1}{ns:A0 Int}
  (Y:K.In s₁.heap) (t:s₁.heap.Ns mainGlobals p) (f:s₁.heap.Ns builtinsNs M) (O:∀x:Str,x≠ "__name__"->M x=bootBuiltins x) (y:s₁.heap.NoLimit) (hg:s₁.gens = #[])
  (L:s₁.heap.get? a=some { cls:=.type "list",data:=.seq vs.toArray }) (hi:IntsAre vs ns) (Z:ns.length<=sizeLine) (hr:KU k callerA)
  (F:∀base:IV,K.In base->base.Ns mainGlobals p->JC P w K p base CX k N X [x] sp) (l:∀(s:A3) (u:A1),BindsTo s X ⟨[u],[]⟩ [(x,u)])
  (Q:∀H:Hp,zFy H->IW K H a (ns.map V.int)->sp [.ref a] H (fun v _=>v = .bl true) fun _ _ _=>False)
  (R:∀H e g,CX [] H s₁ (fun _ _ _=>False) e g->False) :
  codeAny (model P w) callerA (.call (.ref N) ⟨[.ref a],[]⟩) (fun r g=>r = .ok (.ret (.bool true))/\OldK s₁.heap g.heap/\g.os=s₁.os/\AllBare g.gens) s₁:=by
 have rv:=Es hi;have A:=hi.length;have j:∀H:Hp,zFy H->IW K H a (ns.map V.int)->OJ P w H s₁.heap->(∀b,H b≠none->b=a)->(H a≠none->K.lookup a=none) ->
   codeAny (model P w) callerA (.call (.ref N) ⟨[.ref a],[]⟩) (fun r g=>r = .ok (.ret (.bool true))/\OldK s₁.heap g.heap/\g.os=s₁.os/\AllBare g.gens) s₁:=by
  intro H hO hS B hA hK;have c:∀{b:A2} {o:Obj},s₁.heap.get? b=some o->H b=none->(Vt s₁.heap H).get? b=some o:=fun e n=>Tw e n;have S:∀{b:A2} {o:Obj} {C:A7 DictEntry} {D:Nat},s₁.heap.get? b=some o->o.data = .dict C D->H b=none:=fun{b o C D} e d=>by
   cases q:H b with
   | none=>rfl
   | some u =>
    have T:b=a:=hA b (by rw[q];simp);subst T;rw[L]at e;cases e;have d':Data.seq vs.toArray _=Data.dict C D:=d;cases d'
  have i:∀{b:A2} {m:Str->A4 A1},s₁.heap.Ns b m->(Vt s₁.heap H).Ns b m:=fun{b m} ⟨o,C,D,e,d,r⟩=>⟨o,C,D,c e (S e d),d,r⟩;have E:K.In (Vt s₁.heap H):=fun b o e=>c (Y b o e) (by
   cases q:H b with
   | none=>rfl
   | some u =>
    have T:b=a:=hA b (by rw[q];simp);subst T;rw[hK (by rw[q];simp)]at e;cases e)
  have hM:Mod K p (Vt s₁.heap H):=⟨E,i t,⟨M,i f,O⟩,let⟨mc,h1,h2⟩:=y;⟨mc,i h1,h2⟩⟩;have e0:RV P w K p (Vt s₁.heap H) callerA [] s₁ H:=⟨rfl,hM,fun b o e=>zAk e,Nat.le_of_eq (Oi _ _),trivial,fun b f=>absurd (show b∈([]:A0 A2)from f) (by simp),B,.of_eq hg⟩;refine codeAny_mono ((F _ E (i t)).run callerA [] s₁ H ⟨[.ref a],[]⟩ [.ref a] [.ref a] _ _ hr e0 (l s₁ (.ref a)) (.cons rfl .nil) (Q H hO hS)) fun r g h=>?_;cases r with
  | error e=>exact(R H e g h).elim
  | ok fl =>
   cases fl with
   | next=>exact False.elim h
   | brk=>exact False.elim h
   | cont=>exact False.elim h
   | ret u =>
    obtain⟨v,H',os,G,un,I,r',q⟩:=h;have q':v = .bl true:=q;subst q';obtain rfl:u=Value.bool true:=r';refine⟨rfl,OldK.of_keep fun b o e=>?_,os,G⟩;cases q:H b with
    | none=>exact un.keep b o e q (by intro z;exact absurd (show b∈([]:A0 A2)from z) (by simp)) (by simp)
    | some u =>
     rcases hO b with z | ⟨ob,xs,z⟩
     .rw[q]at z;cases z
     .have z2:=un.frzs b ob _ z;obtain⟨e1,_⟩:=B b _ z;obtain⟨e2,_⟩:=I b _ z2;rw[e]at e1;cases e1;exact e2
 cases U:K.lookup a with
 | some o =>
  have e:=Y a o U;rw[L]at e;cases e;refine j (fun _=>none) (fun _=>.inl rfl) (.inr ⟨_,vs.toArray,_,U,rfl,rfl,rfl,by rw[AQ,A];exact Z,by simpa using rv⟩) (fun b u z=>by have J:(none:A4 HO)=some u:=z;cases J) (fun b z=>absurd rfl z) fun z=>absurd rfl z
 | none =>
  refine j (fun b=>if b=a then some (.frz { cls:=.type "list",data:=.seq vs.toArray } (.lst (ns.map V.int)))else none) (fun b=>?_) (.inl (.inr ⟨{ cls:=.type "list",data:=.seq vs.toArray },AU rfl⟩)) (fun b u z=>?_) (fun b z=>?_) fun _=>U
  .by_cases f:b=a
   .exact .inr ⟨_,_,AU f⟩
   .exact .inl (AO f)
  .by_cases f:b=a
   .have J:=(AU f).symm.trans z;cases J;subst f;exact⟨L,by rw[AB];exact Z,vs,_,rv,L⟩
   .have J:=(AO f).symm.trans z;cases J
  .by_cases f:b=a
   .exact f
   .exact absurd (AO f) z
def TD{l:PySem.W.OpenLaw}{n k:Nat}{q:A6}{i:A0 Str}{J:(Str->A4 A1)->IV->Prop}{E:F1->IV->Prop}{d:DefRec}{K:Params->PySem.W.Frag}{CX:F1->SD}{sp:F1->Sp}{x:Str}
  (L:l.most=some n) (t:n<=sizeLine) (y:d.params.defaults = []) (M:KU k callerA)
  (N:∀(w:F1) (h:IV),E w h->(K w.params).In h)
  (F:∀(w:F1) (m:Str->A4 A1) (r:A2) (h:IV),(K w.params).In h->h.Ns mainGlobals m->m d.name=some (.ref r) ->
   ∃z:JK,(∀(s:A3) (u:A1),BindsTo s z ⟨[u],[]⟩ [(x,u)]) /\
    ∀base:IV,(K w.params).In base->base.Ns mainGlobals m->JC l.prog w (K w.params) m base (CX w) k r z [x] (sp w))
  (A:∀(w:F1) (H:Hp) (a:A2) (ns:A0 Int),ns.length<=n->zFy H->IW (K w.params) H a (ns.map V.int)->sp w [.ref a] H (fun v _=>v = .bl true) fun _ _ _=>False)
  (B:∀(w:F1) (H:Hp) (s:A3) (e:A1) (C:A3),CX w [] H s (fun _ _ _=>False) e C->False) :
  PySem.W.WalkO q i J E l.row.toRowW d [] (fun f vs=>PySem.call f vs):=by
 refine Att.RE L y fun w s₀ s₁ m Z r o pm cd O a vs ns G Y ho hd P D p j c Q=>?_;have I:=N w _ Y;obtain⟨z,R,S⟩:=F w m r _ I G.T.g D;exact Uq I G.T.g G.T.b G.T.builtins G.T.nolimit Q p j (Nat.le_trans c t) M S R (fun H U X=>A w H a ns c U X) fun H e C=>B w H s₁ e C
def J9(s:JF)(j:Nat):JF:=match s with
 | .ClassDef _ _ _ a _ _ _ _ _ _ _=>a.getD j (.Pass ⟨0,0,0,0⟩)
 | _=>.Pass ⟨0,0,0,0⟩
def Q1(s:JF):Arguments:=match s with
 | .FunctionDef _ a _ _ _ _ _ _ _ _=>a
 | _=>{ posonlyargs:=[],args:=[],vararg:=none,kwonlyargs:=[],kw_defaults:=[],kwarg:=none,defaults:=[] }
def M9(s:JF):A0 JF:=match s with
 | .FunctionDef _ _ b _ _ _ _ _ _ _=>b
 | _=>[]
def B5(s:JF):JY:=match s with
 | .FunctionDef _ _ _ _ _ _ a _ _ _=>a
 | _=>{ kind:=.function,names:=[],isGenerator:=false,isCoroutine:=false }
abbrev KB:SD:=fun _ _ _ _ _ _=>False
abbrev E0:XK:=fun _ _ _=>False
def M6{X:Cx}:o7 KB X E0:=fun _ _ _ _ _ _ _ h=>h.elim
structure SB(K:PySem.W.Frag)(x qual:Str)(st:JF)(f:A2)(fd:JK):Prop where
 ex:∃(oc:A1) (od:A4 A2) (kV doc pm:A1) (an:A4 A2) (cdv ct:A1) (osl:A7 (A4 A1)),
  fd=PySem.W.fnOf x qual (Q1 st) (M9 st) (B5 st) .none kV doc pm an cdv ct/\K.lookup f=some ⟨oc,od,.func fd,osl⟩/\PySem.W.codeIn K cdv qual=true
 kp:PySem.W.keepIn K (.ref f)=true
section
variable{P:A6}{w:F1}{K:PySem.W.Frag}{mg:Str->A4 A1}{base:IV}
theorem SB.ok{x b:Str}{st:JF}{f:A2}{j:JK}{N ps:A0 Str}{k:Nat}{sp:Sp}(F:SB K x b st f j)(S:IT N ps (B5 st))(e:∀vs H Q E,sp vs H Q E->vs.length=ps.length)
  (d:∀(c:A1) (A:IZ) (a:A0 SF) (s:A3) (H:Hp) (vs:A0 V) (Q:VK) (E:XK),KU k (A.deeper (envOfC b (B5 st) s.heap.objs.size f c))->sp vs H Q E ->
   ∃t,R_ (Yo KB P w K mg base N b (B5 st) f c A a s H E).nox (M9 st) t/\t { nx:=fun _ H'=>Q .non H',rt:=Q } (Cq N vs) H):JC P w K mg base KB (k+1) f j ps sp:=by
 obtain⟨o,p,kV,l,r,u,c,v,m,rfl,lk,g⟩:=F.ex;refine zGa lk g S e fun A a s H vs Q E n i=>?_;obtain⟨t,h,q⟩:=d c A a s H vs Q E n i;exact⟨t,h.nox,q⟩
theorem SB.binds{x a:Str}{st:JF}{f:A2}{g:JK}{ps:A0 Str}(F:SB K x a st f g)
  (h:∀(kV b d:A1) (e:A4 A2) (c ct:A1) (us:A0 A1),us.length=ps.length->bindArgs (PySem.W.fnOf x a (Q1 st) (M9 st) (B5 st) .none kV b d e c ct) ⟨us,[]⟩=pure (ps.zip us)):Binds K g ps []:=by
 obtain⟨k,l,kV,b,d,e,c,ct,i,rfl,lk,j⟩:=F.ex;exact .all (h kV b d e c ct)
theorem MV{x a:Str}{st:JF}{f:A2}{i:A1}{j g:A4 A2}{e:A7 (A4 A1)}{kV d h b ct:A1}(l:K.lookup f=some ⟨i,j,.func (PySem.W.fnOf x a (Q1 st) (M9 st) (B5 st) .none kV d h g b ct),e⟩)
  (c:PySem.W.codeIn K b a=true) (k:PySem.W.keepIn K (.ref f)=true):SB K x a st f (PySem.W.fnOf x a (Q1 st) (M9 st) (B5 st) .none kV d h g b ct):=⟨⟨i,j,kV,d,h,g,b,ct,e,rfl,l,c⟩,k⟩
end
def t8{A:IZ}{k:Nat}(a:KU k A):A.units+1<cLine:=Nat.lt_of_le_of_lt (GK (by decide:1<=64) _) a.units
section
variable{X:Cx}
theorem pv(i:Nat){x:Str}{pos:Pos}(b:X.N[i]?=some x:=by rfl)(c:VD X.env.scope x:=by first | exact Or.inl rfl | exact Or.inr (Or.inl rfl) | exact Or.inr (Or.inr rfl))(d:(x ==("__debug__":Str))=false:=by decide)
  (a:(x ==("__classdict__":Str))=false:=by decide):PE X (.Name x pos) (Dr i):=Wi b c d a
end
def T8{A B:Prop}(h:B):if false=true then A else B:=by
 rw[AO BC];exact h
def Rs{A B:Prop}(h:A):if true=true then A else B:=by
 rw[AU rfl];exact h
def Q6{c A B:Prop}[Decidable c](h1:c->A)(h2:¬c->B):if c then A else B:=by
 by_cases h:c
 .rw[AU h];exact h1 h
 .rw[AO h];exact h2 h
def CM(H H':Hp):Prop:=∀b o,H b=some o->H' b=some o
def CM.refl(H:Hp):CM H H:=fun _ _ h=>h
def CM.trans{H d e:Hp}(a:CM H d)(b:CM d e):CM H e:=fun c o h=>b c o (a c o h)
def CM.free{H H':Hp}(e:CM H H'){l:A2}(h:H' l=Option.none):H l=Option.none:=by
 cases q:H l with
 | none=>rfl
 | some o =>
  rw[e l o q]at h;cases h
section
variable{Z:Type}[DecidableEq Z]
theorem Rb:∀{l:A0 Z} {k:Z},l.Nodup->¬k∈l->(l ++ [k]).Nodup
 | [],k,_,_=>by simp
 | a::r,k,h,b=>by
  obtain⟨c,d⟩:=DV.mp h;show(a ::(r ++ [k])).Nodup;refine DV.mpr ⟨fun m=>?_,Rb d fun m=>b (AV.mpr (Or.inr m))⟩;rcases AS.mp m with q | q
  .exact c q
  .exact b (AV.mpr (Or.inl (AH.mp q).symm))
end
def LS(X:Cx)(a:JY)(cl:A0 (Str×A2))(N':A0 Str)(b:A0 (A2×Obj))(ex:A0 A2)(c:A3)(d:Hp):Cx where
 prog:=X.prog
 w:=X.w
 K:=X.K
 mg:=X.mg
 base:=X.base
 A:=X.A
 N:=N'
 s₀:=c
 H₀:=d
 env:=compEnvC a cl c.heap.objs.size X.env
 outer:=X.stack
 stack:=X.stack
 ex:=ex
 fn:=fun _=>false
 calm:=X.calm
 pn:=X.pn++b
 xe:=fun _ _=>False
def OK(X:Cx)(a:JY)(cl:A0 (Str×A2)):A0 Str->A0 (A4 Nat)->Prop
 | [],[]=>True
 | _::N,none::c=>OK X a cl N c
 | x::N,some j::c=>(X.N[j]?=some x/\X.env.scope.names.lookup x=some .cell/\(relabel a X.env).names.lookup x=some .cell/\cl.lookup x=X.env.cells.lookup x)/\OK X a cl N c
 | _,_=>False
def RL(X:Cx):A0 (Str×A2)->Prop
 | []=>True
 | p::r=>X.env.cells.lookup p.1=some p.2/\RL X r
structure MW(X:Cx)(scope:JY)(cl:A0 (Str×A2))(N':A0 Str)(cap:A0 (A4 Nat)):Prop where
 kind:scope.kind = .function
 nocell:∀y∈scope.names,y.2≠ .cell
 loc:∀y∈scope.names,y.2 = .local->scope.names.lookup y.1=some .local
 clos:closureFor scope X.env=pure cl
 cin:RL X cl
 has:((relabel scope X.env).names.all fun y=>!(y.2 == .cell||y.2 == .free)||(cl.lookup y.1).isSome)=true
 caps:OK X scope cl N' cap
def Ks(cap:A0 (A4 Nat))(σ:St):St:=cap.map fun o=>o.bind fun j=>(σ[j]?).join
def RL.get{X:Cx}:∀{cl:A0 (Str×A2)} {x:Str} {c:A2},RL X cl->cl.lookup x=some c->X.env.cells.lookup x=some c
 | [],_,_,_,h=>by simp at h
 | (y,d)::r,x,c,⟨a,b⟩,h=>by
  rw[IQ]at h;cases e:x == y with
  | true =>
   rw[e]at h;cases h;rw[beq_iff_eq.mp e];exact a
  | false =>
   rw[e]at h;exact RL.get b h
def OK.len{X:Cx}{a:JY}{cl:A0 (Str×A2)}:∀{N:A0 Str} {cap:A0 (A4 Nat)},OK X a cl N cap->cap.length=N.length
 | [],[],_=>rfl
 | _::N,none::c,h=>by rw[BS,BS,OK.len (N:=N) (cap:=c) h]
 | _::N,some j::c,h=>by rw[BS,BS,OK.len h.2]
 | [],_::_,h=>h.elim
 | _::_,[],h=>h.elim
def OK.get{X:Cx}{a:JY}{cl:A0 (Str×A2)}{j:Nat}{x:Str}:∀{N:A0 Str} {cap:A0 (A4 Nat)} {i:Nat},OK X a cl N cap->N[i]?=some x->cap[i]?=some (some j) ->
  X.N[j]?=some x/\X.env.scope.names.lookup x=some .cell/\(relabel a X.env).names.lookup x=some .cell/\cl.lookup x=X.env.cells.lookup x
 | [],_,_,_,h,_=>by simp at h
 | _::_,[],_,_,_,h=>by simp at h
 | y::N,none::c,0,_,_,h=>by simp at h
 | y::N,none::c,i+1,h,b,d=>OK.get (N:=N) (cap:=c) (i:=i) h (by simpa using b) (by simpa using d)
 | y::N,some k::c,0,h,b,d=>by
  simp at b d;subst b;subst d;exact h.1
 | y::N,some k::c,i+1,h,b,d=>OK.get (N:=N) (cap:=c) (i:=i) h.2 (by simpa using b) (by simpa using d)
section
variable{X:Cx}{scope:JY}{cl:A0 (Str×A2)}{N':A0 Str}{cap:A0 (A4 Nat)}{pins:A0 (A2×Obj)}{σ:St}{H3:Hp}{s3:A3}{ex:A0 A2}
theorem j7{p:NY->Bool}:∀{names:A0 (Str×NY)} {q:Str->NY->Bool} {x:Str} {k:NY},(names.all fun y=>q y.1 y.2)=true->names.lookup x=some k->q x k=true
 | [],_,_,_,_,h=>by simp at h
 | (y,d)::r,q,x,k,a,h=>by
  rw[List.all_cons,BU]at a;rw[IQ]at h;cases e:x == y with
  | true =>
   rw[e]at h;cases h;rw[beq_iff_eq.mp e];exact a.1
  | false =>
   rw[e]at h;exact j7 (p:=p) (names:=r) (q:=q) a.2 h
theorem Inv.block(I:Inv X pins σ H3 s3)(S:MW X scope cl N' cap)(hc:X.calm=true)(t:∀b∈ex,w4 X pins H3 b/\∃o,s3.heap.get? b=some o){h1:IV}{T:Nat}
  (G:h1.Ns s3.heap.objs.size (fun _=>none)) (B:∀b o,s3.heap.get? b=some o->h1.get? b=some o) :
  Inv (LS X scope cl N' pins ex s3 H3) [] (Ks cap σ) H3 { s3 with heap:=h1,toks:=T }:=by
 have C:∀b o,s3.heap.get? b=some o->b≠s3.heap.objs.size:=fun b o e=>AY (AJ e);have w:∀x c,cl.lookup x=some c->∃v,s3.heap.IsCell c v:=fun x c e=>I.cell x c (S.cin.get e);have A:H3 s3.heap.objs.size=none:=I.hok.fresh (Nat.le_refl _);refine⟨⟨I.ok.mod,?_,I.ok.glob,I.ok.blt,Nat.le_refl _,fun x y c H g=>I.ok.inj x y c (S.cin.get H) (S.cin.get g),fun x U=>?_,fun x c h _=>absurd h BC,I.ok.hd,I.ok.frames,.inl rfl,fun b D=>?_,I.bs,Nat.le_trans I.ok.bsz I.sz,fun b o e D=>?_,fun b D=>?_,I.stack,I.stkFree⟩,
  rfl,I.bare,Un.kept B,⟨_,G,fun i x v H g e3=>?_⟩,fun x c e=>?_,A,fun x c e=>I.freeC x c (S.cin.get e),fun p V=>?_,I.hok.kept B,?_⟩
 .exact S.kind
 .have q:∀k,(relabel scope X.env).names.lookup x=some k->(!(k == .cell||k == .free)||(cl.lookup x).isSome)=true:=fun k e=>j7 (p:=fun _=>true) (q:=fun a k=>!(k == .cell||k == .free)||(cl.lookup a).isSome) S.has e;have J:(relabel scope X.env).names.lookup x=some .cell\/(relabel scope X.env).names.lookup x=some .free:=U;have:(cl.lookup x).isSome=true:=by
   rcases J with e | e
   .exact q _ e
   .exact q _ e
  exact FF.mp this
 .obtain⟨⟨_,_,_,_,W,_⟩,o,e⟩:=t b D;exact⟨C b o e,fun x c E=>W x c (S.cin.get E)⟩
 .obtain⟨⟨f0,P,Q,f3,_⟩,_⟩:=t b D;rcases f3 with f3 | f3
  .exact I.ok.noex b o e f3
  .have:=(I.ok.bs b o e).1;exact absurd (BF (AJ this) f3) (CQ _)
 .intro K;obtain⟨⟨_,P,Q,_⟩,_⟩:=t b D;rcases AV.mp (I.stkSub b K)with z | z
  .exact P z
  .exact Q z
 .unfold Ks at g;rw[AG]at g;cases E:cap[i]? with
  | none=>rw[E]at g;cases g
  | some o =>
   rw[E]at g;cases o with
   | none=>cases g
   | some j =>
    have f:(σ[j]?).join=some v:=BA g;obtain⟨Y,R,Z,c4⟩:=S.caps.get H E;have F:σ[j]?=some (some v):=by
     cases F:σ[j]? with
     | none=>rw[F]at f;cases f
     | some z=>rw[F]at f;cases z with
      | none=>cases f
      | some z=>cases f;rfl
    obtain⟨m,hn,hl⟩:=I.loc;obtain⟨u,r,l⟩:=hl j x v Y F (.inr (.inl R));refine⟨u,r,?_⟩;rcases l with⟨k,_⟩ | ⟨_,c,L,s⟩
    .have:X.env.scope.names.lookup x=some .local:=k;rw[R]at this;cases this
    .exact .inr ⟨.inl Z,c,c4.trans L,let⟨o,M,N⟩:=s;⟨o,B _ _ M,N⟩⟩
 .obtain⟨v,o,M,N⟩:=w x c e;exact⟨v,o,B _ _ M,N⟩
 .have O:p∈X.pn++pins:=by simpa [LS] using V
  obtain⟨e,n,ne,nf,d⟩:=I.pin p O;refine⟨B _ _ e,n,C _ _ e,fun K=>?_,d⟩;rcases AV.mp (I.stkSub p.1 K)with z | z
  .exact ne z
  .exact nf z
 .unfold Ks;rw[AB];exact S.caps.len
theorem Inv.unblock{σ':St}{H':Hp}{s':A3}{h':IV}(I:Inv X pins σ H3 s3)(g:∀b∈ex,w4 X pins H3 b)(J:Inv (LS X scope cl N' pins ex s3 H3) [] σ' H' s')(f:Heap.SameBut s3.heap.objs.size s'.heap h') :
  Inv X pins σ H' { s' with heap:=h' }:=by
 have d:H' s3.heap.objs.size=none:=J.free;refine I.call' (ch:=ex) J.os ⟨fun b o e n h a=>?_,fun b o e n h a=>?_,fun b o e n a=>?_,fun b o e a=>?_,J.base.tups,J.base.frzs,J.base.tbls⟩ (fun b j e=>?_) J.bare fun b i=>?_
 .exact(f.2 b (AY (AJ e))).trans (J.base.keep b o e n h a)
 .obtain⟨k,q⟩:=J.base.slot b o e n h a;exact⟨k,(f.2 b (AY (AJ e))).trans q⟩
 .exact J.base.free b o e n a
 .obtain⟨l,q⟩:=J.base.there b o e a;exact⟨l,(f.2 b (AY (AJ e))).trans q⟩
 .refine(J.hok b j e).stay (fun c u m q=>(f.2 c ?_).trans q) (fun _ q=>q) fun _ _ q=>q;rintro rfl;rcases m with z | z
  .rw[<-z,d]at e;cases e
  .rw[d]at z;cases z
 .obtain⟨_,p,_,r,s,t⟩:=g b i;exact⟨r,p,s,t⟩
end
def Ch(e:IY)(d:Nat)(iter tg:IY)(ifs:A0 IY)(b:Sem Fin->Sem Fin)(g f:A1)(a:SF):Sem Fin:=do
 standAt iter.pos
 match <-pyNext g with
 | none=>pure (.done .next)
 | some v =>
  letOwnedTupleGo tg g v
  assign tg a v
  let mut h:=true
  for c in ifs do
   if h then h <-isTrue c a (eval c a)
  if h then b (again (.compLoop e d g f a))else again (.compLoop e d g f a)
def emL(a:IY)(b:A1)(c:SF)(k:Sem Fin):Sem Fin:=(do let _ <-call (.builtin "list.append") [b,<-eval a c]:Sem Unit) >>= fun _=>k
def emD(a b:IY)(D:A2)(c:SF)(k:Sem Fin):Sem Fin:=(do
   let d <-eval a c
   let e <-holding [d] (eval b c)
   standAt { a.pos with endLine:=b.pos.endLine,endCol:=b.pos.endCol }
   holding [d,e] (dictSet D d e):Sem Unit) >>= fun _=>k
def emS(a:IY)(b:A1)(c:SF)(k:Sem Fin):Sem Fin:=(do let v <-eval a c;standAt a.pos;let _ <-call (.builtin "set.add") [b,v]:Sem Unit) >>= fun _=>k
def emN(e a:IY)(d:Nat)(c:A1)(b:SF)(k:Sem Fin):Sem Fin:=do
    let x <-eval a b
    standAt a.pos
    let x <-foldedSetIterable a b x
    let _ <-runOwn (.compStart e d (<-holding [x] (pyIter x)) c b) b
    k
def j9(b tg iter:IY)(ifs:A0 IY)(a:JY)(pos:Pos)(e c:A1)(d:SF) :
  compTurn (.ListComp b [⟨tg,iter,ifs,0⟩] a pos) 0 e c d=Ch (.ListComp b [⟨tg,iter,ifs,0⟩] a pos) 0 iter tg ifs (emL b c d) e c d:=rfl
def Mu(k v tg iter:IY)(ifs:A0 IY)(a:JY)(pos:Pos)(c:A1)(D:A2)(b:SF) :
  compTurn (.DictComp k v [⟨tg,iter,ifs,0⟩] a pos) 0 c (.ref D) b=Ch (.DictComp k v [⟨tg,iter,ifs,0⟩] a pos) 0 iter tg ifs (emD k v D b) c (.ref D) b:=rfl
def Nk(d tg iter e a:IY)(ifs b:A0 IY)(c:JY)(pos:Pos)(h f:A1)(g:SF) :
  compTurn (.SetComp d [⟨tg,iter,ifs,0⟩,⟨e,a,b,0⟩] c pos) 1 h f g=Ch (.SetComp d [⟨tg,iter,ifs,0⟩,⟨e,a,b,0⟩] c pos) 1 a e b (emS d f g) h f g:=rfl
def Md(d tg iter e a:IY)(ifs c:A0 IY)(b:JY)(pos:Pos)(h f:A1)(g:SF) :
  compTurn (.SetComp d [⟨tg,iter,ifs,0⟩,⟨e,a,c,0⟩] b pos) 0 h f g=Ch (.SetComp d [⟨tg,iter,ifs,0⟩,⟨e,a,c,0⟩] b pos) 0 iter tg ifs
   (emN (.SetComp d [⟨tg,iter,ifs,0⟩,⟨e,a,c,0⟩] b pos) a 1 f g) h f g:=rfl
abbrev R6:=St->Hp->(St->Hp->Prop)->Prop
def VF(X:Cx)(b:Sem Fin->Sem Fin)(t:R6):Prop :=
 ∀(a:A0 (A2×Obj)) (s:A3) (σ:St) (H:Hp) (Q:St->Hp->Prop) (k:Sem Fin) (F:Fin->A3->Prop) (E:A1->A3->Prop),Inv X a σ H s->t σ H Q ->
  (∀c σ' d,Inv X a σ' d c->Q σ' d->wpAny (model X.prog X.w) X.A k F E c)->wpAny (model X.prog X.w) X.A (b k) F E s
def SG(X:Cx)(ifs:A0 IY)(t:TT):Prop :=
 ∀(a:A0 (A2×Obj)) (s:A3) (σ:St) (H:Hp) (Q:Bool->Hp->Prop),Inv X a σ H s->t σ H Q ->
  wpAny (model X.prog X.w) X.A (forIn ifs true fun c r=>if r=true then do let b <-isTrue c X.env (eval c X.env);pure (ForInStep.yield b)else pure (ForInStep.yield r)) (TP X a σ Q) X.xe s
def X4:TT:=fun _ H Q=>Q true H
def D8{X:Cx}:SG X [] X4:=fun _ _ _ H _ I h=>wpAny_tests_nil ⟨H,I,h⟩
def P9{X:Cx}{c:IY}{t:TT}(h:PT X c t):SG X [c] t:=fun a s σ H Q I q=>wpAny_tests_one (h a s σ H Q I q)
def Y7(g:TG)(e:TT)(f:R6)(J:It)(σ:St)(H:Hp)(Q:St->Hp->Prop):Prop :=
 ∃W:Nat->Nat->St->Hp->Prop,(∃m,W 0 m σ H)/\∀i m σ H,W i m σ H->(J.stop i H/\Q σ H)\/(J.go i H/\∀x c,J.yld i H x c->g x σ c fun σ2 h=>e σ2 h fun b d =>
  if b=true then f σ2 d fun σ3 j=>∃a,a < m/\W (i+1) a σ3 j else ∃a,a < m/\W (i+1) a σ2 d)
section
variable{X:Cx}{e tg iter:IY}{d:Nat}{ifs:A0 IY}{emit:Sem Fin->Sem Fin}{it:A2}{acc:A1}{g:TG}{tc:TT}{em:R6}{J:It}{fp:A0 A2}{tn:Nat->IV->Prop}{R:Result->A3->Prop}
theorem Q3(G:X.A.under (.compLoop e d (.ref it) acc X.env)=X.A)(t:(model X.prog X.w).den (.compLoop e d (.ref it) acc X.env) =(compTurn e d (.ref it) acc X.env).onRaise (fun x=>do noteFrame x X.env;theTreesLotGoes x))(V:X.calm=true)(L:X.xe=fun _ _=>False)(M:compTurn e d (.ref it) acc X.env=Ch e d iter tg ifs emit (.ref it) acc X.env)(hg:PG X tg g)(ht:SG X ifs tc)(N:VF X emit em)
  (T:MK X.prog X.w X.K tg J fp it tn) {a:A0 (A2×Obj)} {s:A3} {σ:St} {H:Hp} {Q:St->Hp->Prop} (I:Inv X a σ H s) (st:tn 0 s.heap) (Y:∀b∈fp,w4 X a H b) (h:Y7 g tc em J σ H Q)
  (hR:∀v σ' H',Inv X a σ' H' v->Q σ' H'->R (.ok .next) v):codeAny (model X.prog X.w) X.A (.compLoop e d (.ref it) acc X.env) R s:=by
 obtain⟨W,⟨m0,w0⟩,y⟩:=h;have c:∀{H':Hp},(∀b∈fp,H' b=none)->∀b∈fp,w4 X a H' b:=fun hn b f=>⟨hn b f,(Y b f).2⟩;have Z:∀{α:Type} {m:Sem α} {P:α->A3->Prop} {E:A1->A3->Prop} {s:A3},wpAny (model X.prog X.w) X.A m P X.xe s->wpAny (model X.prog X.w) X.A m P E s:=fun q=>by
  rw[L]at q;exact CF q (fun _ _ z=>z) fun _ _ z=>z.elim
 refine codeAny_loop rfl (fun n v=>∃i σ' H',Inv X a σ' H' v/\tn i v.heap/\(∀b∈fp,H' b=none)/\W i n σ' H') (fun n s3 hI=>?_) m0 ⟨0,σ,H,I,st,fun b f=>(Y b f).1,w0⟩;obtain⟨i,σ3,D,I3,B,C,w3⟩:=hI;rw[G,t];refine wpAny_noted ?_;rw[M];unfold Ch;refine AA (FT (AA ?_));rcases y i n σ3 D w3 with⟨stop,qn⟩ | ⟨go,step⟩
 .refine CF (T.done X rfl rfl rfl V i a s3 σ3 D _ I3 (c C) B stop) (fun r s4 ⟨O,I4⟩=>?_) fun _ _ z=>z;subst O;exact AE (hR s4 σ3 D I4 qn)
 .refine CF (T.item X rfl rfl rfl V i a s3 σ3 D _ I3 (c C) B go) (fun r s4 ⟨u,O,h4⟩=>?_) fun _ _ z=>z;subst O;refine AA (CF h4 (fun _ s5 ⟨x,H5,I5,r5,y5,j,S⟩=>?_) fun _ _ z=>z);have U:=I5.pinned (c S) (T.obj _ _ j);have again:∀{σ7:St} {k:Hp} {l:A3},Inv X (a++Gp fp s5.heap) σ7 k l->(∃F,F < n/\W (i+1) F σ7 k)->∃m,m<n/\∃i σ' H',Inv X a σ' H' l/\tn i l.heap/\(∀b∈fp,H' b=none)/\W i m σ' H':=fun{σ7 k l} p n7=>by
   obtain⟨F,hm,w7⟩:=n7;refine⟨F,hm,i+1,σ7,k,p.unpinned,T.keep _ _ _ j fun b f o e=>(p.pin (b,o) (BZ _ (BZ _ (T5 f e)))).1,fun b f=>?_,w7⟩;obtain⟨o,e,d⟩:=T.obj _ _ j b f;exact(p.pin (b,o) (BZ _ (BZ _ (T5 f e)))).2.1
  refine AA (CF (Z (hg _ s5 σ3 H5 x u _ U r5 (step x H5 y5))) (fun _ s6 ⟨σ6,H6,I6,q6⟩=>?_) fun _ _ z=>z);refine AA (CF (Z (ht _ s6 σ6 H6 _ I6 q6)) (fun ok l ⟨k,p,q7⟩=>?_) fun _ _ z=>z);cases ok with
  | false=>exact AE ⟨rfl,again p q7⟩
  | true =>
   exact N _ l σ6 k _ _ _ _ p q7 fun s8 σ8 H8 I8 q8=>AE ⟨rfl,again I8 q8⟩
theorem T1(f:X.A.under (.compStart e d (.ref it) acc X.env)=X.A)(b:(model X.prog X.w).den (.compStart e d (.ref it) acc X.env) =(compStart e d (.ref it) acc X.env).onRaise (fun x=>do noteFrame x X.env;standAt theWindowsPlace)){gs:A0 Comprehension}(g:clausesOf e=gs)(k:gs[d]?=some ⟨tg,iter,ifs,0⟩){s:A3}(T:MK X.prog X.w X.K tg J fp it tn)(st:tn 0 s.heap)
  (h:codeAny (model X.prog X.w) X.A (.compLoop e d (.ref it) acc X.env) R s):codeAny (model X.prog X.w) X.A (.compStart e d (.ref it) acc X.env) R s:=by
 refine codeAny_of_tree ?_;rw[f,b];refine wpAny_notedAt ?_;unfold compStart;rw[g,k];show wpAny _ X.A (ask >>= _) _ _ s;refine AA (HJ (wpAny_ite ?_));have j:=T.self X.A 0 s (fun a c=>codeAny (model X.prog X.w) X.A (.compLoop e d a acc X.env) R c) (notedBy (model X.prog X.w) X.A X.env fun x c=>R (.error x) c) st h;split
 .first
   | exact AA (AE (AE (And.intro rfl h)))
   | exact AE (And.intro rfl h)
 .first
   | exact AA (EF (AA (FT (AA (CF j (fun a c i=>AE (And.intro rfl i)) fun _ _ x=>x)))))
   | (refine AA (EF ?_);show wpAny _ _ (standAt iter.pos >>= _) _ _ s;exact AA (FT (AA (CF j (fun a c i=>AE (And.intro rfl i)) fun _ _ x=>x))))
end
section
variable{X:Cx}{tg iter:IY}{ifs:A0 IY}{g:TG}{tc:TT}{em:R6}{scope:JY}{cl:A0 (Str×A2)}{N':A0 Str}{cap:A0 (A4 Nat)}{pos:Pos}{wi:TI}
def Ao(wi:TI)(o:A2->HO)(cap:A0 (A4 Nat))(b:A2->It->St->Hp->(St->Hp->Prop)->Prop):TE:=fun σ H Q=>wi σ H fun J a=>∀D,a D=none->b D J (Ks cap σ) (IU a D (o D)) fun _ c=>Q (.ref D) c
theorem Dl{e:IY}{gs:A0 Comprehension}{newAcc:Sem A1}{p2:Pos}(r:clausesOf e =⟨tg,iter,ifs,0⟩::gs)(o:A2->HO)(hs:∀x,foldedSetIterable iter X.env x=pure x)(S:MW X scope cl N' cap)(hc:X.calm=true)(hi:PI X tg iter wi)
  {lp:A2->It->St->Hp->(St->Hp->Prop)->Prop}
  (t:∀(a:A0 (A2×Obj)) (s:A3) (σ:St) (H:Hp) (Q:A1->A3->Prop) (E:A1->A3->Prop),Inv X a σ H s->(∀l,Inv X a σ (IU H s.heap.objs.size (o s.heap.objs.size)) l->(∀b f,s.heap.get? b=some f->l.heap.get? b=some f)->Q (.ref s.heap.objs.size) l)->wpAny (model X.prog X.w) X.A newAcc Q E s)
  (L:∀(a:A0 (A2×Obj)) (M:A0 A2) (s3:A3) (N:Hp) (D k:A2) (fp:A0 A2) (u:Nat->IV->Prop) (J:It) (σ:St) (s:A3) (H:Hp) (Q:St->Hp->Prop) (R:Result->A3->Prop),
   MK X.prog X.w X.K tg J fp k u->Inv (LS X scope cl N' a M s3 N) [] σ H s->u 0 s.heap->(∀b∈fp,w4 (LS X scope cl N' a M s3 N) [] H b)->lp D J σ H Q ->
   (∀l σ' H',Inv (LS X scope cl N' a M s3 N) [] σ' H' l->Q σ' H'->R (.ok .next) l) ->
   codeAny (model X.prog X.w) X.A (.compLoop e 0 (.ref k) (.ref D) (compEnvC scope cl s3.heap.objs.size X.env)) R s)
  (O:∀k D g,X.A.under (.compStart e 0 (.ref k) (.ref D) g)=X.A) (B:∀k D g,(model X.prog X.w).den (.compStart e 0 (.ref k) (.ref D) g) =(compStart e 0 (.ref k) (.ref D) g).onRaise (fun x=>do noteFrame x g;standAt theWindowsPlace))
  (P:∀E Q s,wpAny (model X.prog X.w) X.A (comprehension e scope X.env p2 newAcc false (eval iter X.env)) Q E s->wpAny (model X.prog X.w) X.A (eval e X.env) Q E s) :
  PE X e (Ao wi o cap lp):=by
 intro a s σ H Q I h;refine P _ _ _ (HV (use:=none) r hs S.clos S.kind S.loc (JT (hi a s σ H _ I h) fun v s1 C=>JT C fun itv i h2=>?_));obtain⟨k,fp,u,J,q,U,I2,T,F,f2,R2⟩:=h2;subst U;refine t a i σ q _ _ I2 fun s3 V k3=>?_;have hD:q i.heap.objs.size=none:=I2.hok.fresh (Nat.le_refl _);have n:∀b∈fp,w4 X a (IU q i.heap.objs.size (o i.heap.objs.size)) b/\∃f,s3.heap.get? b=some f:=fun b j=>by
  obtain⟨f,e,_⟩:=T.obj _ _ F b j;obtain⟨W,fr⟩:=f2 b j;exact⟨⟨by rw[B6 (AY (AJ e))];exact W,fr⟩,f,k3 b f e⟩
 refine wpAny_newFunctionEnv S.nocell (by intro y hy;simp at hy) (fun C Y Z=>?_) S.kind;have hk:∀b f,s3.heap.get? b=some f->C.get? b=some f:=fun b f e=>(Z.2 b (AY (AJ e))).trans (AF _ e);have I4:Inv (LS X scope cl N' a fp s3 (IU q i.heap.objs.size (o i.heap.objs.size))) [] (Ks cap σ) (IU q i.heap.objs.size (o i.heap.objs.size)) { s3 with heap:=C,toks:=s3.toks +([]:A0 (Str×A1)).length } :=
  V.block S hc n Y hk
 have G:u 0 C:=T.keep 0 _ _ F fun b j f e=>hk b f (k3 b f e);refine T1 (X:=LS X scope cl N' a fp s3 (IU q i.heap.objs.size (o i.heap.objs.size))) (gs:=⟨tg,iter,ifs,0⟩::gs) (e:=e) (d:=0) (tg:=tg) (iter:=iter) (ifs:=ifs) (O _ _ _) (B _ _ _) r rfl T G ?_;refine L a fp s3 _ i.heap.objs.size k fp u J (Ks cap σ) _ _ _ _ T I4 G (fun b j=>?_) (R2 _ hD) fun l σ' H' I' q'=>?_
 .obtain⟨⟨W,f1,f2',f3,f4,f5⟩,f,eo⟩:=n b j;refine⟨W,AY (AJ eo),fun hf=>?_,.inl j,fun x c e=>f4 x c (S.cin.get e),fun p hp=>f5 p (by simpa [LS] using hp)⟩;rcases AV.mp (V.stkSub b hf)with z | z
  .exact f1 z
  .exact f2' z
 .obtain⟨m,hn,_⟩:=I'.loc;exact⟨m,hn,fun h' j=>⟨.ref _,H',V.unblock (fun b j=>(n b j).1) I' j,rfl,q'⟩⟩
end
section
variable{X:Cx}{tg iter elt:IY}{ifs:A0 IY}{g:TG}{tc:TT}{te:TE}{scope:JY}{cl:A0 (Str×A2)}{N':A0 Str}{cap:A0 (A4 Nat)}{pos:Pos}{wi:TI}
def T7(D:A2)(te:TE):R6:=fun σ H Q=>te σ H fun y b=>∃a,b D=some (.lst a)/\a.length<sizeLine/\Q σ (IU b D (.lst (a ++ [y])))
theorem Bt{α:Type}{X:Cx}(a:X.xe=fun _ _=>False){m:Sem α}{P:α->A3->Prop}{E:A1->A3->Prop}{s:A3}(q:wpAny (model X.prog X.w) X.A m P X.xe s):wpAny (model X.prog X.w) X.A m P E s:=by
 rw[a]at q;exact CF q (fun _ _ z=>z) fun _ _ z=>z.elim
theorem Eh{D:A2}(b:X.xe=fun _ _=>False)(d:PE X elt te):VF X (emL elt (.ref D) X.env) (T7 D te):=by
 intro a s σ H Q k F E I h e;unfold emL;refine AA (AA (CF (Bt b (d a s σ H _ I h)) (fun u f ⟨y,g,i,j,l,m,n,o⟩=>?_) fun _ _ z=>z));refine AA (CF (Bt b (J2 a f σ g (.ref D) [y] (.ref D) [u] (fun v c=>v = .non/\Q σ c) i rfl (.cons j .nil) ⟨D,l,y,rfl,rfl,m,n,rfl,o⟩)) (fun v p ⟨t,c,q,w,_,r⟩=>?_) fun _ _ z=>z);exact AE (e p σ c q r)
theorem K6(S:MW X scope cl N' cap)(i:X.calm=true)(hi:PI X tg iter wi)
  (j:∀(a:A0 (A2×Obj)) (c:A0 A2) (d:A3) (f:Hp),PG (LS X scope cl N' a c d f) tg g/\SG (LS X scope cl N' a c d f) ifs tc/\PE (LS X scope cl N' a c d f) elt te)
  (k:∀x,foldedSetIterable iter X.env x=pure x:=by intro _;rfl) :
  PE X (.ListComp elt [⟨tg,iter,ifs,0⟩] scope pos) (Ao wi (fun _=>.lst []) cap fun D J σ H Q=>Y7 g tc (T7 D te) J σ H Q):=by
 refine Dl (newAcc:=newList []) (p2:=firstIterPos [⟨tg,iter,ifs,0⟩] pos) rfl (fun _=>.lst []) k S i hi (fun a s σ H Q E I h=>?_) (fun a c d f D q r t J σ s H Q R T I st l h m=>?_) (fun _ _ _=>rfl) (fun _ _ _=>rfl) (fun E Q s h=>h)
 .refine G_ ?_;exact h _ (I.lnew (t':=s.toks) (its:=[]) .nil (CK _)) fun b u e=>AF _ e
 .obtain⟨n,o,p⟩:=j a c d f;exact Q3 (X:=LS X scope cl N' a c d f) rfl rfl i rfl (j9 elt tg iter ifs scope pos _ _ _) n o (Eh rfl p) T I st l h m
def Rk(D:A2)(c d:TE):R6:=fun σ H Q=>c σ H fun y e=>d σ e fun v b=>∃a k,b D=some (.dK a)/\y=kV k/\a.length<sizeLine/\Q σ (IU b D (.dK (Lf a k v)))
theorem Tu{D:A2}{a b:IY}{j m:TE}(d:X.xe=fun _ _=>False)(o:PE X a j)(p:PE X b m):VF X (emD a b D X.env) (Rk D j m):=by
 intro c s σ H Q k F E I h t;unfold emD;refine AA (AA (CF (Bt d (o c s σ H _ I h)) (fun u w ⟨y,x,A,B,C⟩=>?_) fun _ _ z=>z));refine AA (CG (CF (Bt d (p c w σ x _ A C)) (fun r G ⟨v,W,n,J,f,kk,e,K,l,L⟩=>?_) fun _ _ z=>z));refine AA (FT (CG ?_));subst K;obtain⟨z,M,N,g,O⟩:=zBm n.hok e;have P:N.length<=sizeLine:=by rw[<-g.length];exact z
 have R:(Lf f kk v).length<=sizeLine:=by have:=V1 f kk v;omega
 refine wpAny_dictSet_pairs (hsz:=P) (Pb B) O fun S i T=>?_;have U:∃q,S.get? D=some q:=let⟨q,_,_,V,_⟩:=i;⟨q,V⟩;exact t _ σ _ (Xy (t':=G.toks+1) n (by rw[e];exact True.intro) T U (zBc R M (g.put kk J) i)) L
theorem Np{a b:IY}{j k:TE}(S:MW X scope cl N' cap)(l:X.calm=true)(hi:PI X tg iter wi)
  (m:∀(c:A0 (A2×Obj)) (d:A0 A2) (f:A3) (i:Hp),PG (LS X scope cl N' c d f i) tg g/\SG (LS X scope cl N' c d f i) ifs tc/\PE (LS X scope cl N' c d f i) a j/\PE (LS X scope cl N' c d f i) b k)
  (n:∀x,foldedSetIterable iter X.env x=pure x:=by intro _;rfl) :
  PE X (.DictComp a b [⟨tg,iter,ifs,0⟩] scope pos) (Ao wi (fun _=>.dK []) cap fun D J σ H Q=>Y7 g tc (Rk D j k) J σ H Q):=by
 refine Dl (newAcc:=newDict) (p2:=firstIterPos [⟨tg,iter,ifs,0⟩] pos) rfl (fun _=>.dK []) n S l hi (fun c s σ H Q E I h=>?_) (fun c d f i D y z A J σ s H Q R T I st p h r=>?_) (fun _ _ _=>rfl) (fun _ _ _=>rfl) (fun E Q s h=>h)
 .refine DJ ?_;exact h _ (I.laid (a:=s.heap.objs.size) (o:=.dK []) (t':=s.toks) (fun _ _ q=>AF _ q) (Nat.le_refl _) (Us s.heap I.big)) fun b B e=>AF _ e
 .obtain⟨t,u,v,w⟩:=m c d f i;exact Q3 (X:=LS X scope cl N' c d f i) rfl rfl l rfl (Mu a b tg iter ifs scope pos _ _ _) t u (Tu rfl v w) T I st p h r
end
instance:LawfulBEq JZ where
 rfl {a}:=by cases a with
  | inl i=>show(i == i)=true;simp
  | inr x=>show(x == x)=true;simp
 eq_of_beq {a b} h:=by
  cases a with
  | inl i=>cases b with
   | inl j=>exact congrArg Sum.inl (eq_of_beq (show(i == j)=true from h))
   | inr j=>exact absurd h (by intro z;cases z)
  | inr i=>cases b with
   | inl j=>exact absurd h (by intro z;cases z)
   | inr j=>exact congrArg Sum.inr (eq_of_beq (show(i == j)=true from h))
def Nv(P:A6)(w:F1)(a:A2)(l:A0 JZ):HO:=.ext fun h=>h.SetOf (C4 P w) a (fun k=>decide (k∈l)) l.length
section
variable{X:Cx}{pins:A0 (A2×Obj)}{σ:St}{H:Hp}{s:A3}{a:A2}{l:A0 JZ}
theorem zBw{P:A6}{w:F1}{H:Hp}{h:IV}(z:h.SetOf (C4 P w) a (fun k=>decide (k∈l)) l.length):JH P w H h a (Nv P w a l) :=
 ⟨z,let⟨o,_,_,_,e,_⟩:=z;⟨o,e⟩,fun d f ⟨o,b,c,t,e,r⟩ k=>⟨o,b,c,t,k o e,r⟩⟩
theorem Inv.set(I:Inv X pins σ H s)(e:H a=some (Nv X.prog X.w a l)):s.heap.SetOf (C4 X.prog X.w) a (fun k=>decide (k∈l)) l.length:=by
 obtain⟨z,_⟩:=(show JH X.prog X.w H s.heap a (Nv X.prog X.w a l)from I.hok a _ e);exact z
theorem Lz{k:JZ}{u:A1}(r:RelV (kV k) u):u.scannable=true:=by
 cases k with
 | inl i=>obtain⟨t,rfl⟩:=r;rfl
 | inr x=>obtain⟨t,rfl⟩:=r;rfl
def zEt(l:A0 JZ)(k:JZ):A0 JZ:=if k∈l then l else l ++ [k]
theorem Jv{P:A6}{w:F1}{h:IV}{S b:JZ->Bool}{n c:Nat}(z:h.SetOf (C4 P w) a S n)(e:∀k,b k=S k)(en:c=n):h.SetOf (C4 P w) a b c:=by
 have:b=S:=funext e;subst this;subst en;exact z
theorem Qt:E9 X (.type "set") (fun xs H Q=>xs = []/\∀p,H p=none->Q (.ref p) (IU H p (Nv X.prog X.w p []))):=by
 intro pins s σ H xs c Q I r h;obtain⟨rfl,q⟩:=h;cases r;refine call_set_0 fun a=>⟨.ref s.heap.objs.size,_,I.laid (t':=s.toks) (fun b o e=>AF _ e) (Nat.le_refl _) (zBw ?_),rfl,q _ (I.hok.fresh (Nat.le_refl _))⟩;exact(setObjOf_fresh a).setOf (AN _ rfl) (by decide)
def zBu(P:A6)(w:F1):V->A0 V->Hp->VK->Prop:=fun x b H Q=>∃a l k,x = .ref a/\b = [kV k]/\H a=some (Nv P w a l)/\l.length+1<4096/\Q .non (IU H a (Nv P w a (zEt l k)))
theorem zBo:RT X "set.add" (zBu X.prog X.w):=by
 intro pins s σ H x r v t Q I g i h;obtain⟨a,l,k,rfl,rfl,c,j,q⟩:=h;cases g;obtain⟨u,rfl,d⟩:=i.one;refine call_set_add (Pb d) (Lz d) (I.set c) j fun y m z=>?_;refine⟨.non,_,I.write (x:=a) (e:=a) (t':=s.toks+1) (by rw[c];exact True.intro) (.inl rfl) (fun b q n e=>(m.2 b n).trans e) (let⟨o,_,_,_,e,_⟩:=z;⟨o,e⟩) (zBw (Jv z (fun p=>?_) ?_)),rfl,q⟩
 .unfold zEt;by_cases e:k∈l
  .rw[AU e];by_cases f:p=k
   .subst f;simp[e]
   .simp[f]
  .rw[AO e];simp
 .unfold zEt;by_cases e:k∈l
  .rw[AU e];simp[e]
  .rw[AO e];simp[e]
def zGo(P:A6)(w:F1)(neg:Bool):R2:=fun x y H Q=>∃a l k,y = .ref a/\x=kV k/\H a=some (Nv P w a l)/\Q (.bl (if neg then !decide (k∈l)else decide (k∈l))) H
theorem Of:LW X (compareOp .In) (zGo X.prog X.w false):=by
 intro pins s σ H x y v u Q I b c h;obtain⟨a,l,k,rfl,rfl,d,q⟩:=h;cases c;exact wpAny_inSet_of (Pb b) (Lz b) (I.set d) ⟨.bl (decide (k∈l)),H,I.tok _,rfl,q⟩
end
section
variable{X:Cx}{tg iter elt tg2 iter2:IY}{g g2:TG}{tc tc2:TT}{te:TE}{ifs ifs2:A0 IY}{scope:JY}{cl:A0 (Str×A2)}{N':A0 Str}{cap:A0 (A4 Nat)}{pos:Pos}{wi wi2:TI}
def zFe(wi:TI)(a:It->St->Hp->(St->Hp->Prop)->Prop):R6:=fun σ H Q=>wi σ H fun J b=>a J σ b Q
end
def TY(x:Str):It:=⟨fun i _=>i<x.cps.size,fun i H v a=>a=H/\∃c,x.cps[i]?=some c/\v = .str ⟨#[c]⟩,fun i _=>i=x.cps.size⟩
def Mb{P:A6}{w:F1}{K:PySem.W.Frag}{tg:IY}(a:A2)(x:Str)(t:Tok)(ty:String)(p:["enumerate", "zip", "dict_itemiterator", "dict_reverseitemiterator", "odict_iterator", "itertools.zip_longest", "itertools.pairwise"].contains ty=false)
  (W:∀R:IZ,R.handled=none->Walks P w R a [a] [a] x.cps.size (SignAt x) (fun i h=>h.IsStrIter a ty x t i))
  (g:∀(A:IZ) (i:Nat) (s:A3) (Q:A1->A3->Prop) (E:A1->A3->Prop),s.heap.IsStrIter a ty x t i->Q (.ref a) s->wpAny (model P w) A (pyIter (.ref a)) Q E s):MK P w K tg (TY x) [a] a (fun i h=>h.IsStrIter a ty x t i) where
 mem:=by simp
 obj:=fun i h st b j=>by
  have e:b=a:=by simpa using j
  subst e;obtain⟨o,e,c,d⟩:=st;exact⟨o,e,fun v z=>by rw[d]at z;cases z⟩
 keep:=fun i h m st k=>let⟨o,e,r⟩:=st;⟨o,k a (by simp) o e,r⟩
 item:=by
  intro X q y B C i f s σ H E I n st D;subst q y B;obtain⟨F,G,S,J,L,M⟩:=n a (by simp);refine(W X.A (I.ok.hd C)).item i s _ _ D st fun v m N T l k=>?_;obtain⟨c,u,U,V⟩:=T;have Y:Inv X f σ H { s with heap:=m,toks:=N }:=I.turned (fun b o j e=>k b o (by simpa using j) e) F G J L M;obtain⟨o,e,Z,d⟩:=id l;exact⟨v,rfl,Na (s:={ s with heap:=m,toks:=N }) e Z d p ⟨.str ⟨#[c]⟩,H,Y,⟨u,V⟩,⟨rfl,c,U,rfl⟩,l,fun b j=>(n b j).1⟩⟩
 done:=by
  intro X q y B C i f s σ H E I n st D;subst q y B;obtain⟨F,G,S,J,L,M⟩:=n a (by simp);have O:i=x.cps.size:=D;subst O;exact(W X.A (I.ok.hd C)).done s _ _ st fun m N k=>⟨rfl,I.turned (fun b o j e=>k b o (by simpa using j) e) F G J L M⟩
 self:=fun A i s Q E st h=>g A i s Q E st h
section
variable{X:Cx}{tg:IY}
def zHu(a:TE):TI:=fun σ H R=>a σ H fun x b=>∃z,x = .str z/\R (TY z) b
theorem zDa{l:IY}{k:TE}(n:PE X l k):PI X tg l (zHu k):=by
 intro a s σ H R I h;refine JT (n a s σ H _ I h) fun v s1 ⟨x,p,g,r,u⟩=>?_;obtain⟨z,e,q⟩:=u;subst e;obtain⟨t,rfl⟩:=r;have f:∀(o:Obj) (ty:String),o.cls = .type ty->o.data = .fields #[.str z t,.int (0:Nat) 0]->o.isFreed=false->MK X.prog X.w X.K tg (TY z) [s1.heap.objs.size] s1.heap.objs.size (fun i h=>h.IsStrIter s1.heap.objs.size ty z t i) ->
   PIE X a σ tg R (.ref s1.heap.objs.size) { s1 with heap:=s1.heap.push o }:=fun o ty c d y T=>by
  refine⟨s1.heap.objs.size,[s1.heap.objs.size],_,_,p,rfl,g.kept (t':=s1.toks) fun b o e=>AF _ e,T,⟨o,AN _ y,c,d⟩,fun b B=>?_,q⟩;have e:b=s1.heap.objs.size:=by simpa using B
  subst e;exact g.fpOk (Nat.le_refl _) (g.hok.fresh (Nat.le_refl _))
 cases m:z.cps.all (· < 128)
 .exact wpAny_pyIter_wide m (f _ _ rfl rfl rfl (Mb _ z t "str_iterator" (by decide) (fun C j=>Walks.strWide j _ z t) fun A i s Q E st h=>wpAny_pyIter_striter_wide st h))
 .exact wpAny_pyIter_ascii m (f _ _ rfl rfl rfl (Mb _ z t "str_ascii_iterator" (by decide) (fun C j=>Walks.strAscii j _ z t) fun A i s Q E st h=>wpAny_pyIter_striter_ascii st h))
end
section
variable{X:Cx}
theorem Vr(E:X.calm=true):E9 X (.builtin "all") (fun xs H Q=>∃(p:A2) (bs:A0 Bool),xs = [.ref p]/\IW X.K H p (bs.map V.bl)/\Q (.bl (bs.all id)) H):=by
 intro B s σ H xs M Q I r h;obtain⟨p,bs,rfl,F,q⟩:=h;obtain⟨u,rfl,t⟩:=S2 r;cases t;obtain⟨a,w,x,N⟩:=I.list F;refine call_all_walk (HB x.isList ?_);have y:p≠s.heap.objs.size:=by
  obtain⟨o,n,e,_⟩:=x;exact AY (AJ e)
 refine⟨s.heap.objs.size,_,_,_,_,_,fun i=>bs.getD i true,rfl,Walks.list (A:=X.A.in1) (show X.A.in1.handled=none from I.ok.hd E) _ p y a.toArray,⟨⟨_,AN _ rfl,rfl,rfl⟩,?_⟩,fun i v O P R G J=>?_,fun S T k=>?_⟩
 .obtain⟨o,n,e,c,d,L⟩:=x;exact⟨o,AF _ e,c,n,L⟩
 .have f:(bs.map V.bl)[i]?=some (V.bl (bs.getD i true))/\RelV (V.bl (bs.getD i true)) v:=by
   have g:a[i]?=some v:=by simpa using G
   have j:i<a.length:=(AD.mp g).1;have m:=w.length;rw[AB]at m;have e:(bs.map V.bl)[i]?=some (V.bl (bs.getD i true)):=by
    rw[AG,AC (by omega)];simp[BK,AC (show i<bs.length by omega)]
   obtain⟨u,C,t⟩:=w.get e;rw[g]at C;cases C;exact⟨e,t⟩
  cases f.2;exact DI J
 .have m:=w.length;rw[AB]at m;have e:(List.range a.toArray.size).all (fun i=>bs.getD i true)=bs.all id:=by
   rw[AQ,<-m];rw[B_,CI,CI];constructor
   .intro z b f;obtain⟨i,j,rfl⟩:=GD.mp f;have:=z i (CB.mpr j);simpa [BK,AC j] using this
   .intro z i j;have l:=CB.mp j;have:=z bs[i] (EI l);simpa [BK,AC l] using this
  rw[e];exact⟨.bl (bs.all id),H,I.kept fun b o D=>k b o (by
   intro f;have:b=s.heap.objs.size:=by simpa using f
   exact absurd (AJ D) (by rw[this];exact CQ _)) (AF _ D),rfl,q⟩
theorem j8:∀{ss:A0 Str} {us:A0 A1},JA (ss.map V.str) us->StrsAre us ss
 | [],_,.nil=>.nil
 | _::_,_,.cons ⟨t,e⟩ r=>by subst e;exact .cons _ _ (j8 r)
def RB(a b:Str):Prop:=¬b.cps.toList<a.cps.toList
theorem q0:E9 X (.builtin "sorted") (fun xs H Q=>∃(p:A2) (ss:A0 Str),xs = [.ref p]/\IW X.K H p (ss.map V.str)/\∀(l:A2) (c:A0 Str),H l=none->c.Perm ss->c.Pairwise RB->Q (.ref l) (IU H l (.lst (c.map V.str)))):=by
 intro E s σ H xs f Q I r h;obtain⟨p,ss,rfl,L,q⟩:=h;obtain⟨u,rfl,M⟩:=S2 r;cases M;obtain⟨g,F,N,W⟩:=I.list L;have j:=j8 F;have Y:=F.length;refine TS.MM (collect_list (vs:=g) N.isList ?_ (by omega));refine⟨rfl,by omega,strKind,oneType',fun Z _=>TS.ON j,fun a G e O k P=>?_⟩;have i:((s.heap.push (seqObj "list" #[] 0)).update s.heap.objs.size (Obj.mapSeq (· ++ g.toArray))).objs.size=s.heap.objs.size+1:=by rw[EN,size_push']
 obtain⟨m,R⟩:=O;have n:∀v∈a.toList,∃x t,v = .str x t:=fun v w=>j.all v (m.mem_iff.mp w);have w:JA ((a.toList.map strOf).map V.str) a.toList:=by
  have:∀f:A0 A1,(∀v∈f,∃x t,v = .str x t)->JA ((f.map strOf).map V.str) f:=by
   intro f
   induction f with
   | nil=>exact fun _=>.nil
   | cons v r S =>
    intro h;obtain⟨x,t,rfl⟩:=h v (BG ..);exact .cons ⟨t,rfl⟩ (S fun u z=>h u (A_ _ z))
  exact this _ n
 have d:(a.toList.map strOf).Perm ss:=by
  have:=m.map strOf
  rwa [j.strs]at this
 have A:(a.toList.map strOf).Pairwise RB:=by
  rw[BX];refine(E_.mp R).imp fun{u v} ⟨z,B,q⟩=>?_;obtain⟨x,t,rfl⟩:=n u z;obtain⟨y,t',rfl⟩:=n v B;have T:decide (y.cps.toList<x.cps.toList)=false:=q;exact of_decide_eq_false T
 have C:∀b o,s.heap.get? b=some o->G.get? b=some o:=fun b o J=>k b o (by
  rw[HQ _ _ _ _ (AY (AJ J))];exact AF _ J)
 have U:H (s.heap.objs.size+1)=none:=I.hok.fresh (D_ _);have D:G.get? (s.heap.objs.size+1)=some (seqObj "list" a e):=by rw[<-i];exact P
 refine⟨.ref (s.heap.objs.size+1),IU H (s.heap.objs.size+1) (.lst ((a.toList.map strOf).map V.str)),?_,by show Value.ref _=_;rw[<-i],q _ _ U d A⟩;refine I.laid (t':=s.toks) C (D_ _) ⟨?_,a.toList,e,w,by simpa using D⟩;rw[AB,AB,m.length_eq];omega
end
def T0{α β:Type}(f:α->β){l m:A0 β}(h:l.Perm m):∀ps:A0 α,m=ps.map f->∃a:A0 α,a.Perm ps/\l=a.map f:=by
 induction h with
 | nil=>intro ps e;exact⟨ps,.refl _,e⟩
 | cons x _ n =>
  intro ps e;cases ps with
  | nil=>cases e
  | cons p ps =>
   rw[BB]at e;obtain⟨rfl,b⟩:=FS e;obtain⟨a,c,d⟩:=n ps b;exact⟨p::a,.cons _ c,by rw[BB,d]⟩
 | swap x y l =>
  intro ps e
  match ps,e with
  | p::q::ps,e =>
   rw[BB,BB]at e;obtain⟨rfl,b⟩:=FS e;obtain⟨rfl,o⟩:=FS b;exact⟨q::p::ps,.swap _ _ _,by rw[BB,BB,o]⟩
 | trans _ _ g i =>
  intro ps e;obtain⟨j,c,d⟩:=i ps e;obtain⟨k,r,s⟩:=g j d;exact⟨k,r.trans c,s⟩
abbrev JI:=A2×Str×Str
def zGr(q:JI):A0 Nat×A0 Nat:=(q.2.1.cps.toList,q.2.2.cps.toList)
def VB(q r:JI):Prop:=TS.JP (zGr r) (zGr q)=false
def E2(H:Hp)(q:JI):Prop:=H q.1=some (.tup [.str q.2.1,.str q.2.2])
def An:∀{ps:A0 JI} {us:A0 A1},JA (ps.map fun q=>V.ref q.1) us->us=ps.map fun q=>Value.ref q.1
 | [],_,.nil=>rfl
 | _::_,_,.cons r t=>by rw[BB,An t];cases r;rfl
def Gm:∀(ps:A0 JI),JA (ps.map fun q=>V.ref q.1) (ps.map fun q=>Value.ref q.1)
 | []=>.nil
 | _::ps=>.cons rfl (Gm ps)
section
variable{X:Cx}
theorem Inv.pairAt{a:A0 (A2×Obj)}{σ:St}{H:Hp}{s:A3}{q:JI}(I:Inv X a σ H s)(h:E2 H q):TS.JR s.heap (.ref q.1) q.2.1 q.2.2:=by
 obtain⟨b,f,⟨o,e,c,n,d⟩,_⟩:=I.tuple (KQ.of h);obtain⟨i,j,rfl,⟨t,rfl⟩,⟨g,rfl⟩⟩:=f.two;exact⟨q.1,o,n,t,g,rfl,e,c,d⟩
theorem Fb:E9 X (.builtin "sorted") (fun xs H Q=>∃(p:A2) (ps:A0 JI),xs = [.ref p]/\IW X.K H p (ps.map fun q=>V.ref q.1)/\(∀q∈ps,E2 H q) /\
  ∀(l:A2) (c:A0 JI),H l=none->c.Perm ps->c.Pairwise VB->Q (.ref l) (IU H l (.lst (c.map fun q=>V.ref q.1)))):=by
 intro B s σ H xs us Q I r h;obtain⟨p,ps,rfl,j,x,q⟩:=h;obtain⟨u,rfl,N⟩:=S2 r;cases N;obtain⟨d,C,O,D⟩:=I.list j;have E:=An C;have hl:=C.length;refine TS.MM (collect_list (vs:=d) O.isList ?_ (by omega));have f:((s.heap.push (seqObj "list" #[] 0)).update s.heap.objs.size (Obj.mapSeq (· ++ d.toArray))).objs.size=s.heap.objs.size+1:=by rw[EN,size_push']
 have m:∀b o,s.heap.get? b=some o->((s.heap.push (seqObj "list" #[] 0)).update s.heap.objs.size (Obj.mapSeq (· ++ d.toArray))).get? b=some o:=fun b o g=>by
  rw[HQ _ _ _ _ (AY (AJ g))];exact AF _ g
 have i:∀q∈ps,TS.JR s.heap (.ref q.1) q.2.1 q.2.2:=fun q j=>I.pairAt (x q j);refine⟨rfl,by omega,TS.pairKind s.heap,tuples' true,fun s2 P=>TS.RQ (fun v F=>?_) (fun b o g=>?_),fun n R e S k T=>?_⟩
 .rw[E]at F;obtain⟨q,j,rfl⟩:=AI.mp F;exact⟨_,_,i q j⟩
 .have t:b≠((s.heap.push (seqObj "list" #[] 0)).update s.heap.objs.size (Obj.mapSeq (· ++ d.toArray))).objs.size:=by
   rw[f];exact AY (CS (AJ g))
  exact⟨t,P b o t (m b o g)⟩
 .obtain⟨G,J⟩:=S;rw[E]at G;obtain⟨c,w,L⟩:=T0 (fun q:JI=>Value.ref q.1) G ps rfl;have y:c.Pairwise VB:=by
   rw[L,BX]at J;refine(E_.mp J).imp fun{a b} ⟨U,W,z⟩=>?_;have Y:=(i a (w.mem_iff.mp U)).key;have Z:=(i b (w.mem_iff.mp W)).key;have M:TS.JP ((TS.OM s.heap (.ref b.1)).getD ([],[])) ((TS.OM s.heap (.ref a.1)).getD ([],[]))=false:=z;rw[Y,Z]at M;exact M
  have hn:H (s.heap.objs.size+1)=none:=I.hok.fresh (D_ _);have A:R.get? (s.heap.objs.size+1)=some (seqObj "list" n e):=by rw[<-f];exact T
  refine⟨.ref (s.heap.objs.size+1),IU H (s.heap.objs.size+1) (.lst (c.map fun q=>V.ref q.1)),?_,by show Value.ref _=_;rw[<-f],q _ _ hn w y⟩;refine I.laid (t':=s.toks) (fun b o g=>k b o (m b o g)) (D_ _) ⟨?_,n.toList,e,by rw[L];exact Gm c,by simpa using A⟩;rw[AB,w.length_eq];rw[AB]at D;exact D
end
def Inv.turnLaid{X:Cx}{d:A0 (A2×Obj)}{σ:St}{H:Hp}{s:A3}{h':IV}{t':Nat}{fp:A0 A2}{T:A2}{o:HO}(I:Inv X d σ H s)(k:∀b a,b∉fp->s.heap.get? b=some a->h'.get? b=some a)
  (i:∀b∈fp,w4 X d H b) (x:∀b∈fp,∃a,s.heap.get? b=some a) (l:s.heap.objs.size<=T) (j:JH X.prog X.w (IU H T o) h' T o):Inv X d σ (IU H T o) { s with heap:=h',toks:=t' }:=by
 have h:=I.hok.fresh l;have y:∀b a,s.heap.get? b=some a->b≠T:=fun b a e=>AY (BF (AJ e) l);have p:∀b u,H b=some u->b∉fp:=fun b u e f=>by rw[(i b f).1]at e;cases e
 refine I.step (g':=s.gens) (d':=s.drawn) (ch:=fp) (fun b f=>let⟨_,A,_,B,C,D⟩:=i b f;⟨B,A,C,D⟩) (fun b a _ _ g e _=>k b a g e) (fun b a _ _ g e _=>⟨a.slots,k b a g e⟩) (fun b a _ e n=>by rw[B6 (y b a e)];exact n)
  (fun b a g e=>⟨a,k b a g e⟩) (fun b t e=>by rw[B6 (B1 e h)];exact e) (fun b u t e=>by rw[B6 (B1 e h)];exact e) (fun b K e=>⟨#[],by rw[B6 (B1 e h),e];simp⟩) (fun m E=>?_) (fun b u e=>?_) I.bare
 .obtain⟨a,F,G,J,r⟩:=E;exact⟨a,F,G,k _ a (fun f=>(i _ f).2.1 rfl) J,r⟩
 .by_cases f:b=T
  .subst f;rw[A9]at e;cases e;exact j
  .rw[B6 f]at e;refine(I.hok b u e).stay (fun c v g q=>k c v ?_ q) (fun c q=>by rw[B6 (B1 q h)];exact q) fun c t q=>by rw[B6 (B1 q h)];exact q
   rcases g with z | z
   .rw[z];exact p b u e
   .exact p c _ z
def Ite(K:PySem.W.Frag)(a:A2):It :=
 ⟨fun i H=>∃b x,IW K H a b/\b[i]?=some x,fun i H v c=>∃T x,v = .ref T/\H T=none/\c=IU H T (.tup [.int i,x])/\∀b,IW K H a b->b[i]?=some x,fun i H=>∃b,IW K H a b/\b.length=i⟩
def Op{P:A6}{w:F1}{K:PySem.W.Frag}{F:A0 IY}{kk:Nat}{tp:Pos}(a g e:A2)(N:e≠g):MK P w K (.Tuple F kk tp) (Ite K a) [e,g] e (fun i h=>(∃f,IsEnum h e g i f)/\h.IsListIter g a i) where
 mem:=by simp
 obj:=fun i h st b hb=>by
  obtain⟨⟨f,y⟩,o,G,c,d⟩:=st;rcases AV.mp hb with rfl | hb
  .exact⟨_,y,fun v z=>by cases z⟩
  .rw[AH.mp hb];exact⟨o,G,fun v z=>by rw[d]at z;cases z⟩
 keep:=fun i h h' st k=>⟨let⟨f,y⟩:=st.1;⟨f,k e (by simp) _ y⟩,st.2.at fun o x=>k g (by simp) o x⟩
 item:=by
  intro X hP hw hK B i O s σ H E I D st hg;subst hP hw hK;obtain⟨xs,x,Z,hx⟩:=hg;obtain⟨j,rv,p,hz⟩:=I.list Z;obtain⟨u,hu,ru⟩:=rv.get hx;obtain⟨f0,f1,f2,f3,f4,f5⟩:=D e (by simp);obtain⟨g0,g1,g2,g3,g4,g5⟩:=D g (by simp);have J:a≠e:=fun z=>by
   obtain⟨f,y⟩:=st.1;obtain⟨o,n,l,c,_⟩:=p;rw[z,y]at l;cases l;exact absurd c (by show ¬Value.type "enumerate" = Value.type "list";decide)
  have L:a≠g:=fun z=>by
   obtain⟨o2,G,c2,d2⟩:=st.2;obtain⟨o,n,l,c,_⟩:=p;rw[z,G]at l;cases l;rw[c2]at c;exact absurd c (by decide)
  have hi:i<j.toArray.size:=by
   rw[AQ];exact(AD.mp hu).1
  have W:=WalksT.enumerate (prog:=X.prog) (w:=X.w) (A:=X.A) (I.ok.hd B) e g a N J L j.toArray;refine W.item i s _ _ hi ⟨st.1,st.2,p.isList⟩ fun T vals h' tk hv hT ht R k=>?_;obtain⟨t,x',S,rfl⟩:=hv;have:x'=u:=by
   have:j.toArray[i]?=some u:=by simpa using hu
   rw[this]at S;exact(BA S).symm
  subst this;refine⟨.ref T,rfl,W.go F kk tp i T _ _ _ R fun G U k2=>?_⟩;have hTn:H T=none:=I.hok.fresh hT;have V:T≠e:=fun z=>W.apart i T h' R (by simp[z]);have Y:T≠g:=fun z=>W.apart i T h' R (by simp[z]);have kk2:∀b o,b≠e->b≠g->s.heap.get? b=some o->G.get? b=some o:=fun b o b1 b2 M=>k2 b o (by simp[b1,b2]) (k b o (by simp[b1,b2]) M);have hT2:G.IsTuple T #[.int i t,x']:=by
   obtain⟨o,l,r⟩:=ht;exact⟨o,k2 T o (by simp[V,Y]) l,r⟩
  refine⟨.ref T,IU H T (.tup [.int i,x]),I.turnLaid (fp:=[e,g]) (fun b o hb M=>kk2 b o (fun z=>hb (by simp[z])) (fun z=>hb (by simp[z])) M) D (fun b hb=>?_) hT ⟨?_,[.int i t,x'],.cons ⟨t,rfl⟩ (.cons ru .nil),hT2⟩,rfl,⟨T,x,rfl,hTn,rfl,fun ys hy=>by rw[I.list_inj hy Z];exact hx⟩,⟨U.1,U.2.1⟩,fun b hb=>?_⟩
  .rcases AV.mp hb with rfl | hb
   .obtain⟨f,y⟩:=st.1;exact⟨_,y⟩
   .rw[AH.mp hb];obtain⟨o,y,_⟩:=st.2;exact⟨o,y⟩
  .show 2<=sizeLine;decide
  .rcases AV.mp hb with rfl | hb
   .rw[B6 (Ne.symm V)];exact f0
   .rw[AH.mp hb,B6 (Ne.symm Y)];exact g0
 done:=by
  intro X hP hw hK B i O s σ H E I D st hg;subst hP hw hK;obtain⟨xs,Z,hx⟩:=hg;obtain⟨j,rv,p,hz⟩:=I.list Z;obtain⟨f0,f1,f2,f3,f4,f5⟩:=D e (by simp);obtain⟨g0,g1,g2,g3,g4,g5⟩:=D g (by simp);have J:a≠e:=fun z=>by
   obtain⟨f,y⟩:=st.1;obtain⟨o,n,l,c,_⟩:=p;rw[z,y]at l;cases l;exact absurd c (by show ¬Value.type "enumerate" = Value.type "list";decide)
  have L:a≠g:=fun z=>by
   obtain⟨o2,G,c2,d2⟩:=st.2;obtain⟨o,n,l,c,_⟩:=p;rw[z,G]at l;cases l;rw[c2]at c;exact absurd c (by decide)
  have W:=WalksT.enumerate (prog:=X.prog) (w:=X.w) (A:=X.A) (I.ok.hd B) e g a N J L j.toArray;have hl:=rv.length;have hi:i=j.toArray.size:=by rw[AQ];omega
  rw[hi]at st;refine W.done s _ _ ⟨st.1,st.2,p.isList⟩ fun h' tk k=>⟨rfl,?_⟩;have I1:=I.step (h':=h') (H':=H) (t':=tk) (g':=s.gens) (d':=s.drawn) (ch:=[e,g]) (fun b hb=>let⟨_,f1,_,f3,f4,f5⟩:=D b hb;⟨f3,f1,f4,f5⟩) (fun b C _ _ B e _=>k b C B e) (fun b C _ _ B e _=>⟨C.slots,k b C B e⟩) (fun _ _ _ _ n=>n)
   (fun b C B e=>⟨C,k b C B e⟩) (fun _ _ e=>e) (fun _ _ _ e=>e) (fun b ps e=>⟨#[],by rw[e];simp⟩) (fun m R=>?_) (fun b u M=>?_) I.bare
  .exact I1
  .obtain⟨C,es,ep,ho,r⟩:=R;exact⟨C,es,ep,k _ C (fun hb=>(D _ hb).2.1 rfl) ho,r⟩
  .have nf:∀b u,H b=some u->b∉[e,g]:=fun b u e hb=>by rw[(D b hb).1]at e;cases e
   refine(I.hok b u M).stay (fun c v B q=>k c v ?_ q) (fun _ q=>q) fun _ _ q=>q;rcases B with z | z
   .rw[z];exact nf b u M
   .exact nf c _ z
 self:=fun A i s Q E st h=>by
  obtain⟨f,he⟩:=st.1;exact wpAny_pyIter_enum he h
section
variable{X:Cx}{elts:A0 IY}{kk:Nat}{tp:Pos}
def zEf(K:PySem.W.Frag)(c:TA):TI:=fun σ H R=>c σ H fun d b=>∃a e,d = [.ref a]/\IW K b a e/\R (Ite K a) b
theorem zAs{a:IY}{g:TA}{p pos:Pos}(m:Gl X "enumerate")(n:X.mg "enumerate" = none)(o:bootBuiltins "enumerate" = some (.type "enumerate"))(r:PA X [a] g)(t:starEach [a] X.env = [(false,eval a X.env)]:=by rfl):PI X (.Tuple elts kk tp) (.Call (.Name "enumerate" p) [a] [] pos) (zEf X.K g):=by
 intro c s σ H R I h;refine Call_ (o9 I m n o (PyProof.Rows.callWith_type1 (JT (r pos c s σ H _ I h) fun F s1 ⟨G,i,d,v,w⟩=>?_) t rfl));obtain⟨l,J,e,x,q⟩:=w;subst e;obtain⟨u,rfl,y⟩:=S2 v;cases y;obtain⟨A,L,B,M⟩:=d.list x;refine call_enumerate_list B.isList fun C j f D k=>wpAny_pyIter_enum j ?_;have E:Inv X c σ i { s1 with heap:=C }:=d.kept (t':=s1.toks) k;refine⟨s1.heap.objs.size+1,[s1.heap.objs.size+1,s1.heap.objs.size],_,_,i,rfl,E,Op l s1.heap.objs.size (s1.heap.objs.size+1) (Nat.succ_ne_self _),⟨⟨_,j⟩,f⟩,fun b hb=>?_,q⟩;rcases AV.mp hb with z | hb
 .rw[z];exact d.fpOk (D_ _) (d.hok.fresh (D_ _))
 .rw[AH.mp hb];exact d.fpOk (Nat.le_refl _) (d.hok.fresh (Nat.le_refl _))
end
end L2
namespace ST
open PySem
def UR(mask i:Nat):Nat:=(5*i+1) %(mask+1)
def SY(mask:Nat):Nat->Nat->Nat
 | 0,i=>i
 | t+1,i=>SY mask t (UR mask i)
def orb(mask:Nat):Nat->Nat->A0 Nat
 | 0,_=>[]
 | n+1,i=>i::orb mask n (UR mask i)
def Io(mask a b i:Nat):SY mask (a+b) i=SY mask b (SY mask a i):=by
 induction a generalizing i with
 | zero=>rw[ER];rfl
 | succ a c=>rw[Nat.succ_add];exact c (UR mask i)
def Pi{mask j:Nat}:∀{n i:Nat},j∈orb mask n i->∃t,t<n/\SY mask t i=j
 | 0,_,h=>by simp[orb]at h
 | n+1,i,h=>by
  rcases AV.mp h with rfl | h
  .exact⟨0,by omega,rfl⟩
  .obtain⟨t,b,a⟩:=Pi h;exact⟨t+1,by omega,a⟩
def S_(mask:Nat):Prop:=mask=7\/mask=31\/mask=127\/mask=511
def SE(mask:Nat):Bool:=(List.range (mask+1)).all (fun j=>(orb mask (mask+1) 0).contains j)&&SY mask (mask+1) 0 == 0
def zFz:SE 7=true:=by decide +kernel
def zCf:SE 31=true:=by decide +kernel
def Xt:SE 127=true:=by decide +kernel
def Zd:SE 511=true:=by decide +kernel
def S_.full{mask:Nat}(h:S_ mask):SE mask=true:=by
 rcases h with rfl | rfl | rfl | rfl
 .exact zFz
 .exact zCf
 .exact Xt
 .exact Zd
def cyc{mask:Nat}(h:S_ mask){i j:Nat}(hi:i<=mask)(l:j<=mask):∃t,t<=mask/\SY mask t i=j:=by
 have f:=h.full;unfold ST.SE at f;rw[BU,CI]at f;obtain⟨m,d⟩:=f;have d:SY mask (mask+1) 0=0:=by simpa using d
 have c:∀k,k<=mask->∃t,t<mask+1/\SY mask t 0=k:=fun k o=>Pi (by simpa using m k (CB.mpr (by omega)));obtain⟨a,p,e⟩:=c i hi;obtain⟨b,q,g⟩:=c j l;by_cases n:a<=b
 .refine⟨b-a,by omega,?_⟩;rw[<-e,<-Io,show a +(b-a)=b by omega,g]
 .refine⟨mask+1-a+b,by omega,?_⟩;rw[<-e,<-Io,show a +(mask+1-a+b) =(mask+1)+b by omega,Io,d,g]
def PJ(mask:Nat):Nat->Nat×Nat->Nat×Nat
 | 0,x=>x
 | t+1,x=>PJ mask t (SetTable.leap mask x.1 x.2)
def Yu(mask a b:Nat)(x:Nat×Nat):PJ mask (a+b) x=PJ mask b (PJ mask a x):=by
 induction a generalizing x with
 | zero=>rw[ER];rfl
 | succ a c=>rw[Nat.succ_add];exact c _
def Lm(mask:Nat):∀(t:Nat) (x:Nat×Nat),(PJ mask t x).2=x.2 / 32^t
 | 0,x=>by simp[PJ]
 | t+1,x=>by
  show(PJ mask t (SetTable.leap mask x.1 x.2)).2=_;rw[Lm mask t];show x.2 / 32 / 32^t=_;rw[Nat.div_div_eq_div_mul,Nat.pow_succ,Nat.mul_comm]
def Wl(mask:Nat):∀(t:Nat) (x:Nat×Nat),x.1<=mask->(PJ mask t x).1<=mask
 | 0,_,h=>h
 | t+1,x,_=>Wl mask t _ (Nat.lt_succ_iff.mp (Nat.mod_lt _ (Nat.succ_pos _)))
def Ly(mask:Nat):∀(t i:Nat),PJ mask t (i,0) =(SY mask t i,0)
 | 0,_=>rfl
 | t+1,i=>by
  show PJ mask t ((i*5+1+0 / 32) %(mask+1),0 / 32)=_;rw[Nat.zero_div,Nat.add_zero,Ly mask t,Nat.mul_comm];rfl
def Rv{mask:Nat}(h:S_ mask){i j p:Nat}(hi:i<=mask)(a:j<=mask)(b:p<2^64):∃t,t<=mask+13/\(PJ mask t (i,p)).1=j:=by
 have c:(PJ mask 13 (i,p)).2=0:=by
  rw[Lm];exact Nat.div_eq_of_lt (BF b (by decide))
 obtain⟨t,e,d⟩:=cyc h (Wl mask 13 (i,p) hi) a;refine⟨13+t,by omega,?_⟩;rw[Yu];have:PJ mask 13 (i,p) =((PJ mask 13 (i,p)).1,0):=Prod.ext rfl c;rw[this,Ly];exact d
def OH(t:JB):Nat->SetTable.Probe->SetTable.Probe
 | 0,p=>p
 | n+1,p=>OH t n (t.advance p)
def Qk(t:JB)(a b:Nat)(p:SetTable.Probe):OH t (a+b) p=OH t b (OH t a p):=by
 induction a generalizing p with
 | zero=>rw[ER];rfl
 | succ a c=>rw[Nat.succ_add];exact c _
def Pz(t:JB):∀(m:Nat) (p:SetTable.Probe),p.more=m->∃a,OH t (m+1) p=a/\a.i =(SetTable.leap t.mask p.i p.perturb).1/\a.perturb =(SetTable.leap t.mask p.i p.perturb).2/\a.j=a.i/\a.more=SetTable.runEnd t.mask a.i-a.i/\a.dummy=p.dummy
 | 0,p,h=>by
  have b:t.advance p ={ p with j:=(SetTable.leap t.mask p.i p.perturb).1,more:=SetTable.runEnd t.mask (SetTable.leap t.mask p.i p.perturb).1-(SetTable.leap t.mask p.i p.perturb).1,i:=(SetTable.leap t.mask p.i p.perturb).1,perturb:=(SetTable.leap t.mask p.i p.perturb).2 }:=by
   unfold SetTable.advance;rw[AO (by omega)]
  refine⟨t.advance p,rfl,?_⟩;rw[b];exact⟨rfl,rfl,rfl,rfl,rfl⟩
 | m+1,p,h=>by
  have b:t.advance p ={ p with j:=p.j+1,more:=p.more-1 }:=by unfold SetTable.advance;rw[AU (by omega)]
  obtain⟨a,d,c⟩:=Pz t m (t.advance p) (by rw[b];show p.more-1=m;omega);rw[b]at c;exact⟨a,d,c⟩
def zBl(mask i:Nat):SetTable.runEnd mask i-i<=9:=by unfold SetTable.runEnd;split<;>omega
def Rl(t:JB):∀(n:Nat) (p:SetTable.Probe),p.j=p.i->p.more=SetTable.runEnd t.mask p.i-p.i->∃k,k<=10*n/\(OH t k p).j =(PJ t.mask n (p.i,p.perturb)).1
 | 0,p,a,_=>⟨0,by omega,a⟩
 | n+1,p,a,l=>by
  obtain⟨b,e,c,d,f,g,_⟩:=Pz t p.more p rfl;obtain⟨k,m,h⟩:=Rl t n b f g;have:=zBl t.mask p.i;refine⟨p.more+1+k,by omega,?_⟩;rw[Qk,e,h,c,d];rfl
def Ep(t:JB):∀(n:Nat) (p:SetTable.Probe),(OH t n p).dummy=p.dummy
 | 0,_=>rfl
 | n+1,p=>by
  show(OH t n (t.advance p)).dummy=_;rw[Ep t n];unfold SetTable.advance;split<;>rfl
def Ps{t:JB}(a:S_ t.mask)(h:Int){j:Nat}(b:j<=t.mask):∃n,n<10*SetTable.turns t.mask/\(OH t n (t.probeStart h)).j=j:=by
 have c:SetTable.bits h<2^64:=by
  unfold SetTable.bits;have g:0<=h %(2^64:Int):=GX _ (by decide);have i:h %(2^64:Int)<2^64:=FZ _ (by decide);omega
 have d:SetTable.bits h %(t.mask+1)<=t.mask:=Nat.lt_succ_iff.mp (Nat.mod_lt _ (Nat.succ_pos _));obtain⟨n,l,e⟩:=Rv a d b c;obtain⟨k,m,f⟩:=Rl t n (t.probeStart h) rfl rfl;refine⟨k,by unfold SetTable.turns;omega,f.trans e⟩
def m8{t:JB}(a:t.dummies = #[])(j:Nat):t.slot j = .empty\/∃i,t.slot j = .live i/\t.place[i]?=some j:=by
 unfold SetTable.slot;dsimp only;by_cases h:(t.place[SetTable.below t.place j]? == some j)=true
 .rw[AU h];exact .inr ⟨_,rfl,by simpa using h⟩
 .rw[AO h];have:SetTable.has t.dummies j=false:=by
   rw[a];unfold SetTable.has;simp
  rw[this];exact .inl rfl
def My{t:JB}(c:t.dummies = #[])(f:t.place.size<=t.mask):∃j,j<=t.mask/\t.slot j = .empty:=by
 by_cases h:∃j,j<=t.mask/\t.slot j = .empty
 .exact h
 .exfalso;have a:∀j∈List.range (t.mask+1),j∈t.place.toList:=fun j d=>by
   have b:j<=t.mask:=by have:=CB.mp d;omega
   rcases m8 c j with e | ⟨i,_,e⟩
   .exact absurd ⟨j,b,e⟩ h
   .exact AM (by rw[BT];exact e)
  have:=(HK (n:=t.mask+1)).length_le_of_subset a;rw[CA,AW]at this;omega
def Xh{t:JB}(o:t.dummies = #[])(hashAt:Nat->Int)(h:Int)(p:SetTable.Probe)(c:p.dummy=none):∀(k m n a:Nat),m+k=n->t.slot (OH t n p).j = .empty->k<a ->
  (∃j,SetTable.probe.go t hashAt h a (OH t m p)=some (.empty j none)/\t.slot j = .empty) \/
   ∃l i,m<=l/\l<n/\t.slot (OH t l p).j = .live i/\hashAt i=h/\SetTable.probe.go t hashAt h a (OH t m p)=some (.candidate (OH t l p).j i (OH t (l+1) p))
 | k,m,n,0,_,_,q=>absurd q (GY _)
 | k,m,n,a+1,e,r,q=>by
  have d:(OH t m p).dummy=none:=(Ep t m p).trans c;have s:OH t (m+1) p=t.advance (OH t m p):=Qk t m 1 p;rcases m8 o (OH t m p).j with b | ⟨i,b,A⟩
  .refine .inl ⟨(OH t m p).j,?_,b⟩;unfold SetTable.probe.go;rw[b,d]
  .have B:k≠0:=by
    rintro rfl;have:m=n:=by omega
    subst this;rw[r]at b;cases b
   by_cases f:hashAt i=h
   .refine .inr ⟨m,i,Nat.le_refl _,by omega,b,f,?_⟩;unfold SetTable.probe.go;rw[b];dsimp only;rw[AU (by simpa using f),s]
   .have u:SetTable.probe.go t hashAt h (a+1) (OH t m p)=SetTable.probe.go t hashAt h a (OH t (m+1) p):=by
     conv=>lhs;unfold SetTable.probe.go
     rw[b];dsimp only;rw[AO (by simpa using f),s]
    rcases Xh o hashAt h p c (k-1) (m+1) n a (by omega) r (by omega)with⟨j,v,g⟩ | ⟨l,w,v,g,x,y,z⟩
    .exact .inl ⟨j,u.trans v,g⟩
    .exact .inr ⟨l,w,by omega,g,x,y,u.trans z⟩
def Df{α β:Type}{f g:α->A4 β}:∀{l:A0 α},(∀x∈l,f x=g x)->l.filterMap f=l.filterMap g
 | [],_=>rfl
 | a::r,h=>by
  have b:=h a (BG ..);have c:=Df (l:=r) fun x d=>h x (A_ _ d);rw[FQ,FQ,b,c]
def Wg{α:Type}{f g:Nat->A4 α}{j:Nat}{k:α}(d:g j=some k)(m:f j=none):∀{l:A0 Nat},l.Nodup->j∈l->(∀i,i≠j->g i=f i)->(l.filterMap g).Perm (k::l.filterMap f)
 | [],_,h,_=>by simp at h
 | i::r,o,h,a=>by
  obtain⟨p,q⟩:=DV.mp o;by_cases e:i=j
  .subst e;have er:r.filterMap g=r.filterMap f:=Df fun x s=>a x fun z=>p (z▸s);rw[FG d,HW m,er]
  .have n:=Wg d m q ((AV.mp h).resolve_left fun z=>e z.symm) a;cases c:f i with
   | none=>rw[HW ((a i e).trans c),HW c];exact n
   | some b =>
    rw[FG ((a i e).trans c),FG c];exact(List.Perm.cons b n).trans (List.Perm.swap _ _ _)
def UV(mask:Nat)(a:A7 (A4 Nat)):A0 Nat:=(List.range (mask+1)).filterMap fun j=>a.getD j none
structure LI(mask:Nat)(ow:A7 (A4 Nat))(k:Nat):Prop where
 sz:ow.size=mask+1
 pm:(UV mask ow).Perm (List.range k)
def Sv{mask:Nat}{b:A7 (A4 Nat)}{j:Nat}(c:b[j]?=some none):∀(t a i p:Nat),(PJ mask t (i,p)).1=j->t<a->∃d,SetTable.layClean.free mask b a i p=some d/\b[d]?=some none
 | t,0,_,_,_,h=>absurd h (GY _)
 | t,a+1,i,p,e,h=>by
  unfold SetTable.layClean.free;cases q:(List.range (SetTable.runEnd mask i+1-i)).find? fun k=>(b.getD (i+k) (some 0)).isNone with
  | some k =>
   refine⟨i+k,rfl,?_⟩;have:=List.find?_some q;rw[C_]at this;cases g:b[i+k]? with
   | none=>rw[g]at this;simp at this
   | some z=>rw[g]at this;simp at this;rw[this]
  | none =>
   dsimp only;cases t with
   | zero =>
    exfalso;have f:i=j:=e;subst f;have l:0∈List.range (SetTable.runEnd mask i+1-i):=CB.mpr (by unfold SetTable.runEnd;split<;>omega);have:=List.find?_eq_none.mp q 0 l;rw[C_,Nat.add_zero,c]at this;simp at this
   | succ t=>exact Sv c t a _ _ e (by omega)
def LI.room{mask:Nat}{a:A7 (A4 Nat)}{k:Nat}(h:LI mask a k)(p:k<=mask):∃j,j<=mask/\a[j]?=some none:=by
 by_cases q:∃j,j<=mask/\a[j]?=some none
 .exact q
 .exfalso;have b:∀j∈List.range (mask+1),∃v,a.getD j none=some v:=fun j c=>by
   have g:j<a.size:=by rw[h.sz];exact CB.mp c
   cases e:a[j]? with
   | none=>rw[Array.getElem?_eq_none_iff]at e;omega
   | some v =>
    cases v with
    | none=>exact absurd ⟨j,by have:=CB.mp c;omega,e⟩ q
    | some v=>exact⟨v,by rw[C_,e];rfl⟩
  have i:∀l:A0 Nat,(∀j∈l,∃v,a.getD j none=some v)->(l.filterMap fun j=>a.getD j none).length=l.length:=by
   intro l
   induction l with
   | nil=>intro _;rfl
   | cons j r m =>
    intro d;obtain⟨v,n⟩:=d j (BG ..);rw[FG (f:=fun j=>a.getD j none) n,BS,BS,m fun x o=>d x (A_ _ o)]
  have:=h.pm.length_eq;unfold UV at this;rw[i _ b,CA,CA]at this;omega
def LI.put{mask:Nat}{a:A7 (A4 Nat)}{k j:Nat}(h:LI mask a k)(c:a[j]?=some none):LI mask (a.setIfInBounds j (some k)) (k+1):=by
 have b:j<a.size:=by
  obtain⟨d,_⟩:=DQ.mp c;exact d
 refine⟨by rw[HR];exact h.sz,?_⟩;have p:=Wg (f:=fun j=>a.getD j none) (g:=fun i=>(a.setIfInBounds j (some k)).getD i none) (j:=j) (k:=k) (by rw[C_,Array.getElem?_setIfInBounds_self_of_lt b];rfl) (by rw[C_,c];rfl)
  (l:=List.range (mask+1)) HK (CB.mpr (by rw[<-h.sz];exact b)) fun i m=>by
   rw[C_,Array.getElem?_setIfInBounds_ne (Ne.symm m),<-C_]
 have e:List.range (k+1)=List.range k ++ [k]:=EM;refine p.trans ?_;rw[e];exact(List.Perm.cons k h.pm).trans (DC (l₁:=[k]))
def Za(h:Int):SetTable.bits h<2^64:=by
 unfold SetTable.bits;have a:0<=h %(2^64:Int):=GX _ (by decide);have b:h %(2^64:Int)<2^64:=FZ _ (by decide);omega
def Wh{mask:Nat}(e:S_ mask):∀(c:A0 Int) (a:A7 (A4 Nat)) (k:Nat),LI mask a k->k+c.length<=mask->∃b,(c.foldl (init:=some (a,k)) fun d h=>do
   let(owner,k) <-d
   let j <-SetTable.layClean.free mask owner (SetTable.turns mask) (SetTable.bits h %(mask+1)) (SetTable.bits h)
   pure (owner.setIfInBounds j (some k),k+1))=some (b,k+c.length)/\LI mask b (k+c.length)
 | [],a,k,h,_=>⟨a,rfl,h⟩
 | x::r,a,k,h,g=>by
  rw[BS]at g;obtain⟨j,l,m⟩:=h.room (by omega);obtain⟨t,u,n⟩:=Rv e (i:=SetTable.bits x %(mask+1)) (j:=j) (Nat.lt_succ_iff.mp (Nat.mod_lt _ (Nat.succ_pos _))) l (Za x);obtain⟨f,o,p⟩:=Sv m t (SetTable.turns mask) _ _ n (by unfold SetTable.turns;omega);obtain⟨b,q,s⟩:=Wh e r (a.setIfInBounds f (some k)) (k+1) (h.put p) (by omega);refine⟨b,?_,by rw[BS,show k +(r.length+1)=k+1+r.length by omega];exact s⟩;rw[List.foldl_cons];show List.foldl _ ((SetTable.layClean.free mask a (SetTable.turns mask) (SetTable.bits x %(mask+1)) (SetTable.bits x)).bind fun j=>some (a.setIfInBounds j (some k),k+1)) r=_;rw[o];show List.foldl _ (some (a.setIfInBounds f (some k),k+1)) r=_;rw[BS,show k +(r.length+1)=k+1+r.length by omega];exact q
def zAn{mask:Nat}(h:S_ mask)(finger moves:Nat)(led plain:Bool)(c:A7 Int)(l:c.size<=mask) :
  ∃place a,SetTable.laid mask finger moves led plain c=some ({ mask,place,dummies:=#[],finger,led,moves,plain },a)/\place.size=c.size/\a.toList.Perm (List.range c.size):=by
 have i:LI mask (Array.replicate (mask+1) none) 0:=by
  refine⟨Array.size_replicate,?_⟩;have:UV mask (Array.replicate (mask+1) none) = []:=by
   unfold UV;rw[List.filterMap_eq_nil_iff];intro j m;rw[C_,Array.getElem?_replicate];split<;>rfl
  rw[this];exact GM _
 obtain⟨b,e,d⟩:=Wh h c.toList _ 0 i (by rw[AW];omega);rw[ER,AW]at e d;have k:SetTable.layClean mask c=some b:=by
  unfold SetTable.layClean;rw[<-Array.foldl_toList,e];rfl
 have g:((List.range (mask+1)).filterMap fun j=>(b.getD j none).map (j,·)).map (·.2)=UV mask b:=by
  unfold UV;rw[List.map_filterMap];refine Df fun j _=>?_;cases b.getD j none<;>rfl
 refine⟨(((List.range (mask+1)).filterMap fun j=>(b.getD j none).map (j,·)).map (·.1)).toArray,(((List.range (mask+1)).filterMap fun j=>(b.getD j none).map (j,·)).map (·.2)).toArray,?_,?_,?_⟩
 .unfold SetTable.laid;rw[k];rfl
 .rw[AQ,AB,<-AB (f:=(·.2)),g,d.pm.length_eq,CA]
 .show(((List.range (mask+1)).filterMap fun j=>(b.getD j none).map (j,·)).map (·.2)).Perm _;rw[g];exact d.pm
def Uj{c:A7 (Int×A1)}{b:A7 Nat}(h:b.toList.Perm (List.range c.size)):(b.filterMap (c[·]?)).toList.Perm c.toList:=by
 rw[Array.toList_filterMap];refine(h.filterMap _).trans (IB ?_);refine FN fun t=>?_;have:(List.range c.size).filterMap (fun x=>c[x]?)=c.toList:=by
  have:∀(l:A0 (Int×A1)),(List.range l.length).filterMap (fun x=>l[x]?)=l:=by
   intro l
   induction l with
   | nil=>rfl
   | cons a r d =>
    rw[BS,List.range_succ_eq_map,FG (by rfl:(a::r)[0]?=some a),List.filterMap_map];congr 1
  have q:=this c.toList;rw[AW]at q;simpa using q
 rw[this]
section
variable{prog:A6}{w:F1}{K:Type}[DecidableEq K]{knd:KeyKind prog w K}{A:IZ}{E:A1->A3->Prop}{s:A3}
structure T_(t:JB)(n:Nat):Prop where
 dm:t.dummies = #[]
 pl:t.place.size=n
 mm:S_ t.mask
 rm:n*5<t.mask*3
theorem T_.fits{t:JB}{n:Nat}(h:T_ t n):t.fits n=true:=by
 have:=h.rm;have:=h.pl;unfold SetTable.fits SetTable.fill;rw[h.dm];simp;omega
theorem T_.odd{t:JB}{n:Nat}(h:T_ t n):t.gaveWay=false:=by
 unfold SetTable.gaveWay;rcases h.mm with e | e | e | e<;>rw[e]<;>rfl
def UI(knd:KeyKind prog w K)(a:A7 (Int×A1))(ks:A0 (A0 K×A2)):Prop:=a.toList.Perm (ks.map fun q=>((tupleKind knd).hash q.1,Value.ref q.2))
def NW(knd:KeyKind prog w K)(h:IV)(a:A2)(ks:A0 (A0 K×A2)):Prop:=∃o b c t,h.get? a=some o/\o.ExactSet/\o.data = .set b c t/\UI knd b ks/\T_ t b.size
theorem UI.get{a:A7 (Int×A1)}{ks:A0 (A0 K×A2)}(h:UI knd a ks){i:Nat}{e:Int×A1}(b:a[i]?=some e):∃k p,(k,p)∈ks/\e =((tupleKind knd).hash k,.ref p):=by
 have:e∈a.toList:=AM (by rw[BT];exact b);obtain⟨q,c,rfl⟩:=AI.mp (h.mem_iff.mp this);exact⟨q.1,q.2,c,rfl⟩
theorem y8{β:Type}{c:β}{f:A1->β->Sem (ForInStep β)}:∀{l:A0 A1},(∀y∈l,f y c=pure (.yield c))->forIn l c f=pure c
 | [],_=>List.forIn_nil
 | a::r,h=>by
  rw[IC,h a (BG ..),pure_bind];exact y8 fun y b=>h y (A_ _ b)
theorem Fl{ks:A0 K}{vs:A0 A1}(h:ItemsAre knd ks vs):∀v∈vs,∃x,knd.is x v=true:=by
 induction h with
 | nil=>intro v hv;simp at hv
 | cons a _ b =>
  intro v hv;rcases AV.mp hv with rfl | hv
  .exact⟨_,a⟩
  .exact b v hv
def Flat(knd:KeyKind prog w K):Prop:=∀v,(∃x,knd.is x v=true)->carriedByValue v=true
theorem Flat.no{v:A1}(a:Flat knd)(h:∃x,knd.is x v=true)(d:Nat):ofAClassStatement d v=pure false:=by
 have:=a v h;cases v<;>first
  | (cases d<;>rfl)
  | (exact absurd this (by intro z;cases z))
theorem Xj{k:A0 K}{p:A2}{Q:Bool->A3->Prop}(c:Flat knd)(d:(tupleKind knd).is s.heap k p)(h:Q false s):wpAny (model prog w) A (ofAClassStatement 8 (.ref p)) Q E s:=by
 obtain⟨o,a,n,b,e,f,g⟩:=d;have i:s.TypeIs (.ref p) "tuple":=⟨o,b,e⟩;unfold ofAClassStatement;refine AA (wpAny_typeOf i ?_);dsimp only;rw[AU (by rfl)];refine AA (AE ?_);simp only[FE,BE,DA];refine AA (DL b f ?_);dsimp only;rw[<-Array.forIn_toList,y8 fun y j=>by rw[c.no (Fl g y j)];rfl];exact AA (AE (AE h))
theorem zBg{m:A0 K}{b:A2}{Q:Bool->A3->Prop}(g:Flat knd)(i:(tupleKind knd).is s.heap m b)(h:Q false s){l:A0 A1}(n:∀v∈l,∃k p,v = .ref p/\(tupleKind knd).is s.heap k p) :
  wpAny (model prog w) A (searchCouldBeSeen (.ref b) l) Q E s:=by
 unfold searchCouldBeSeen;refine AA (wpAny_forIn_list _ (fun a c d=>d=s/\c =(none,())/\∀v∈a,v∈l) _ ?_ ?_ l _ ⟨rfl,rfl,fun _ h=>h⟩)
 .rintro v a c d ⟨rfl,rfl,e⟩;obtain⟨k,p,rfl,j⟩:=n v (e v (BG ..));dsimp only;have o:carriedByValue (Value.ref b)=false:=rfl;rw[o,DK,HX];split
  .exact AE ⟨rfl,rfl,fun u f=>e u (A_ _ f)⟩
  .refine AA ((tupleKind knd).quiet i ?_);simp only[FE,BE,DA];refine AA ((tupleKind knd).quiet j ?_);simp only[FE,BE,DA];refine AA (Xj g i ?_);simp only[BE,DA];refine AA (Xj g j ?_);simp only[BE,DA];exact AE ⟨rfl,rfl,fun u f=>e u (A_ _ f)⟩
 .rintro c d ⟨rfl,rfl,_⟩;exact AE h
theorem Tt(t:JB):t.sameMemory t.moves t.mask=some true:=by
 unfold SetTable.sameMemory;simp
theorem Hr{a:A2}{o:Obj}{r:A7 (Int×A1)}{ep:Nat}{t:JB}{ks:A0 (A0 K×A2)}{d:A0 K}{G:A2}{c:Bool}{Q:SetFound->A3->Prop}{n:Nat}
  (hr:(tupleKind knd).room A) (hF:Flat knd) (U:s.heap.get? a=some o) (V:o.data = .set r ep t) (W:UI knd r ks) (D:T_ t r.size)
  (H:∀q∈ks,(tupleKind knd).is s.heap q.1 q.2) (X:(tupleKind knd).is s.heap d G) (M:∀q∈ks,q.1≠d) (hn:n<10*SetTable.turns t.mask)
  (he:t.slot (OH t n (t.probeStart ((tupleKind knd).hash d))).j = .empty) (h:∀j,t.slot j = .empty->Q (.free j false) s) :
  ∀(k m b:Nat) (e:A4 SetTable.Probe),e.getD (t.probeStart ((tupleKind knd).hash d))=OH t m (t.probeStart ((tupleKind knd).hash d))->m+k=n->k<b ->
   wpAny (model prog w) A (setSearchFrom a (.ref G) ((tupleKind knd).hash d) c b e) Q E s:=by
 intro k
 induction k using Nat.strongRecOn with
 | _ k ih =>
  intro m b e N O hf;cases b with
  | zero=>omega
  | succ b =>
   unfold setSearchFrom;refine AA (CP U V D.fits ?_);dsimp only;rw[D.odd];simp only[BE,DA];rw[N];unfold SetTable.probe;rcases Xh D.dm _ ((tupleKind knd).hash d) (t.probeStart ((tupleKind knd).hash d)) rfl k m n (10*SetTable.turns t.mask) O he (by omega)with⟨j,F,Y⟩ | ⟨l,i,h1,h2,F,Y,e3⟩
   .rw[F];dsimp only;exact AE (h j Y)
   .rw[e3];dsimp only;obtain⟨u,I,P⟩:∃u,t.slot (OH t l (t.probeStart ((tupleKind knd).hash d))).j = .live u/\t.place[u]?=some (OH t l (t.probeStart ((tupleKind knd).hash d))).j:=by
     rcases m8 D.dm (OH t l (t.probeStart ((tupleKind knd).hash d))).j with z | z
     .rw[z]at F;cases F
     .exact z
    rw[F]at I;cases I;have R:i<r.size:=by
     have:=(DQ.mp P).1;rw[D.pl]at this;exact this
    obtain⟨J,f⟩:∃J,r[i]?=some J:=⟨r[i],DQ.mpr ⟨R,rfl⟩⟩;obtain⟨k',p',L,rfl⟩:=W.get f;have B:∀v∈(r.filter (·.1 ==(tupleKind knd).hash d)).toList.map (·.2),∃k p,v = .ref p/\(tupleKind knd).is s.heap k p:=by
     intro v hv;obtain⟨z,Z,rfl⟩:=AI.mp hv;have S:z∈r.toList:=by
      rw[Array.toList_filter]at Z;exact(BI.mp Z).1
     obtain⟨q,hq,rfl⟩:=AI.mp (W.mem_iff.mp S);exact⟨q.1,q.2,rfl,H q hq⟩
    have x:wpAny (model prog w) A (do
      let some (_,y):=r[i]? | unsupported "internal:set-entry"
      let g <-holding [y] (eqBool y (.ref G))
      let(T,_,t') <-setState a
      if c&&g then return .there none
      let some same:=t'.sameMemory t.moves t.mask | unsupported "set.changed-during-lookup:is-the-new-block-at-the-old-address"
      let C <-match(if same then t'.slot (OH t l (t.probeStart ((tupleKind knd).hash d))).j else .empty)with
       | .live u=>match T[u]? with
        | some (_,y')=>do pure (if <-isSame y' y then some u else none)
        | none=>pure none
       | _=>pure none
      match C with
      | none=>rule "set.search.anew";setSearchFrom a (.ref G) ((tupleKind knd).hash d) c b none
      | some u=>if g then return .there (some u)else setSearchFrom a (.ref G) ((tupleKind knd).hash d) c b (some (OH t (l+1) (t.probeStart ((tupleKind knd).hash d))))) Q E s:=by
     rw[f];dsimp only;refine AA (CG ((tupleKind knd).eqBool hr (H _ L) X ?_));rw[AX (M _ L)];refine AA (CP U V D.fits ?_);dsimp only;rw[Tt,HF];simp only[BE,DA,FK];rw[F];dsimp only;rw[f];dsimp only;refine AA (wpAny_isSame_ref_self (AA (AE ?_)));simp only[FK];exact ih (n-(l+1)) (by omega) (l+1) b _ rfl (by omega) (by omega)
    cases hled:t.led with
    | true =>
     simp only[FE,BE,DA];exact x
    | false =>
     simp only[II,FK];refine AA (zBg hF X ?_ B);simp only[BE,DA];exact x
theorem y9{a:A2}{o:Obj}{f:A7 (Int×A1)}{ep:Nat}{t:JB}{ks:A0 (A0 K×A2)}{d:A0 K}{k:A2}{b:Bool}{Q:SetFound->A3->Prop}
  (l:(tupleKind knd).room A) (m:Flat knd) (p:s.heap.get? a=some o) (r:o.data = .set f ep t) (u:UI knd f ks) (c:T_ t f.size)
  (g:∀q∈ks,(tupleKind knd).is s.heap q.1 q.2) (v:(tupleKind knd).is s.heap d k) (i:∀q∈ks,q.1≠d) (h:∀j,t.slot j = .empty->Q (.free j false) s) :
  wpAny (model prog w) A (setSearch a (.ref k) ((tupleKind knd).hash d) b) Q E s:=by
 obtain⟨j,x,y⟩:=My c.dm (by rw[c.pl];have:=c.rm;omega);obtain⟨n,z,e⟩:=Ps c.mm ((tupleKind knd).hash d) x;unfold setSearch;refine Hr l m p r u c g v i z (by rw[e];exact y) h n 0 100000 none rfl (by omega) ?_;have:SetTable.turns t.mask<=526:=by
  unfold SetTable.turns;rcases c.mm with e | e | e | e<;>omega
 omega
theorem NW.typeIs{a:A2}{ks:A0 (A0 K×A2)}(h:NW knd s.heap a ks):s.TypeIs (.ref a) "set":=let⟨o,_,_,_,b,c,_⟩:=h;⟨o,b,c.1⟩
theorem Qc{a:A2}{b:A7 (Int×A1)}:byScan (.ref a) b=false:=rfl
theorem Re{a:A2}{ks:A0 (A0 K×A2)}{b:A0 K}{e:A2}{Q:A4 Nat->A3->Prop}(k:(tupleKind knd).room A)(l:Flat knd)(m:NW knd s.heap a ks)
  (c:∀q∈ks,(tupleKind knd).is s.heap q.1 q.2) (n:(tupleKind knd).is s.heap b e) (d:∀q∈ks,q.1≠b) (h:Q none s):wpAny (model prog w) A (setFind a (.ref e) ((tupleKind knd).hash b)) Q E s:=by
 obtain⟨o,r,u,t,f,_,g,p,i⟩:=m;unfold setFind setFindIn;refine AA (CP f g i.fits ?_);dsimp only;rw[Qc];simp only[BE,DA];refine AA (y9 k l f g p i c n d fun j _=>?_);dsimp only;exact AE h
theorem TQ{neg:Bool}{a:A2}{ks:A0 (A0 K×A2)}{b:A0 K}{d:A2}{Q:A1->A3->Prop}(g:A.units+1<cLine)(j:Flat knd)(c:NW knd s.heap a ks)
  (e:∀q∈ks,(tupleKind knd).is s.heap q.1 q.2) (i:(tupleKind knd).is s.heap b d) (f:∀q∈ks,q.1≠b) (h:Q (.bool false) { s with toks:=s.toks +(tupleKind knd).draws b }) :
  wpAny (model prog w) A (compareOp .In (.ref d) (.ref a)) Q E s:=by
 show wpAny _ _ (do return .bool (<-contains (.ref a) (.ref d))) Q E s;refine AA ?_;unfold contains
 try with_reducible refine CG ?_
 refine AA (wpAny_specialOf c.typeIs F.slot_set_contains.lookup ?_);show wpAny _ _ (if(some (Value.builtin "set.__contains__") == some Value.none)=true then _ else _) _ E s;rw[AO (by rw[beq_builtin_none];exact BC)];refine AA (wpAny_callSpecialUnlessNone?_slot (name:=Str.ofString "__contains__") c.typeIs F.slot_set_contains
  (CT F.slot_set_contains c.typeIs entry_set_contains ?_ (F.args_set_contains_2 _ _)))
 unfold Builtin.«frozenset.__contains__» Builtin.Frozenset.oneOther;simp only[List.isEmpty_nil,bind_assoc];unfold Builtin.Frozenset.addrOf Builtin.Frozenset.withSetAsKey setContains;refine AA (AE ?_)
 try dsimp only
 refine AA (AE ?_)
 try dsimp only
 refine AA (wpAny_tryCatch ?_);refine CG ?_;refine AA ((tupleKind knd).pyHash ?hroom i ?_)
 case hroom=>exact g
 refine AA (Re (s:={ s with toks:=s.toks +(tupleKind knd).draws b }) ?hroom j c e i f ?_)
 case hroom=>exact g
 refine AE ?_;show wpAny _ _ (ret (Value.bool false)) _ _ _;exact AE ⟨_,rfl,DI (AE h)⟩
def TV(knd:KeyKind prog w K):Prop:=∀v,(∃x,knd.is x v=true)->v.scannable=true
theorem hbv{j:A0 K}{f:A2}{Q:Bool->A3->Prop}(k:TV knd)(l:(tupleKind knd).is s.heap j f)(h:∀b,Q b s):wpAny (model prog w) A (hashByValue 8 (.ref f)) Q E s:=by
 obtain⟨o,d,n,g,m,p,r⟩:=l;have t:s.TypeIs (.ref f) "tuple":=⟨o,g,m⟩;unfold hashByValue;refine AA (wpAny_specialOf t F.slot_tuple_hash.lookup ?_);dsimp only;refine AA (DL g p ?_);dsimp only[Option.getD_some];rw[<-Array.forIn_toList];refine AA (CF (wpAny_forIn_list _ (fun a c e=>e=s/\c =(none,())/\∀v∈a,v∈d.toList) (fun c e=>e=s/\(c =(none,())\/c =(some false,()))) ?_ ?_ _ _ ⟨rfl,rfl,fun _ z=>z⟩) ?_ fun _ _ q=>q)
 .rintro v a c e ⟨rfl,rfl,i⟩;rw[hashByValue_scannable _ (k v (Fl r v (i v (BG ..))))];refine AA (AE ?_);cases plainKind v with
  | true =>
   simp only[FE,BE,DA];exact AE ⟨rfl,rfl,fun u x=>i u (A_ _ x)⟩
  | false =>
   simp only[II,FK];exact AE ⟨rfl,.inr rfl⟩
 .rintro c e ⟨rfl,rfl,_⟩;exact⟨rfl,.inl rfl⟩
 .rintro c e ⟨rfl,rfl | rfl⟩
  .exact AE (h _)
  .exact AE (h _)
theorem X3{α:Type}(xs:A7 α)(p:Nat)(x:α)(a:p<=xs.size):(SetTable.insertAt xs p x).size=xs.size+1:=by
 unfold SetTable.insertAt;rw[Array.size_append,Array.size_push,GT,GT];omega
theorem Cu{α:Type}(xs:A7 α)(p:Nat)(x:α)(b:p<=xs.size):(SetTable.insertAt xs p x).toList.Perm (xs.toList ++ [x]):=by
 unfold SetTable.insertAt;rw[BV,DT,FI,FI];simp only[EZ,FW,Nat.sub_zero];have e:List.take (xs.size-p) (List.drop p xs.toList)=List.drop p xs.toList:=by
  rw[CY];rw[DF,AW];omega
 rw[e];have a:xs.toList=xs.toList.take p++xs.toList.drop p:=(BW ..).symm
 conv=>rhs;rw[a]
 rw[BM,BM];exact EB _ DC
theorem U8(xs:A7 Nat)(j:Nat):∀(f lo hi:Nat),lo<=hi->SetTable.below.go xs j f lo hi<=hi
 | 0,lo,hi,h=>h
 | f+1,lo,hi,h=>by
  unfold SetTable.below.go;split
  .rename_i a;dsimp only;split
   .exact U8 xs j f _ _ (by omega)
   .exact Nat.le_trans (U8 xs j f _ _ (by omega)) (by omega)
  .exact h
theorem Vc(xs:A7 Nat)(j:Nat):SetTable.below xs j<=xs.size:=U8 xs j _ _ _ (CK _)
theorem zCz{t:JB}(a:t.dummies = #[])(j:Nat):t.put j =({ t with place:=SetTable.insertAt t.place (SetTable.below t.place j) j },SetTable.below t.place j):=by
 unfold SetTable.put;have:SetTable.has t.dummies j=false:=by
  rw[a];unfold SetTable.has;simp
 rw[this];rfl
theorem zHh:SetTable.sizeAbove 20=32:=by decide
theorem zHq:SetTable.sizeAbove 76=128:=by decide
theorem zFg:SetTable.sizeAbove 308=512:=by decide
theorem Uz{f:A7 (Int×A1)->A4 (JB×A7 Nat)->Sem (A7 (Int×A1)×JB)}(y:∀c g,f c g =(do
  let some (t,b):=g | unsupported "internal:set-table-without-room"
  let d:=b.filterMap (c[·]?)
  if d.size != c.size then unsupported "internal:set-table-lost-an-element"
  pure (d,t)))
  {a:A2} {o:Obj} {c:A7 (Int×A1)} {ep:Nat} {t:JB} {n m:Nat} {Q:Unit->A3->Prop} (q:s.heap.get? a=some o) (r:o.data = .set c ep t) (z:t.dummies = #[]) (j:t.fits c.size=true)
  (l:SetTable.sizeAbove n=m+1) (i:S_ m) (hsz:c.size*5<m*3)
  (h:∀(d:A7 (Int×A1)) (t':JB),d.toList.Perm c.toList->T_ t' d.size->Q () { s with heap:=s.heap.update a (Obj.putSet d t') }) :
  wpAny (model prog w) A (do
   let(c,_,t) <-setState a
   if SetTable.sizeAbove n>sizeLine then unsupported "set:memory"
   let(c,t) <-f c (t.relaid (c.map (·.1)) n)
   storeSet a c t) Q E s:=by
 refine AA (CP q r j ?_);dsimp only;have p:m<=511:=by rcases i with e | e | e | e<;>omega
 rw[l,AO (by rw[sizeLine_eq];omega)];rw[y];have B:(c.map (·.1)).size<=m:=by rw[GN];omega
 obtain⟨place,b,u,C,v⟩:=zAn i t.finger (t.movedTo (SetTable.sizeAbove n-1)) t.led t.plain (c.map (·.1)) B;have D:t.relaid (c.map (·.1)) n=some ({ mask:=m,place,dummies:=#[],finger:=t.finger,led:=t.led,moves:=t.movedTo (SetTable.sizeAbove n-1),plain:=t.plain },b):=by
  unfold SetTable.relaid;rw[l];rw[l]at u;exact u
 rw[D];dsimp only;have x:(b.filterMap (c[·]?)).toList.Perm c.toList:=Uj (by rw[GN]at v;exact v);have k:(b.filterMap (c[·]?)).size=c.size:=by rw[<-AW,x.length_eq,AW]
 rw[AO (by rw[k];simp)];refine AA (AE ?_);dsimp only;refine IJ q r (h _ _ x ⟨rfl,?_,i,?_⟩) (by rw[k,sizeLine_eq];omega)
 .rw[k,C,GN]
 .rw[k];exact hsz
theorem Cp{h:IV}{a:A2}{o:Obj}{d:A7 (Int×A1)}{ep:Nat}{t:JB}(e:h.get? a=some o)(c:o.data = .set d ep t)(b:A7 (Int×A1))(t':JB) :
  (h.update a (Obj.putSet b t')).get? a=some { o with data:=.set b (ep+1) t' }:=by
 have:=DD (Obj.putSet b t') e (by rw[putSet_of b t' c];rfl);rw[putSet_of b t' c]at this;exact this
theorem Mz{a:A2}{ks:A0 (A0 K×A2)}{g:A0 K}{l:A2}{Q:Bool->A3->Prop}(V:(tupleKind knd).room A)(W:Flat knd)(X:TV knd)(Y:NW knd s.heap a ks)
  (I:∀q∈ks,(tupleKind knd).is s.heap q.1 q.2) (S:(tupleKind knd).is s.heap g l) (J:∀q∈ks,q.1≠g) (hl:ks.length+1<=300)
  (h:∀h',Heap.SameBut a s.heap h'->NW knd h' a (ks ++ [(g,l)])->Q true { s with heap:=h' }) :
  wpAny (model prog w) A (setAddHashed a (.ref l) ((tupleKind knd).hash g)) Q E s:=by
 obtain⟨o,c,ep,t,y,z,B,L,i⟩:=Y;have Z:c.size=ks.length:=by
  have:=L.length_eq;rw[AW,AB]at this;exact this
 unfold setAddHashed setAddHashedIn;refine CG ?_;refine AA (CP y B i.fits ?_);dsimp only;rw[Qc];simp only[BE,DA];refine AA (y9 V W y B L i I S J fun j hj=>?_);dsimp only;refine AA (CP y B i.fits ?_);dsimp only;rw[zCz i.dm];dsimp only;have M:=Vc t.place j;have C:SetTable.below t.place j<=c.size:=by rw[i.pl]at M;exact M
 have hrm:=i.rm;have p:=i.mm;have d:=X3 c (SetTable.below t.place j) ((tupleKind knd).hash g,Value.ref l) C;have N:=Cu c (SetTable.below t.place j) ((tupleKind knd).hash g,Value.ref l) C;have D:∀f:A7 (Int×A1),f.toList.Perm (SetTable.insertAt c (SetTable.below t.place j) ((tupleKind knd).hash g,Value.ref l)).toList->UI knd f (ks ++ [(g,l)]):=fun f O=>by
  unfold UI;rw[AL];exact O.trans (N.trans (L.append_right _))
 have r:∀n:JB,n.dummies = #[]->n.mask=t.mask->n.place.size=c.size+1->wpAny (model prog w) A (do
   storeSet a (SetTable.insertAt c (SetTable.below t.place j) ((tupleKind knd).hash g,Value.ref l)) n
   if(!false&&n.tooFull)=true then do
    setRelay a (SetTable.grown (c.size+1))
    pure true
   else pure true) Q E s:=by
  intro n G H P;refine AA (IJ y B ?_ (by rw[d,sizeLine_eq];omega));have u:=Cp y B (SetTable.insertAt c (SetTable.below t.place j) ((tupleKind knd).hash g,Value.ref l)) n;have F:=EA s.heap a (Obj.putSet (SetTable.insertAt c (SetTable.below t.place j) ((tupleKind knd).hash g,Value.ref l)) n);have R:n.tooFull=decide ((c.size+1)*5 ≥ t.mask*3):=by
   unfold SetTable.tooFull SetTable.fill;rw[G,H,P];rfl
  rw[R,II,FH];by_cases k:(c.size+1)*5 ≥ t.mask*3
  .rw[AK k,AU rfl];have v:∃m,SetTable.sizeAbove (SetTable.grown (c.size+1))=m+1/\S_ m/\(c.size+1)*5<m*3:=by
    have hg:SetTable.grown (c.size+1) =(c.size+1)*4:=by
     unfold SetTable.grown;rw[AO (by omega)]
    rw[hg];rcases p with e | e | e | e
    .have:c.size+1=5:=by omega
     rw[this];exact⟨31,zHh,.inr (.inl rfl),by decide⟩
    .have:c.size+1=19:=by omega
     rw[this];exact⟨127,zHq,.inr (.inr (.inl rfl)),by decide⟩
    .have:c.size+1=77:=by omega
     rw[this];exact⟨511,zFg,.inr (.inr (.inr rfl)),by decide⟩
    .omega
   obtain⟨m,c1,c2,c3⟩:=v;refine AA ?_;unfold setRelay;refine Uz (fun _ _=>rfl) (s:={ s with heap:=_ }) u rfl G ?_ c1 c2 (by rw[d];exact c3) fun f T O ht=>?_
   .unfold SetTable.fits SetTable.fill;rw[d,P,G,H];have U:c.size+1+0<=t.mask:=by rcases p with e | e | e | e<;>omega
    simp;omega
   .refine AE (h _ (F.trans (EA _ a _)) ?_);exact⟨_,f,_,T,Cp u rfl f T,z,rfl,D f O,ht⟩
  .rw[AX k,AO (by decide)];refine AE (h _ F ⟨_,_,_,n,u,z,rfl,D _ (.refl _),⟨G,?_,?_,?_⟩⟩)
   .rw[P,d]
   .rw[H];exact p
   .rw[H,d];omega
 have x:(SetTable.insertAt t.place (SetTable.below t.place j) j).size=c.size+1:=by rw[X3 _ _ _ M,i.pl]
 cases hpl:t.plain with
 | true =>
  simp only[FK];refine AA (hbv X S fun b=>?_);cases b with
  | true =>
   simp only[FK];exact r _ i.dm rfl x
  | false =>
   simp only[BE,DA];exact r _ i.dm rfl x
 | false =>
  simp only[BE,DA];refine AA (AE ?_);simp only[FK];exact r _ i.dm rfl x
theorem SQ{a:A2}{ks:A0 (A0 K×A2)}{b:A0 K}{c:A2}{Q:A1->A3->Prop}(i:A.units+1<cLine)(l:Flat knd)(m:TV knd)(j:NW knd s.heap a ks)
  (d:∀q∈ks,(tupleKind knd).is s.heap q.1 q.2) (k:(tupleKind knd).is s.heap b c) (e:∀q∈ks,q.1≠b) (n:ks.length+1<=300)
  (h:∀h',Heap.SameBut a s.heap h'->NW knd h' a (ks ++ [(b,c)])->Q .none { s with heap:=h',toks:=s.toks +(tupleKind knd).draws b }) :
  wpAny (model prog w) A (call (.builtin "set.add") [.ref a,.ref c]) Q E s:=by
 refine CT F.slot_set_add j.typeIs F.entry_set_add ?_ (F.args_set_add_2 _ _);unfold Builtin.«set.add» Builtin.Frozenset.oneOther;simp only[List.isEmpty_nil,bind_assoc];unfold Builtin.Frozenset.addrOf setAdd;refine AA (AE ?_)
 try dsimp only
 refine AA (AE ?_)
 try dsimp only
 refine AA ?_;refine CG ?_;refine AA ((tupleKind knd).pyHash ?hroom k ?_)
 case hroom=>exact i
 refine Mz (s:={ s with toks:=s.toks +(tupleKind knd).draws b }) ?hroom l m j d k e n fun h' f g=>?_
 case hroom=>exact i
 show wpAny _ _ (ret Value.none) _ _ _;exact AE ⟨_,rfl,h h' f g⟩
end
def Kd:Manifest.owners.lookup (String.ofList ['r','o','t','a','r','e','t','i','_','t','e','s'].reverse)=some Manifest.sig_set_iterator:=by kernel_rfl
def KJ:Slot "set_iterator" "__next__" "set_iterator.__next__" :=
 .of (owner := "set_iterator") (n := "__next__") (by rw[typeLookup_type,builtinLookup_eq_fast];kernel_rfl) (by decide +kernel) (by decide +kernel) (by decide +kernel) (by first | exact .inl (by decide +kernel) | exact .inr (by decide +kernel)) (by rw[isSubtype_type];kernel_rfl)
def X7:entryFor table "set_iterator.__next__" = some Builtin.«set_iterator.__next__»:=entryFor_of_tree (by kernel_rfl)
def p9(a:A1):argsOk "set_iterator.__next__" ⟨[a],[]⟩:=by
 unfold argsOk;rw[signature?_of (id := "set_iterator.__next__") (n:=['_','_','t','x','e','n','_','_']) (o:=['r','o','t','a','r','e','t','i','_','t','e','s']) (by kernel_rfl) Kd];kernel_rfl
def n6:Slot "set_iterator" "__iter__" "set_iterator.__iter__" :=
 .of (owner := "set_iterator") (n := "__iter__") (by rw[typeLookup_type,builtinLookup_eq_fast];kernel_rfl) (by decide +kernel) (by decide +kernel) (by decide +kernel) (by first | exact .inl (by decide +kernel) | exact .inr (by decide +kernel)) (by rw[isSubtype_type];kernel_rfl)
def Hb(a:A1):argsOk "set_iterator.__iter__" ⟨[a],[]⟩:=by
 unfold argsOk;rw[signature?_of (id := "set_iterator.__iter__") (n:=['_','_','r','e','t','i','_','_']) (o:=['r','o','t','a','r','e','t','i','_','t','e','s']) (by kernel_rfl) Kd];kernel_rfl
def Ct:entryFor table "set_iterator.__iter__" = some Builtin.«dict_keyiterator.__iter__» :=
 entryFor_alias (id' := "dict_keyiterator.__iter__") (by kernel_rfl) (by first | rfl | decide +kernel | (unfold String.splitOn;simp +decide [String.splitOnAux])) (by decide +kernel) (by kernel_rfl)
def Ge:entryFor table "set.__iter__" = some Builtin.«frozenset.__iter__» :=
 entryFor_alias (id' := "frozenset.__iter__") (by kernel_rfl) rfl (by decide +kernel) (by kernel_rfl)
def zGg:typeLookup (.type "set") "__len__" = pure (some (.builtin "set.__len__")):=by rw[typeLookup_type,builtinLookup_eq_fast];kernel_rfl
section
variable{prog:A6}{w:F1}{A:IZ}{E:A1->A3->Prop}{s:A3}
theorem Rh{n:Nat}{Q:Nat->A3->Prop}(a:n≠0)(h:∀i d,i<n->Q i { s with drawn:=d }):wpAny (model prog w) A (choose .order n) Q E s:=fun Γ p hΓ=>by
 unfold choose;rw[Sem.wp_choose];exact⟨a,h _ _ (Nat.mod_lt _ (Nat.pos_of_ne_zero a))⟩
theorem KR{α:Type}:∀{l:A0 α} {i:Nat} {x:α},l[i]?=some x->(x::l.eraseIdx i).Perm l
 | [],i,x,h=>by simp at h
 | y::l,0,x,h=>by
  have:y=x:=by simpa using h
  subst this;exact .refl _
 | y::l,i+1,x,h=>by
  have a:l[i]?=some x:=by simpa using h
  exact(List.Perm.swap y x _).trans ((KR a).cons y)
theorem Gr{α:Type}{l:A0 α}{i:Nat}{x:α}(h:l[i]?=some x):(l.eraseIdx i).length+1=l.length:=(KR h).length_eq
theorem Ta{α:Type}:∀(n:Nat) (l:A0 α) (s:A3) (Q:A0 α->A3->Prop),l.length=n->(∀b d,b.Perm l->Q b { s with drawn:=d })->wpAny (model prog w) A (drawOrder n l) Q E s
 | 0,l,s,Q,a,h=>by
  unfold drawOrder;obtain rfl:=GP.mp a;exact AE (h [] s.drawn (.refl _))
 | n+1,[],s,Q,a,h=>by simp at a
 | n+1,x::f,s,Q,a,h=>by
  unfold drawOrder;refine AA (Rh (by simp) fun i d g=>?_);have e:(x::f)[i]?=some ((x::f)[i]):=AC g;rw[e];dsimp only;have j:=KR e;refine AA (Ta n _ _ _ (by have:=Gr e;omega) fun b k c=>?_);exact AE (h _ k ((c.cons _).trans j))
theorem Sj{α:Type}(nx:Nat->Nat):∀(f k:Nat) (left:A0 α) (out:A7 α),left.length=f->(pickOrder.go nx f k left out).toList.Perm (out.toList++left)
 | 0,k,left,out,h=>by
  obtain rfl:=GP.mp h;unfold pickOrder.go;simp
 | f+1,k,left,out,h=>by
  have a:nx k % left.length<left.length:=Nat.mod_lt _ (by omega);have e:left[nx k % left.length]?=some left[nx k % left.length]:=AC a;unfold pickOrder.go;rw[e];dsimp only;have b:=KR e;refine(Sj nx f (k+1) _ _ (by have:=Gr e;omega)).trans ?_;rw[DT,BM];exact b.append_left _
theorem Ap{α:Type}(nx:Nat->Nat)(xs:A7 α):(pickOrder nx xs).toList.Perm xs.toList:=by
 unfold pickOrder;have:=Sj nx xs.size 0 xs.toList #[] (AW ..);simpa using this
structure SZ(w:F1)(h:IV)(a:A2)(o:Obj)(es:A7 (Int×A1))(ep:Nat)(t:JB):Prop where
 ho:h.get? a=some o
 ex:o.ExactSet
 hd:o.data = .set es ep t
 ft:t.fits es.size=true
 led:t.led=!(w.params.followText "set-order")
 pln:t.plain=true->es.size=0
 few:es.size<4096
def TH(first:A1)(i n ep:Nat)(a:A2):Obj:={ cls:=.type "set_iterator",data:=.fields #[first,rawInt i,.ref a,rawInt n,rawInt ep] }
theorem O9{Q:Bool->A3->Prop}(h:Q (w.params.followText "set-order") s):wpAny (model prog w) A setsByText Q E s:=by
 unfold setsByText;exact AA (HJ (AE h))
variable{a it:A2}{o:Obj}{es:A7 (Int×A1)}{ep:Nat}{t:JB}
theorem w8{i g:Nat}{r:A4 (A1×Nat)}{Q:A4 A1->A3->Prop}(h:A.handled=none)(S:SZ w s.heap a o es ep t)(n:it≠a)(hi:s.heap.get? it=some (TH (rawInt g) i es.size ep a))
  (c:∀(j:A4 (A1×Nat)->A3->Prop) (q:IZ) (u:A1->A3->Prop),j r s->wpAny (model prog w) q (setNext a g i ep) j u s)
  (d:∀x nx h',r=some (x,nx)->h'.get? it=some (TH (rawInt nx) (i+1) es.size ep a)->Heap.SameBut it s.heap h'->Q (some x) { s with heap:=h' })
  (f:r=none->∀h',Heap.ExtBut it s.heap h'->Q none { s with heap:=h' }):wpAny (model prog w) A (pyNext (.ref it)) Q E s:=by
 have k:s.TypeIs (.ref it) "set_iterator":=⟨_,hi,rfl⟩;unfold pyNext;refine AA (GZ (DR (name:=Str.ofString "__next__") k KJ (CT KJ k X7 ?_ (p9 _))));unfold Builtin.«set_iterator.__next__»;refine AA (GG (a:=(Value.ref it,[])) rfl ?_);dsimp only;refine AA (wpAny_fieldsOf hi rfl ?_);dsimp only[rawInt];refine AA (wpAny_setEntries_of S.ho S.hd S.ft ?_);rw[AO (by simp)];simp only[CC];refine AA (c _ _ _ ?_);cases r with
 | some p =>
  obtain⟨x,nx⟩:=p;dsimp only;refine AA (F_ hi rfl (by simp) ?_);have l:=DD (Obj.mapFields (·.setIfInBounds 0 (rawInt (nx:Nat)))) hi rfl;refine AA (F_ l rfl (by simp) ?_);have v:=DD (Obj.mapFields (·.setIfInBounds 1 (rawInt ((i:Int)+1)))) l rfl;refine AE ⟨x,rfl,AE (d x nx _ rfl ?_ ((EA ..).trans (EA ..)))⟩;exact v
 | none =>
  dsimp only;refine AA (F_ hi rfl (by simp) ?_);refine AA ?_;simp only[newExc,newTuple];refine AA (DJ ?_ (by size_fits));refine AA (m:=firstArgMember _ _) (GG (a:=Value.none) (by first | rfl | (simp only[firstArgMember];rfl)) ?_);refine DJ ?_ (by size_fits);simp only[raiseNew];refine AA (wpAny_handled ?_)
  first | rw[show A.in1.handled=none from h] | rw[h]
  refine AA (AE (wpAny_throw ?_));refine AA (HL (T := "StopIteration") (b:=true) ⟨_,AN _ rfl,rfl⟩ isSubtype_stop ?_);exact AE (f rfl _ ((IR (IR (fun b o y e=>(CZ _ _ (Ne.symm y)).trans e) _)) _))
end
def UZ(ps:A0 Nat):Obj:={ cls:=.type "tuple",data:=.seq (ps.map fun(i:Nat)=>rawInt i).toArray }
section
variable{prog:A6}{w:F1}{A:IZ}{E:A1->A3->Prop}{s:A3}{a it T:A2}{o:Obj}{es:A7 (Int×A1)}{ep:Nat}{t:JB}
theorem Lw{i:Nat}{ps:A0 Nat}{Q:A4 A1->A3->Prop}(l:A.handled=none)(S:SZ w s.heap a o es ep t)(hi:s.heap.get? it=some (TH (.ref T) i es.size ep a))(n:s.heap.get? T=some (UZ ps))
  (f:∀p x h',ps[i]?=some p->es[p]?=some x->h'.get? it=some (TH (.ref T) (i+1) es.size ep a)->Heap.SameBut it s.heap h'->Q (some x.2) { s with heap:=h' }) (g:∀p∈ps,p<es.size)
  (h:ps.length<=i->∀h',Heap.ExtBut it s.heap h'->Q none { s with heap:=h' }):wpAny (model prog w) A (pyNext (.ref it)) Q E s:=by
 have d:s.TypeIs (.ref it) "set_iterator":=⟨_,hi,rfl⟩;unfold pyNext;refine AA (GZ (DR (name:=Str.ofString "__next__") d KJ (CT KJ d X7 ?_ (p9 _))));unfold Builtin.«set_iterator.__next__»;refine AA (GG (a:=(Value.ref it,[])) rfl ?_);dsimp only;refine AA (wpAny_fieldsOf hi rfl ?_);dsimp only[rawInt];refine AA (wpAny_setEntries_of S.ho S.hd S.ft ?_);rw[AO (by simp)];simp only[CC];refine AA (DL n rfl ?_);dsimp only;cases e:ps[i]? with
 | some p =>
  have q:(ps.map fun(i:Nat)=>Value.int (i:Int) 0).toArray[i]?=some (.int (p:Int) 0):=by
   rw[FA,AG,e];rfl
  have c:(ps.map fun(i:Nat)=>rawInt i).toArray[i]?=some (.int (p:Int) 0):=q;rw[c];have r:p<es.size:=g p (AM e);obtain⟨x,j⟩:∃x,es[p]?=some x:=⟨es[p],DQ.mpr ⟨r,rfl⟩⟩;dsimp only;simp only[CC];unfold setNextDrawn;refine AA (AA (CP S.ho S.hd S.ft ?_));dsimp only;rw[AO (by simp),j];dsimp only;refine AE ?_;refine AA (F_ hi rfl (by simp) ?_);have u:=DD (Obj.mapFields (·.setIfInBounds 1 (rawInt ((i:Int)+1)))) hi rfl;exact AE ⟨x.2,rfl,AE (f p x _ e j u (EA ..))⟩
 | none =>
  have c:(ps.map fun(i:Nat)=>rawInt i).toArray[i]?=none:=by
   rw[FA,AG,e];rfl
  rw[c];dsimp only;refine AA (F_ hi rfl (by simp) ?_);have v:=DD (Obj.mapFields (·.setIfInBounds 0 (rawInt 0))) hi rfl;refine AA (F_ v rfl (by simp) ?_);refine AA ?_;simp only[newExc,newTuple];refine AA (DJ ?_ (by size_fits));refine AA (m:=firstArgMember _ _) (GG (a:=Value.none) (by first | rfl | (simp only[firstArgMember];rfl)) ?_);refine DJ ?_ (by size_fits);simp only[raiseNew];refine AA (wpAny_handled ?_);rw[show A.in1.handled=none from l];refine AA (AE (wpAny_throw ?_));refine AA (HL (T := "StopIteration") (b:=true) ⟨_,AN _ rfl,rfl⟩ isSubtype_stop ?_);refine AE (h (List.getElem?_eq_none_iff.mp e) _ (IR (IR (fun b z k y=>?_) _) _));exact(CZ _ _ (Ne.symm k)).trans ((CZ _ _ (Ne.symm k)).trans y)
def zGq(w:F1)(a T:A2)(es:A7 (Int×A1))(ep:Nat)(t:JB)(b:A0 A1)(i:Nat)(h:IV)(first:A1):Prop :=
 (w.params.followText "set-order" = true/\first=rawInt (0:Nat)/\b =(pickOrder (w.params.setOrder a ep) es).toList.map (·.2)) \/
 (w.params.followText "set-order" = false/\∃c:A0 Nat,first = .ref T/\h.get? T=some (UZ c)/\c.Perm (List.range es.size)/\b=c.filterMap fun p=>es[p]?.map (·.2)) \/
 (w.params.followText "set-order" = false/\es.size<=1/\b=es.toList.map (·.2)/\∃d:Nat,first=rawInt d/\(i=0->d=0)/\(i=1->∃j,t.place = #[j]/\d=j+1))
def SSt(w:F1)(a it T:A2)(o:Obj)(es:A7 (Int×A1))(ep:Nat)(t:JB)(b:A0 A1)(i:Nat)(h:IV):Prop :=
 SZ w h a o es ep t/\∃first,h.get? it=some (TH first i es.size ep a)/\zGq w a T es ep t b i h first
theorem SZ.at{h h':IV}(S:SZ w h a o es ep t)(e:h'.get? a=some o):SZ w h' a o es ep t:=⟨e,S.ex,S.hd,S.ft,S.led,S.pln,S.few⟩
theorem zCv(j:Nat):SetTable.below #[j] 0=0:=by simp[SetTable.below,SetTable.below.go]
theorem zDl(j:Nat):SetTable.below #[j] (j+1)=1:=by simp[SetTable.below,SetTable.below.go]
theorem Ux(S:SZ w s.heap a o es ep t):t.place.size=es.size:=by
 have:=S.ft;unfold SetTable.fits at this;rw[BU]at this;simpa using this.1
theorem Qd(L:A.handled=none){u:A0 A1}(m:it≠a)(hiT:it≠T):Walks prog w A it [it,a,T] [it] es.size (fun i v=>u[i]?=some v) (SSt w a it T o es ep t u) where
 sub:=fun b M=>by simp at M;simp[M]
 frame:=fun i h c ⟨S,first,B,N⟩ k=>by
  refine⟨S.at (k a (by simp) _ S.ho),first,k it (by simp) _ B,?_⟩;rcases N with z | ⟨g,O,W,n,F,G⟩ | z
  .exact .inl z
  .exact .inr (.inl ⟨g,O,W,k T (by simp) _ n,F,G⟩)
  .exact .inr (.inr z)
 item:=fun i s Q E hlt ⟨S,first,B,N⟩ I=>by
  have d:∀c,Heap.SameBut it s.heap c->∀b H,b∉[it]->s.heap.get? b=some H->c.get? b=some H:=fun c f b H M e=>(f.2 b (by simpa using M)).trans e;rcases N with⟨g,rfl,n⟩ | ⟨g,O,rfl,n,F,G⟩ | ⟨g,W,n,sl,rfl,G,z6⟩
  .have J:=Ap (w.params.setOrder a ep) es;have C:(pickOrder (w.params.setOrder a ep) es).size=es.size:=by rw[<-AW,J.length_eq,AW]
   obtain⟨x,R⟩:∃x,(pickOrder (w.params.setOrder a ep) es)[i]?=some x:=⟨_,DQ.mpr ⟨by rw[C];exact hlt,rfl⟩⟩;refine w8 (r:=some (x.2,0)) L S m B (fun U A' E' q=>?_) (fun y nx c D P f=>?_) (fun e=>nomatch e)
   .unfold setNext setWalk;refine AA (CP S.ho S.hd S.ft ?_);dsimp only;refine AA (O9 ?_);rw[g,AU rfl,AO (by simp)];refine AA (AA (CP S.ho S.hd S.ft ?_));dsimp only;refine AA (O9 ?_);rw[g,AU rfl];refine AA (HJ (AE (AE ?_)));show U (((pickOrder (w.params.setOrder a ep) es)[i]?).map fun e=>(e.2,0)) s;rw[R];exact q
   .cases D;have:=I x.2 c s.toks (by rw[n,AG,BT,R];rfl) ⟨S.at ((f.2 a (Ne.symm m)).trans S.ho),_,P,.inl ⟨g,rfl,n⟩⟩ (d c f);exact this
  .refine Lw L S B n (fun p x c D P e3 f=>?_) (fun p hp=>CB.mp (F.mem_iff.mp hp)) (fun hle=>?_)
   .have V:∀q∈O,(es[q]?.map (·.2)).isSome=true:=fun q hq=>by
     have:q<es.size:=CB.mp (F.mem_iff.mp hq);rw[DQ.mpr ⟨this,rfl⟩];rfl
    refine I x.2 c s.toks ?_ ⟨S.at ((f.2 a (Ne.symm m)).trans S.ho),_,e3,.inr (.inl ⟨g,O,rfl,(f.2 T (Ne.symm hiT)).trans n,F,G⟩)⟩ (d c f);have gen:∀(l:A0 Nat) (i p:Nat),(∀q∈l,(es[q]?.map (·.2)).isSome=true)->l[i]?=some p->(l.filterMap fun p=>es[p]?.map (·.2))[i]?=es[p]?.map (·.2):=by
     intro l
     induction l with
     | nil=>intro i p _ e;simp at e
     | cons q r ih =>
      intro i p X e;obtain⟨v,hv⟩:=FF.mp (X q (BG ..));rw[FQ,hv];dsimp only;cases i with
      | zero =>
       have:q=p:=by simpa using e
       subst this;simpa using hv.symm
      | succ i=>simpa using ih i p (fun q hq=>X q (A_ _ hq)) (by simpa using e)
    rw[G,gen O i p V D,P];rfl
   .have:=F.length_eq;rw[CA]at this;omega
  .have Y:i=0:=by omega
   have h1:es.size=1:=by omega
   obtain⟨j,Z⟩:∃j,t.place = #[j]:=Array.size_eq_one_iff.mp ((Ux S).trans h1);obtain⟨x,R⟩:∃x,es = #[x]:=Array.size_eq_one_iff.mp h1;have hs0:=G Y;subst hs0;have hx0:es[0]?=some x:=by rw[R];rfl
   refine w8 (r:=some (x.2,j+1)) L S m B (fun U A' E' q=>?_) (fun y nx c D P f=>?_) (fun e=>nomatch e)
   .unfold setNext;refine AA (CP S.ho S.hd S.ft ?_);dsimp only;refine AA (O9 ?_);rw[g,AO (by decide)];show wpAny _ _ (if(!t.plain&&decide (es.size>1))=true then _ else _) _ _ _;rw[AO (by rw[h1];simp)];show wpAny _ _ (do (if(!t.led&&!es.isEmpty)=true then unsupported "set:maker-not-led" else pure ());_) _ _ _;rw[S.led,g,AO (by simp)];refine AA (AE ?_);rw[Z,zCv,hx0];exact AE q
   .cases D;refine I x.2 c s.toks (by rw[n,Y,R];rfl) ⟨S.at ((f.2 a (Ne.symm m)).trans S.ho),_,P,.inr (.inr ⟨g,W,n,j+1,rfl,fun e=>by omega,fun _=>⟨j,Z,rfl⟩⟩)⟩ (d c f)
 done:=fun s Q E ⟨S,first,B,N⟩ I=>by
  have d:∀c,Heap.ExtBut it s.heap c->∀b H,b∉[it]->s.heap.get? b=some H->c.get? b=some H:=fun c f b H M e=>f b H (by simpa using M) e;rcases N with⟨g,rfl,n⟩ | ⟨g,O,rfl,n,F,G⟩ | ⟨g,W,n,sl,rfl,G,z6⟩
  .have J:=Ap (w.params.setOrder a ep) es;have C:(pickOrder (w.params.setOrder a ep) es).size=es.size:=by rw[<-AW,J.length_eq,AW]
   refine w8 (r:=none) L S m B (fun U A' E' q=>?_) (fun y nx c D=>nomatch D) (fun _ c f=>I c s.toks (d c f));unfold setNext setWalk;refine AA (CP S.ho S.hd S.ft ?_);dsimp only;refine AA (O9 ?_);rw[g,AU rfl,AO (by simp)];refine AA (AA (CP S.ho S.hd S.ft ?_));dsimp only;refine AA (O9 ?_);rw[g,AU rfl];refine AA (HJ (AE (AE ?_)));show U (((pickOrder (w.params.setOrder a ep) es)[es.size]?).map fun e=>(e.2,0)) s;rw[ES (by rw[C];exact Nat.le_refl _)];exact q
  .have X:=F.length_eq;rw[CA]at X;refine Lw L S B n (fun p x c D P e3 f=>?_) (fun p hp=>CB.mp (F.mem_iff.mp hp)) (fun _ c f=>I c s.toks (d c f));have:=(AD.mp D).1;omega
  .refine w8 (r:=none) L S m B (fun U A' E' q=>?_) (fun y nx c D=>nomatch D) (fun _ c f=>I c s.toks (d c f));unfold setNext;refine AA (CP S.ho S.hd S.ft ?_);dsimp only;refine AA (O9 ?_);rw[g,AO (by decide)];show wpAny _ _ (if(!t.plain&&decide (es.size>1))=true then _ else _) _ _ _;rw[AO (by simp;intro _;omega)];show wpAny _ _ (do (if(!t.led&&!es.isEmpty)=true then unsupported "set:maker-not-led" else pure ());_) _ _ _;rw[S.led,g,AO (by simp)];refine AA (AE ?_);have K:es[SetTable.below t.place sl]?=none:=by
    by_cases Y:es.size=0
    .exact ES (by rw[Y];exact CK _)
    .obtain⟨j,Z,rfl⟩:=z6 (by omega);rw[Z,zDl];exact ES (by omega)
   rw[K];exact AE q
 self:=fun i s Q E ⟨S,first,B,N⟩ h=>by
  have hT:s.TypeIs (.ref it) "set_iterator":=⟨_,B,rfl⟩;refine wpAny_pyIter_slot hT n6 (CT n6 hT Ct ?_ (Hb _));show wpAny _ _ (ret (.ref it)) _ _ s;exact AE ⟨_,rfl, "set_iterator",_,hT,KJ.lookup,h⟩
theorem Vh{Q:A1->A3->Prop}(S:SZ w s.heap a o es ep t)
  (h:∀(it T:A2) (c:A0 A1) (h':IV) (d:Drawn),it≠a->it≠T->(T=a\/s.heap.objs.size<=T)->s.heap.objs.size<=it->(∀b g,s.heap.get? b=some g->h'.get? b=some g)->c.Perm (es.toList.map (·.2))->SSt w a it T o es ep t c 0 h'->(∀b∈[it,a,T],b<h'.objs.size) ->
   (∀I:IZ,I.handled=none->Walks prog w I it [it,a,T] [it] es.size (fun i v=>c[i]?=some v) (SSt w a it T o es ep t c))->Q (.ref it) { s with heap:=h',drawn:=d }):wpAny (model prog w) A (pyIter (.ref a)) Q E s:=by
 have M:s.TypeIs (.ref a) "set":=⟨_,S.ho,S.ex.1⟩;have G:=AJ S.ho;refine wpAny_pyIter_slot M F.slot_set_iter (CT F.slot_set_iter M Ge ?_ (F.args_set_iter_1 _));unfold Builtin.«frozenset.__iter__» Builtin.Frozenset.slot0 Builtin.Frozenset.sizeOf;refine AA (AA (GG (a:=(Value.ref a,[])) rfl ?_));dsimp only;refine GG (a:=a) rfl ?_;refine AA (AA (wpAny_setEntries_of S.ho S.hd S.ft (AE ?_)));have m:∀(first:A1) (T:A2) (c:A0 A1) (f:IV) (d:Drawn),(∀b g,s.heap.get? b=some g->f.get? b=some g)->s.heap.objs.size<=f.objs.size->c.Perm (es.toList.map (·.2))->T<f.objs.size->(T=a\/s.heap.objs.size<=T) ->
   (∀q:IV,(∀b g,f.get? b=some g->q.get? b=some g)->zGq w a T es ep t c 0 q first) ->
   wpAny (model prog w) A.in1 (do let e <-setEpoch a;let x <-newFields "set_iterator" [first,rawInt 0,.ref a,rawInt (es.size:Nat),rawInt (e:Nat)];ret x) (fun r N=>∃v,r=Fin.done (Flow.ret v)/\∃O r,N.TypeIs v O/\typeLookup (Value.type O) (Str.ofString "__next__")=pure (some r)/\Q v N) E { s with heap:=f,drawn:=d }:=by
  intro first T c f d k n l z J P
  refine AA (wpAny_setEpoch_of (s:={ s with heap:=f,drawn:=d }) (k a o S.ho) S.hd S.ft ?_);refine AA (DJ ?_);have H:(f.push (TH first 0 es.size ep a)).get? f.objs.size=some (TH first 0 es.size ep a):=AN _ rfl;have B:∀b g,f.get? b=some g->(f.push (TH first 0 es.size ep a)).get? b=some g:=fun b g e=>AF _ e;have C:f.objs.size≠a:=fun e=>absurd (BF G n) (by rw[<-e];exact CQ _);have D:f.objs.size≠T:=fun e=>absurd z (by rw[<-e];exact CQ _);refine AE ⟨.ref f.objs.size,rfl, "set_iterator",_,⟨_,H,rfl⟩,KJ.lookup,?_⟩;refine h f.objs.size T c (f.push (TH first 0 es.size ep a)) d C D J n (fun b g e=>B b g (k b g e)) l ⟨S.at (B a o (k a o S.ho)),first,H,P _ B⟩ (fun b u=>?_) fun I R=>Qd R C D;rw[CD];simp only[AV,BH,or_false]at u;rcases u with rfl | rfl | rfl
  .exact FU _
  .exact CS (BF G n)
  .exact CS z
 unfold setDrawn;refine AA (AA (CP S.ho S.hd S.ft ?_));dsimp only;refine AA (O9 (AE ?_));cases u:w.params.followText "set-order" with
 | true =>
  show wpAny _ _ (if(!true &&(!t.plain&&decide (es.size>1)))=true then _ else _) _ _ _;rw[FE,DK,AO (by decide)];refine AA (AE ?_);exact m _ a _ s.heap s.drawn (fun _ _ e=>e) (Nat.le_refl _) ((Ap _ es).map _) G (.inl rfl) fun q _=>.inl ⟨u,rfl,rfl⟩
 | false =>
  show wpAny _ _ (if(!false &&(!t.plain&&decide (es.size>1)))=true then _ else _) _ _ _;by_cases j:(!t.plain&&decide (es.size>1))=true
  .rw[II,FH,AU j];refine AA (Ta es.size (List.range es.size) s _ (CA ..) fun y d l=>AA ?_);unfold newTuple;refine DJ ?_ ?_
   .have H:(s.heap.push (UZ y)).get? s.heap.objs.size=some (UZ y):=AN _ rfl;refine m _ s.heap.objs.size (y.filterMap fun p=>es[p]?.map (·.2)) (s.heap.push (UZ y)) d (fun b g e=>AF _ e) (by rw[CD];exact D_ _) ?_ (by rw[CD];exact FU _) (.inr (Nat.le_refl _)) fun q B=>.inr (.inl ⟨u,y,rfl,B _ _ H,l,rfl⟩);refine(l.filterMap _).trans (IB ?_);have:=filterMap_getElem?_range es;rw[<-this,List.map_filterMap]
   .have f:=l.length_eq;have q:=S.few;rw[CA]at f;show(List.map _ y).toArray.size<=sizeLine;rw[AQ,AB,sizeLine_eq];omega
  .rw[II,FH,AO j];refine AA (AE ?_);have K:es.size<=1:=by
    by_cases l:t.plain=true
    .have:=S.pln l;omega
    .have L:t.plain=false:=by simpa using l
     rw[L]at j;simp at j;omega
   exact m _ a _ s.heap s.drawn (fun _ _ e=>e) (Nat.le_refl _) (.refl _) G (.inl rfl) fun q _=>.inr (.inr ⟨u,K,rfl,0,rfl,fun _=>rfl,fun e=>absurd e (by decide)⟩)
end
section
variable{prog:A6}{w:F1}{A:IZ}{E:A1->A3->Prop}{s:A3}{a:A2}{o:Obj}{es:A7 (Int×A1)}{ep:Nat}{t:JB}
theorem Vd{a:A0 A1}{b:A7 A1}(h:ItemsOf (fun i v=>a[i]?=some v) b a.length):b.toList=a:=by
 refine FN fun i=>?_;rw[BT];by_cases c:i<b.size
 .have e:b[i]?=some b[i]:=DQ.mpr ⟨c,rfl⟩;rw[e,h.2 i _ e]
 .rw[ES (by omega),EC (by have:=h.1;omega)]
theorem RD{Q:A0 A1->A3->Prop}(O:A.handled=none)(S:SZ w s.heap a o es ep t)
  (U:∀f q,(∀b c,s.heap.get? b=some c->f.heap.get? b=some c)->f.gens=s.gens->f.os=s.os->s.heap.objs.size<f.heap.objs.size->q.Perm (es.toList.map (·.2))->Q q f):wpAny (model prog w) A (collect (.ref a)) Q E s:=by
 have V:=AJ S.ho;unfold collect;refine AA (wpAny_runValue (FP F.entry_proto_collect ?_));rw[Around.under_plainId F.plain_proto_collect _];show wpAny _ A.in1 (newList [] >>= fun l=>again (.builtin "list.__iadd__" ⟨[l,.ref a],[]⟩)) _ _ s;refine AA (DJ ?_);refine AE ⟨plainId_quiet F.plain_list_iadd _,FP F.entry_list_iadd ?_⟩;rw[Around.under_plainId F.plain_list_iadd _];show wpAny _ A.in1 (Builtin.List.listExtendWith (.ref s.heap.objs.size) (.ref a) (.ref s.heap.objs.size)) _ _ _;unfold Builtin.List.listExtendWith;have h:s.heap.objs.size≠a:=fun e=>absurd V (by rw[<-e];exact CQ _);generalize J:s.heap.push { cls:=.type "list",data:=.seq ([]:A0 A1).toArray }=H;have G:∀b c,s.heap.get? b=some c->H.get? b=some c:=fun b c e=>by rw[<-J];exact AF _ e
 have i:H.objs.size=s.heap.objs.size+1:=by rw[<-J,CD]
 have X:H.get? s.heap.objs.size=some { cls:=.type "list",data:=.seq ([]:A0 A1).toArray }:=by rw[<-J];exact AN _ rfl
 have Y:Shared.TypeIs { s with heap:=H } (.ref a) "set":=⟨o,G a o S.ho,S.ex.1⟩;refine AA (wpAny_typeOf Y ?_);have Z:Builtin.List.listSameRef (.ref s.heap.objs.size) (.ref a)=false:=by simp[Builtin.List.listSameRef,h]
 have h2:(Value.type "set" == Value.type "list")=false:=by decide
 have h3:(Value.type "set" == Value.type "tuple")=false:=by decide
 simp only[Z,h2,h3,HX,BE,DA];refine AA (Vh (s:={ s with heap:=H }) (S.at (G a o S.ho)) fun I T j r d hia hiT K u k P st hlt W=>?_);have m:Shared.TypeIs { s with heap:=r,drawn:=d } (.ref a) "set":=⟨o,k a o (G a o S.ho),S.ex.1⟩;refine AA (CG ?_);unfold Builtin.List.listLengthHint;refine AA (wpAny_specialOf m zGg ?_);wp_delta;refine AA (HL m (b:=true) (by rw[isSubtype_type];kernel_rfl) ?_);show wpAny _ A.in1 (typeOf (Value.ref a) >>= _) _ _ _;refine AA (wpAny_typeOf m ?_);refine AE ?_;rw[AU (by decide)];refine AA (EF ?_);have v:r.get? s.heap.objs.size=some { cls:=.type "list",data:=.seq ([]:A0 A1).toArray }:=k _ _ X;refine AA ?_;show wpAny _ A.in1 (updateSeq s.heap.objs.size (·.push .none) >>= fun _=>updateSeq s.heap.objs.size (·.pop)) _ _ _;refine AA (wpAny_updateSeq v rfl ?_);have x:=DD (Obj.mapSeq (·.push Value.none)) v rfl;refine wpAny_updateSeq x rfl ?_;have L:=DD (Obj.mapSeq (·.pop)) x rfl;have y:∀b c,b≠s.heap.objs.size->r.get? b=some c->((r.update s.heap.objs.size (Obj.mapSeq (·.push Value.none))).update s.heap.objs.size (Obj.mapSeq (·.pop))).get? b=some c :=
  fun b c p e=>(CZ _ _ (Ne.symm p)).trans ((CZ _ _ (Ne.symm p)).trans e)
 have B:s.heap.objs.size∉[I,a,T]:=by
  have e1:s.heap.objs.size≠I:=fun e=>absurd u (by
   show ¬H.objs.size<=I;rw[i,<-e];exact Nat.not_succ_le_self _)
  have e2:s.heap.objs.size≠T:=fun e=>by
   rcases K with z | z
   .exact h (e.trans z)
   .exact absurd z (by
     show ¬H.objs.size<=T;rw[i,<-e];exact Nat.not_succ_le_self _)
  simp only[AV,BH,or_false,not_or];exact⟨e1,h,e2⟩
 have M:es.size=j.length:=by
  have:=P.length_eq;rw[AB,AW]at this;exact this.symm
 have R:=S.few;refine AE ⟨plainId_quiet F.plain_extend_loop _,codeAny_extend_loopS (W A.in1 O).toS (by rw[sizeLine_eq];omega) _ B _ es.size 0 _ _ _ rfl (CK _)
  ((W A.in1 O).frame 0 r _ st fun b p c e=>y b c (fun z=>B (z▸p)) e) L (ItemsOf.nil _) fun f C c' N D g=>?_⟩
 show wpAny _ A (load s.heap.objs.size >>= _) _ _ f;refine AA (wpAny_load D ?_);rw[M]at g;refine AE (U f C.toList (fun b c e=>N.heap b c (fun p=>?_) (y b c (fun z=>?_) (k b c (G b c e)))) N.gens N.os (AJ D) (by rw[Vd g];exact P))
 .have n:=AJ e;rcases AV.mp p with z | z
  .exact absurd n (by rw[z];exact CQ _)
  .rw[AH.mp z]at n;have:H.objs.size<=I:=u;rw[i]at this;exact absurd (BF n (EQ this)) (CQ _)
 .exact absurd (AJ e) (by rw[z];exact CQ _)
end
end ST
namespace ST
open PySem L2
def zDc(t:JB)(n:Nat):(t.orStandIn n).led=t.led:=by
 unfold SetTable.orStandIn;split<;>rfl
def Zv(t:JB)(a:A7 (Int×A1))(h:Int)(x:A1):(layNew t a h x).2.1.led=t.led:=by
 unfold layNew;split
 .rename_i b c e;show((t.put b).1.orStandIn _).led=_;rw[zDc];rfl
 .rfl
def Me{t t':JB}{b:A7 Int}{n:Nat}{a:A7 Nat}(h:t.relaid b n=some (t',a)):t'.led=t.led/\t'.plain=t.plain:=by
 unfold SetTable.relaid SetTable.laid at h;cases e:SetTable.layClean (SetTable.sizeAbove n-1) b with
 | none=>rw[e]at h;cases h
 | some c =>
  rw[e]at h;cases h;exact⟨rfl,rfl⟩
def Qa(t:JB)(a:A7 (Int×A1))(n:Nat)(b:t.plain=false):(relayAll t a n).2.1.led=t.led/\(relayAll t a n).2.1.plain=false:=by
 unfold relayAll;split
 .rename_i g c e;obtain⟨d,f⟩:=Me e;dsimp only;split
  .exact⟨d,f.trans b⟩
  .exact⟨rfl,rfl⟩
 .exact⟨rfl,rfl⟩
def zHd:A1->Str
 | .str x _=>x
 | _=>Str.empty
section
variable{prog:A6}{w:F1}{A:IZ}{E:A1->A3->Prop}{s:A3}{a:A2}
structure PF(w:F1)(es:A7 (Int×A1))(ss:A0 Str):Prop where
 el:∀e∈es.toList,∃x tk,e =(hashStr w x,Value.str x tk)
 pm:(es.toList.map fun e=>zHd e.2).Perm ss
 nd:ss.Nodup
def WS(w:F1)(h:IV)(a:A2)(ss:A0 Str):Prop:=∃o b c t,SZ w h a o b c t/\PF w b ss
theorem PF.elems{a:A7 (Int×A1)}{ss:A0 Str}(h:PF w a ss):ElemsOf (C4 prog w) a.toList:=fun e b=>by
 obtain⟨x,c,rfl⟩:=h.el e b;exact⟨⟨.inr x,X8 x c,rfl⟩,rfl⟩
theorem PF.mem{d:A7 (Int×A1)}{ss:A0 Str}(h:PF w d ss)(x:Str):x∈ss↔∃e∈d.toList,(C4 prog w).is (.inr x) e.2=true:=by
 rw[<-h.pm.mem_iff];constructor
 .intro g;obtain⟨e,a,rfl⟩:=AI.mp g;obtain⟨y,b,rfl⟩:=h.el e a;exact⟨_,a,X8 y b⟩
 .rintro⟨e,a,j⟩;obtain⟨y,b,rfl⟩:=h.el e a;have:y=x:=by
   rcases E7 (show De (.inr x) (.str y b)=true from j)with⟨i,t,f,c⟩ | ⟨z,t,f,c⟩
   .cases c
   .cases f;cases c;rfl
  subst this;exact AI.mpr ⟨_,a,rfl⟩
theorem PF.len{a:A7 (Int×A1)}{ss:A0 Str}(h:PF w a ss):a.size=ss.length:=by
 have:=h.pm.length_eq;rw[AB,AW]at this;exact this
theorem TU{ss:A0 Str}{x:Str}{m:Tok}{Q:Bool->A3->Prop}(S:WS w s.heap a ss)(hl:ss.length+1<4096)
  (h:∀h' b,Heap.SameBut a s.heap h'->WS w h' a (if x∈ss then ss else ss ++ [x])->Q b { s with heap:=h' }) :
  wpAny (model prog w) A (setAddHashed a (.str x m) (hashStr w x)) Q E s:=by
 obtain⟨o,n,ep,t,S,T⟩:=id S;have C:(C4 prog w).is (.inr x) (.str x m)=true:=X8 x m;have hsz:=T.len;unfold setAddHashed setAddHashedIn;refine CG (AA (CP S.ho S.hd S.ft ?_));dsimp only;rw[byScan_of (knd:=C4 prog w) rfl S.few T.elems,AU rfl];unfold setAddByScan;refine AA (AA (EF ?_));refine AA (wpAny_setScan_of C S.ho S.hd S.ft T.elems ?_);cases W:List.findIdx? (fun e=>(C4 prog w).is (.inr x) e.2) n.toList with
 | some j =>
  dsimp only;obtain⟨hj,M,_⟩:=List.findIdx?_eq_some_iff_getElem.mp W;have p:x∈ss:=(T.mem (prog:=prog) x).mpr ⟨n.toList[j],EI hj,M⟩;refine AE (AE ?_);have:=h s.heap false (Heap.SameBut.refl a s.heap) (by rw[AU p];exact⟨o,n,ep,t,S,T⟩);exact this
 | none =>
  dsimp only;have p:¬x∈ss:=fun p=>by
   obtain⟨e,N,K⟩:=(T.mem (prog:=prog) x).mp p;have:=List.findIdx?_eq_none_iff.mp W e N;rw[K]at this;exact Bool.noConfusion this
  have D:∀(b:Bool) {O:A3} {P:Unit->A3->Prop},P () O->wpAny (model prog w) A (match b with | true=>rule "set.scan.the-table-gave-way" | false=>pure ()) P E O :=
   fun b O P X=>by cases b<;>first | exact AE X | exact EF X
  have d:=layNew_perm t n (hashStr w x) (.str x m);have g:=layNew_fits t n (hashStr w x) (.str x m);have k:=Zv t n (hashStr w x) (.str x m);show wpAny _ _ (match layNew t n (hashStr w x) (.str x m)with | (n,t,f,F)=>_) _ _ _;generalize layNew t n (hashStr w x) (.str x m)=L at d g k⊢;obtain⟨c,t1,f,F⟩:=L;dsimp only at d g k⊢;rw[DT]at d;have q:∀u:A7 (Int×A1),u.toList.Perm c.toList->PF w u (ss ++ [x]):=fun u G=>by
   refine⟨fun e N=>?_,?_,?_⟩
   .rcases AS.mp (d.mem_iff.mp (G.mem_iff.mp N))with z | z
    .exact T.el e z
    .exact⟨x,m,AH.mp z⟩
   .refine((G.trans d).map _).trans ?_;rw[AL];exact T.pm.append (.refl _)
   .rw[FO];refine⟨T.nd,by simp,fun y hy z hz=>?_⟩;rw[AH.mp hz];rintro rfl;exact p hy
  have l:c.size=ss.length+1:=by
   have:=(q c (.refl _)).len;rw[BJ]at this;exact this
  refine AA (D _ ?_);have H:∀i:JB,i.led=t.led->i.plain=false->i.fits c.size=true->wpAny (model prog w) A (do
    storeSet a c i
    if(!f&&i.tooFull)=true then do
      (match(relayAll i c (SetTable.grown c.size)).2.2 with | true=>rule "set.scan.the-table-gave-way" | false=>pure ())
      storeSet a (relayAll i c (SetTable.grown c.size)).1 (relayAll i c (SetTable.grown c.size)).2.1
      pure (some true)
     else pure (some true)) (fun r s'=>wpAny (model prog w) A (match r with | some v=>pure v | none=>setAddHashedIn a (.str x m) (hashStr w x) 99999) Q E s') E s:=by
   intro i Y Z f2;refine AA (IJ S.ho S.hd ?_ (by rw[l,sizeLine_eq];omega));have B:=Cp S.ho S.hd c i;have I:=EA s.heap a (Obj.putSet c i);split
   .have K:=relayAll_perm i c (SetTable.grown c.size);have hf:=relayAll_fits i c (SetTable.grown c.size);obtain⟨R,U⟩:=Qa i c (SetTable.grown c.size) Z;have J:(relayAll i c (SetTable.grown c.size)).1.size=c.size:=by rw[<-AW,K.length_eq,AW]
    refine AA (D _ ?_);refine AA (IJ B rfl ?_ (by rw[J,l,sizeLine_eq];omega));refine AE (AE (h _ true (I.trans (EA _ a _)) ?_));rw[AO p];exact⟨_,_,_,_,⟨Cp B rfl _ _,S.ex,rfl,hf,R.trans (Y.trans S.led),(fun z=>by rw[U]at z;cases z),by rw[J,l];omega⟩,q _ K⟩
   .refine AE (AE (h _ true I ?_));rw[AO p];exact⟨_,c,_,i,⟨B,S.ex,rfl,f2,Y.trans S.led,(fun z=>by rw[Z]at z;cases z),by rw[l];omega⟩,q _ (.refl _)⟩
  cases V:t1.plain with
  | true =>
   rw[AU rfl,hashByValue_scannable 8 (x:=Value.str x m) rfl];refine AA (AE ?_);exact H { t1 with plain:=false } k rfl (SetTable.fits_plain_off g)
  | false =>
   rw[AO (by decide)];refine AA (AE ?_);exact H t1 k V g
end
end ST
namespace L2
open PySem PySem.Spec PyProof.Rows
def Ei(w:F1)(a:A2)(ss:A0 Str):HO:=.ext fun h=>ST.WS w h a ss
section
variable{X:Cx}{pins:A0 (A2×Obj)}{σ:St}{H:Hp}{s:A3}{a:A2}{ss:A0 Str}
theorem Xd{P:A6}{w:F1}{H:Hp}{h:IV}(z:ST.WS w h a ss):JH P w H h a (Ei w a ss) :=
 ⟨z,let⟨o,_,_,_,S,_⟩:=z;⟨o,S.ho⟩,fun d e ⟨o,b,c,t,S,r⟩ k=>⟨o,b,c,t,S.at (k o S.ho),r⟩⟩
theorem Inv.setw(I:Inv X pins σ H s)(e:H a=some (Ei X.w a ss)):ST.WS X.w s.heap a ss:=by
 obtain⟨z,_⟩:=(show JH X.prog X.w H s.heap a (Ei X.w a ss)from I.hok a _ e);exact z
def Vg(l:A0 Str)(x:Str):A0 Str:=if x∈l then l else l ++ [x]
def zFf(w:F1):V->A0 V->Hp->VK->Prop:=fun x b H Q=>∃a l k,x = .ref a/\b = [.str k]/\H a=some (Ei w a l)/\l.length+1<4096/\Q .non (IU H a (Ei w a (Vg l k)))
theorem WS.typeIs{ss:A0 Str}(z:ST.WS X.w s.heap a ss):s.TypeIs (.ref a) "set":=let⟨o,_,_,_,S,_⟩:=z;⟨o,S.ho,S.ex.1⟩
theorem Zp:RT X "set.add" (zFf X.w):=by
 intro pins s σ H x n v p Q I g i h;obtain⟨a,l,k,rfl,rfl,d,j,q⟩:=h;cases g;obtain⟨u,rfl,⟨r,rfl⟩⟩:=i.one;have z:=I.setw d;refine CT F.slot_set_add (WS.typeIs z) F.entry_set_add ?_ (F.args_set_add_2 _ _);unfold Builtin.«set.add» Builtin.Frozenset.oneOther;simp only[List.isEmpty_nil,bind_assoc];unfold Builtin.Frozenset.addrOf setAdd;refine AA (AE ?_)
 try dsimp only
 refine AA (AE ?_)
 try dsimp only
 refine AA ?_;refine CG ?_;refine AA (wpAny_pyHash_str ?_);refine ST.TU (s:={ s with toks:=s.toks+1 }) z j fun t b c f=>?_;show wpAny _ _ (ret Value.none) _ _ _;refine AE ⟨_,rfl,.non,_,I.write (x:=a) (e:=a) (t':=s.toks+1) (by rw[d];exact True.intro) (.inl rfl) (fun b q m e=>(c.2 b m).trans e) (let⟨o,_,_,_,S,_⟩:=f;⟨o,S.ho⟩) (Xd f),rfl,q⟩
theorem Vb{Q:A1->A3->Prop}{A:IZ}{E:A1->A3->Prop}{prog:A6}{w:F1}
  (h:ST.WS w (s.heap.push { cls:=.type "set",dict:=none,data:=.set #[] 0 (.fresh 0 0 (!(w.params.followText "set-order"))) }) s.heap.objs.size [] ->
   Q (.ref s.heap.objs.size) { s with heap:=s.heap.push { cls:=.type "set",dict:=none,data:=.set #[] 0 (.fresh 0 0 (!(w.params.followText "set-order"))) } }):wpAny (model prog w) A (newSet (.type "set")) Q E s:=by
 unfold newSet setsByText;refine AA (AA (HJ (AE ?_)));dsimp only;simp only[newObj];refine AA (wpAny_alloc (AE (h ⟨_,#[],0,_,⟨AN _ rfl,⟨rfl,rfl,rfl⟩,rfl,by rfl,rfl,fun _=>rfl,by decide⟩,⟨fun e a=>by simp at a,by simp,GQ⟩⟩)))
end
section
variable{X:Cx}{tg iter elt tg2 iter2:IY}{g g2:TG}{tc tc2:TT}{te:TE}{ifs ifs2:A0 IY}{scope:JY}{cl:A0 (Str×A2)}{N':A0 Str}{cap:A0 (A4 Nat)}{pos:Pos}{wi wi2:TI}
def Fa(w:F1)(D:A2)(te:TE):R6:=fun σ H Q=>te σ H fun y a=>∃l k,y = .str k/\a D=some (Ei w D l)/\l.length+1<4096/\Q σ (IU a D (Ei w D (Vg l k)))
theorem Uo{D:A2}(b:X.xe=fun _ _=>False)(d:PE X elt te):VF X (emS elt (.ref D) X.env) (Fa X.w D te):=by
 intro a s σ H Q k F E I h e;unfold emS;refine AA (AA (CF (Bt b (d a s σ H _ I h)) (fun u f ⟨y,g,i,j,l,kk,m,n,o,p⟩=>?_) fun _ _ z=>z));subst m;refine AA (FT (AA (CF (Bt b (Zp a f σ g (.ref D) [.str kk] (.ref D) [u] (fun v c=>v = .non/\Q σ c) i rfl (.cons j .nil) ⟨D,l,kk,rfl,rfl,n,o,rfl,p⟩)) (fun v q ⟨x,c,r,A,_,t⟩=>?_) fun _ _ z=>z)));exact AE (e q σ c r t)
theorem Yn{D:A2}(i:X.calm=true)(a:X.xe=fun _ _=>False)(hi:PI X tg2 iter2 wi2)(j:PG X tg2 g2)(l:SG X ifs2 tc2)(m:PE X elt te)(n:∀x,foldedSetIterable iter2 X.env x=pure x) :
  VF X (emN (.SetComp elt [⟨tg,iter,ifs,0⟩,⟨tg2,iter2,ifs2,0⟩] scope pos) iter2 1 (.ref D) X.env) (zFe wi2 fun J σ H Q=>Y7 g2 tc2 (Fa X.w D te) J σ H Q):=by
 intro b s σ H Q k F E I h o;unfold emN;have g:=hi b s σ H _ I h;rw[a]at g;refine AA (CF g (fun v G p=>?_) fun _ _ z=>z.elim);refine AA (FT (AA (GG (n v) (AA (CG (CF p (fun q K r=>?_) fun _ _ z=>z.elim))))));obtain⟨L,M,N,J,O,f,t,T,c,u,R2⟩:=r;subst f;refine AA (wpAny_runOwn ?_);refine T1 (X:=X) (e:=.SetComp elt [⟨tg,iter,ifs,0⟩,⟨tg2,iter2,ifs2,0⟩] scope pos) (d:=1) (tg:=tg2) (iter:=iter2) (ifs:=ifs2) rfl rfl (gs:=[⟨tg,iter,ifs,0⟩,⟨tg2,iter2,ifs2,0⟩]) rfl rfl T c ?_;exact Q3 (X:=X) rfl rfl i a (Nk elt tg iter tg2 iter2 ifs ifs2 scope pos _ _ _) j l (Uo a m) T t c u R2 fun y σ' A B C=>o y σ' A B C
theorem Yd(S:MW X scope cl N' cap)(i:X.calm=true)(hi:PI X tg iter wi)
  (l:∀(a:A0 (A2×Obj)) (c:A0 A2) (d:A3) (f:Hp),PG (LS X scope cl N' a c d f) tg g/\SG (LS X scope cl N' a c d f) ifs tc/\PI (LS X scope cl N' a c d f) tg2 iter2 wi2 /\
   PG (LS X scope cl N' a c d f) tg2 g2/\SG (LS X scope cl N' a c d f) ifs2 tc2/\PE (LS X scope cl N' a c d f) elt te)
  (m:∀x,foldedSetIterable iter X.env x=pure x:=by intro _;rfl) (j:∀k x,foldedSetIterable iter2 k x=pure x:=by intro _ _;rfl) :
  PE X (.SetComp elt [⟨tg,iter,ifs,0⟩,⟨tg2,iter2,ifs2,0⟩] scope pos) (Ao wi (fun D=>Ei X.w D []) cap fun D J σ H Q=>Y7 g tc (zFe wi2 fun J σ H Q=>Y7 g2 tc2 (Fa X.w D te) J σ H Q) J σ H Q):=by
 refine Dl (newAcc:=newSet (.type "set")) (p2:=firstIterPos [⟨tg,iter,ifs,0⟩,⟨tg2,iter2,ifs2,0⟩] pos) rfl (fun D=>Ei X.w D []) m S i hi (fun a s σ H Q E I h=>?_) (fun a c d f D A B C J σ s H Q R T I st n h p=>?_) (fun _ _ _=>rfl) (fun _ _ _=>rfl) (fun E Q s h=>h)
 .refine Vb fun z=>h _ (I.laid (t':=s.toks) (fun b o e=>AF _ e) (Nat.le_refl _) (Xd z)) fun b F e=>AF _ e
 .obtain⟨q,r,t,u,v,y⟩:=l a c d f;exact Q3 (X:=LS X scope cl N' a c d f) rfl rfl i rfl (Md elt tg iter tg2 iter2 ifs ifs2 scope pos _ _ _) q r (Yn (X:=LS X scope cl N' a c d f) i rfl t u v y (j _)) T I st n h p
end
def Inv.drawn{X:Cx}{a:A0 (A2×Obj)}{σ:St}{H:Hp}{s:A3}(I:Inv X a σ H s)(d:Drawn):Inv X a σ H { s with drawn:=d } :=
 ⟨I.ok,I.os,I.bare,I.base,I.loc,I.cell,I.free,I.freeC,I.pin,I.hok,I.len⟩
section
variable{X:Cx}
theorem He(Z:X.calm=true):E9 X (.builtin "sorted") (fun xs H Q=>∃(p:A2) (ss:A0 Str),xs = [.ref p]/\H p=some (Ei X.w p ss)/\∀(l:A2) (f:A0 Str),H l=none->f.Perm ss->f.Pairwise RB->Q (.ref l) (IU H l (.lst (f.map V.str)))):=by
 intro P s σ H xs m Q I r h;obtain⟨p,ss,rfl,hq,q⟩:=h;obtain⟨u,rfl,ru⟩:=S2 r;cases ru;obtain⟨o,es,ep,t,S,T⟩:=I.setw hq;refine TS.MM (ST.RD (show X.A.in1.handled=none from I.ok.hd Z) S fun D d k1 g1 R E g=>?_);have U:∀v∈d,∃x i,v=Value.str x i:=fun v n=>by
  obtain⟨e,F,rfl⟩:=AI.mp (g.mem_iff.mp n);obtain⟨x,i,rfl⟩:=T.el e F;exact⟨x,i,rfl⟩
 have z:StrsAre d (d.map strOf):=by
  have:∀l:A0 A1,(∀v∈l,∃x i,v=Value.str x i)->StrsAre l (l.map strOf):=by
   intro l
   induction l with
   | nil=>exact fun _=>.nil
   | cons v r G =>
    intro h;obtain⟨x,i,rfl⟩:=h v (BG ..);exact .cons _ _ (G fun u B=>h u (A_ _ B))
  exact this d U
 have W:d.length=es.size:=by rw[g.length_eq,AB,AW]
 have Y:=S.few;have J:(d.map strOf).Perm ss:=by
  refine(g.map strOf).trans ?_;rw[BO];refine List.Perm.trans (IB ?_) T.pm;refine EV fun e F=>?_;obtain⟨x,i,rfl⟩:=T.el e F;rfl
 refine⟨R,by rw[sizeLine_eq];omega,strKind,oneType',fun s2 _=>TS.ON z,fun c h' e ho k hg=>?_⟩;obtain⟨K,hs⟩:=ho;have L:∀v∈c.toList,∃x t,v = .str x t:=fun v n=>U v (K.mem_iff.mp n);have n:JA ((c.toList.map strOf).map V.str) c.toList:=by
  have:∀m:A0 A1,(∀v∈m,∃x t,v = .str x t)->JA ((m.map strOf).map V.str) m:=by
   intro m
   induction m with
   | nil=>exact fun _=>.nil
   | cons v r G =>
    intro h;obtain⟨x,t,rfl⟩:=h v (BG ..);exact .cons ⟨t,rfl⟩ (G fun u B=>h u (A_ _ B))
  exact this _ L
 have j:(c.toList.map strOf).Perm ss:=(K.map strOf).trans J;have M:(c.toList.map strOf).Pairwise RB:=by
  rw[BX];refine(E_.mp hs).imp fun{u v} ⟨B,N,q⟩=>?_;obtain⟨x,t,rfl⟩:=L u B;obtain⟨y,t',rfl⟩:=L v N;have q':decide (y.cps.toList<x.cps.toList)=false:=q;exact of_decide_eq_false q'
 have k0:∀b o,s.heap.get? b=some o->h'.get? b=some o:=fun b o eb=>k b o (k1 b o eb);have C:s.heap.objs.size<=D.heap.objs.size:=FD E;have hn:H D.heap.objs.size=none:=I.hok.fresh C;obtain⟨O,g',d',t',o'⟩:=D;have eo:o'=s.os:=R;have eg:g'=s.gens:=g1;subst eo;subst eg;refine⟨.ref O.objs.size,IU H O.objs.size (.lst ((c.toList.map strOf).map V.str)),?_,rfl,q _ _ hn j M⟩;exact(I.laid (a:=O.objs.size) (o:=.lst ((c.toList.map strOf).map V.str)) (t':=t') k0 C ⟨by rw[AB,AB,K.length_eq,sizeLine_eq];omega,c.toList,e,n,by simpa using hg⟩).drawn d'
end
def Nu(P:A6)(w:F1)(a:A2)(ks:A0 (A0 JZ×A2)):HO:=.ext fun h=>ST.NW (C4 P w) h a ks
def Kz(H:Hp)(ks:A0 (A0 JZ×A2)):Prop:=∀q∈ks,H q.2=some (.tup (q.1.map kV))
section
variable{X:Cx}{pins:A0 (A2×Obj)}{σ:St}{H:Hp}{s:A3}{a:A2}{ks:A0 (A0 JZ×A2)}
theorem Ki(P:A6)(w:F1):ST.Flat (C4 P w):=fun v ⟨x,h⟩=>(C4 P w).byValue x v h
theorem Ua(P:A6)(w:F1):ST.TV (C4 P w):=fun v ⟨x,h⟩=>by
 rcases E7 (show De x v=true from h)with⟨i,t,_,rfl⟩ | ⟨y,t,_,rfl⟩<;>rfl
theorem Xe{P:A6}{w:F1}{H:Hp}{h:IV}(z:ST.NW (C4 P w) h a ks):JH P w H h a (Nu P w a ks) :=
 ⟨z,let⟨o,_,_,_,e,_⟩:=z;⟨o,e⟩,fun d f ⟨o,b,c,t,e,r⟩ k=>⟨o,b,c,t,k o e,r⟩⟩
theorem Inv.sett(I:Inv X pins σ H s)(e:H a=some (Nu X.prog X.w a ks)):ST.NW (C4 X.prog X.w) s.heap a ks:=by
 obtain⟨z,_⟩:=(show JH X.prog X.w H s.heap a (Nu X.prog X.w a ks)from I.hok a _ e);exact z
theorem Mp:E9 X (.type "set") (fun xs H Q=>xs = []/\∀p,H p=none->Q (.ref p) (IU H p (Nu X.prog X.w p []))):=by
 intro pins s σ H xs c Q I r h;obtain⟨rfl,q⟩:=h;cases r;refine call_set_0 fun a=>⟨.ref s.heap.objs.size,_,I.laid (t':=s.toks) (fun b o e=>AF _ e) (Nat.le_refl _) (Xe ?_),rfl,q _ (I.hok.fresh (Nat.le_refl _))⟩;exact⟨_,#[],0,_,AN _ rfl,⟨rfl,rfl,rfl⟩,rfl,.refl _,⟨rfl,rfl,.inl rfl,by show 0*5<7*3;decide⟩⟩
def zGv(P:A6)(w:F1):R2:=fun x y H Q=>∃a p ks k,y = .ref a/\x = .ref p/\H a=some (Nu P w a ks)/\H p=some (.tup (k.map kV))/\Kz H ks/\(∀q∈ks,q.1≠k)/\Q (.bl false) H
theorem Ml(b:X.A.units+1<cLine):LW X (compareOp .In) (zGv X.prog X.w):=by
 intro pins s σ H x y v u Q I c d h;obtain⟨a,p,ks,k,rfl,rfl,e,f,g,i,q⟩:=h;cases d;cases c;exact ST.TQ (neg:=false) b (Ki _ _) (I.sett e) (fun z j=>Bx I.hok (g z j)) (Bx I.hok f) i ⟨.bl false,H,I.tok _,rfl,q⟩
def zEe(P:A6)(w:F1):V->A0 V->Hp->VK->Prop:=fun x b H Q=>∃a p ks k,x = .ref a/\b = [.ref p]/\H a=some (Nu P w a ks)/\H p=some (.tup (k.map kV))/\Kz H ks/\(∀q∈ks,q.1≠k)/\ks.length+1<=300/\Q .non (IU H a (Nu P w a (ks ++ [(k,p)])))
theorem Yg(d:X.A.units+1<cLine):RT X "set.add" (zEe X.prog X.w):=by
 intro pins s σ H x B v C Q I f g h;obtain⟨a,p,ks,k,rfl,rfl,c,i,j,l,m,q⟩:=h;cases f;obtain⟨u,rfl,n⟩:=g.one;cases n;refine ST.SQ d (Ki _ _) (Ua _ _) (I.sett c) (fun z r=>Bx I.hok (j z r)) (Bx I.hok i) l m fun D t z=>?_;exact⟨.non,_,I.write (x:=a) (e:=a) (by rw[c];exact True.intro) (.inl rfl) (fun b q y e=>(t.2 b y).trans e) (let⟨o,_,_,_,e,_⟩:=z;⟨o,e⟩) (Xe z),rfl,q⟩
end
section
variable{X:Cx}{tg:IY}
def zEs(K:PySem.W.Frag)(d:TE):TI:=fun σ H R=>d σ H fun x b=>∃a,x = .ref a/\(((∃c,IW K b a c)/\R (UW K a) b)\/((∃c,KQ K b a c)/\R (Itt K a) b))
theorem zCs{l:IY}{n:TE}(r:PE X l n):PI X tg l (zEs X.K n):=by
 intro d s σ H R I h;refine JT (r d s σ H _ I h) fun v c ⟨x,j,f,t,k⟩=>?_;obtain⟨a,e,k⟩:=k;subst e;cases t;have g:∀b,b∈[c.heap.objs.size]->w4 X d j b:=fun b u=>by
  have e:b=c.heap.objs.size:=by simpa using u
  subst e;exact f.fpOk (Nat.le_refl _) (f.hok.fresh (Nat.le_refl _))
 rcases k with⟨⟨w,m⟩,q⟩ | ⟨⟨w,m⟩,q⟩
 .obtain⟨i,y,p,z⟩:=f.list m;refine HB p.isList ?_;exact⟨c.heap.objs.size,[c.heap.objs.size],_,_,j,rfl,f.kept (t':=c.toks) fun b o e=>AF _ e,Hd a _,⟨_,AN _ rfl,rfl,rfl⟩,g,q⟩
 .obtain⟨i,y,p,z⟩:=f.tuple m;refine GU (show c.heap.IsTuple a i.toArray from p) ?_;exact⟨c.heap.objs.size,[c.heap.objs.size],_,_,j,rfl,f.kept (t':=c.toks) fun b o e=>AF _ e,Cb a _,⟨_,AN _ rfl,rfl,rfl⟩,g,q⟩
end
section
variable{X:Cx}
theorem Ox:E9 X (.builtin "isinstance") (fun xs H Q=>∃x n t b,xs = [x,.ty n]/\NN X.K H x t/\PySem.W.kitOne X.K t (.type n)=some b/\Q (.bl b) H):=by
 intro a s σ H xs g Q I r h;obtain⟨x,n,t,b,rfl,c,d,q⟩:=h;obtain⟨u,v,rfl,e,f⟩:=r.two;cases f;exact Ri I e c d fun i=>⟨.bl b,H,I.tok _,rfl,q⟩
end
mutual
def Rp(K:PySem.W.Frag)(H:Hp):PyData->V->Prop
 | .none,v=>v = .non
 | .bool b,v=>v = .bl b
 | .int i,v=>v = .int i
 | .str x,v=>v = .str x
 | .list d,v=>∃a c,v = .ref a/\IW K H a c/\PL K H d c
 | .tuple d,v=>∃a c,v = .ref a/\KQ K H a c/\PL K H d c
 | .dict _,_=>False
def PL(K:PySem.W.Frag)(H:Hp):A0 PyData->A0 V->Prop
 | [],a=>a = []
 | d::b,a=>∃v r,a=v::r/\Rp K H d v/\PL K H b r
end
section
variable{X:Cx}{pins:A0 (A2×Obj)}{σ:St}{H:Hp}{s:A3}
mutual
theorem Inv.reads(I:Inv X pins σ H s):∀(d:PyData) (v:V) (u:A1),Rp X.K H d v->RelV v u->∃as,Reads s.heap u d as
 | .none,v,u,h,r=>by
  cases(show v = .non by simpa [Rp] using h);cases r;exact⟨_,.none⟩
 | .bool b,v,u,h,r=>by
  cases(show v = .bl b by simpa [Rp] using h);cases r;exact⟨_,.bool b⟩
 | .int i,v,u,h,r=>by
  cases(show v = .int i by simpa [Rp] using h);obtain⟨t,rfl⟩:=r;exact⟨_,.int i t⟩
 | .str x,v,u,h,r=>by
  cases(show v = .str x by simpa [Rp] using h);obtain⟨t,rfl⟩:=r;exact⟨_,.str x t⟩
 | .list j,v,u,h,r=>by
  obtain⟨a,c,e,k,l⟩:=(show ∃a c,v=V.ref a/\IW X.K H a c/\PL X.K H j c by simpa [Rp] using h);subst e;cases r;obtain⟨f,m,⟨o,n,e,p,q,g⟩,_⟩:=I.list k;obtain⟨as,z⟩:=I.readsAll j c f l m;exact⟨_,.list e p g (by simpa using z)⟩
 | .tuple j,v,u,h,r=>by
  obtain⟨a,c,e,k,l⟩:=(show ∃a c,v=V.ref a/\KQ X.K H a c/\PL X.K H j c by simpa [Rp] using h);subst e;cases r;obtain⟨f,m,⟨o,e,p,n,g⟩,_⟩:=I.tuple k;obtain⟨as,z⟩:=I.readsAll j c f l m;exact⟨_,.tuple e p g (by simpa using z)⟩
 | .dict _,v,u,h,r=>by simp[Rp]at h
theorem Inv.readsAll(I:Inv X pins σ H s):∀(a:A0 PyData) (vs:A0 V) (us:A0 A1),PL X.K H a vs->JA vs us->∃as,ReadsAll s.heap us a as
 | [],vs,us,h,r=>by
  cases(show vs = [] by simpa [PL] using h);cases r;exact⟨_,.nil⟩
 | d::a,vs,us,h,r=>by
  obtain⟨v,b,e,c,f⟩:=(show ∃v r,vs=v::r/\Rp X.K H d v/\PL X.K H a r by simpa [PL] using h);subst e;cases r with
  | cons g i =>
   obtain⟨as,z⟩:=I.reads d v _ c g;obtain⟨k,j⟩:=I.readsAll a b _ f i;exact⟨_,.cons z j⟩
end
def Pl(d:PyData):Prop:=d.canLay0=true/\d.depth<=50
def zGf(K:PySem.W.Frag):R2:=fun x y H Q=>∃d e,Rp K H d x/\Rp K H e y/\Pl d/\Pl e/\Q (.bl (PyData.eqv d e)) H
def zFk(K:PySem.W.Frag):R2:=fun x y H Q=>∃d e,Rp K H d x/\Rp K H e y/\Pl d/\Pl e/\Q (.bl (!PyData.eqv d e)) H
def zCu(m:X.A.units+64<cLine):LW X (compareOp .Eq) (zGf X.K):=by
 intro a s σ H x y v u Q I f g h;obtain⟨d,e,i,j,b,c,q⟩:=h;obtain⟨n,k⟩:=I.reads d x v i f;obtain⟨o,l⟩:=I.reads e y u j g;exact PySem.SeqAt.compareEq_reads k l b.1 c.1 (by have:=b.2;have:=c.2;omega) ⟨.bl (PyData.eqv d e),H,I,rfl,q⟩
def zDd(m:X.A.units+64<cLine):LW X (compareOp .NotEq) (zFk X.K):=by
 intro a s σ H x y v u Q I f g h;obtain⟨d,e,i,j,b,c,q⟩:=h;obtain⟨n,k⟩:=I.reads d x v i f;obtain⟨o,l⟩:=I.reads e y u j g;exact PySem.SeqAt.compareNe_reads k l b.1 c.1 (by have:=b.2;have:=c.2;omega) ⟨.bl (!PyData.eqv d e),H,I,rfl,q⟩
def Xn(K:PySem.W.Frag)(neg:Bool):R2:=fun x y H Q=>∃d a,Rp K H d x/\(Rp K H (.list a) y\/Rp K H (.tuple a) y)/\Pl d/\PyData.canLayAll0 a=true/\Q (.bl (if neg then !(a.any fun z=>PyData.eqv z d)else a.any fun z=>PyData.eqv z d)) H
def zEj(n:X.A.units+64<cLine):LW X (compareOp .In) (Xn X.K false):=by
 intro f s σ H x y v u Q I k g h;obtain⟨d,b,l,h2,c,i,q⟩:=h;obtain⟨o,j⟩:=I.reads d x v l k;have a:X.A.units+1+min (PyData.depthAll b) d.depth<cLine:=by have:=c.2;omega
 rcases h2 with h2 | h2
 .obtain⟨m,e⟩:=I.reads (.list b) y u h2 g;exact PySem.SeqAt.in_list_reads e j i c.1 a ⟨.bl _,H,I,rfl,q⟩
 .obtain⟨m,e⟩:=I.reads (.tuple b) y u h2 g;exact PySem.SeqAt.in_tuple_reads e j i c.1 a ⟨.bl _,H,I,rfl,q⟩
def Pm(n:X.A.units+64<cLine):LW X (compareOp .NotIn) (Xn X.K true):=by
 intro f s σ H x y v u Q I k g h;obtain⟨d,b,l,h2,c,i,q⟩:=h;obtain⟨o,j⟩:=I.reads d x v l k;have a:X.A.units+1+min (PyData.depthAll b) d.depth<cLine:=by have:=c.2;omega
 rcases h2 with h2 | h2
 .obtain⟨m,e⟩:=I.reads (.list b) y u h2 g;exact PySem.SeqAt.notIn_list_reads e j i c.1 a ⟨.bl _,H,I,rfl,q⟩
 .obtain⟨m,e⟩:=I.reads (.tuple b) y u h2 g;exact PySem.SeqAt.notIn_tuple_reads e j i c.1 a ⟨.bl _,H,I,rfl,q⟩
end
section
variable{X:Cx}
theorem JA.insert{xs:A0 V}{us:A0 A1}{x:V}{u:A1}(h:JA xs us)(r:RelV x u)(k:Nat):JA (xs.take k++x::xs.drop k) (us.take k++u::us.drop k):=(h.take k).append (.cons r (h.drop k))
def Zw:V->A0 V->Hp->VK->Prop:=fun x b H Q=>∃l a i k y,x = .ref l/\b = [.int i,y]/\i =((k:Nat):Int)/\H l=some (.lst a)/\k<=a.length/\a.length<sizeLine/\Q .non (IU H l (.lst (a.take k++y::a.drop k)))
theorem zGe{k:Nat}{i:Int}(e:i =(k:Int))(h:k<=sizeLine):¬(!Builtin.List.listFitsIndex i)=true:=by
 rw[sizeLine_eq]at h;have a:-(2^63:Int)<=i:=by omega
 have b:i<2^63:=by omega
 have:=fitsIndex_both a b;simpa using this
theorem Om:RT X "list.insert" Zw:=by
 intro c s σ H x E v G Q I m o h;obtain⟨l,J,i,k,y,rfl,rfl,d,f,K,L,q⟩:=h;cases m;obtain⟨M,g,rfl,⟨t,rfl⟩,p⟩:=o.two;obtain⟨z,a,n,r,N,e⟩:=I.lstM f;have u:k<=sizeLine:=by omega
 have w:=zGe d u;have A:a.toArray.size<=sizeLine:=by rw[AQ];omega
 have B:=@PySem.AutoListH.list_insert_list_int_val_1 l a.toArray n i t g w A;refine call_meets F.slot_list_insert ⟨_,e,rfl⟩ F.entry_list_insert (F.args_list_insert_3 _ _ _) B ⟨e,?_⟩;refine⟨.non,_,I.lset (its':=a.take k++g::a.drop k) f e ?_ (r.insert p k) ?_,rfl,q⟩
 .have b:min k a.length=k:=by omega
  have C:¬((k:Int)<0):=by omega
  subst d;have j:¬((k:Int)+0<0):=by omega
  have D:List.take (a.length-k) (List.drop k a)=List.drop k a:=CY (by simp);simp[b,C,D]
 .rw[BJ,BS,AR,DF];omega
def Pq(K:PySem.W.Frag):V->A0 V->Hp->VK->Prop:=fun x b H Q=>∃(l:A2) (a:A0 Str) (y:Str) (j:Nat),x = .ref l/\b = [.str y]/\IW K H l (a.map V.str)/\a[j]?=some y/\(∀m,m<j->a[m]?≠some y)/\Q (.int (j:Nat)) H
theorem S7{ss:A0 Str}{us:A0 A1}(h:JA (ss.map V.str) us){i:Nat}(hi:i<us.length):∃x t,ss[i]?=some x/\us[i] = .str x t:=by
 have b:=h.length;rw[AB]at b;obtain⟨x,a⟩:∃x,ss[i]?=some x:=⟨ss[i]'(by omega),AC (by omega)⟩;obtain⟨u,c,t,rfl⟩:=h.get (i:=i) (x:=.str x) (by rw[AG,a];rfl);refine⟨x,t,a,?_⟩;have:=AC hi;rw[c]at this;exact(BA this).symm
theorem Sy:RT X "list.index" (Pq X.K):=by
 intro B s σ H x W v Y Q I L M h;obtain⟨l,Z,y,j,rfl,rfl,N,C,k,q⟩:=h;cases L;obtain⟨u,rfl,⟨D,rfl⟩⟩:=M.one;obtain⟨a,r,⟨o,n,e,E,O,c⟩,G⟩:=I.list N;have d:=r.length;rw[AB]at d G;have b:j<a.length:=by
  have:=(AD.mp C).1;omega
 obtain⟨P,R,J,S⟩:=o;simp only at E O c;subst E c
 let p:A1->Bool:=fun v=>match v with | .str x _=>x == y | _=>false
 have T:=PySem.SeqAt.list_indexAt l a.toArray n R S (.str y D) p j (by simpa using b) (by rw[sizeLine_eq]at G;omega) ?_ ?_
 .refine call_meets F.slot_list_index ⟨_,e,rfl⟩ F.entry_list_index (F.args_list_index_2 _ _) T ⟨e,?_,?_⟩
  .intro v U;have w:v∈a:=by simpa using U
   obtain⟨i,V,rfl⟩:=List.getElem_of_mem w;obtain⟨x,t,_,f⟩:=S7 r V;rw[f];exact PySem.SeqAt.EqAt.str_str x t y D
  .exact⟨.int (j:Nat),H,I.tok _,⟨_,rfl⟩,q⟩
 .obtain⟨x,t,g,f⟩:=S7 r b;rw[C]at g;cases g;show p (a.toArray[j]'(by simpa using b))=true;rw[show a.toArray[j]'(by simpa using b)=a[j]from by simp,f];exact beq_self_eq_true y
 .intro m hm z;have A:m<a.length:=by simpa using hm
  obtain⟨x,t,g,f⟩:=S7 r A;show p (a.toArray[m]'hm)=false;rw[show a.toArray[m]'hm=a[m]from by simp,f];show(x == y)=false;rw[beq_eq_false_iff_ne];rintro rfl;exact k m z g
def Xl:V->A0 V->Hp->VK->Prop:=fun x b H Q=>∃z y a,x = .str z/\b = [.str y]/\(decide (z.length<y.length)||decide (Builtin.Str.strKind z<Builtin.Str.strKind y))=false/\(y.length == 0)=false /\
 (Builtin.Str.occurrences z y 0 z.length (z.length+1)).isEmpty=false/\z.length<=4000/\Builtin.Str.partsBetween z (Builtin.Str.occurrences z y 0 z.length (z.length+1)) y.length=a/\a.length<=4000/\∀l,H l=none->Q (.ref l) (IU H l (.lst (a.map V.str)))
theorem Fu:∀(ps:A0 Str) (a:Nat),JA (ps.map V.str) (strsFrom a ps)
 | [],_=>.nil
 | _::r,a=>.cons ⟨a,rfl⟩ (Fu r (a+1))
theorem Vw:RT X "str.split" Xl:=by
 intro a s σ H x k v l Q I c d h;obtain⟨z,y,m,rfl,rfl,e,f,g,n,rfl,o,q⟩:=h;obtain⟨t,rfl⟩:=c;obtain⟨u,rfl,⟨i,rfl⟩⟩:=d.one;have j:z.length<=sizeLine:=by rw[sizeLine_eq];omega
 have b:(Builtin.Str.partsBetween z (Builtin.Str.occurrences z y 0 z.length (z.length+1)) y.length).length<=sizeLine:=by rw[sizeLine_eq];omega
 refine call_meets F.slot_str_split (typeIs_str _ _ _) F.entry_str_split (F.args_str_split_2 _ _) (PySem.meets_str_split_sep z y t i e f g j b) ?_;exact⟨.ref s.heap.objs.size,_,I.lnew (Fu _ _) (by rw[AB];exact b),rfl,q _ I.fresh⟩
end
end L2
namespace L2
open PySem PySem.Spec PyProof.Rows
structure Fn(K:PySem.W.Frag)(mg:Str->A4 A1)(x:Str)(st:JF)(ps:A0 Str) where
 f:A2
 fd:JK
 F:SB K x x st f fd
 b:Binds K fd ps []
 m:mg x=some (.ref f)
structure Mt(K:PySem.W.Frag)(C:A2)(m qual:Str)(st:JF)(ps:A0 Str) where
 f:A2
 fd:JK
 F:SB K m qual st f fd
 b:Binds K fd ps []
 m:TW K C m f
section
variable{X:Cx}
theorem C9{x:Str}{st:JF}{ps:A0 Str}{k:Nat}{sp:Sp}{e:IY}{a:A0 IY}{t:TA}{p pos:Pos}(D:Fn X.K X.mg x st ps)(G:JC X.prog X.w X.K X.mg X.base KB k D.f D.fd ps sp)(g:KU k X.A)(h:PA X (e::a) t)
  (i:Gl X x:=by rfl) (c:(x ==("__debug__":Str))=false:=by decide) (j:starEach (e::a) X.env =(false,eval e X.env)::starEach a X.env:=by rfl) (d:(backTo pos (starEach a X.env)).any (·.1)=false:=by rfl) :
  PE X (.Call (.Name x p) (e::a) [] pos) (zAa sp [] E0 t):=Yr G g i D.m D.F.kp D.b .nil M6 h c j d
def Rj(P:A6)(w:F1)(x:V)(H:Hp):Prop:=∃p,x = .ref p/\((∃l,H p=some (Nv P w p l))\/(∃l,H p=some (Ei w p l))\/∃a,H p=some (Nu P w p a))
theorem zEl{c:A0 (A2×Obj)}{σ:St}{H:Hp}{s:A3}{x:V}{v:A1}(I:Inv X c σ H s)(r:RelV x v)(ty:Rj X.prog X.w x H):s.TypeIs v "set"/\∀a,v = .ref a->∃d,s.heap.get? a=some d/\d.dict=none:=by
 obtain⟨p,rfl,h⟩:=ty;cases r;have z:∃o,s.heap.get? p=some o/\o.ExactSet:=by
  rcases h with⟨l,h⟩ | ⟨l,h⟩ | ⟨l,h⟩
  .obtain⟨o,_,_,_,e,b,_⟩:=I.set h;exact⟨o,e,b⟩
  .obtain⟨o,_,_,_,S,_⟩:=I.setw h;exact⟨o,S.ho,S.ex⟩
  .obtain⟨o,_,_,_,e,b,_⟩:=I.sett h;exact⟨o,e,b⟩
 obtain⟨o,e,b⟩:=z;refine⟨⟨o,e,b.1⟩,fun a f=>?_⟩;cases f;exact⟨o,e,b.2.1⟩
def zGu(P:A6)(w:F1)(r:V->A0 V->Hp->VK->Prop)(b:TE)(t:TA):TE:=fun σ H Q=>b σ H fun x a=>Rj P w x a/\t σ a fun c d=>r x c d Q
theorem Zi{o e:IY}{i:TE}{t:TA}{c a:Pos}{r:V->A0 V->Hp->VK->Prop}(m:RT X "set.add" r)(n:PE X o i)(p:PA X [e] t)
  (d:attributeBase o "add" X.env (eval o X.env)=eval o X.env:=by rfl)
  (g:((backTo a (starEach [e] X.env)).all (fun x=>!x.1) &&(backToKw a (keywordEach [] X.env)).all (fun x=>x.1.isSome)
   && decide ([e].length +([]:A0 Keyword).length +(if([]:A0 Keyword).isEmpty then 0 else 1)<30))=true:=by rfl)
  (f:(c.endLine == a.line)=true:=by rfl) (q:starEach [e] X.env = [(false,eval e X.env)]:=by rfl) :
  PE X (.Call (.Attribute o "add" c) [e] [] a) (zGu X.prog X.w r i t):=by
 intro b s σ H Q I h;refine wpAny_Call_method_late d g f rfl (JT (n b s σ H _ I h) fun v u ⟨x,y,j,k,ty,z⟩=>?_);obtain⟨A,B⟩:=zEl j k ty;refine⟨"set", "set.add",F.plainAttrs_set,F.slot_set_add,F.type_set_add,A,B,?_⟩;have l:=p a b u σ y _ j z;rw[q]at l⊢;refine Calls.callWith_builtin rfl (Calls.evalArgs_plain ?_);exact JT l fun C D ⟨E,G,J,K,L⟩=>m b D σ G x E v C Q J k K L
theorem zDt{x:Str}{i:Int}{pos:Pos}(h:∃t,X.mg x=some (.int i t))(a:Gl X x:=by rfl)(b:(x ==("__debug__":Str))=false:=by decide):PE X (.Name x pos) (tC (.int i)):=by
 obtain⟨t,e⟩:=h;exact Ij a e ⟨t,rfl⟩ b
theorem zFv{x y:Str}{pos:Pos}(h:∃t,X.mg x=some (.str y t))(a:Gl X x:=by rfl)(b:(x ==("__debug__":Str))=false:=by decide):PE X (.Name x pos) (tC (.str y)):=by
 obtain⟨t,e⟩:=h;exact Ij a e ⟨t,rfl⟩ b
theorem U9{x:Str}{n:String}{pos:Pos}(a:X.mg x=none)(b:bootBuiltins x=some (.type n))(c:Gl X x:=by rfl)(d:x≠ "__name__":=by decide)(e:(x ==("__debug__":Str))=false:=by decide):PE X (.Name x pos) (tC (.ty n)) :=
 Zg c a b rfl d e
theorem D4{x:Str}{id:String}{r:A0 V->Hp->VK->Prop}{e:IY}{a:A0 IY}{t:TA}{p pos:Pos}(d:E9 X (.builtin id) r)(f:X.mg x=none)(g:bootBuiltins x=some (.builtin id))(h:PA X (e::a) t)(i:Gl X x:=by rfl)(j:x≠ "__name__":=by decide)(b:(x ==("__debug__":Str))=false:=by decide)
  (k:starEach (e::a) X.env =(false,eval e X.env)::starEach a X.env:=by rfl) (c:(backTo pos (starEach a X.env)).any (·.1)=false:=by rfl):PE X (.Call (.Name x p) (e::a) [] pos) (SJ r t):=Vo d i f g h j b k c
theorem Tm{x:Str}{T:String}{r:A0 V->Hp->VK->Prop}{e:IY}{a:A0 IY}{t:TA}{p pos:Pos}(d:E9 X (.type T) r)(f:X.mg x=none)(g:bootBuiltins x=some (.type T))(h:PA X (e::a) t)(i:Gl X x:=by rfl)(j:x≠ "__name__":=by decide)(b:(x ==("__debug__":Str))=false:=by decide)
  (k:starEach (e::a) X.env =(false,eval e X.env)::starEach a X.env:=by rfl) (c:(backTo pos (starEach a X.env)).any (·.1)=false:=by rfl):PE X (.Call (.Name x p) (e::a) [] pos) (SJ r t):=Sq d i f g h j b k c
theorem G0{a:JY}{cl:A0 (Str×A2)}{N':A0 Str}{cap:A0 (A4 Nat)}(c:OK X a cl N' cap)(e:RL X cl)(d:closureFor a X.env=pure cl:=by rfl)(kind:a.kind = .function:=by rfl)(b:∀y∈a.names,y.2≠ .cell:=by decide +kernel)
  (f:∀y∈a.names,y.2 = .local->a.names.lookup y.1=some .local:=by decide +kernel) (g:((relabel a X.env).names.all fun y=>!(y.2 == .cell||y.2 == .free)||(cl.lookup y.1).isSome)=true:=by rfl):MW X a cl N' cap:=⟨kind,b,f,d,e,g,c⟩
theorem LR{a:JY}{cl:A0 (Str×A2)}{N':A0 Str}{b:A0 (A2×Obj)}{c:A0 A2}{d:A3}{e:Hp}{x:Str}{pos:Pos}(i:Nat)(f:N'.Nodup:=by decide +kernel)(hi:N'[i]?=some x:=by rfl)(g:Loc (LS X a cl N' b c d e).env.scope x:=by exact Or.inl rfl)
  (h:(LS X a cl N' b c d e).env.scope.names.lookup x=some .local:=by rfl):PG (LS X a cl N' b c d e) (.Name x pos) (J7 i):=D6 (X:=LS X a cl N' b c d e) f hi g (.inr h)
end
def J3:bootBuiltins "len" = some (.builtin "len"):=by decide +kernel
def Gx:bootBuiltins "enumerate" = some (.type "enumerate"):=by decide +kernel
def zBh:bootBuiltins "min" = some (.builtin "min"):=by decide +kernel
def Xg:bootBuiltins "abs" = some (.builtin "abs"):=by decide +kernel
def G9:bootBuiltins "sorted" = some (.builtin "sorted"):=by decide +kernel
def Wn:bootBuiltins "int" = some (.type "int"):=by decide +kernel
def Lc:bootBuiltins "str" = some (.type "str"):=by decide +kernel
def Hm:bootBuiltins "bool" = some (.type "bool"):=by decide +kernel
def X1:bootBuiltins "list" = some (.type "list"):=by decide +kernel
def y4:bootBuiltins "tuple" = some (.type "tuple"):=by decide +kernel
def Xf:bootBuiltins "set" = some (.type "set"):=by decide +kernel
def C6:bootBuiltins "isinstance" = some (.builtin "isinstance"):=by decide +kernel
def Y8:bootBuiltins "all" = some (.builtin "all"):=by decide +kernel
def KZ(a:A2)(H0 H:Hp):Prop:=∀o,H0 a=some o->H a=some o
def Sm(D:A0 A2)(H H':Hp):Prop:=∀b o,H b=some o->b∉D->H' b=some o
def CM.at{H0 H:Hp}(h:CM H0 H)(a:A2):KZ a H0 H:=fun o e=>h a o e
def CM.new{H:Hp}{p:A2}{o:HO}(h:H p=none):CM H (IU H p o):=fun b u e=>by rw[B6 (B1 e h)];exact e
def CM.upd{H0 H:Hp}{p:A2}{o:HO}(s:CM H0 H)(h:H0 p=none):CM H0 (IU H p o):=fun b u e=>by rw[B6 (B1 e h)];exact s b u e
def CM.sm{D:A0 A2}{H H':Hp}(h:CM H H'):Sm D H H':=fun b o e _=>h b o e
def Sm.refl(D:A0 A2)(H:Hp):Sm D H H:=fun _ _ e _=>e
def Sm.trans{D:A0 A2}{H d e:Hp}(a:Sm D H d)(b:Sm D d e):Sm D H e:=fun c o h n=>b c o (a c o h n) n
def Sm.new{D:A0 A2}{H c:Hp}{p:A2}{o:HO}(a:Sm D H c)(h:c p=none):Sm D H (L2.IU c p o):=fun b u e n=>by
 have:=a b u e n;rw[B6 (B1 this h)];exact this
def Sm.upd{D:A0 A2}{H c:Hp}{p:A2}{o:HO}(a:Sm D H c)(h:p∈D):Sm D H (L2.IU c p o):=fun b u e n=>by
 rw[B6 (show b≠p from fun z=>n (by rw[z];exact h))];exact a b u e n
def Sm.updN{D:A0 A2}{H c:Hp}{p:A2}{o:HO}(a:Sm D H c)(h:H p=none):Sm D H (L2.IU c p o):=fun b u e n=>by rw[B6 (B1 e h)];exact a b u e n
def Sm.at{D:A0 A2}{H H':Hp}(h:Sm D H H'){a:A2}(n:a∉D):KZ a H H':=fun o e=>h a o e n
def Sm.none{D:A0 A2}{H H':Hp}(h:Sm D H H'){a:A2}(n:a∉D)(e:H' a=Option.none):H a=Option.none:=by
 cases q:H a with
 | none=>rfl
 | some o=>rw[h a o q n]at e;cases e
def KZ.seqL{K:PySem.W.Frag}{H H':Hp}{a:A2}{xs:A0 V}(e:KZ a H H')(h:IW K H a xs):IW K H' a xs:=by
 rcases h with(h | ⟨o,h⟩) | h
 .exact .inl (.inl (e _ h))
 .exact .inl (.inr ⟨o,e _ h⟩)
 .exact .inr h
def KZ.seqT{K:PySem.W.Frag}{H H':Hp}{a:A2}{xs:A0 V}(e:KZ a H H')(h:KQ K H a xs):KQ K H' a xs:=by
 rcases h with(h | ⟨o,h⟩) | h
 .exact .inl (.inl (e _ h))
 .exact .inl (.inr ⟨o,e _ h⟩)
 .exact .inr h
def RO(K:PySem.W.Frag)(H:Hp)(a:A2)(xs:A0 V):Prop:=IW K H a xs\/KQ K H a xs
def KZ.seq{K:PySem.W.Frag}{H H':Hp}{a:A2}{xs:A0 V}(e:KZ a H H')(h:RO K H a xs):RO K H' a xs:=h.imp e.seqL e.seqT
structure LA(J:It)(xs:A0 V)(a:A2)(H0:Hp):Prop where
 go:∀H i,KZ a H0 H->i<xs.length->J.go i H
 stop:∀H,KZ a H0 H->J.stop xs.length H
 yld:∀H i x H',KZ a H0 H->i<xs.length->J.yld i H x H'->H'=H/\xs[i]?=some x
def ND{K:PySem.W.Frag}{H0:Hp}{a:A2}{xs:A0 V}(h:IW K H0 a xs):LA (UW K a) xs a H0 :=
 ⟨fun H i k b=>⟨xs,xs[i],k.seqL h,AC b⟩,fun H k=>⟨xs,k.seqL h,Nat.le_refl _⟩,fun H i x c k b ⟨e,y⟩=>⟨e,y xs (k.seqL h)⟩⟩
def asT{K:PySem.W.Frag}{H0:Hp}{a:A2}{xs:A0 V}(h:KQ K H0 a xs):LA (Itt K a) xs a H0 :=
 ⟨fun H i k b=>⟨xs,xs[i],k.seqT h,AC b⟩,fun H k=>⟨xs,k.seqT h,Nat.le_refl _⟩,fun H i x c k b ⟨e,y⟩=>⟨e,y xs (k.seqT h)⟩⟩
def zCc{K:PySem.W.Frag}{H:Hp}{σ:St}{a:A2}{xs:A0 V}{R:It->Hp->Prop}{i:Nat}(b:σ[i]?=some (some (.ref a)))(h:RO K H a xs)(r:∀J,LA J xs a H->R J H):zEs K (Dr i) σ H R:=by
 refine⟨_,b,a,rfl,?_⟩;rcases h with h | h
 .exact .inl ⟨⟨xs,h⟩,r _ (ND h)⟩
 .exact .inr ⟨⟨xs,h⟩,r _ (asT h)⟩
def w5{K:PySem.W.Frag}{o:A2->HO}{cap:A0 (A4 Nat)}{b:A2->It->St->Hp->(St->Hp->Prop)->Prop}{σ:St}{H:Hp}{Q:VK}{a:A2}{xs:A0 V}{i:Nat}(c:σ[i]?=some (some (.ref a)))(h:RO K H a xs)
  (r:∀J,LA J xs a H->∀D,H D=none->b D J (Ks cap σ) (IU H D (o D)) fun _ d=>Q (.ref D) d):Ao (zEs K (Dr i)) o cap b σ H Q:=zCc c h r
def zAe{J:It}{n:Nat}{g:TG}{f:TS}{D:Ends}{σ:St}{H:Hp}(Pv:Nat->St->Hp->Prop)(j:Pv 0 σ H)(b:∀i σ H,i<n->Pv i σ H->J.go i H)(c:∀σ H,Pv n σ H->J.stop n H)
  (k:∀i σ H x H',i<n->Pv i σ H->J.yld i H x H'->g x σ H' fun σ2 d=>f { D with nx:=Pv (i+1),ct:=Pv (i+1),bk:=D.nx } σ2 d) (l:∀σ H,Pv n σ H->D.nx σ H) :
  ∃W:Nat->Nat->St->Hp->Prop,(∃m,W 0 m σ H)/\∀i m σ H,W i m σ H ->
   (J.stop i H/\D.nx σ H)\/(J.go i H/\∃N:St->Hp->Prop,(∀σ' H',N σ' H'->∃h,h < m/\W (i+1) h σ' H')/\∀x H',J.yld i H x H'->g x σ H' fun σ2 d=>f { D with nx:=N,ct:=N,bk:=D.nx } σ2 d):=by
 refine⟨fun i m σ H=>m=n-i/\i<=n/\Pv i σ H,⟨n,by simp,CK _,j⟩,?_⟩;rintro i m σ H ⟨rfl,q,p⟩;by_cases a:i<n
 .exact .inr ⟨b i σ H a p,Pv (i+1),fun σ' H' o=>⟨n-(i+1),by omega,rfl,a,o⟩,fun x H' y=>k i σ H x H' a p y⟩
 .have e:i=n:=by omega
  subst e;exact .inl ⟨c σ H p,l σ H p⟩
def zBz{J:It}{xs:A0 V}{a:A2}{H0:Hp}(as:LA J xs a H0){g:TG}{f:TS}{D:Ends}{σ:St}{H:Hp}(Pv:Nat->St->Hp->Prop)(j:Pv 0 σ H)(c:∀i σ H,i<=xs.length->Pv i σ H->KZ a H0 H)
  (k:∀i σ H x,xs[i]?=some x->Pv i σ H->g x σ H fun σ2 d=>f { D with nx:=Pv (i+1),ct:=Pv (i+1),bk:=D.nx } σ2 d) (l:∀σ H,Pv xs.length σ H->D.nx σ H) :
  ∃W:Nat->Nat->St->Hp->Prop,(∃m,W 0 m σ H)/\∀i m σ H,W i m σ H ->
   (J.stop i H/\D.nx σ H)\/(J.go i H/\∃N:St->Hp->Prop,(∀σ' H',N σ' H'->∃h,h < m/\W (i+1) h σ' H')/\∀x H',J.yld i H x H'->g x σ H' fun σ2 d=>f { D with nx:=N,ct:=N,bk:=D.nx } σ2 d) :=
 zAe (n:=xs.length) Pv j (fun i σ H b p=>as.go H i (c i σ H (FD b) p) b) (fun σ H p=>as.stop H (c _ σ H (Nat.le_refl _) p)) (fun i σ H x H' b p y=>by
  obtain⟨rfl,e⟩:=as.yld H i x H' (c i σ H (FD b) p) b y;exact k i σ _ x e p) l
def X2{J:It}{n:Nat}{g:TG}{f:TT}{h:R6}{σ:St}{H:Hp}{Q:St->Hp->Prop}(Pv:Nat->St->Hp->Prop)(k:Pv 0 σ H)(c:∀i σ H,i<n->Pv i σ H->J.go i H)(d:∀σ H,Pv n σ H->J.stop n H)
  (l:∀i σ H x H' (N:St->Hp->Prop),i<n->Pv i σ H->J.yld i H x H'->(∀σ' H',Pv (i+1) σ' H'->N σ' H')->g x σ H' fun σ2 o=>f σ2 o fun b j=>if b=true then h σ2 j N else N σ2 j)
  (q:∀σ H,Pv n σ H->Q σ H):Y7 g f h J σ H Q:=by
 refine⟨fun i m σ H=>m=n-i/\i<=n/\Pv i σ H,⟨n,by simp,CK _,k⟩,?_⟩;rintro i m σ H ⟨rfl,s,p⟩;by_cases a:i<n
 .exact .inr ⟨c i σ H a p,fun x H' y=>l i σ H x H' _ a p y fun σ3 t r=>⟨n-(i+1),by omega,rfl,a,r⟩⟩
 .have e:i=n:=by omega
  subst e;exact .inl ⟨d σ H p,q σ H p⟩
def G7{J:It}{xs:A0 V}{a:A2}{H0:Hp}(as:LA J xs a H0){g:TG}{f:TT}{h:R6}{σ:St}{H:Hp}{Q:St->Hp->Prop}(Pv:Nat->St->Hp->Prop)(k:Pv 0 σ H)(d:∀i σ H,i<=xs.length->Pv i σ H->KZ a H0 H)
  (l:∀i σ H x (N:St->Hp->Prop),xs[i]?=some x->Pv i σ H->(∀σ' H',Pv (i+1) σ' H'->N σ' H')->g x σ H fun σ2 m=>f σ2 m fun b j=>if b=true then h σ2 j N else N σ2 j)
  (o:∀σ H,Pv xs.length σ H->Q σ H):Y7 g f h J σ H Q :=
 X2 (n:=xs.length) Pv k (fun i σ H c p=>as.go H i (d i σ H (FD c) p) c) (fun σ H p=>as.stop H (d _ σ H (Nat.le_refl _) p)) (fun i σ H x H' N c p y q=>by
  obtain⟨rfl,e⟩:=as.yld H i x H' (d i σ H (FD c) p) c y;exact l i σ _ x N e p q) o
def Q4{a:R6}{N:St->Hp->Prop}{σ:St}{H:Hp}{i:Nat}{x:V}(h:a (σ.set i (some x)) H N):J7 i x σ H fun σ2 d=>X4 σ2 d fun b c=>if b=true then a σ2 c N else N σ2 c:=by
 show if true=true then a (σ.set i (some x)) H N else N (σ.set i (some x)) H
 rw[AU rfl];exact h
def Iv{a:R6}{N:St->Hp->Prop}{σ:St}{H:Hp}(h:a σ H N):X4 σ H fun b c=>if b=true then a σ c N else N σ c:=by
 show if true=true then a σ H N else N σ H
 rw[AU rfl];exact h
section
variable{X:Cx}(K:PySem.W.Frag)(P:A6)(w:F1){tg:IY}
theorem MQ{l:IY}{a:TE}(b:PE X l a)(c:X.K=K:=by rfl):PI X tg l (zDw K a):=by subst c;exact Zk b
theorem piT{l:IY}{a:TE}(b:PE X l a)(c:X.K=K:=by rfl):PI X tg l (zGh K a):=by subst c;exact zBd b
theorem piS{l:IY}{a:TE}(b:PE X l a)(c:X.K=K:=by rfl):PI X tg l (zEs K a):=by subst c;exact zCs b
theorem piE{b:A0 IY}{kk:Nat}{d:Pos}{a:IY}{c:TA}{p pos:Pos}(e:X.mg "enumerate" = none)(f:PA X [a] c)(g:Gl X "enumerate":=by rfl)(h:starEach [a] X.env = [(false,eval a X.env)]:=by rfl)(i:X.K=K:=by rfl) :
  PI X (.Tuple b kk d) (.Call (.Name "enumerate" p) [a] [] pos) (zEf K c):=by subst i;exact zAs g e Gx f h
theorem UB{a:IY}{b:TA}{p pos:Pos}(c:X.mg "range" = none)(d:PA X [a] b)(e:Gl X "range":=by rfl)(f:starEach [a] X.env = [(false,eval a X.env)]:=by rfl):PI X tg (.Call (.Name "range" p) [a] [] pos) (zBx b):=Nw e c d f
theorem RY{a:A0 IY}{k:Nat}{t:UA}{n:Nat}{pos:Pos}(h:VE X a t)(c:X.calm=true:=by rfl)(d:(assignEach a X.env).length=n:=by rfl)(b:(assignEach a X.env).findIdx? (·.1)=none:=by rfl)(e:X.K=K:=by rfl):PG X (.Tuple a k pos) (UL K n t):=by subst e;exact zEo c h d b
theorem QC{e:IY}{a:TE}{f:Str}{pos:Pos}(b:PE X e a)(c:attributeBase e f X.env (eval e X.env)=eval e X.env:=by rfl)(d:X.K=K:=by rfl):PE X (.Attribute e f pos) (zGt K a f):=by subst d;exact zDz b c
theorem SX{o a:IY}{c d:TE}{f:Str}{pos b:Pos}(e:PE X o c)(g:PE X a d)(h:swapsWith a (some (.Attribute o f b)) pos.line X.env=pure false:=by rfl)(i:X.K=K:=by rfl):PS X (.Assign [.Attribute o f b] a pos) (zGz K c d f):=by subst i;exact zBy e g h
theorem J6(a:X.K=K:=by rfl):E9 X (.builtin "len") (fun xs H Q=>∃p ys,xs = [.ref p]/\(IW K H p ys\/KQ K H p ys)/\Q (.int ys.length) H):=by subst a;exact Ga
theorem Ef(a:X.K=K:=by rfl):E9 X (.type "list") (fun xs H Q=>∃p ys,xs = [.ref p]/\(IW K H p ys\/KQ K H p ys)/\∀l,H l=none->Q (.ref l) (IU H l (.lst ys))):=by subst a;exact Gs
theorem Y3(a:X.calm=true:=by rfl)(b:X.K=K:=by rfl):E9 X (.builtin "all") (fun xs H Q=>∃(p:A2) (bs:A0 Bool),xs = [.ref p]/\IW K H p (bs.map V.bl)/\Q (.bl (bs.all id)) H):=by subst b;exact Vr a
theorem Db(b:X.K=K:=by rfl):E9 X (.builtin "sorted") (fun xs H Q=>∃(p:A2) (ss:A0 Str),xs = [.ref p]/\IW K H p (ss.map V.str)/\∀(l:A2) (a:A0 Str),H l=none->a.Perm ss->a.Pairwise RB->Q (.ref l) (IU H l (.lst (a.map V.str)))):=by subst b;exact q0
theorem Um(b:X.K=K:=by rfl):E9 X (.builtin "sorted") (fun xs H Q=>∃(p:A2) (ps:A0 JI),xs = [.ref p]/\IW K H p (ps.map fun q=>V.ref q.1)/\(∀q∈ps,E2 H q)/\∀(l:A2) (a:A0 JI),H l=none->a.Perm ps->a.Pairwise VB->Q (.ref l) (IU H l (.lst (a.map fun q=>V.ref q.1)))):=by subst b;exact Fb
theorem Lb(b:X.calm=true:=by rfl)(hw:X.w=w:=by rfl):E9 X (.builtin "sorted") (fun xs H Q=>∃(p:A2) (ss:A0 Str),xs = [.ref p]/\H p=some (Ei w p ss)/\∀(l:A2) (a:A0 Str),H l=none->a.Perm ss->a.Pairwise RB->Q (.ref l) (IU H l (.lst (a.map V.str)))):=by subst hw;exact He b
theorem M7(a:X.K=K:=by rfl):E9 X (.builtin "isinstance") (fun xs H Q=>∃x n t b,xs = [x,.ty n]/\NN K H x t/\PySem.W.kitOne K t (.type n)=some b/\Q (.bl b) H):=by subst a;exact Ox
theorem zAc(a:X.prog=P:=by rfl)(hw:X.w=w:=by rfl):E9 X (.type "set") (fun xs H Q=>xs = []/\∀p,H p=none->Q (.ref p) (IU H p (Nv P w p []))):=by subst a;subst hw;exact Qt
theorem Ve(a:X.prog=P:=by rfl)(hw:X.w=w:=by rfl):E9 X (.type "set") (fun xs H Q=>xs = []/\∀p,H p=none->Q (.ref p) (IU H p (Nu P w p []))):=by subst a;subst hw;exact Mp
theorem zAb(a:X.A.units+64<cLine)(b:X.K=K:=by rfl):LW X (compareOp .In) (Xn K false):=by subst b;exact zEj a
theorem u9(a:X.A.units+64<cLine)(b:X.K=K:=by rfl):LW X (compareOp .NotIn) (Xn K true):=by subst b;exact Pm a
theorem Vs(a:X.A.units+64<cLine)(b:X.K=K:=by rfl):LW X (compareOp .Eq) (zGf K):=by subst b;exact zCu a
theorem Ys(a:X.A.units+64<cLine)(b:X.K=K:=by rfl):LW X (compareOp .NotEq) (zFk K):=by subst b;exact zDd a
theorem Hg(a:X.K=K:=by rfl):LW X (compareOp .In) (US K false):=by subst a;exact Pj
theorem Lp(a:X.K=K:=by rfl):LW X (compareOp .NotIn) (US K true):=by subst a;exact Fq
theorem zGi(a:X.prog=P:=by rfl)(hw:X.w=w:=by rfl):LW X (compareOp .In) (zGo P w false):=by subst a;subst hw;exact Of
theorem zFj(a:X.A.units+1<cLine)(b:X.prog=P:=by rfl)(hw:X.w=w:=by rfl):LW X (compareOp .In) (zGv P w):=by subst b;subst hw;exact Ml a
theorem zDy(a:X.prog=P:=by rfl)(hw:X.w=w:=by rfl):RT X "set.add" (zBu P w):=by subst a;subst hw;exact zBo
theorem zEn(a:X.A.units+1<cLine)(b:X.prog=P:=by rfl)(hw:X.w=w:=by rfl):RT X "set.add" (zEe P w):=by subst b;subst hw;exact Yg a
theorem Xc{o e:IY}{g:TE}{t:TA}{b a:Pos}{r:V->A0 V->Hp->VK->Prop}(h:RT X "set.add" r)(i:PE X o g)(j:PA X [e] t)
  (c:attributeBase o "add" X.env (eval o X.env)=eval o X.env:=by rfl)
  (f:((backTo a (starEach [e] X.env)).all (fun x=>!x.1) &&(backToKw a (keywordEach [] X.env)).all (fun x=>x.1.isSome)
   && decide ([e].length +([]:A0 Keyword).length +(if([]:A0 Keyword).isEmpty then 0 else 1)<30))=true:=by rfl)
  (d:(b.endLine == a.line)=true:=by rfl) (k:starEach [e] X.env = [(false,eval e X.env)]:=by rfl) (l:X.prog=P:=by rfl) (hw:X.w=w:=by rfl) :
  PE X (.Call (.Attribute o "add" b) [e] [] a) (zGu P w r g t):=by subst l;subst hw;exact Zi h i j c f d k
theorem OL(a:X.K=K:=by rfl):VL X (zGs K):=by subst a;exact Zu
theorem ixT(a:X.K=K:=by rfl):VL X (zHb K):=by subst a;exact zCm
theorem slL(a:X.K=K:=by rfl):SlR X (zGy K):=by subst a;exact zAt
theorem Ln(a:X.K=K:=by rfl):RT X "list.index" (Pq K):=by subst a;exact Sy
theorem UT{a:IY}{c:TE}(d:PE X a c)(e:∀b,isTrue a X.env b =(do let v <-b;standAt a.pos;holding [v] (truthy v)):=by intro _;rfl)(f:X.K=K:=by rfl):PT X a (fun σ H Q=>c σ H fun x H'=>∃k,zFu K x H' k/\Q k H'):=by subst f;exact Uv d e
theorem Hh{T id:String}{name:Str}{o e:IY}{d:A0 IY}{k:TE}{t:TA}{c a:Pos}{r:V->A0 V->Hp->VK->Prop}(l:PlainAttrs T)(h:Slot T name id)(j:typeOf (.builtin id)=pure (.type "method_descriptor"))(m:RT X id r)(n:PE X o k)(p:PA X (e::d) t)
  (f:attributeBase o name X.env (eval o X.env)=eval o X.env:=by rfl)
  (i:((backTo a (starEach (e::d) X.env)).all (fun x=>!x.1) &&(backToKw a (keywordEach [] X.env)).all (fun x=>x.1.isSome)
   && decide ((e::d).length +([]:A0 Keyword).length +(if([]:A0 Keyword).isEmpty then 0 else 1)<30))=true:=by rfl)
  (g:(c.endLine == a.line)=true:=by rfl) (q:starEach (e::d) X.env =(false,eval e X.env)::starEach d X.env:=by rfl) (b:(backTo a (starEach d X.env)).any (·.1)=false:=by rfl) (s:X.K=K:=by rfl) :
  PE X (.Call (.Attribute o name c) (e::d) [] a) (tBM K T r k t):=by subst s;exact zFi l h j m n p f i g q b
end
section
variable{X:Cx}{tg iter elt tg2 iter2:IY}{g g2:TG}{tc tc2:TT}{te:TE}{ifs ifs2:A0 IY}{scope:JY}{cl:A0 (Str×A2)}{N':A0 Str}{cap:A0 (A4 Nat)}{pos:Pos}{wi wi2:TI}
theorem zBe(w:F1)(S:MW X scope cl N' cap)(hi:PI X tg iter wi)
  (h:∀(a:A0 (A2×Obj)) (b:A0 A2) (c:A3) (d:Hp),PG (LS X scope cl N' a b c d) tg g/\SG (LS X scope cl N' a b c d) ifs tc/\PI (LS X scope cl N' a b c d) tg2 iter2 wi2 /\
   PG (LS X scope cl N' a b c d) tg2 g2/\SG (LS X scope cl N' a b c d) ifs2 tc2/\PE (LS X scope cl N' a b c d) elt te)
  (i:X.calm=true:=by rfl) (j:∀x,foldedSetIterable iter X.env x=pure x:=by intro _;rfl) (e:∀f x,foldedSetIterable iter2 f x=pure x:=by intro _ _;rfl) (hw:X.w=w:=by rfl) :
  PE X (.SetComp elt [⟨tg,iter,ifs,0⟩,⟨tg2,iter2,ifs2,0⟩] scope pos) (Ao wi (fun D=>Ei w D []) cap fun D J σ H Q=>Y7 g tc (zFe wi2 fun J σ H Q=>Y7 g2 tc2 (Fa w D te) J σ H Q) J σ H Q):=by
 subst hw;exact Yd S i hi h j e
end
section
variable{prog:A6}{w:F1}{A:IZ}{E:A1->A3->Prop}{s:A3}
theorem Ie{t:A2}{vs:A0 A1}{Q:A0 A1->A3->Prop}(k:IsTup s.heap t vs.toArray)(hsz:vs.length<=sizeLine)(h:∀h',(∀b u,s.heap.get? b=some u->h'.get? b=some u)->s.heap.objs.size<=h'.objs.size->Q vs { s with heap:=h' }):wpAny (model prog w) A (collect (.ref t)) Q E s:=by
 obtain⟨o,m,p,n,q⟩:=k;unfold collect;refine AA (wpAny_runValue (FP F.entry_proto_collect ?_));rw[show A.under _=A.in1 from Around.under_plainId F.plain_proto_collect _];show wpAny _ A.in1 (newList [] >>= fun l=>again (.builtin "list.__iadd__" ⟨[l,.ref t],[]⟩)) _ _ s;refine AA (DJ (AE ⟨plainId_quiet F.plain_list_iadd _,FP F.entry_list_iadd ?_⟩));rw[show A.under _=A.in1 from Around.under_plainId F.plain_list_iadd _];show wpAny _ A.in1 (Builtin.List.listExtendWith (.ref s.heap.objs.size) (.ref t) (.ref s.heap.objs.size)) _ _ _;have i:(s.heap.push { cls:=.type "list",data:=.seq ([]:A0 A1).toArray }).get? s.heap.objs.size=some { cls:=.type "list",data:=.seq #[] 0 }:=AN _ rfl;have v:=DD (Obj.mapSeq (· ++ vs.toArray)) i rfl;have d:wpAny (model prog w) A (match Value.ref s.heap.objs.size with
   | Value.ref a=>do
    match(<-load a).data with
     | Data.seq x _=>pure x.toList
     | _=>unsupported "internal:collect"
   | _=>unsupported "internal:collect") Q E { s with heap:=(s.heap.push { cls:=.type "list",data:=.seq ([]:A0 A1).toArray }).update s.heap.objs.size (Obj.mapSeq (· ++ vs.toArray)) }:=by
  show wpAny _ A (load s.heap.objs.size >>= _) _ _ _;refine AA (wpAny_load v (AE ?_));show Q ((#[]:A7 A1)++vs.toArray).toList _;rw[show((#[]:A7 A1)++vs.toArray).toList=vs from by simp];exact h _ (fun b u j=>(CZ _ _ (Nat.ne_of_gt (AJ j))).trans (AF _ j)) (by rw[EN,CD];omega)
 refine CF (wpAny_extend_seq (A:=A) (hsz:=by rw[AQ];exact hsz) (R:=fun r g=>r = .ok (.ret (.ref s.heap.objs.size))/\g ={ s with heap:=(s.heap.push { cls:=.type "list",data:=.seq ([]:A0 A1).toArray }).update s.heap.objs.size (Obj.mapSeq (· ++ vs.toArray)) })
  (s:={ s with heap:=s.heap.push { cls:=.type "list",data:=.seq ([]:A0 A1).toArray } }) _ t _ 0 (.inr rfl) i (AF _ m) p q ⟨rfl,rfl⟩) (fun f g z=>?_) (fun e g z=>absurd z.1 (by simp))
 match f,z with
 | .done f,⟨y,B⟩=>subst B;cases y;exact d
 | .again c,z=>exact⟨z.1,codeAny_mono z.2 fun r D C=>by obtain⟨rfl,rfl⟩:=C;exact d⟩
end
section
variable{X:Cx}
theorem Gz:E9 X (.builtin "sorted") (fun xs H Q=>∃(p:A2) (ss:A0 Str),xs = [.ref p]/\RO X.K H p (ss.map V.str)/\∀(l:A2) (c:A0 Str),H l=none->c.Perm ss->c.Pairwise RB->Q (.ref l) (IU H l (.lst (c.map V.str)))):=by
 intro g s σ H xs d Q I r h;obtain⟨p,ss,rfl,hq,q⟩:=h;rcases hq with hq | hq
 .exact q0 g s σ H _ d Q I r ⟨p,ss,rfl,hq,q⟩
 obtain⟨u,rfl,J⟩:=S2 r;cases J;obtain⟨L,F,⟨o,j,M,n,N⟩,Y⟩:=I.tuple hq;have m:=j8 F;have Z:=F.length;refine TS.MM (Ie ⟨o,j,M,n,N⟩ (by omega) fun G O i=>?_);refine⟨rfl,by omega,strKind,oneType',fun s2 _=>TS.ON m,fun a P e j k R=>?_⟩;obtain⟨w,S⟩:=j;have z:∀v∈a.toList,∃x t,v = .str x t:=fun v A=>m.all v (w.mem_iff.mp A);have A:JA ((a.toList.map strOf).map V.str) a.toList:=by
  have:∀d:A0 A1,(∀v∈d,∃x t,v = .str x t)->JA ((d.map strOf).map V.str) d:=by
   intro d
   induction d with
   | nil=>exact fun _=>.nil
   | cons v r T =>
    intro h;obtain⟨x,t,rfl⟩:=h v (BG ..);exact .cons ⟨t,rfl⟩ (T fun u B=>h u (A_ _ B))
  exact this _ z
 have f:(a.toList.map strOf).Perm ss:=by
  have:=w.map strOf
  rwa [m.strs]at this
 have C:(a.toList.map strOf).Pairwise RB:=by
  rw[BX];refine(E_.mp S).imp fun{u v} ⟨B,D,q⟩=>?_;obtain⟨x,t,rfl⟩:=z u B;obtain⟨y,t',rfl⟩:=z v D;have U:decide (y.cps.toList<x.cps.toList)=false:=q;exact of_decide_eq_false U
 have E:∀b o,s.heap.get? b=some o->P.get? b=some o:=fun b o W=>k b o (O b o W);refine⟨.ref G.objs.size,IU H G.objs.size (.lst ((a.toList.map strOf).map V.str)),?_,rfl,q _ _ (I.hok.fresh i) f C⟩;refine I.laid (t':=s.toks) E i ⟨?_,a.toList,e,A,by simpa using R⟩;rw[AB,AB,w.length_eq];omega
theorem Mx{f:A0 (A2×Obj)}{σ:St}{H:Hp}{s:A3}{A:IZ}{E:A1->A3->Prop}{Q:A1->A3->Prop}{b:Bool}{x:V}{u t:A1}{l:A2}{its:A0 A1}(I:Inv X f σ H s)(g:RelV x u)(ty:NN X.K H x t)(i:IsTup s.heap l its.toArray)(e:PySem.W.kitAny X.K t its=some b)(m:(∃y,x = .str y)\/(∃a xs,x = .ref a/\(H a=some (.lst xs)\/H a=some (.tup xs))))(h:∀r,Q (.bool b) { s with toks:=r }) :
  wpAny (model X.prog X.w) A (call (.builtin "isinstance") [u,.ref l]) Q E s:=by
 obtain⟨⟨G,J,v,B⟩,j,C,n,D⟩:=i;cases C;cases D;rcases m with⟨y,rfl⟩ | ⟨a,xs,rfl,ea | ea⟩
 .cases ty;obtain⟨t,q⟩:=(show ∃t,u=Value.str y t from g);cases q;exact PySem.W.kia_tup PySem.W.kitx_str I.kIn True.intro j e (fun z=>nomatch z) h
 .cases(show u=Value.ref a from g);have d:t = .type "list":=by cases ty with
   | lst=>rfl
   | frz=>rfl
   | tup c=>rw[ea]at c;cases c
   | dK c=>rw[ea]at c;cases c
   | dT c=>rw[ea]at c;cases c
   | ins c=>rw[ea]at c;cases c
  subst d;obtain⟨_,_,n,_,k⟩:=(show JH X.prog X.w H s.heap a (.lst xs)from I.hok a _ ea);exact PySem.W.kia_tup PySem.W.kitx_list I.kIn ⟨_,k,rfl⟩ j e (fun z=>nomatch z) h
 .cases(show u=Value.ref a from g);have d:t = .type "tuple":=by cases ty with
   | tup=>rfl
   | frz c=>rw[ea]at c;cases c
   | lst c=>rw[ea]at c;cases c
   | dK c=>rw[ea]at c;cases c
   | dT c=>rw[ea]at c;cases c
   | ins c=>rw[ea]at c;cases c
  subst d;obtain⟨_,_,_,p⟩:=(show JH X.prog X.w H s.heap a (.tup xs)from I.hok a _ ea);obtain⟨o,k,F,_⟩:=p;exact PySem.W.kia_tup PySem.W.kitx_tuple I.kIn ⟨o,k,F⟩ j e (fun z=>nomatch z) h
def zBn(K:PySem.W.Frag):A0 V->Hp->VK->Prop:=fun c H Q=>∃(x:V) (p:A2) (d:A0 String) (t:A1) (b:Bool),c = [x,.ref p]/\H p=some (.tup (d.map V.ty))/\NN K H x t/\((∃y,x = .str y)\/(∃a c,x = .ref a/\(H a=some (.lst c)\/H a=some (.tup c))))/\PySem.W.kitAny K t (d.map Value.type)=some b/\Q (.bl b) H
theorem Og:∀{ns:A0 String} {us:A0 A1},JA (ns.map V.ty) us->us=ns.map Value.type
 | [],_,.nil=>rfl
 | _::_,_,.cons r t=>by rw[BB,Og t];cases r;rfl
theorem Nm:E9 X (.builtin "isinstance") (zBn X.K):=by
 intro c s σ H l m Q I r h;obtain⟨x,p,n,t,b,rfl,e,f,g,i,q⟩:=h;obtain⟨u,v,rfl,j,a⟩:=r.two;cases a;obtain⟨k,a,d,o⟩:=I.tuple (KQ.of e);rw[Og a]at d;exact Mx I j f d i g fun w=>⟨.bl b,H,I.tok _,rfl,q⟩
variable(K:PySem.W.Frag)
theorem Wf(b:X.K=K:=by rfl):E9 X (.builtin "sorted") (fun xs H Q=>∃(p:A2) (ss:A0 Str),xs = [.ref p]/\RO K H p (ss.map V.str)/\∀(l:A2) (a:A0 Str),H l=none->a.Perm ss->a.Pairwise RB->Q (.ref l) (IU H l (.lst (a.map V.str)))):=by subst b;exact Gz
theorem Uh(a:X.K=K:=by rfl):E9 X (.builtin "isinstance") (zBn K):=by subst a;exact Nm
end
section
variable{prog:A6}{w:F1}{A:IZ}{E:A1->A3->Prop}{s:A3}{it l:A2}{i:Nat}{items:A7 A1}{x:A1}{Q:A1->A3->Prop}
theorem Yk{α:Type}{Q:α->A3->Prop}(a:A.handled=none)(h:∀h' e,(∀b o,s.heap.get? b=some o->h'.get? b=some o)->(∃o,h'.get? e=some o/\o.cls = .type "StopIteration")->E (.ref e) { s with heap:=h' }):wpAny (model prog w) A (Builtin.SmallTypes.stopIteration (α:=α)) Q E s:=by
 refine AA (AA (FJ (AA (AE (DJ ?_ (sizeOk_excFields ..)))) (by show 0<=sizeLine;decide)));refine AA (wpAny_handled ?_);rw[a];exact wpAny_throw (h _ _ (fun b o e=>AF _ (AF _ e)) ⟨_,AN _ rfl,rfl⟩)
theorem P0(a:s.heap.IsTupleIter it l i)(g:s.heap.IsTuple l items)(h:items[i]?=some x)
  (j:∀h',h'.IsTupleIter it l (i+1)->Heap.SameBut it s.heap h'->Q x { s with heap:=h' }):wpAny (model prog w) A (Builtin.SmallTypes.nextOf (.ref it)) Q E s:=by
 obtain⟨o,d,k,b⟩:=id a;obtain⟨m,e,_,n,f⟩:=g;refine AA (DR a.typeIs F.slot_tuple_iterator_next (CT F.slot_tuple_iterator_next a.typeIs F.entry_tuple_iterator_next ?_ (F.args_tuple_iterator_next_1 _)));refine AA (AE (AA (DM d b rfl ?_)));refine CL (c:=(Value.ref l == Value.none)=true) rfl ?_;refine AA (DM d b rfl (AA (DL e f ?_)));dsimp only;rw[show items[(i:Int).toNat]?=some x from h];refine AA (F_ d b (FU 1) (AE ⟨x,rfl,AE (j _ ⟨_,DD _ d (Obj.isFreed_of_fields (Obj.data_mapFields b _)),(Obj.cls_mapFields o _).trans k,(Obj.data_mapFields b _).trans ?_⟩ (EA _ _ _))⟩));rfl
theorem Bi(j:A.handled=none)(a:s.heap.IsTupleIter it l i)(m:s.heap.IsTuple l items)(n:items[i]?=none)
  (p:∀h' e,Heap.ExtBut it s.heap h'->(∃o,h'.get? e=some o/\o.cls = .type "StopIteration")->E (.ref e) { s with heap:=h' }):wpAny (model prog w) A (Builtin.SmallTypes.nextOf (.ref it)) Q E s:=by
 obtain⟨o,d,r,f⟩:=id a;obtain⟨t,g,_,u,h⟩:=m;refine AA (DR a.typeIs F.slot_tuple_iterator_next (CT F.slot_tuple_iterator_next a.typeIs F.entry_tuple_iterator_next ?_ (F.args_tuple_iterator_next_1 _)));refine AA (AE (AA (DM d f rfl ?_)));refine CL (c:=(Value.ref l == Value.none)=true) rfl ?_;refine AA (DM d f rfl (AA (DL g h ?_)));dsimp only;rw[show items[(i:Int).toNat]?=none from n];refine AA (EF (AA (F_ d f (DY 1) ?_)));exact Yk j fun h' e k d=>p h' e (fun b o q e=>k b o (((EA _ _ _).2 b q).trans e)) d
theorem Dm{M:Model}{α β:Type}{a b:α}{i u v:β}{f:α->β->Sem (ForInStep β)}{Q:β->A3->Prop}(h:wpAny M A (f a i) (fun r c=>r = .yield u/\wpAny M A (f b u) (fun r c=>r = .yield v/\Q v c) E c) E s):wpAny M A (forIn [a,b] i f) Q E s:=by
 rw[IC];refine AA (CF h (fun r c z=>?_) fun e c z=>z);obtain⟨rfl,z⟩:=z;show wpAny M A (forIn [b] u f) Q E c;rw[IC];refine AA (CF z (fun r c z=>?_) fun e c z=>z);obtain⟨rfl,z⟩:=z;exact AE z
theorem Bh{z TI TO d f n l2:A2}{t B:Nat}{xs ys:A7 A1}{x y a b:A1}(D:ZipApart z TI TO d f n l2)(g:IsZip s.heap z TI TO .none)(C:IsPair s.heap TI (.ref d) (.ref f))(F:IsPair s.heap TO a b)
  (h1:s.heap.IsTupleIter d n t) (h2:s.heap.IsTupleIter f l2 B) (T:s.heap.IsTuple n xs) (U:s.heap.IsTuple l2 ys) (V:xs[t]?=some x) (W:ys[B]?=some y)
  (X:∀h',IsZip h' z TI TO (rawInt s.heap.objs.size)->IsPair h' TO x y->h'.IsTupleIter d n (t+1)->h'.IsTupleIter f l2 (B+1)->IsPair h' s.heap.objs.size x y->h'.objs.size=s.heap.objs.size+1->(∀c o,c≠z->c≠TO->c≠d->c≠f->s.heap.get? c=some o->h'.get? c=some o)->Q (.ref s.heap.objs.size) { s with heap:=h' }) :
  wpAny (model prog w) A (Builtin.«zip.__next__» ⟨[.ref z],[]⟩) (fun fin Y=>∃v,fin = .done (.ret v)/\Q v Y) E s:=by
 obtain⟨G,gg,dd,tt,oo⟩:=s;refine AA (AE (AA (DM g rfl rfl (AA (DM g rfl rfl (AA (DL C rfl ?_)))))));refine CL rfl (AA (AA (DM g rfl rfl (AE (IK rfl ?_)))));refine AA (EF (AA (DM g rfl rfl (AA (DU g (DY 4) fun h3 Z h=>?_)))));have a3:=h1.extBut h.extBut D.i1z;have b3:=h2.extBut h.extBut D.i2z;have c3:=T.extBut h.extBut D.l1z;have d3:=U.extBut h.extBut D.l2z;have e3:=(h.2 TO D.TOz).trans F;refine AA ?_;rw[show(#[Value.ref d,Value.ref f].toList.zipIdx) = [(Value.ref d,0),(Value.ref f,1)]from rfl];refine Dm (u:=(none,())) (v:=(none,())) ?_;refine AA (HY (CL rfl (AA (P0 a3 c3 V fun h4 a4 i=>AE ?_))));have L:=(i.2 TO D.TOi1).trans e3;refine AA (DL L rfl (AA (HG L fun h5 e5 j=>AA (wpAny_letGo (AE ⟨rfl,?_⟩)))));have b5:=(b3.extBut i.extBut D.i12.symm).extBut j.extBut D.TOi2.symm;have d5:=(d3.extBut i.extBut D.l2i1).extBut j.extBut D.l2TO;refine AA (HY (CL rfl (AA (P0 b5 d5 W fun h6 b6 k=>AE ?_))));have M:=(k.2 TO D.TOi2).trans e5;refine AA (DL M rfl (AA (HG M fun p N l=>AA (wpAny_letGo (AE ⟨rfl,?_⟩)))));have z7:=(l.2 z D.TOz.symm).trans ((k.2 z D.i2z.symm).trans ((j.2 z D.TOz.symm).trans ((i.2 z D.i1z.symm).trans Z)));have H:p.objs.size=G.objs.size:=l.1.trans (k.1.trans (j.1.trans (i.1.trans h.1)));have O:∀{c:A2} {o:Obj},G.get? c=some o->c≠p.objs.size:=fun e=>by rw[H];exact AY (AJ e)
 refine AA (DL N rfl (AA (FJ (AA (AA (DU (AF _ z7) (DY 4) fun h8 z8 I=>DU z8 (Nat.succ_lt_succ (DY 3)) fun q P J=>AE ⟨_,rfl,?_⟩))) (by show 2<=sizeLine;decide))));have r:∀{c:A2} {o:Obj},c≠z->p.get? c=some o->q.get? c=some o:=fun m e=>(J.2 _ m).trans ((I.2 _ m).trans (AF _ e));have K:q.objs.size=G.objs.size+1:=J.1.trans (I.1.trans ((CD ..).trans (congrArg (· + 1) H)));have R:q.get? p.objs.size=some ⟨.type "tuple",none,.seq #[x,y],#[]⟩:=(J.2 _ (O g).symm).trans ((I.2 _ (O g).symm).trans (AN _ rfl));rw[H]at P R⊢;refine X q P (r D.TOz N) (a4.at fun o e=>?_) (b6.at fun o e=>?_) R K fun c o m S n1 n2 e=>r m ?_
 .exact r D.i1z ((l.2 _ D.TOi1.symm).trans ((k.2 _ D.i12).trans ((j.2 _ D.TOi1.symm).trans e)))
 .exact r D.i2z ((l.2 _ D.TOi2.symm).trans e)
 .exact(l.2 _ S).trans ((k.2 _ n2).trans ((j.2 _ S).trans ((i.2 _ n1).trans ((h.2 _ m).trans e))))
theorem Dn{z TI TO a b g l2:A2}{k:Nat}{xs:A7 A1}{Q:PySem.Fin->A3->Prop}(r:A.handled=none)(D:ZipApart z TI TO a b g l2)(d:IsZip s.heap z TI TO .none)(h:IsPair s.heap TI (.ref a) (.ref b))
  (h1:s.heap.IsTupleIter a g k) (t:s.heap.IsTuple g xs) (u:xs[k]?=none)
  (v:∀h' e,(∀c o,c≠z->c≠TO->c≠a->c≠b->s.heap.get? c=some o->h'.get? c=some o)->(∃o,h'.get? e=some o/\o.cls = .type "StopIteration")->E (.ref e) { s with heap:=h' }) :
  wpAny (model prog w) A (Builtin.«zip.__next__» ⟨[.ref z],[]⟩) Q E s:=by
 obtain⟨C,F,G,tt,H⟩:=s;refine AA (AE (AA (DM d rfl rfl (AA (DM d rfl rfl (AA (DL h rfl ?_)))))));refine CL rfl (AA (AA (DM d rfl rfl (AE (IK rfl ?_)))));refine AA (EF (AA (DM d rfl rfl (AA (DU d (DY 4) fun I l i=>?_)))));refine AA ?_;rw[show(#[Value.ref a,Value.ref b].toList.zipIdx) = [(Value.ref a,0),(Value.ref b,1)]from rfl,IC];refine AA (AA (HY (CL rfl (AA (Bi r (h1.extBut i.extBut D.i1z) (t.extBut i.extBut D.l1z) u fun J e j f=>?_)))));refine DU (j z _ D.i1z.symm l) (DY 4) fun x K m=>v x e (fun c o n _ y _ e=>(m.2 _ n).trans (j c o y ((i.2 _ n).trans e))) ?_;obtain⟨o,f,p⟩:=f;have B:e≠z:=fun q=>by
  subst q;rw[j e _ D.i1z.symm l]at f;cases f;exact absurd (show Value.type "zip" = .type "StopIteration" from p) (by decide)
 exact⟨o,(m.2 _ B).trans f,p⟩
theorem p8{z TI TO:A2}{a:A1}(b:IsZip s.heap z TI TO a):s.TypeIs (.ref z) "zip":=⟨_,b,rfl⟩
theorem Zm(N:A.handled=none)(z TI TO f g j l2:A2)(D:ZipApart z TI TO f g j l2)(xs ys:A7 A1)(O:xs.size<=ys.size) :
  WalksT prog w A z [z,TI,TO,f,g,j,l2] [z,TO,f,g] xs.size (fun i B=>∃x y,xs[i]?=some x/\ys[i]?=some y/\B = #[x,y])
   (fun i h=>IsZip h z TI TO .none/\IsPair h TI (.ref f) (.ref g)/\(∃a b,IsPair h TO a b)/\h.IsTupleIter f j i/\h.IsTupleIter g l2 i/\h.IsTuple j xs/\h.IsTuple l2 ys)
   (fun i T h=>IsZip h z TI TO (rawInt T)/\IsPair h TI (.ref f) (.ref g)/\(∃a b,IsPair h TO a b)/\h.IsTupleIter f j (i+1)/\h.IsTupleIter g l2 (i+1)/\h.IsTuple j xs/\h.IsTuple l2 ys/\T≠z/\T≠TO/\T≠f/\T≠g) where
 sub:=by simp
 frame:=fun i h v ⟨c,l,⟨a,b,p⟩,m,r,n,t⟩ k=>⟨k z (by simp) _ c,k TI (by simp) _ l,⟨a,b,k TO (by simp) _ p⟩,m.at (k f (by simp)),r.at (k g (by simp)),n.at (k j (by simp)),t.at (k l2 (by simp))⟩
 item:=fun i s Q E J ⟨c,l,⟨a,b,p⟩,m,r,n,t⟩ C=>by
  have G:xs[i]?=some xs[i]:=GA J;have K:ys[i]?=some (ys[i]'(BF J O)):=GA _;refine AA (GZ (DR (p8 c) F.slot_zip_next (CT F.slot_zip_next (p8 c) F.entry_zip_next (Bh D c l p m r n t G K fun v H P R S U sz k=>AE ?_) (F.args_zip_next_1 _))));refine C _ _ v s.toks ⟨_,_,G,K,rfl⟩ (Nat.le_refl _) ⟨_,U,rfl,_,rfl⟩ ⟨H,k TI _ D.TIz D.TITO D.TIi1 D.TIi2 l,⟨_,_,P⟩,R,S,n.at fun o e=>k j o D.l1z D.l1TO D.l1i1 D.l1i2 e,t.at fun o e=>k l2 o D.l2z D.l2TO D.l2i1 D.l2i2 e,?_,?_,?_,?_⟩ fun b o d e=>?_
  .exact(AY (AJ c)).symm
  .exact(AY (AJ p)).symm
  .obtain⟨o,e,_⟩:=m;exact(AY (AJ e)).symm
  .obtain⟨o,e,_⟩:=r;exact(AY (AJ e)).symm
  .simp only[AV,BH,or_false,not_or]at d;exact k b o d.1 d.2.1 d.2.2.1 d.2.2.2 e
 go:=fun L k V i T s Q E ⟨c,l,⟨a,b,p⟩,m,r,n,t,_⟩ C=>wpAny_letOwnedTupleGo_zip c fun v H u=>C v ⟨H,(u.2 _ D.TIz).trans l,⟨a,b,(u.2 _ D.TOz).trans p⟩,m.extBut u.extBut D.i1z,r.extBut u.extBut D.i2z,n.extBut u.extBut D.l1z,t.extBut u.extBut D.l2z⟩ fun b o d e=>(u.2 b fun q=>d (by rw[q];exact BG ..)).trans e
 apart:=fun i T h ⟨_,_,_,_,_,_,_,W,X,Y,Z⟩ M=>by
  simp only[AV,BH,or_false]at M;rcases M with e | e | e | e
  .exact W e
  .exact X e
  .exact Y e
  .exact Z e
 done:=fun s Q E ⟨c,l,⟨a,b,p⟩,m,r,n,t⟩ C=>by
  have G:xs[xs.size]?=none:=ES (Nat.le_refl _);refine AA (GZ (DR (p8 c) F.slot_zip_next (CT F.slot_zip_next (p8 c) F.entry_zip_next (Dn N D c l m n G fun v e k I=>?_) (F.args_zip_next_1 _))));obtain⟨o,I,hc⟩:=I;refine AA (HL ⟨o,I,hc⟩ isSubtype_stop (AE (C v s.toks fun b o d e=>?_)));simp only[AV,BH,or_false,not_or]at d;exact k b o d.1 d.2.1 d.2.2.1 d.2.2.2 e
 self:=fun i s Q E ⟨c,_⟩ q=>FC c q
end
section
variable{prog:A6}{w:F1}{A:IZ}{E:A1->A3->Prop}{s:A3}
theorem n9{M:Model}{T:String}{vs:A0 A1}{Q:A1->A3->Prop}(h:Q (.ref s.heap.objs.size) { s with heap:=s.heap.push { cls:=.type T,data:=.fields vs.toArray } })(a:sizeOk (.fields vs.toArray)):wpAny M A (Builtin.SmallTypes.newRecord (.type T) vs) Q E s:=DJ h a
theorem Pt{d l2:A2}{xs ys:A7 A1}{Q:A1->A3->Prop}(x:s.heap.IsTuple d xs)(y:s.heap.IsTuple l2 ys)
  (z:∀h',IsZip h' (s.heap.objs.size+4) (s.heap.objs.size+2) (s.heap.objs.size+3) .none->IsPair h' (s.heap.objs.size+2) (.ref s.heap.objs.size) (.ref (s.heap.objs.size+1))->IsPair h' (s.heap.objs.size+3) .none .none ->
   h'.IsTupleIter s.heap.objs.size d 0->h'.IsTupleIter (s.heap.objs.size+1) l2 0->(∀c o,s.heap.get? c=some o->h'.get? c=some o)->Q (.ref (s.heap.objs.size+4)) { s with heap:=h' }) :
  wpAny (model prog w) A (call (.type "zip") [.ref d,.ref l2]) Q E s:=by
 refine callType_new (S:=fun A R j=>j=s/\∀h',IsZip h' (s.heap.objs.size+4) (s.heap.objs.size+2) (s.heap.objs.size+3) .none->IsPair h' (s.heap.objs.size+2) (.ref s.heap.objs.size) (.ref (s.heap.objs.size+1))->IsPair h' (s.heap.objs.size+3) .none .none ->
   h'.IsTupleIter s.heap.objs.size d 0->h'.IsTupleIter (s.heap.objs.size+1) l2 0->(∀c o,s.heap.get? c=some o->h'.get? c=some o)->R (.ok (.ret (.ref (s.heap.objs.size+4)))) { s with heap:=h' }) F.called_zip rfl (F.typeCall_zip_2 _ _) (F.newCall_zip_2 _ _) (fun _=>F.args_object_init_3 _ _ _) F.entry_zip_new (.of_wp fun prog w A R j l=>?_) ⟨rfl,fun h' n B C D G k=>⟨⟨_,n,rfl⟩,z h' n B C D G k⟩⟩
 obtain⟨rfl,l⟩:=l;obtain⟨a,H,I,tt,J⟩:=j;refine AA (AA (AE (CL rfl (AA (GG sub_zip (CL rfl (AE ?_)))))))
 let b:=a.push { cls:=.type "tuple_iterator",data:=.fields #[.ref d,.int 0 0] }
 let f:=b.push { cls:=.type "tuple_iterator",data:=.fields #[.ref l2,.int 0 0] }
 let g:=f.push { cls:=.type "tuple",data:=.seq #[.ref a.objs.size,.ref b.objs.size] }
 let i:=g.push { cls:=.type "tuple",data:=.seq #[.none,.none] }
 have p:b.objs.size=a.objs.size+1:=CD ..;have r:f.objs.size=a.objs.size+2:=(CD ..).trans (congrArg (· + 1) p);have t:g.objs.size=a.objs.size+3:=(CD ..).trans (congrArg (· + 1) r);have K:i.objs.size=a.objs.size+4:=(CD ..).trans (congrArg (· + 1) t);have m:b.IsTuple l2 ys:=y.at fun o e=>AF _ e;have L:b.get? a.objs.size=some { cls:=.type "tuple_iterator",data:=.fields #[.ref d,.int 0 0] }:=AN _ rfl;have M:f.get? b.objs.size=some { cls:=.type "tuple_iterator",data:=.fields #[.ref l2,.int 0 0] }:=AN _ rfl;have N:g.get? f.objs.size=some { cls:=.type "tuple",data:=.seq #[.ref a.objs.size,.ref b.objs.size] }:=AN _ rfl;have O:i.get? g.objs.size=some { cls:=.type "tuple",data:=.seq #[.none,.none] }:=AN _ rfl;have u:∀{h:IV} {o:Obj} {c:A2} {q:Obj},h.get? c=some q->(h.push o).get? c=some q:=fun e=>AF _ e;refine CL rfl (AA (AA (Dm (u:=#[.ref a.objs.size]) (v:=#[.ref a.objs.size,.ref b.objs.size]) (AA (CG (GU x (AE ⟨rfl,AA (CG (GU m (AE ⟨rfl,AE ?_⟩)))⟩)))))));refine AA (FJ (AA (FJ (AA (n9 (AE ⟨_,rfl,?_⟩) ?_)) (by show 2<=sizeLine;decide))) (by show 2<=sizeLine;decide))
 .have P:=AN i (o:={ cls:=.type "zip",data:=.fields #[.none,.bool false,.bool false,.ref f.objs.size,.ref g.objs.size] }) rfl;have q:=l (i.push { cls:=.type "zip",data:=.fields #[.none,.bool false,.bool false,.ref f.objs.size,.ref g.objs.size] });rw[show(Shared.mk a H I tt J).heap.objs.size=a.objs.size from rfl,<-p,<-r,<-t,<-K]at q;exact q P (u (u N)) (u O) ⟨_,u (u (u (u L))),rfl,rfl⟩ ⟨_,u (u (u M)),rfl,rfl⟩ fun c o e=>u (u (u (u (u e))))
 .show 5<=sizeLine+2;decide
end
def UK(e:Hp->A2->A0 V->Prop)(a b:A2):It :=
  ⟨fun i H=>∃c d x y,e H a c/\e H b d/\c.length<=d.length/\c[i]?=some x/\d[i]?=some y,fun i H v f=>∃T x y,v = .ref T/\H T=none/\f=IU H T (.tup [x,y])/\(∀c,e H a c->c[i]?=some x)/\∀d,e H b d->d[i]?=some y,
   fun i H=>∃c d,e H a c/\e H b d/\c.length<=d.length/\c.length=i⟩
def Qw(c:IV->A2->A2->Nat->Prop)(z TI TO d e a b:A2)(i:Nat)(h:IV):Prop:=IsZip h z TI TO .none/\IsPair h TI (.ref d) (.ref e)/\(∃u v,IsPair h TO u v)/\c h d a i/\c h e b i
section
variable{P:A6}{w:F1}{K:PySem.W.Frag}{elts:A0 IY}{kk:Nat}{tp:Pos}{isIt:IV->A2->A2->Nat->Prop}{isq:IV->A2->A7 A1->Prop}{sq:Hp->A2->A0 V->Prop}
theorem En(oI:∀h c l i,isIt h c l i->∃o,h.get? c=some o/\∀v,o.data≠ .cell v)(kI:∀h h' c l i,isIt h c l i->(∀o,h.get? c=some o->h'.get? c=some o)->isIt h' c l i)
  (gI:∀(X:Cx) f σ H s c xs,X.K=K->Inv X f σ H s->sq H c xs->∃its,JA xs its/\isq s.heap c its.toArray) (uI:∀(X:Cx) f σ H s c xs ys,X.K=K->Inv X f σ H s->sq H c xs->sq H c ys->xs=ys)
  (z TI TO g j a b:A2) (WI:∀(A:IZ),A.handled=none->∀xs ys:A7 A1,xs.size<=ys.size->WalksT P w A z [z,TI,TO,g,j,a,b] [z,TO,g,j] xs.size (fun i F=>∃x y,xs[i]?=some x/\ys[i]?=some y/\F = #[x,y])
   (fun i h=>IsZip h z TI TO .none/\IsPair h TI (.ref g) (.ref j)/\(∃a b,IsPair h TO a b)/\isIt h g a i/\isIt h j b i/\isq h a xs/\isq h b ys)
   (fun i T h=>IsZip h z TI TO (rawInt T)/\IsPair h TI (.ref g) (.ref j)/\(∃a b,IsPair h TO a b)/\isIt h g a (i+1)/\isIt h j b (i+1)/\isq h a xs/\isq h b ys/\T≠z/\T≠TO/\T≠g/\T≠j)) :
  MK P w K (.Tuple elts kk tp) (UK sq a b) [z,TI,TO,g,j] z (Qw isIt z TI TO g j a b) where
 mem:=BG ..
 obj:=fun i h st c t=>by
  obtain⟨h1,O,⟨u,v,S⟩,U,V⟩:=st;simp only[AV,BH,or_false]at t;rcases t with rfl | rfl | rfl | rfl | rfl
  .exact⟨_,h1,fun v z=>by cases z⟩
  .exact⟨_,O,fun v z=>by cases z⟩
  .exact⟨_,S,fun v z=>by cases z⟩
  .exact oI _ _ _ _ U
  .exact oI _ _ _ _ V
 keep:=fun i h h' st k=>by
  obtain⟨h1,O,⟨u,v,S⟩,U,V⟩:=st;exact⟨k z (by simp) _ h1,k TI (by simp) _ O,⟨u,v,k TO (by simp) _ S⟩,kI _ _ _ _ _ U (k g (by simp)),kI _ _ _ _ _ V (k j (by simp))⟩
 item:=by
  intro X hP hw J t i f s σ H E I R st hg;subst hP hw;obtain⟨xs,ys,x,y,hq,hr,L,hx,hy⟩:=hg;obtain⟨its,rv,p⟩:=gI _ _ _ _ _ _ _ J I hq;obtain⟨M,D,p'⟩:=gI _ _ _ _ _ _ _ J I hr;obtain⟨u,hu,ru⟩:=rv.get hx;obtain⟨v,hv,rv'⟩:=D.get hy;have hl:=rv.length;have N:=D.length;have W:=WI X.A (I.ok.hd t) its.toArray M.toArray (by rw[AQ,AQ,<-hl,<-N];exact L);have hi:i<its.toArray.size:=by rw[AQ];exact(AD.mp hu).1
  obtain⟨s1,s2,s3,Y,Z⟩:=id st;refine W.item i s _ _ hi ⟨s1,s2,s3,Y,Z,p,p'⟩ fun T F h' tk hvs hT ht hm k=>?_;obtain⟨x',y',hx',hy',rfl⟩:=hvs;have ex:x'=u:=BA (hx'.symm.trans ((FA ..).trans hu));have ey:y'=v:=BA (hy'.symm.trans ((FA ..).trans hv));subst ex ey;refine⟨.ref T,rfl,W.go elts kk tp i T _ _ _ hm fun O C k2=>?_⟩;have kk2:∀b o,b∉[z,TI,TO,g,j]->s.heap.get? b=some o->O.get? b=some o:=fun c o d ec=>by
   have n4:c∉[z,TO,g,j]:=fun m=>d (by
    simp only[AV,BH,or_false]at m⊢;exact m.imp_right .inr)
   exact k2 c o n4 (k c o n4 ec)
  have hT2:O.IsTuple T #[x',y']:=ht.at fun o e=>k2 T o (W.apart i T h' hm) e;have G:∀c∈[z,TI,TO,g,j],∃B,s.heap.get? c=some B:=fun c d=>by
   obtain⟨u3,v3,S⟩:=s3;obtain⟨o4,U,_⟩:=oI _ _ _ _ Y;obtain⟨o5,V,_⟩:=oI _ _ _ _ Z;simp only[AV,BH,or_false]at d;rcases d with rfl | rfl | rfl | rfl | rfl
   .exact⟨_,s1⟩
   .exact⟨_,s2⟩
   .exact⟨_,S⟩
   .exact⟨_,U⟩
   .exact⟨_,V⟩
  refine⟨.ref T,IU H T (.tup [x,y]),I.turnLaid (fp:=[z,TI,TO,g,j]) kk2 R G hT ⟨?_,[x',y'],.cons ru (.cons rv' .nil),hT2⟩,rfl,⟨T,x,y,rfl,I.hok.fresh hT,rfl,fun zs hz=>by rw[uI _ _ _ _ _ _ _ _ J I hz hq];exact hx,fun zs hz=>by rw[uI _ _ _ _ _ _ _ _ J I hz hr];exact hy⟩,⟨C.1,C.2.1,C.2.2.1,C.2.2.2.1,C.2.2.2.2.1⟩,fun c d=>?_⟩
  .show 2<=sizeLine;decide
  .obtain⟨B,eb⟩:=G c d;rw[B6 (AY (BF (AJ eb) hT))];exact(R c d).1
 done:=by
  intro X hP hw J t i f s σ H E I R st hg;subst hP hw;obtain⟨xs,ys,hq,hr,L,hx⟩:=hg;obtain⟨its,rv,p⟩:=gI _ _ _ _ _ _ _ J I hq;obtain⟨M,D,p'⟩:=gI _ _ _ _ _ _ _ J I hr;have hl:=rv.length;have N:=D.length;have W:=WI X.A (I.ok.hd t) its.toArray M.toArray (by rw[AQ,AQ,<-hl,<-N];exact L);have hi:i=its.toArray.size:=by rw[AQ,<-hl,hx]
  obtain⟨s1,s2,s3,Y,Z⟩:=id st;rw[hi]at Y Z;refine W.done s _ _ ⟨s1,s2,s3,Y,Z,p,p'⟩ fun h' tk k=>⟨rfl,?_⟩;have nf:∀b u,H b=some u->b∉[z,TI,TO,g,j]:=fun b u e hb=>by rw[(R b hb).1]at e;cases e
  have k':∀c o,c∉[z,TI,TO,g,j]->s.heap.get? c=some o->h'.get? c=some o:=fun c o d ec=>k c o (fun m=>d (by
    simp only[AV,BH,or_false]at m⊢;exact m.imp_right .inr)) ec
  refine I.step (h':=h') (H':=H) (t':=tk) (g':=s.gens) (d':=s.drawn) (ch:=[z,TI,TO,g,j]) (fun b hb=>let⟨_,f1,_,f3,f4,f5⟩:=R b hb;⟨f3,f1,f4,f5⟩) (fun b B _ _ t e _=>k' b B t e) (fun b B _ _ t e _=>⟨B.slots,k' b B t e⟩) (fun _ _ _ _ n=>n)
   (fun b B t e=>⟨B,k' b B t e⟩) (fun _ _ e=>e) (fun _ _ _ e=>e) (fun b ps e=>⟨#[],by rw[e];simp⟩) (fun m hm=>?_) (fun b u eb=>?_) I.bare
  .obtain⟨B,es,ep,ho,r⟩:=hm;exact⟨B,es,ep,k' _ B (fun hb=>(R _ hb).2.1 rfl) ho,r⟩
  .refine(I.hok b u eb).stay (fun c v t q=>k' c v ?_ q) (fun _ q=>q) fun _ _ q=>q;rcases t with z | z
   .rw[z];exact nf b u eb
   .exact nf c _ z
 self:=fun A i s Q E st h=>FC st.1 h
theorem Pu(z TI TO f g a b:A2)(D:ZipApart z TI TO f g a b):MK P w K (.Tuple elts kk tp) (UK (IW K) a b) [z,TI,TO,f,g] z (Qw Heap.IsListIter z TI TO f g a b) :=
 En (isq:=Heap.IsList) (fun h c l i ⟨o,e,_,d⟩=>⟨o,e,fun v z=>by rw[d]at z;cases z⟩) (fun h C c l i z k=>z.at k) (fun X j σ H s c m n I q=>by subst n;obtain⟨r,u,p,_⟩:=I.list q;exact⟨r,u,p.isList⟩) (fun X j σ H s c m t n I q x=>by subst n;exact I.list_inj q x)
  z TI TO f g a b fun A y m t B=>by
   have W:=WalksT.zip2 (prog:=P) (w:=w) y z TI TO f g a b D m t
   rwa [EL B]at W
theorem Qg(z TI TO f g a b:A2)(D:ZipApart z TI TO f g a b):MK P w K (.Tuple elts kk tp) (UK (KQ K) a b) [z,TI,TO,f,g] z (Qw Heap.IsTupleIter z TI TO f g a b) :=
 En (isq:=Heap.IsTuple) (fun h c l i ⟨o,e,_,d⟩=>⟨o,e,fun v z=>by rw[d]at z;cases z⟩) (fun h C c l i z k=>z.at k) (fun X j σ H s c m n I q=>by subst n;obtain⟨r,u,p,_⟩:=I.tuple q;exact⟨r,u,p⟩) (fun X j σ H s c m t n I q x=>by subst n;exact I.tuple_inj q x)
  z TI TO f g a b fun A y m t B=>Zm y z TI TO f g a b D m t B
end
section
variable{X:Cx}{elts:A0 IY}{kk:Nat}{tp:Pos}
def zGj(K:PySem.W.Frag)(R:It->Hp->Prop)(a b:A2)(xs ys:A0 V)(H:Hp):Prop:=IW K H a xs/\IW K H b ys/\R (UK (IW K) a b) H\/KQ K H a xs/\KQ K H b ys/\R (UK (KQ K) a b) H
def zEc(K:PySem.W.Frag)(c:TA):TI:=fun σ H R=>c σ H fun d e=>∃a b f g,d = [.ref a,.ref b]/\zGj K R a b f g e
theorem Ph:bootBuiltins "zip" = some (.type "zip"):=by decide +kernel
theorem Zc{a b:IY}{L:TA}{p pos:Pos}(N:Gl X "zip")(O:X.mg "zip" = none)(P:PA X [a,b] L)(Q:starEach [a,b] X.env =(false,eval a X.env)::starEach [b] X.env:=by rfl)(t:(backTo pos (starEach [b] X.env)).any (·.1)=false:=by rfl):PI X (.Tuple elts kk tp) (.Call (.Name "zip" p) [a,b] [] pos) (zEc X.K L):=by
 intro f s σ H R I h;refine Call_ (o9 I N O Ph (PyProof.Rows.callWith_type1 (JT (P pos f s σ H _ I h) fun us d ⟨vs,w,g,S,T⟩=>?_) Q t));obtain⟨l,m,xs,ys,e,q⟩:=T;subst e;obtain⟨u,v,rfl,U,V⟩:=S.two;cases U;cases V;have i:∀c∈[d.heap.objs.size+4,d.heap.objs.size+2,d.heap.objs.size+3,d.heap.objs.size,d.heap.objs.size+1],w4 X f w c:=fun c M=>by
  have j:d.heap.objs.size<=c:=by
   simp only[AV,BH,or_false]at M;rcases M with rfl | rfl | rfl | rfl | rfl
   .exact DX ..
   .exact DX ..
   .exact DX ..
   .exact Nat.le_refl _
   .exact DX ..
  exact g.fpOk j (g.hok.fresh j)
 rcases q with⟨x,y,q⟩ | ⟨x,y,q⟩
 .obtain⟨z,W,n,Y⟩:=g.list x;obtain⟨A,Z,o,B⟩:=g.list y;have C:l<d.heap.objs.size:=by obtain⟨_,e,_⟩:=n.isList;exact AJ e
  have D:m<d.heap.objs.size:=by obtain⟨_,e,_⟩:=o.isList;exact AJ e
  refine call_zip_2 n.isList o.isList fun h' r E F G J hsz k=>FC r ?_;exact⟨d.heap.objs.size+4,_,_,_,w,rfl,g.kept (t':=d.toks) k,Pu _ _ _ _ _ l m (zipApart_new C D),⟨r,E,⟨_,_,F⟩,G,J⟩,i,q⟩
 .obtain⟨z,W,n,Y⟩:=g.tuple x;obtain⟨A,Z,o,B⟩:=g.tuple y;have C:l<d.heap.objs.size:=by obtain⟨_,e,_⟩:=id n;exact AJ e
  have D:m<d.heap.objs.size:=by obtain⟨_,e,_⟩:=id o;exact AJ e
  refine Pt n o fun h' r E F G J k=>FC r ?_;exact⟨d.heap.objs.size+4,_,_,_,w,rfl,g.kept (t':=d.toks) k,Qg _ _ _ _ _ l m (zipApart_new C D),⟨r,E,⟨_,_,F⟩,G,J⟩,i,q⟩
variable(K:PySem.W.Frag)
theorem zHv{a b:IY}{d:TA}{p pos:Pos}(e:X.mg "zip" = none)(f:PA X [a,b] d)(g:Gl X "zip":=by rfl)(h:starEach [a,b] X.env =(false,eval a X.env)::starEach [b] X.env:=by rfl)(c:(backTo pos (starEach [b] X.env)).any (·.1)=false:=by rfl)(i:X.K=K:=by rfl):PI X (.Tuple elts kk tp) (.Call (.Name "zip" p) [a,b] [] pos) (zEc K d):=by subst i;exact Zc g e f h c
end
section
variable{X:Cx}{tg iter elt:IY}{ifs:A0 IY}{scope:JY}{cl:A0 (Str×A2)}{N':A0 Str}{cap:A0 (A4 Nat)}{wi:TI}{pos:Pos}
theorem Rt{e:IY}{gs:A0 Comprehension}{newAcc:Sem A1}{p2:Pos}{use:A4 (A1->Sem Unit)}{Qv:A1->A3->Prop}(q:clausesOf e =⟨tg,iter,ifs,0⟩::gs)(o:A2->HO)(hs:∀x,foldedSetIterable iter X.env x=pure x)(S:MW X scope cl N' cap)(hc:X.calm=true)(hi:PI X tg iter wi)
  {lp:A2->It->St->Hp->(St->Hp->Prop)->Prop}
  (r:∀(a:A0 (A2×Obj)) (s:A3) (σ:St) (H:Hp) (Q:A1->A3->Prop) (E:A1->A3->Prop),Inv X a σ H s->(∀g,Inv X a σ (IU H s.heap.objs.size (o s.heap.objs.size)) g->(∀b f,s.heap.get? b=some f->g.heap.get? b=some f)->Q (.ref s.heap.objs.size) g)->wpAny (model X.prog X.w) X.A newAcc Q E s)
  (L:∀(a:A0 (A2×Obj)) (M:A0 A2) (s3:A3) (N:Hp) (D l:A2) (fp:A0 A2) (t:Nat->IV->Prop) (J:It) (σ:St) (s:A3) (H:Hp) (Q:St->Hp->Prop) (R:Result->A3->Prop),
   MK X.prog X.w X.K tg J fp l t->Inv (LS X scope cl N' a M s3 N) [] σ H s->t 0 s.heap->(∀b∈fp,w4 (LS X scope cl N' a M s3 N) [] H b)->lp D J σ H Q ->
   (∀g σ' H',Inv (LS X scope cl N' a M s3 N) [] σ' H' g->Q σ' H'->R (.ok .next) g) ->
   codeAny (model X.prog X.w) X.A (.compLoop e 0 (.ref l) (.ref D) (compEnvC scope cl s3.heap.objs.size X.env)) R s)
  (O:∀l D i,X.A.under (.compStart e 0 (.ref l) (.ref D) i)=X.A) (u:∀l D i,(model X.prog X.w).den (.compStart e 0 (.ref l) (.ref D) i) =(compStart e 0 (.ref l) (.ref D) i).onRaise (fun x=>do noteFrame x i;standAt theWindowsPlace))
  {a:A0 (A2×Obj)} {s:A3} {σ:St} {H:Hp} {Q:V->Hp->Prop} (I:Inv X a σ H s) (h:Ao wi o cap lp σ H Q)
  (B:∀(D:A2) (fp:A0 A2) (k:Hp) (s3 g:A3) (σ':St) (H':Hp),Inv X a σ k s3->(∀b∈fp,w4 X a k b)->Inv (LS X scope cl N' a fp s3 k) [] σ' H' g->Q (.ref D) H'->compPost (model X.prog X.w) X.A X.xe use Qv (.ref D) s3.heap.objs.size (.ok .next) g) :
  wpAny (model X.prog X.w) X.A (comprehension e scope X.env p2 newAcc false (eval iter X.env) use) Qv X.xe s:=by
 refine HV q hs S.clos S.kind S.loc (JT (hi a s σ H _ I h) fun v s1 C=>JT C fun itv j h2=>?_);obtain⟨l,fp,t,J,k,P,I2,T,F,f2,R2⟩:=h2;subst P;refine r a j σ k _ _ I2 fun s3 U k3=>?_;have hD:k j.heap.objs.size=none:=I2.hok.fresh (Nat.le_refl _);have n:∀b∈fp,w4 X a (IU k j.heap.objs.size (o j.heap.objs.size)) b/\∃f,s3.heap.get? b=some f:=fun b m=>by
  obtain⟨f,e,_⟩:=T.obj _ _ F b m;obtain⟨W,fr⟩:=f2 b m;exact⟨⟨by rw[B6 (AY (AJ e))];exact W,fr⟩,f,k3 b f e⟩
 refine wpAny_newFunctionEnv S.nocell (by intro y hy;simp at hy) (fun C Y Z=>?_) S.kind;have hk:∀b f,s3.heap.get? b=some f->C.get? b=some f:=fun b f e=>(Z.2 b (AY (AJ e))).trans (AF _ e);have I4:Inv (LS X scope cl N' a fp s3 (IU k j.heap.objs.size (o j.heap.objs.size))) [] (Ks cap σ) (IU k j.heap.objs.size (o j.heap.objs.size)) { s3 with heap:=C,toks:=s3.toks +([]:A0 (Str×A1)).length } :=
  U.block S hc n Y hk
 have G:t 0 C:=T.keep 0 _ _ F fun b m f e=>hk b f (k3 b f e);refine T1 (X:=LS X scope cl N' a fp s3 (IU k j.heap.objs.size (o j.heap.objs.size))) (gs:=⟨tg,iter,ifs,0⟩::gs) (e:=e) (d:=0) (tg:=tg) (iter:=iter) (ifs:=ifs) (O _ _ _) (u _ _ _) q rfl T G ?_;refine L a fp s3 _ j.heap.objs.size l fp t J (Ks cap σ) _ _ _ _ T I4 G (fun b m=>?_) (R2 _ hD) fun g σ' H' I' q'=>?_
 .obtain⟨⟨W,f1,f2',f3,f4,f5⟩,f,eo⟩:=n b m;refine⟨W,AY (AJ eo),fun hf=>?_,.inl m,fun x c e=>f4 x c (S.cin.get e),fun p hp=>f5 p (by simpa [LS] using hp)⟩;rcases AV.mp (U.stkSub b hf)with z | z
  .exact f1 z
  .exact f2' z
 .exact B _ fp _ s3 g σ' H' U (fun b m=>(n b m).1) I' q'
theorem Lu{i:Nat}{x:Str}{o j:Pos}{g:TG}{V:TT}{W:TE}(hN:X.N.Nodup)(hi:X.N[i]?=some x)(hx:Loc X.env.scope x)(S:MW X scope cl N' cap)(p:X.calm=true)(hI:PI X tg iter wi)
  (t:∀(d:A0 (A2×Obj)) (y:A0 A2) (l:A3) (A:Hp),PG (LS X scope cl N' d y l A) tg g/\SG (LS X scope cl N' d y l A) ifs V/\PE (LS X scope cl N' d y l A) elt W)
  (hs:∀x,foldedSetIterable iter X.env x=pure x:=by intro _;rfl)
  (F:swapsWith (.ListComp elt [⟨tg,iter,ifs,0⟩] scope j) (some (.Name x o)) pos.line X.env=pure true:=by rfl)
  (G:X.fn x=true\/X.env.scope.names.lookup x=some .local:=by first | exact .inl rfl | exact .inr rfl | assumption) :
  PS X (.Assign [.Name x o] (.ListComp elt [⟨tg,iter,ifs,0⟩] scope j) pos) (We (Ao wi (fun _=>.lst []) cap fun D J σ H Q=>Y7 g V (T7 D W) J σ H Q) (J7 i)):=by
 intro d s σ H D I h;rw[exec_Assign];refine AA (FT (AA (GG F (IK rfl (AA (AA ?_))))));refine Rt (newAcc:=newList []) (p2:=firstIterPos [⟨tg,iter,ifs,0⟩] j) rfl (fun _=>.lst []) hs S p hI (fun d s σ H Q E I h=>?_) (fun d y l A D it fp tn J σ s H Q R T I st G h hR=>?_) (fun _ _ _=>rfl) (fun _ _ _=>rfl) I h fun E fp H2 l s' σ' H' Y K L q=>?_
 .refine G_ ?_;exact h _ (I.lnew (t':=s.toks) (its:=[]) .nil (CK _)) fun b f e=>AF _ e
 .obtain⟨b1,b2,b3⟩:=t d y l A;exact Q3 (X:=LS X scope cl N' d y l A) rfl rfl p rfl (j9 elt tg iter ifs scope j _ _ _) b1 b2 (Eh rfl b3) T I st G h hR
 .have IX:Inv X d σ H' s':=Y.unblock K L ⟨rfl,fun _ _=>rfl⟩;have w:w4 X d H' l.heap.objs.size:=Y.fpOk (Nat.le_refl _) L.free;obtain⟨m,hn,_⟩:=L.loc;show wpAny _ _ (assign (.Name x o) X.env (.ref E)) _ _ _;refine wpAny_assign_Name (Fp (v:=.ref E) IX hN hi hx rfl (fun C M ⟨a,O,ha⟩=>?_) G);have nC:l.heap.objs.size≠a:=by
   rcases ha with rfl | ha
   .exact w.2.1
   .exact(w.2.2.2.2.1 _ _ ha).symm
  refine⟨m,?_,fun h' B=>AE (AE ?_)⟩
  .obtain⟨f,P,U,e1,r⟩:=hn;exact⟨f,P,U,(O.2 _ nC).trans e1,r⟩
  refine⟨_,H',?_,q⟩;have k:∀b f,b∉[l.heap.objs.size]->C.heap.get? b=some f->h'.get? b=some f:=fun b f t e=>(B.2 b fun z=>t (AH.mpr z)).trans e;refine M.step (h':=h') (H':=H') (t':=C.toks) (g':=C.gens) (d':=C.drawn) (ch:=[l.heap.objs.size]) (fun b t=>by rw[AH.mp t];exact⟨w.2.2.2.1,w.2.1,w.2.2.2.2⟩) (fun b f _ _ p e _=>k b f p e) (fun b f _ _ p e _=>⟨f.slots,k b f p e⟩) (fun _ _ _ _ n=>n)
   (fun b f p e=>⟨f,k b f p e⟩) (fun _ _ e=>e) (fun _ _ _ e=>e) (fun b ps e=>⟨#[],by rw[e];simp⟩) (fun m hm=>?_) (fun b u Z=>?_) M.bare
  .obtain⟨f,P,U,ho,r⟩:=hm;exact⟨f,P,U,k _ f (fun t=>w.2.1 (AH.mp t).symm) ho,r⟩
  .have nf:∀b u,H' b=some u->b∉[l.heap.objs.size]:=fun b u e t=>by rw[AH.mp t,w.1]at e;cases e
   refine(M.hok b u Z).stay (fun c v p q=>k c v ?_ q) (fun _ q=>q) fun _ _ q=>q;rcases p with z | z
   .rw[z];exact nf b u Z
   .exact nf c _ z
end
section
variable{X:Cx}
theorem zDo{x:Str}{C:A2}{pos:Pos}(h:X.mg x=some (.ref C))(a:Gl X x:=by rfl)(b:(x ==("__debug__":Str))=false:=by decide):PE X (.Name x pos) (tC (.ref C)):=Ij a h rfl b
theorem Tp(E:X.calm=true):E9 X (.builtin "any") (fun xs H Q=>∃(p:A2) (bs:A0 Bool),xs = [.ref p]/\IW X.K H p (bs.map V.bl)/\Q (.bl (bs.any id)) H):=by
 intro B s σ H xs M Q I r h;obtain⟨p,bs,rfl,F,q⟩:=h;obtain⟨u,rfl,t⟩:=S2 r;cases t;obtain⟨a,w,x,N⟩:=I.list F;refine call_any_walk (HB x.isList ?_);have y:p≠s.heap.objs.size:=by
  obtain⟨o,n,e,_⟩:=x;exact AY (AJ e)
 refine⟨s.heap.objs.size,_,_,_,_,_,fun i=>bs.getD i false,rfl,Walks.list (A:=X.A.in1) (show X.A.in1.handled=none from I.ok.hd E) _ p y a.toArray,⟨⟨_,AN _ rfl,rfl,rfl⟩,?_⟩,fun i v O P R G J=>?_,fun S T k=>?_⟩
 .obtain⟨o,n,e,c,d,L⟩:=x;exact⟨o,AF _ e,c,n,L⟩
 .have f:(bs.map V.bl)[i]?=some (V.bl (bs.getD i false))/\RelV (V.bl (bs.getD i false)) v:=by
   have g:a[i]?=some v:=by simpa using G
   have j:i<a.length:=(AD.mp g).1;have m:=w.length;rw[AB]at m;have e:(bs.map V.bl)[i]?=some (V.bl (bs.getD i false)):=by
    rw[AG,AC (by omega)];simp[BK,AC (show i<bs.length by omega)]
   obtain⟨u,C,t⟩:=w.get e;rw[g]at C;cases C;exact⟨e,t⟩
  cases f.2;exact DI J
 .have m:=w.length;rw[AB]at m;have e:(List.range a.toArray.size).any (fun i=>bs.getD i false)=bs.any id:=by
   rw[AQ,<-m,B_,List.any_eq_true,List.any_eq_true];constructor
   .rintro⟨i,j,z⟩;have l:=CB.mp j;refine⟨bs[i],EI l,?_⟩;simpa [BK,AC l] using z
   .rintro⟨b,f,z⟩;obtain⟨i,j,rfl⟩:=GD.mp f;refine⟨i,CB.mpr j,?_⟩;simpa [BK,AC j] using z
  rw[e];exact⟨.bl (bs.any id),H,I.kept fun b o D=>k b o (by
   intro f;have:b=s.heap.objs.size:=by simpa using f
   exact absurd (AJ D) (by rw[this];exact CQ _)) (AF _ D),rfl,q⟩
theorem zCo:bootBuiltins "any" = some (.builtin "any"):=by decide +kernel
variable(K:PySem.W.Frag)
theorem zDe(a:X.calm=true:=by rfl)(b:X.K=K:=by rfl):E9 X (.builtin "any") (fun xs H Q=>∃(p:A2) (bs:A0 Bool),xs = [.ref p]/\IW K H p (bs.map V.bl)/\Q (.bl (bs.any id)) H):=by subst b;exact Tp a
end
def Lk:bootBuiltins "sum" = some (.builtin "sum"):=by decide +kernel
section
variable{X:Cx}
theorem Nx(f:X.calm=true):E9 X (.builtin "sum") (fun xs H Q=>∃(p:A2) (ns:A0 Int),xs = [.ref p]/\IW X.K H p (ns.map V.int)/\Q (.int ns.sum) H):=by
 intro b s σ H xs o Q I r h;obtain⟨p,ns,rfl,g,q⟩:=h;obtain⟨u,rfl,i⟩:=S2 r;cases i;obtain⟨a,j,l,t⟩:=I.list g;have c:=Ng j;obtain⟨xs,d⟩:=c.allInts.items;refine sum_intListG (xs:=xs) (I.ok.hd f) (by rw[<-d];exact l.isList) fun v w m k=>⟨.int ns.sum,H,I.kept k,⟨m,?_⟩,q⟩;have e:numsOf a=ns:=c.numsOf;have n:numsOf (intItems xs).toList=numsOf a:=by rw[<-d]
 rw[preSum_eq,CY (by simp),<-nums_intItems,n,e]
theorem Si(K:PySem.W.Frag)(a:X.K=K:=by rfl)(b:X.calm=true:=by rfl):E9 X (.builtin "sum") (fun xs H Q=>∃(p:A2) (ns:A0 Int),xs = [.ref p]/\IW K H p (ns.map V.int)/\Q (.int ns.sum) H):=by subst a;exact Nx b
end
def Zx{α:Type}:∀{ps:A0 (A2×α)} {us:A0 A1},JA (ps.map fun q=>V.ref q.1) us->us=ps.map fun q=>Value.ref q.1
 | [],_,.nil=>rfl
 | _::_,_,.cons r t=>by rw[BB,Zx t];cases r;rfl
def Yy{α:Type}:∀(ps:A0 (A2×α)),JA (ps.map fun q=>V.ref q.1) (ps.map fun q=>Value.ref q.1)
 | []=>.nil
 | _::ps=>.cons rfl (Yy ps)
def Itd(d:A2)(o:Obj)(a:A0 (JZ×V)):It :=
 ⟨fun i H=>H d=some (.frz o (.dK a))/\i<a.length,fun i H x b=>b=H/\∃k v,a[i]?=some (k,v)/\x=kV k,fun i H=>H d=some (.frz o (.dK a))/\a.length<=i⟩
def KV.at{c:A0 (JZ×V)}{vs:A0 (JZ×A1)}(h:KV c vs):∀{i:Nat} {k:JZ} {v:V},c[i]?=some (k,v)->∃u,vs[i]?=some (k,u):=by
 induction h with
 | nil=>intro i k v e;rw[List.getElem?_nil]at e;cases e
 | cons r _ d =>
  intro i k v e;cases i with
  | zero =>
   rw[ID]at e⊢;cases e;obtain⟨a,b⟩:=r;exact⟨_,by rw[show k=_ from a]⟩
  | succ i=>exact d e
def zAo{k:JZ}{u:A1}(h:De k u=true):RelV (kV k) u:=by
 cases k with
 | inl i=>obtain⟨t,rfl⟩:=Value.isInt_shape h;exact⟨t,rfl⟩
 | inr x=>obtain⟨t,rfl⟩:=Value.isStrOf_shape h;exact⟨t,rfl⟩
section
variable{X:Cx}{tg:IY}
theorem Sa{P:A6}{w:F1}{K:PySem.W.Frag}{d g:A2}{o:Obj}{a:A0 (JZ×V)}{C:A7 DictEntry}{ep:Nat}(t:o.data = .dict C ep):MK P w K tg (Itd d o a) [g] g (fun i h=>h.IsKeyIter g d i a.length ep) where
 mem:=by simp
 obj:=fun i h st b j=>by
  have e:b=g:=by simpa using j
  subst e;obtain⟨o,e,c,d⟩:=st;exact⟨o,e,fun v z=>by rw[d]at z;cases z⟩
 keep:=fun i h x st k=>by
  obtain⟨o,e,r⟩:=st;exact⟨o,k g (by simp) o e,r⟩
 item:=by
  intro X D F G hc i f s σ H E I y st J;subst D F G;obtain⟨L,A⟩:=J;obtain⟨M,N,f2,O,Q,R⟩:=y g (by simp);obtain⟨m,hz,hS,S,r,ob,T,U,n,Y,p,Z⟩:=(show JH X.prog X.w H s.heap d (.frz o (.dK a))from I.hok d _ L);rw[m]at n;cases n;rw[t]at p;cases p;have hx:a[i]?=some (a[i].1,a[i].2):=AC A;obtain⟨u,hu⟩:=r.at hx;have B:a.length=S.length:=r.length;rw[B]at st;refine wpAny_pyNext_dict_item (knd:=C4 X.prog X.w) st ⟨o,C,m,Y,t,Z⟩ hu fun key x q l sb=>?_;have I1:Inv X f σ H { s with heap:=x }:=I.turned (t':=s.toks) (fun b o j e=>(sb.2 b j).trans e) M N O Q R;obtain⟨oi,ei,ci,di⟩:=id l;rw[<-B]at l;exact⟨key,rfl,Na (s:={ s with heap:=x }) ei ci di (by decide) ⟨kV a[i].1,H,I1,zAo q,⟨rfl,_,_,hx,rfl⟩,l,fun b j=>(y b j).1⟩⟩
 done:=by
  intro X D F G hc i f s σ H E I y st J;subst D F G;obtain⟨L,A⟩:=J;obtain⟨M,N,f2,O,Q,R⟩:=y g (by simp);obtain⟨m,hz,hS,S,r,ob,T,U,n,Y,p,Z⟩:=(show JH X.prog X.w H s.heap d (.frz o (.dK a))from I.hok d _ L);rw[m]at n;cases n;rw[t]at p;cases p;have B:a.length=S.length:=r.length;rw[B]at st A;exact wpAny_pyNext_dict_end (knd:=C4 X.prog X.w) (I.ok.hd hc) st ⟨o,C,m,Y,t,Z⟩ (EC A) fun x eb=>⟨rfl,I.turned (t':=s.toks) (fun b o j e=>eb b o j e) M N O Q R⟩
 self:=fun _ _ _ _ _ st h=>wpAny_pyIter_keyiter st h
end
end L2
namespace TS
open PySem PyProof.Rows
section
variable{prog:A6}{w:F1}{A:IZ}{E:A1->A3->Prop}{s:A3}{Z:KeyKind}{kd:JQ}
structure SA(prog:A6)(w:F1)(a:A2)(s:A3)(Z:KeyKind)(kd:JQ)(vs:A0 A1):Prop where
 cmp:∀(A:IZ) (s':A3),A.units+4<cLine->TC a s s'->SC prog w A s' Z kd
 key:∀v∈vs,∃k,Z.keyOf v=some k
 kind:2<=vs.length->∀(A:IZ) (E:A1->A3->Prop) (s':A3) (Q:JQ->A3->Prop),TC a s s'->Q kd s'->wpAny (model prog w) A (keyKind' vs.toArray) Q E s'
theorem Bj{a:A2}{vs:A0 A1}{n:Nat}{P:Fin->A3->Prop}(t:A.units+4<cLine)(k:s.heap.get? a=some (seqObj "list" vs.toArray n))(m:vs.length<=sizeLine)(K:SA prog w a s Z kd vs)
  (h:∀out:A7 A1,VH Z vs out->P (.done (.ret .none)) { s with heap:=sortedHeap s.heap a vs out }) :
  wpAny (model prog w) A (Builtin.«list.sort» ⟨[.ref a],[]⟩) P E s:=by
 rw[list_sort_plain];have q:a<s.heap.objs.size:=AJ k;have i:vs.toArray.size=vs.length:=by simp
 refine AA (listItems_at k rfl ?_);refine AA (listUpdate_at k rfl ?_ (by rw[i];exact m) (by simp));obtain⟨l,j⟩:∃l,(s.heap.update a (Obj.mapSeq fun _=>#[])).get? a=some (seqObj "list" #[] l):=⟨_,get?_update_seq k (fun _=>#[])⟩;refine AA (seqEpoch_at j rfl ?_);refine AA (FJ ?_ (by simpa using m));refine AA (G_ ?_);refine CG ?_;have d:(((s.heap.update a (Obj.mapSeq fun _=>#[])).push (seqObj "tuple" vs.toArray 0)).push (seqObj "list" #[] 0)).get? a=some (seqObj "list" #[] l):=by
  rw[IG _ _ _ (by rw[size_push',EN];exact AY (CS q)),IG _ _ _ (by rw[EN];exact AY q)];exact j
 show wpAny (model prog w) A _ P E { s with heap:=((s.heap.update a (Obj.mapSeq fun _=>#[])).push (seqObj "tuple" vs.toArray 0)).push (seqObj "list" #[] 0) };dsimp only;have r:TC a s { s with heap:=((s.heap.update a (Obj.mapSeq fun _=>#[])).push (seqObj "tuple" vs.toArray 0)).push (seqObj "list" #[] 0) }:=fun b o u e =>
  AF _ (AF _ ((CZ s.heap _ (Ne.symm u)).trans e))
 by_cases f:vs.toArray.size<2
 .rw[AU f,AU f];refine AA (AE ?_);rw[StateT.run_pure];refine AA (AE ?_);dsimp only;refine AA (seqEpoch_at d rfl ?_);refine AA (listUpdate_at d rfl ?_ (by simp) (by rw[GN];show(pairsOf vs).size<=_;rw[pairsOf_size];omega));simp only[bne_self_eq_false,BE,DA];refine AE (h _ (Ma (Z:=Z) (xs:=pairsOf vs) (GM _) ?_));rw[pairsOf_toList];rw[i]at f
  match vs,f with
  | [],_=>exact List.Pairwise.nil
  | [v],_=>exact ED _ _
  | _::_::_,f=>simp at f;omega
 .rw[AO f,AO f];refine AA (K.kind (by omega) A E _ _ r ?_);refine AA (CF (X9 (K.cmp A _ t r) (a₀:=pairsOf vs) (st:=SortSt.mk' kd (vs.toArray.zip vs.toArray) #[] 7 none)
   (Q:=fun _ c=>St Z kd (pairsOf vs) c/\LV Z (arrOf c).toList)
   (fun p g=>?_) ⟨GM _,rfl,rfl⟩ rfl fun c x y=>⟨x,y⟩) ?_ fun _ _ e=>e)
  .rw[pairsOf_toList]at g;exact K.key _ (mem_zip_self g).2
  rintro⟨⟨⟩,c⟩ B ⟨rfl,g,z⟩;dsimp only;refine AA (seqEpoch_at d rfl ?_);refine AA (listUpdate_at d rfl ?_ (by simp) (by rw[GN];show(arrOf c).size<=_;rw[g.size,pairsOf_size];omega));rw[show failedOf c=none from g.failed];simp only[bne_self_eq_false,BE,DA];exact AE (h _ (Ma g.perm z))
theorem OO{x:A1}{Q:A1->A3->Prop}(p:A.units+6<cLine)
  (g:wpAny (model prog w) A.in1 (collect x) (fun vs s1=>s1.os=s.os/\vs.length<=sizeLine/\(∃(Z:KeyKind) (kd:JQ),(∀d:A3,TC s1.heap.objs.size s1 d->SA prog w s1.heap.objs.size d Z kd vs) /\
   ∀(out:A7 A1) (h':IV) (e:Nat),VH Z vs out->(∀b o,s1.heap.get? b=some o->h'.get? b=some o)->h'.get? s1.heap.objs.size=some (seqObj "list" out e)->Q (.ref s1.heap.objs.size) { s1 with heap:=h' })) E s) :
  wpAny (model prog w) A (call (.builtin "sorted") [x]) Q E s:=by
 refine Calls.call_function_entry kind_sorted plain_sorted entry_sorted (args_sorted1 _) ?_;unfold Builtin.«sorted»;refine AA (m:=checkCount "sorted" 1 1 _) (AE ?_);refine AA (CF g (fun vs s1 ⟨i,j,Z,kd,K,q⟩=>?_) fun _ _ z=>z);refine AA (G_ ?_);have a:(s1.heap.push (seqObj "list" vs.toArray 0)).get? s1.heap.objs.size=some (seqObj "list" vs.toArray 0):=AN _ rfl;show wpAny _ _ _ _ _ { s1 with heap:=s1.heap.push (seqObj "list" vs.toArray 0) };have k:TC s1.heap.objs.size s1 { s1 with heap:=s1.heap.push (seqObj "list" vs.toArray 0) }:=fun b o _ e=>AF _ e;refine AA (CG (CT slot_list_sort ⟨_,a,rfl⟩ entry_list_sort (Bj (s:={ s1 with heap:=s1.heap.push (seqObj "list" vs.toArray 0) }) (by simp only[Around.in1_units];omega) a j (K _ k) fun out l=>⟨_,rfl,?_⟩) (args_list_sort _)));obtain⟨e,n⟩:=sortedHeap_at (h:=s1.heap.push (seqObj "list" vs.toArray 0)) (out:=out) a;refine AE ⟨_,rfl,q out _ e l (fun b o f=>?_) n⟩;have c:=AJ f;rw[sortedHeap_old (AY c) (by rw[size_push'];exact CS c)];exact AF _ f
open PySem.SeqAt PySem.MeetsSeq PySem.MeetsSeq3
open AutoSeq1 (wpAny_loadPart')
theorem Q_{l b:A2}{items a:A7 A1}{n d:Nat}{r:Bool}{Q:Bool->A3->Prop}(e:A.units<cLine)(c:s.heap.get? l=some (seqObj "list" items n))(f:s.heap.get? b=some (seqObj "list" a d))
  (g:Meets (Builtin.«list.__lt__» ⟨[.ref l,.ref b],[]⟩) (fun A R s=>s.heap.get? l=some (seqObj "list" items n)/\s.heap.get? b=some (seqObj "list" a d)/\R (.ok (.ret (.bool r))) s)) (h:Q r s) :
  wpAny (model prog w) A (oneLt' true (.ref l) (.ref b)) Q E s:=by
 rw[oneLt'_eq];simp only[FK];refine AA (wpAny_cRoomFor e ?_);refine AA (wpAny_callSpecialIfBound?_slot (T := "list") ⟨_,c,rfl⟩ F.slot_list_lt (call_meets F.slot_list_lt ⟨_,c,rfl⟩ F.entry_list_lt (F.args_list_lt_2 _ _) g ⟨c,f,?_⟩));exact DI h
end
end TS
namespace L2
open PySem PySem.Spec PyProof.Rows
def LAt(h:IV)(p:A2)(us:A0 A1):Prop:=∃n,h.get? p=some (seqObj "list" us.toArray n)
def Km:∀{a b:A0 Str},a.map V.str=b.map V.str->a=b
 | [],[],_=>rfl
 | [],_::_,h=>(by cases h)
 | _::_,[],h=>(by cases h)
 | x::r,y::t,h=>by
  rw[BB,BB]at h;injection h with c d;injection c with c;rw[c,Km d]
def own(a:JY)(cl:A0 (Str×A2))(n:Nat):A0 (Str×A2):=cellsFrom (n+1) a.names cl
def O3:∀(names:A0 (Str×NY)) (n:Nat) (a:A0 (Str×A2)),cellsFrom n names a=cellsFrom n names []++a
 | [],_,_=>rfl
 | (y,k)::r,n,a=>by
  unfold cellsFrom;split
  .rw[O3 r (n+1) ((y,n)::a),O3 r (n+1) [(y,n)],BM];rfl
  .exact O3 r n a
def Ce{α:Type}(x:Str):∀(l m:A0 (Str×α)),(l++m).lookup x =(l.lookup x).or (m.lookup x)
 | [],m=>rfl
 | (y,c)::r,m=>by
  rw[List.cons_append,IQ,IQ];cases x == y with
  | true=>rfl
  | false=>exact Ce x r m
def V3{a:JY}{cl:A0 (Str×A2)}{n:Nat}{x:Str}{c:A2}(h:(own a cl n).lookup x=some c):(cellsFrom (n+1) a.names []).lookup x=some c\/((cellsFrom (n+1) a.names []).lookup x=none/\cl.lookup x=some c):=by
 unfold own at h;rw[O3,Ce]at h;cases e:(cellsFrom (n+1) a.names []).lookup x with
 | some d=>rw[e]at h;exact .inl h
 | none=>rw[e]at h;exact .inr ⟨rfl,h⟩
def QT(X:Cx)(a:JY)(cl:A0 (Str×A2))(N':A0 Str)(b:A0 (A2×Obj))(ex:A0 A2)(c:A3)(d:Hp):Cx where
 prog:=X.prog
 w:=X.w
 K:=X.K
 mg:=X.mg
 base:=X.base
 A:=X.A
 N:=N'
 s₀:=c
 H₀:=d
 env:=compEnvC a (own a cl c.heap.objs.size) c.heap.objs.size X.env
 outer:=X.stack
 stack:=X.stack
 ex:=ex
 fn:=fun x=>a.names.lookup x == some .cell
 calm:=X.calm
 pn:=X.pn++b
 xe:=fun _ _=>False
structure QS(X:Cx)(scope:JY)(cl:A0 (Str×A2))(N':A0 Str)(cap:A0 (A4 Nat)):Prop where
 kind:scope.kind = .function
 loc:∀y∈scope.names,y.2 = .local->scope.names.lookup y.1=some .local
 clos:closureFor scope X.env=pure cl
 cin:RL X cl
 has:∀n,((relabel scope X.env).names.all fun y=>!(y.2 == .cell||y.2 == .free)||((own scope cl n).lookup y.1).isSome)=true
 caps:∀n,OK X scope (own scope cl n) N' cap
section
variable{X:Cx}{scope:JY}{cl:A0 (Str×A2)}{N':A0 Str}{cap:A0 (A4 Nat)}{pins:A0 (A2×Obj)}{σ:St}{H3:Hp}{s3:A3}{ex:A0 A2}
theorem Inv.blockD(I:Inv X pins σ H3 s3)(S:QS X scope cl N' cap)(hc:X.calm=true)(w:∀b∈ex,w4 X pins H3 b/\∃o,s3.heap.get? b=some o){h1:IV}{Y:Nat}
  (J:h1.Ns s3.heap.objs.size (fun _=>none)) (B:∀b o,s3.heap.get? b=some o->h1.get? b=some o) (R:CellsOk h1 (s3.heap.objs.size+1) (cellsFrom (s3.heap.objs.size+1) scope.names [])) :
  Inv (QT X scope cl N' pins ex s3 H3) [] (Ks cap σ) H3 { s3 with heap:=h1,toks:=Y }:=by
 have C:∀b o,s3.heap.get? b=some o->b≠s3.heap.objs.size:=fun b o e=>AY (AJ e);have D:∀x c,cl.lookup x=some c->∃v,s3.heap.IsCell c v:=fun x c e=>I.cell x c (S.cin.get e);have f:∀{x c},(cellsFrom (s3.heap.objs.size+1) scope.names []).lookup x=some c->h1.IsCell c none/\s3.heap.objs.size+1<=c:=fun e=>R.empty _ _ (PySem.mem_of_lookup e);have A:H3 s3.heap.objs.size=none:=I.hok.fresh (Nat.le_refl _);have E:∀x c,cl.lookup x=some c->c<s3.heap.objs.size:=fun x c e=>let⟨_,h⟩:=D x c e;h.lt;refine⟨⟨I.ok.mod,?_,I.ok.glob,I.ok.blt,Nat.le_refl _,fun x y c K s=>?_,fun x Z=>?_,fun x c h e=>?_,I.ok.hd,I.ok.frames,.inl rfl,fun b F=>?_,I.bs,Nat.le_trans I.ok.bsz I.sz,fun b o e F=>?_,fun b F=>?_,I.stack,I.stkFree⟩,
  rfl,I.bare,Un.kept B,⟨_,J,fun i x v K s e3=>?_⟩,fun x c e=>?_,A,fun x c e=>?_,fun p hp=>?_,I.hok.kept B,?_⟩
 .exact S.kind
 .rcases V3 K with a | ⟨_,a⟩<;>rcases V3 s with b | ⟨_,b⟩
  .exact name_of_addr R.apart (PySem.mem_of_lookup a) (PySem.mem_of_lookup b)
  .exact absurd (BF (E _ _ b) (EQ (f a).2)) (CQ _)
  .exact absurd (BF (E _ _ a) (EQ (f b).2)) (CQ _)
  .exact I.ok.inj x y c (S.cin.get a) (S.cin.get b)
 .have q:∀k,(relabel scope X.env).names.lookup x=some k->(!(k == .cell||k == .free)||((own scope cl s3.heap.objs.size).lookup x).isSome)=true:=fun k e=>j7 (p:=fun _=>true) (q:=fun a k=>!(k == .cell||k == .free)||((own scope cl s3.heap.objs.size).lookup a).isSome) (S.has _) e;have L:(relabel scope X.env).names.lookup x=some .cell\/(relabel scope X.env).names.lookup x=some .free:=Z;have:((own scope cl s3.heap.objs.size).lookup x).isSome=true:=by
   rcases L with e | e
   .exact q _ e
   .exact q _ e
  exact FF.mp this
 .have h:scope.names.lookup x=some .cell:=beq_iff_eq.mp h;have q:=PySem.W.cellsFrom_some scope.names (s3.heap.objs.size+1) [] (.inl h);rcases V3 e with a | ⟨a,_⟩
  .exact EQ (f a).2
  .rw[a]at q;cases q
 .obtain⟨⟨_,_,_,_,f4,_⟩,o,e⟩:=w b F;refine⟨C b o e,fun x c G=>?_⟩;rcases V3 G with a | ⟨_,a⟩
  .exact Nat.ne_of_gt (BF (AJ e) (EQ (f a).2))
  .exact f4 x c (S.cin.get a)
 .obtain⟨⟨f0,T,U,f3,_⟩,_⟩:=w b F;rcases f3 with f3 | f3
  .exact I.ok.noex b o e f3
  .have:=(I.ok.bs b o e).1;exact absurd (BF (AJ this) f3) (CQ _)
 .intro M;obtain⟨⟨_,T,U,_⟩,_⟩:=w b F;rcases AV.mp (I.stkSub b M)with z | z
  .exact T z
  .exact U z
 .unfold Ks at s;rw[AG]at s;cases G:cap[i]? with
  | none=>rw[G]at s;cases s
  | some o =>
   rw[G]at s;cases o with
   | none=>cases s
   | some j =>
    have g:(σ[j]?).join=some v:=BA s;obtain⟨c1,V,c3,c4⟩:=(S.caps s3.heap.objs.size).get K G;have H:σ[j]?=some (some v):=by
     cases H:σ[j]? with
     | none=>rw[H]at g;cases g
     | some z=>rw[H]at g;cases z with
      | none=>cases g
      | some z=>cases g;rfl
    obtain⟨m,hn,hl⟩:=I.loc;obtain⟨u,r,l⟩:=hl j x v c1 H (.inr (.inl V));refine⟨u,r,?_⟩;rcases l with⟨k,_⟩ | ⟨_,c,N,t⟩
    .have:X.env.scope.names.lookup x=some .local:=k;rw[V]at this;cases this
    .exact .inr ⟨.inl c3,c,c4.trans N,let⟨o,O,P⟩:=t;⟨o,B _ _ O,P⟩⟩
 .rcases V3 e with a | ⟨_,a⟩
  .exact⟨_,(f a).1⟩
  .obtain⟨v,o,O,P⟩:=D x c a;exact⟨v,o,B _ _ O,P⟩
 .rcases V3 e with a | ⟨_,a⟩
  .exact I.hok.fresh (EQ (f a).2)
  .exact I.freeC x c (S.cin.get a)
 .have Q:p∈X.pn++pins:=by simpa [QT] using hp
  obtain⟨e,n,ne,nf,d⟩:=I.pin p Q;refine⟨B _ _ e,n,C _ _ e,fun M=>?_,d⟩;rcases AV.mp (I.stkSub p.1 M)with z | z
  .exact ne z
  .exact nf z
 .unfold Ks;rw[AB];exact(S.caps 0).len
theorem Inv.unblockD{σ':St}{H':Hp}{s':A3}{h':IV}(I:Inv X pins σ H3 s3)(g:∀b∈ex,w4 X pins H3 b)(J:Inv (QT X scope cl N' pins ex s3 H3) [] σ' H' s')(f:Heap.SameBut s3.heap.objs.size s'.heap h') :
  Inv X pins σ H' { s' with heap:=h' }:=by
 have d:H' s3.heap.objs.size=none:=J.free;refine I.call' (ch:=ex) J.os ⟨fun b o e n h a=>?_,fun b o e n h a=>?_,fun b o e n a=>?_,fun b o e a=>?_,J.base.tups,J.base.frzs,J.base.tbls⟩ (fun b j e=>?_) J.bare fun b i=>?_
 .exact(f.2 b (AY (AJ e))).trans (J.base.keep b o e n h a)
 .obtain⟨k,q⟩:=J.base.slot b o e n h a;exact⟨k,(f.2 b (AY (AJ e))).trans q⟩
 .exact J.base.free b o e n a
 .obtain⟨l,q⟩:=J.base.there b o e a;exact⟨l,(f.2 b (AY (AJ e))).trans q⟩
 .refine(J.hok b j e).stay (fun c u m q=>(f.2 c ?_).trans q) (fun _ q=>q) fun _ _ q=>q;rintro rfl;rcases m with z | z
  .rw[<-z,d]at e;cases e
  .rw[d]at z;cases z
 .obtain⟨_,p,_,r,s,t⟩:=g b i;exact⟨r,p,s,t⟩
end
def Nn{M:Model}{A:IZ}{E:A1->A3->Prop}{s:A3}{a:JY}{c:A2}{cl:A0 (Str×A2)}{d:Str}{e:SF}{Q:SF->A3->Prop}
  (i:∀b,Q (newEnv a s.heap.objs.size c (own a cl s.heap.objs.size) d none .none (some e) b) { s with heap:=pushCells (s.heap.push { cls:=.type "dict",data:=.dict #[] }) a.names }) :
  wpAny M A (newFunctionEnv a c cl [] d none .none (some e)) Q E s:=by
 simp only[newFunctionEnv,Option.isSome_some,FK];refine AA (wpAny_alloc ?_);refine AA (wpAny_layCells _ (fun name f g=>by cases h:f == NameKind.cell<;>simp[h]) _ _ _ _ ?_);rw[show({ s with heap:=s.heap.push { cls:=.type "dict",data:=.dict #[] } }:A3).heap.objs.size=s.heap.objs.size+1 from CD ..];rw[List.forIn_nil];exact AA (AE (AE (i 0)))
section
variable{X:Cx}{tg iter:IY}{ifs:A0 IY}{g:TG}{tc:TT}{em:R6}{scope:JY}{cl:A0 (Str×A2)}{N':A0 Str}{cap:A0 (A4 Nat)}{pos:Pos}{wi:TI}
theorem Oa{e:IY}{gs:A0 Comprehension}{newAcc:Sem A1}{p2:Pos}(t:clausesOf e =⟨tg,iter,ifs,0⟩::gs)(o:A2->HO)(hs:∀x,foldedSetIterable iter X.env x=pure x)(S:QS X scope cl N' cap)(hc:X.calm=true)(hi:PI X tg iter wi)
  {lp:A2->It->St->Hp->(St->Hp->Prop)->Prop}
  (u:∀(f:A0 (A2×Obj)) (s:A3) (σ:St) (H:Hp) (Q:A1->A3->Prop) (E:A1->A3->Prop),Inv X f σ H s->(∀n,Inv X f σ (IU H s.heap.objs.size (o s.heap.objs.size)) n->(∀b g,s.heap.get? b=some g->n.heap.get? b=some g)->Q (.ref s.heap.objs.size) n)->wpAny (model X.prog X.w) X.A newAcc Q E s)
  (N:∀(f:A0 (A2×Obj)) (O:A0 A2) (s3:A3) (P:Hp) (D l:A2) (fp:A0 A2) (y:Nat->IV->Prop) (J:It) (σ:St) (s:A3) (H:Hp) (Q:St->Hp->Prop) (R:Result->A3->Prop),
   MK X.prog X.w X.K tg J fp l y->Inv (QT X scope cl N' f O s3 P) [] σ H s->y 0 s.heap->(∀b∈fp,w4 (QT X scope cl N' f O s3 P) [] H b)->lp D J σ H Q ->
   (∀n σ' H',Inv (QT X scope cl N' f O s3 P) [] σ' H' n->Q σ' H'->R (.ok .next) n) ->
   codeAny (model X.prog X.w) X.A (.compLoop e 0 (.ref l) (.ref D) (compEnvC scope (own scope cl s3.heap.objs.size) s3.heap.objs.size X.env)) R s)
  (U:∀l D i,X.A.under (.compStart e 0 (.ref l) (.ref D) i)=X.A) (B:∀l D i,(model X.prog X.w).den (.compStart e 0 (.ref l) (.ref D) i) =(compStart e 0 (.ref l) (.ref D) i).onRaise (fun x=>do noteFrame x i;standAt theWindowsPlace))
  (V:∀E Q s,wpAny (model X.prog X.w) X.A (comprehension e scope X.env p2 newAcc false (eval iter X.env)) Q E s->wpAny (model X.prog X.w) X.A (eval e X.env) Q E s) :
  PE X e (Ao wi o cap lp):=by
 intro f s σ H Q I h;refine V _ _ _ (HV (use:=none) t hs S.clos S.kind S.loc (JT (hi f s σ H _ I h) fun v s1 L=>JT L fun itv j h2=>?_));obtain⟨l,fp,y,J,r,W,I2,T,C,f2,R2⟩:=h2;subst W;refine u f j σ r _ _ I2 fun s3 Y k3=>?_;have hD:r j.heap.objs.size=none:=I2.hok.fresh (Nat.le_refl _);have q:∀b∈fp,w4 X f (IU r j.heap.objs.size (o j.heap.objs.size)) b/\∃g,s3.heap.get? b=some g:=fun b k=>by
  obtain⟨g,e,_⟩:=T.obj _ _ C b k;obtain⟨Z,fr⟩:=f2 b k;exact⟨⟨by rw[B6 (AY (AJ e))];exact Z,fr⟩,g,k3 b g e⟩
 refine Nn fun bb=>?_;have hk:∀b g,s3.heap.get? b=some g->(pushCells (s3.heap.push { cls:=.type "dict",data:=.dict #[] }) scope.names).get? b=some g:=fun b g e=>pushCells_keeps _ _ b g (AF _ e);have F:(pushCells (s3.heap.push { cls:=.type "dict",data:=.dict #[] }) scope.names).Ns s3.heap.objs.size (fun _=>none):=(Heap.Ns.new s3.heap (.type "dict")).keeps (pushCells_keeps _ _);have M:=cellsFrom_ok scope.names (s3.heap.push { cls:=.type "dict",data:=.dict #[] }) (s3.heap.objs.size+1) [] ⟨fun _ _ hm=>(nomatch hm),List.Pairwise.nil⟩ (by rw[CD];exact Nat.le_refl _);rw[CD]at M;generalize pushCells (s3.heap.push { cls:=.type "dict",data:=.dict #[] }) scope.names=L at hk F M⊢;have I4:Inv (QT X scope cl N' f fp s3 (IU r j.heap.objs.size (o j.heap.objs.size))) [] (Ks cap σ) (IU r j.heap.objs.size (o j.heap.objs.size)) { s3 with heap:=L,toks:=s3.toks } :=
  Y.blockD S hc q F hk M
 have G:y 0 L:=T.keep 0 _ _ C fun b k g e=>hk b g (k3 b g e);refine T1 (X:=QT X scope cl N' f fp s3 (IU r j.heap.objs.size (o j.heap.objs.size))) (gs:=⟨tg,iter,ifs,0⟩::gs) (e:=e) (d:=0) (tg:=tg) (iter:=iter) (ifs:=ifs) (U _ _ _) (B _ _ _) t rfl T G ?_;refine N f fp s3 _ j.heap.objs.size l fp y J (Ks cap σ) _ _ _ _ T I4 G (fun b k=>?_) (R2 _ hD) fun n σ' H' I' q'=>?_
 .obtain⟨⟨Z,f1,f2',f3,f4,f5⟩,g,eo⟩:=q b k;refine⟨Z,AY (AJ eo),fun hf=>?_,.inl k,fun x c e=>?_,fun p hp=>f5 p (by simpa [QT] using hp)⟩
  .rcases AV.mp (Y.stkSub b hf)with z | z
   .exact f1 z
   .exact f2' z
  .rcases V3 e with a | ⟨_,a⟩
   .exact Nat.ne_of_gt (BF (AJ eo) (EQ (M.empty _ _ (PySem.mem_of_lookup a)).2))
   .exact f4 x c (S.cin.get a)
 .obtain⟨m,hn,_⟩:=I'.loc;exact⟨m,hn,fun h' k=>⟨.ref _,H',Y.unblockD (fun b k=>(q b k).1) I' k,rfl,q'⟩⟩
theorem zCp{c:IY}{j:TE}(S:QS X scope cl N' cap)(k:X.calm=true)(hi:PI X tg iter wi)
  (l:∀(a:A0 (A2×Obj)) (d:A0 A2) (f:A3) (i:Hp),PG (QT X scope cl N' a d f i) tg g/\SG (QT X scope cl N' a d f i) ifs tc/\PE (QT X scope cl N' a d f i) c j)
  (m:∀x,foldedSetIterable iter X.env x=pure x:=by intro _;rfl) :
  PE X (.ListComp c [⟨tg,iter,ifs,0⟩] scope pos) (Ao wi (fun _=>.lst []) cap fun D J σ H Q=>Y7 g tc (T7 D j) J σ H Q):=by
 refine Oa (newAcc:=newList []) (p2:=firstIterPos [⟨tg,iter,ifs,0⟩] pos) rfl (fun _=>.lst []) m S k hi (fun a s σ H Q E I h=>?_) (fun a d f i D t u v J σ s H Q R T I st n h o=>?_) (fun _ _ _=>rfl) (fun _ _ _=>rfl) (fun E Q s h=>h)
 .refine G_ ?_;exact h _ (I.lnew (t':=s.toks) (its:=[]) .nil (CK _)) fun b w e=>AF _ e
 .obtain⟨p,q,r⟩:=l a d f i;exact Q3 (X:=QT X scope cl N' a d f i) rfl rfl k rfl (j9 c tg iter ifs scope pos _ _ _) p q (Eh rfl r) T I st n h o
theorem zFd(a:∀n,OK X scope (own scope cl n) N' cap)(c:RL X cl)(b:closureFor scope X.env=pure cl:=by rfl)(kind:scope.kind = .function:=by rfl)
  (d:∀y∈scope.names,y.2 = .local->scope.names.lookup y.1=some .local:=by decide +kernel) (e:∀n,((relabel scope X.env).names.all fun y=>!(y.2 == .cell||y.2 == .free)||((own scope cl n).lookup y.1).isSome)=true:=by intro _;rfl):QS X scope cl N' cap:=⟨kind,d,b,c,e,a⟩
theorem pgD{a:A0 (A2×Obj)}{b:A0 A2}{c:A3}{d:Hp}{x:Str}{pos:Pos}(i:Nat)(e:N'.Nodup:=by decide +kernel)(hi:N'[i]?=some x:=by rfl)(f:Loc (QT X scope cl N' a b c d).env.scope x:=by first | exact Or.inl rfl | exact Or.inr rfl)
  (g:(QT X scope cl N' a b c d).fn x=true\/(QT X scope cl N' a b c d).env.scope.names.lookup x=some .local:=by first | exact Or.inr rfl | exact Or.inl rfl):PG (QT X scope cl N' a b c d) (.Name x pos) (J7 i):=D6 (X:=QT X scope cl N' a b c d) e hi f g
end
def Vu:A0 Str->A0 A1->Bool
 | [],[]=>true
 | x::a,.str y _::b=>x == y&&Vu a b
 | _,_=>false
def Tc:∀{xs:A0 Str} {us:A0 A1},Vu xs us=true->JA (xs.map V.str) us
 | [],[],_=>.nil
 | x::xs,.str y t::us,h=>by
  obtain⟨a,b⟩:=(BU _ _).mp (show(x == y&&Vu xs us)=true from h);have e:x=y:=beq_iff_eq.mp a;exact .cons ⟨t,by rw[e]⟩ (Tc b)
def SV(K:PySem.W.Frag)(a:A2)(xs:A0 Str):Prop:=∃(o:Obj) (b:A7 A1) (n:Nat),K.lookup a=some o/\o.cls = .type "tuple"/\o.data = .seq b n/\b.size<=sizeLine/\JA (xs.map V.str) b.toList
def SV.sq{K:PySem.W.Frag}{H:Hp}{a:A2}{xs:A0 Str}(h:SV K a xs):KQ K H a (xs.map V.str):=.inr h
def Kr:∀{xs:A0 V} {us:A0 A1},JA xs us->us.length=xs.length
 | _,_,.nil=>rfl
 | _,_,.cons _ t=>by rw[BS,BS,Kr t]
def TR{K:PySem.W.Frag}{a:A2}{xs:A0 Str}{o:Obj}(l:K.lookup a=some o)(e:∃its n d b,o =⟨.type "tuple",d,.seq its n,b⟩/\(decide (xs.length<=100)&&Vu xs its.toList)=true):SV K a xs:=by
 obtain⟨its,n,d,b,rfl,h⟩:=e;obtain⟨f,g⟩:=(BU _ _).mp h;have v:=Tc g;refine⟨_,its,n,l,rfl,rfl,?_,v⟩;have c:=Kr v;rw[AB,AW]at c;have:=BL f;rw[sizeLine_eq,c];omega
section
variable{prog:A6}{w:F1}{A:IZ}{E:A1->A3->Prop}{s:A3}{it l:A2}{i:Nat}{items:A7 A1}{x:A1}{Q:A1->A3->Prop}
theorem Bg{z TI TO d f n l2:A2}{t B:Nat}{xs ys:A7 A1}{x y a b:A1}(D:ZipApart z TI TO d f n l2)(g:IsZip s.heap z TI TO .none)(C:IsPair s.heap TI (.ref d) (.ref f))(F:IsPair s.heap TO a b)
  (h1:s.heap.IsListIter d n t) (h2:s.heap.IsTupleIter f l2 B) (T:s.heap.IsList n xs) (U:s.heap.IsTuple l2 ys) (V:xs[t]?=some x) (W:ys[B]?=some y)
  (X:∀h',IsZip h' z TI TO (rawInt s.heap.objs.size)->IsPair h' TO x y->h'.IsListIter d n (t+1)->h'.IsTupleIter f l2 (B+1)->IsPair h' s.heap.objs.size x y->h'.objs.size=s.heap.objs.size+1->(∀c o,c≠z->c≠TO->c≠d->c≠f->s.heap.get? c=some o->h'.get? c=some o)->Q (.ref s.heap.objs.size) { s with heap:=h' }) :
  wpAny (model prog w) A (Builtin.«zip.__next__» ⟨[.ref z],[]⟩) (fun fin Y=>∃v,fin = .done (.ret v)/\Q v Y) E s:=by
 obtain⟨G,gg,dd,tt,oo⟩:=s;refine AA (AE (AA (DM g rfl rfl (AA (DM g rfl rfl (AA (DL C rfl ?_)))))));refine CL rfl (AA (AA (DM g rfl rfl (AE (IK rfl ?_)))));refine AA (EF (AA (DM g rfl rfl (AA (DU g (DY 4) fun h3 Z h=>?_)))));have a3:=h1.extBut h.extBut D.i1z;have b3:=h2.extBut h.extBut D.i2z;have c3:=T.extBut h.extBut D.l1z;have d3:=U.extBut h.extBut D.l2z;have e3:=(h.2 TO D.TOz).trans F;refine AA ?_;rw[show(#[Value.ref d,Value.ref f].toList.zipIdx) = [(Value.ref d,0),(Value.ref f,1)]from rfl];refine Dm (u:=(none,())) (v:=(none,())) ?_;refine AA (HY (CL rfl (AA (wpAny_nextOf_list_item a3 c3 V fun h4 a4 i=>AE ?_))));have L:=(i.2 TO D.TOi1).trans e3;refine AA (DL L rfl (AA (HG L fun h5 e5 j=>AA (wpAny_letGo (AE ⟨rfl,?_⟩)))));have b5:=(b3.extBut i.extBut D.i12.symm).extBut j.extBut D.TOi2.symm;have d5:=(d3.extBut i.extBut D.l2i1).extBut j.extBut D.l2TO;refine AA (HY (CL rfl (AA (P0 b5 d5 W fun h6 b6 k=>AE ?_))));have M:=(k.2 TO D.TOi2).trans e5;refine AA (DL M rfl (AA (HG M fun p N l=>AA (wpAny_letGo (AE ⟨rfl,?_⟩)))));have z7:=(l.2 z D.TOz.symm).trans ((k.2 z D.i2z.symm).trans ((j.2 z D.TOz.symm).trans ((i.2 z D.i1z.symm).trans Z)));have H:p.objs.size=G.objs.size:=l.1.trans (k.1.trans (j.1.trans (i.1.trans h.1)));have O:∀{c:A2} {o:Obj},G.get? c=some o->c≠p.objs.size:=fun e=>by rw[H];exact AY (AJ e)
 refine AA (DL N rfl (AA (FJ (AA (AA (DU (AF _ z7) (DY 4) fun h8 z8 I=>DU z8 (Nat.succ_lt_succ (DY 3)) fun q P J=>AE ⟨_,rfl,?_⟩))) (by show 2<=sizeLine;decide))));have r:∀{c:A2} {o:Obj},c≠z->p.get? c=some o->q.get? c=some o:=fun m e=>(J.2 _ m).trans ((I.2 _ m).trans (AF _ e));have K:q.objs.size=G.objs.size+1:=J.1.trans (I.1.trans ((CD ..).trans (congrArg (· + 1) H)));have R:q.get? p.objs.size=some ⟨.type "tuple",none,.seq #[x,y],#[]⟩:=(J.2 _ (O g).symm).trans ((I.2 _ (O g).symm).trans (AN _ rfl));rw[H]at P R⊢;refine X q P (r D.TOz N) (a4.at fun o e=>?_) (b6.at fun o e=>?_) R K fun c o m S n1 n2 e=>r m ?_
 .exact r D.i1z ((l.2 _ D.TOi1.symm).trans ((k.2 _ D.i12).trans ((j.2 _ D.TOi1.symm).trans e)))
 .exact r D.i2z ((l.2 _ D.TOi2.symm).trans e)
 .exact(l.2 _ S).trans ((k.2 _ n2).trans ((j.2 _ S).trans ((i.2 _ n1).trans ((h.2 _ m).trans e))))
theorem Da{z TI TO a b g l2:A2}{k:Nat}{xs:A7 A1}{Q:PySem.Fin->A3->Prop}(r:A.handled=none)(D:ZipApart z TI TO a b g l2)(d:IsZip s.heap z TI TO .none)(h:IsPair s.heap TI (.ref a) (.ref b))
  (h1:s.heap.IsListIter a g k) (t:s.heap.IsList g xs) (u:xs[k]?=none)
  (v:∀h' e,(∀c o,c≠z->c≠TO->c≠a->c≠b->s.heap.get? c=some o->h'.get? c=some o)->(∃o,h'.get? e=some o/\o.cls = .type "StopIteration")->E (.ref e) { s with heap:=h' }) :
  wpAny (model prog w) A (Builtin.«zip.__next__» ⟨[.ref z],[]⟩) Q E s:=by
 obtain⟨C,F,G,tt,H⟩:=s;refine AA (AE (AA (DM d rfl rfl (AA (DM d rfl rfl (AA (DL h rfl ?_)))))));refine CL rfl (AA (AA (DM d rfl rfl (AE (IK rfl ?_)))));refine AA (EF (AA (DM d rfl rfl (AA (DU d (DY 4) fun I l i=>?_)))));refine AA ?_;rw[show(#[Value.ref a,Value.ref b].toList.zipIdx) = [(Value.ref a,0),(Value.ref b,1)]from rfl,IC];refine AA (AA (HY (CL rfl (AA (wpAny_nextOf_list_end r (h1.extBut i.extBut D.i1z) (t.extBut i.extBut D.l1z) u fun J e j f=>?_)))));refine DU (j z _ D.i1z.symm l) (DY 4) fun x K m=>v x e (fun c o n _ y _ e=>(m.2 _ n).trans (j c o y ((i.2 _ n).trans e))) ?_;obtain⟨o,f,p⟩:=f;have B:e≠z:=fun q=>by
  subst q;rw[j e _ D.i1z.symm l]at f;cases f;exact absurd (show Value.type "zip" = .type "StopIteration" from p) (by decide)
 exact⟨o,(m.2 _ B).trans f,p⟩
theorem Zh(N:A.handled=none)(z TI TO f g j l2:A2)(D:ZipApart z TI TO f g j l2)(xs ys:A7 A1)(O:xs.size<=ys.size) :
  WalksT prog w A z [z,TI,TO,f,g,j,l2] [z,TO,f,g] xs.size (fun i B=>∃x y,xs[i]?=some x/\ys[i]?=some y/\B = #[x,y])
   (fun i h=>IsZip h z TI TO .none/\IsPair h TI (.ref f) (.ref g)/\(∃a b,IsPair h TO a b)/\h.IsListIter f j i/\h.IsTupleIter g l2 i/\h.IsList j xs/\h.IsTuple l2 ys)
   (fun i T h=>IsZip h z TI TO (rawInt T)/\IsPair h TI (.ref f) (.ref g)/\(∃a b,IsPair h TO a b)/\h.IsListIter f j (i+1)/\h.IsTupleIter g l2 (i+1)/\h.IsList j xs/\h.IsTuple l2 ys/\T≠z/\T≠TO/\T≠f/\T≠g) where
 sub:=by simp
 frame:=fun i h v ⟨c,l,⟨a,b,p⟩,m,r,n,t⟩ k=>⟨k z (by simp) _ c,k TI (by simp) _ l,⟨a,b,k TO (by simp) _ p⟩,m.at (k f (by simp)),r.at (k g (by simp)),n.at (k j (by simp)),t.at (k l2 (by simp))⟩
 item:=fun i s Q E J ⟨c,l,⟨a,b,p⟩,m,r,n,t⟩ C=>by
  have G:xs[i]?=some xs[i]:=GA J;have K:ys[i]?=some (ys[i]'(BF J O)):=GA _;refine AA (GZ (DR (p8 c) F.slot_zip_next (CT F.slot_zip_next (p8 c) F.entry_zip_next (Bg D c l p m r n t G K fun v H P R S U sz k=>AE ?_) (F.args_zip_next_1 _))));refine C _ _ v s.toks ⟨_,_,G,K,rfl⟩ (Nat.le_refl _) ⟨_,U,rfl,_,rfl⟩ ⟨H,k TI _ D.TIz D.TITO D.TIi1 D.TIi2 l,⟨_,_,P⟩,R,S,n.at fun o e=>k j o D.l1z D.l1TO D.l1i1 D.l1i2 e,t.at fun o e=>k l2 o D.l2z D.l2TO D.l2i1 D.l2i2 e,?_,?_,?_,?_⟩ fun b o d e=>?_
  .exact(AY (AJ c)).symm
  .exact(AY (AJ p)).symm
  .obtain⟨o,e,_⟩:=m;exact(AY (AJ e)).symm
  .obtain⟨o,e,_⟩:=r;exact(AY (AJ e)).symm
  .simp only[AV,BH,or_false,not_or]at d;exact k b o d.1 d.2.1 d.2.2.1 d.2.2.2 e
 go:=fun L k V i T s Q E ⟨c,l,⟨a,b,p⟩,m,r,n,t,_⟩ C=>wpAny_letOwnedTupleGo_zip c fun v H u=>C v ⟨H,(u.2 _ D.TIz).trans l,⟨a,b,(u.2 _ D.TOz).trans p⟩,m.extBut u.extBut D.i1z,r.extBut u.extBut D.i2z,n.extBut u.extBut D.l1z,t.extBut u.extBut D.l2z⟩ fun b o d e=>(u.2 b fun q=>d (by rw[q];exact BG ..)).trans e
 apart:=fun i T h ⟨_,_,_,_,_,_,_,W,X,Y,Z⟩ M=>by
  simp only[AV,BH,or_false]at M;rcases M with e | e | e | e
  .exact W e
  .exact X e
  .exact Y e
  .exact Z e
 done:=fun s Q E ⟨c,l,⟨a,b,p⟩,m,r,n,t⟩ C=>by
  have G:xs[xs.size]?=none:=ES (Nat.le_refl _);refine AA (GZ (DR (p8 c) F.slot_zip_next (CT F.slot_zip_next (p8 c) F.entry_zip_next (Da N D c l m n G fun v e k I=>?_) (F.args_zip_next_1 _))));obtain⟨o,I,hc⟩:=I;refine AA (HL ⟨o,I,hc⟩ isSubtype_stop (AE (C v s.toks fun b o d e=>?_)));simp only[AV,BH,or_false,not_or]at d;exact k b o d.1 d.2.1 d.2.2.1 d.2.2.2 e
 self:=fun i s Q E ⟨c,_⟩ q=>FC c q
end
section
variable{prog:A6}{w:F1}{A:IZ}{E:A1->A3->Prop}{s:A3}
theorem Oq{d l2:A2}{xs ys:A7 A1}{Q:A1->A3->Prop}(x:s.heap.IsList d xs)(y:s.heap.IsTuple l2 ys)
  (z:∀h',IsZip h' (s.heap.objs.size+4) (s.heap.objs.size+2) (s.heap.objs.size+3) .none->IsPair h' (s.heap.objs.size+2) (.ref s.heap.objs.size) (.ref (s.heap.objs.size+1))->IsPair h' (s.heap.objs.size+3) .none .none ->
   h'.IsListIter s.heap.objs.size d 0->h'.IsTupleIter (s.heap.objs.size+1) l2 0->(∀c o,s.heap.get? c=some o->h'.get? c=some o)->Q (.ref (s.heap.objs.size+4)) { s with heap:=h' }) :
  wpAny (model prog w) A (call (.type "zip") [.ref d,.ref l2]) Q E s:=by
 refine callType_new (S:=fun A R j=>j=s/\∀h',IsZip h' (s.heap.objs.size+4) (s.heap.objs.size+2) (s.heap.objs.size+3) .none->IsPair h' (s.heap.objs.size+2) (.ref s.heap.objs.size) (.ref (s.heap.objs.size+1))->IsPair h' (s.heap.objs.size+3) .none .none ->
   h'.IsListIter s.heap.objs.size d 0->h'.IsTupleIter (s.heap.objs.size+1) l2 0->(∀c o,s.heap.get? c=some o->h'.get? c=some o)->R (.ok (.ret (.ref (s.heap.objs.size+4)))) { s with heap:=h' }) F.called_zip rfl (F.typeCall_zip_2 _ _) (F.newCall_zip_2 _ _) (fun _=>F.args_object_init_3 _ _ _) F.entry_zip_new (.of_wp fun prog w A R j l=>?_) ⟨rfl,fun h' n B C D G k=>⟨⟨_,n,rfl⟩,z h' n B C D G k⟩⟩
 obtain⟨rfl,l⟩:=l;obtain⟨a,H,I,tt,J⟩:=j;refine AA (AA (AE (CL rfl (AA (GG sub_zip (CL rfl (AE ?_)))))))
 let b:=a.push { cls:=.type "list_iterator",data:=.fields #[.ref d,.int 0 0] }
 let f:=b.push { cls:=.type "tuple_iterator",data:=.fields #[.ref l2,.int 0 0] }
 let g:=f.push { cls:=.type "tuple",data:=.seq #[.ref a.objs.size,.ref b.objs.size] }
 let i:=g.push { cls:=.type "tuple",data:=.seq #[.none,.none] }
 have p:b.objs.size=a.objs.size+1:=CD ..;have r:f.objs.size=a.objs.size+2:=(CD ..).trans (congrArg (· + 1) p);have t:g.objs.size=a.objs.size+3:=(CD ..).trans (congrArg (· + 1) r);have K:i.objs.size=a.objs.size+4:=(CD ..).trans (congrArg (· + 1) t);have m:b.IsTuple l2 ys:=y.at fun o e=>AF _ e;have L:b.get? a.objs.size=some { cls:=.type "list_iterator",data:=.fields #[.ref d,.int 0 0] }:=AN _ rfl;have M:f.get? b.objs.size=some { cls:=.type "tuple_iterator",data:=.fields #[.ref l2,.int 0 0] }:=AN _ rfl;have N:g.get? f.objs.size=some { cls:=.type "tuple",data:=.seq #[.ref a.objs.size,.ref b.objs.size] }:=AN _ rfl;have O:i.get? g.objs.size=some { cls:=.type "tuple",data:=.seq #[.none,.none] }:=AN _ rfl;have u:∀{h:IV} {o:Obj} {c:A2} {q:Obj},h.get? c=some q->(h.push o).get? c=some q:=fun e=>AF _ e;refine CL rfl (AA (AA (Dm (u:=#[.ref a.objs.size]) (v:=#[.ref a.objs.size,.ref b.objs.size]) (AA (CG (HB x (AE ⟨rfl,AA (CG (GU m (AE ⟨rfl,AE ?_⟩)))⟩)))))));refine AA (FJ (AA (FJ (AA (n9 (AE ⟨_,rfl,?_⟩) ?_)) (by show 2<=sizeLine;decide))) (by show 2<=sizeLine;decide))
 .have P:=AN i (o:={ cls:=.type "zip",data:=.fields #[.none,.bool false,.bool false,.ref f.objs.size,.ref g.objs.size] }) rfl;have q:=l (i.push { cls:=.type "zip",data:=.fields #[.none,.bool false,.bool false,.ref f.objs.size,.ref g.objs.size] });rw[show(Shared.mk a H I tt J).heap.objs.size=a.objs.size from rfl,<-p,<-r,<-t,<-K]at q;exact q P (u (u N)) (u O) ⟨_,u (u (u (u L))),rfl,rfl⟩ ⟨_,u (u (u M)),rfl,rfl⟩ fun c o e=>u (u (u (u (u e))))
 .show 5<=sizeLine+2;decide
end
def Zy(e f:Hp->A2->A0 V->Prop)(a b:A2):It :=
  ⟨fun i H=>∃c d x y,e H a c/\f H b d/\c.length<=d.length/\c[i]?=some x/\d[i]?=some y,fun i H v g=>∃T x y,v = .ref T/\H T=none/\g=IU H T (.tup [x,y])/\(∀c,e H a c->c[i]?=some x)/\∀d,f H b d->d[i]?=some y,
   fun i H=>∃c d,e H a c/\f H b d/\c.length<=d.length/\c.length=i⟩
def Qh(c d:IV->A2->A2->Nat->Prop)(z TI TO e f a b:A2)(i:Nat)(h:IV):Prop:=IsZip h z TI TO .none/\IsPair h TI (.ref e) (.ref f)/\(∃u v,IsPair h TO u v)/\c h e a i/\d h f b i
section
variable{P:A6}{w:F1}{K:PySem.W.Frag}{elts:A0 IY}{kk:Nat}{tp:Pos}{isIt isJt:IV->A2->A2->Nat->Prop}{isq isr:IV->A2->A7 A1->Prop}{sq sr:Hp->A2->A0 V->Prop}
theorem Ez(oI:∀h c l i,isIt h c l i->∃o,h.get? c=some o/\∀v,o.data≠ .cell v)(kI:∀h h' c l i,isIt h c l i->(∀o,h.get? c=some o->h'.get? c=some o)->isIt h' c l i)(oJ:∀h c l i,isJt h c l i->∃o,h.get? c=some o/\∀v,o.data≠ .cell v)(kJ:∀h h' c l i,isJt h c l i->(∀o,h.get? c=some o->h'.get? c=some o)->isJt h' c l i)
  (gI:∀(X:Cx) d σ H s c xs,X.K=K->Inv X d σ H s->sq H c xs->∃its,JA xs its/\isq s.heap c its.toArray) (uI:∀(X:Cx) d σ H s c xs ys,X.K=K->Inv X d σ H s->sq H c xs->sq H c ys->xs=ys) (gJ:∀(X:Cx) d σ H s c xs,X.K=K->Inv X d σ H s->sr H c xs->∃its,JA xs its/\isr s.heap c its.toArray) (uJ:∀(X:Cx) d σ H s c xs ys,X.K=K->Inv X d σ H s->sr H c xs->sr H c ys->xs=ys)
  (z TI TO g j a b:A2) (WI:∀(A:IZ),A.handled=none->∀xs ys:A7 A1,xs.size<=ys.size->WalksT P w A z [z,TI,TO,g,j,a,b] [z,TO,g,j] xs.size (fun i F=>∃x y,xs[i]?=some x/\ys[i]?=some y/\F = #[x,y])
   (fun i h=>IsZip h z TI TO .none/\IsPair h TI (.ref g) (.ref j)/\(∃a b,IsPair h TO a b)/\isIt h g a i/\isJt h j b i/\isq h a xs/\isr h b ys)
   (fun i T h=>IsZip h z TI TO (rawInt T)/\IsPair h TI (.ref g) (.ref j)/\(∃a b,IsPair h TO a b)/\isIt h g a (i+1)/\isJt h j b (i+1)/\isq h a xs/\isr h b ys/\T≠z/\T≠TO/\T≠g/\T≠j)) :
  MK P w K (.Tuple elts kk tp) (Zy sq sr a b) [z,TI,TO,g,j] z (Qh isIt isJt z TI TO g j a b) where
 mem:=BG ..
 obj:=fun i h st c t=>by
  obtain⟨h1,O,⟨u,v,S⟩,U,V⟩:=st;simp only[AV,BH,or_false]at t;rcases t with rfl | rfl | rfl | rfl | rfl
  .exact⟨_,h1,fun v z=>by cases z⟩
  .exact⟨_,O,fun v z=>by cases z⟩
  .exact⟨_,S,fun v z=>by cases z⟩
  .exact oI _ _ _ _ U
  .exact oJ _ _ _ _ V
 keep:=fun i h h' st k=>by
  obtain⟨h1,O,⟨u,v,S⟩,U,V⟩:=st;exact⟨k z (by simp) _ h1,k TI (by simp) _ O,⟨u,v,k TO (by simp) _ S⟩,kI _ _ _ _ _ U (k g (by simp)),kJ _ _ _ _ _ V (k j (by simp))⟩
 item:=by
  intro X hP hw J t i d s σ H E I R st hg;subst hP hw;obtain⟨xs,ys,x,y,hq,hr,L,hx,hy⟩:=hg;obtain⟨its,rv,p⟩:=gI _ _ _ _ _ _ _ J I hq;obtain⟨M,D,p'⟩:=gJ _ _ _ _ _ _ _ J I hr;obtain⟨u,hu,ru⟩:=rv.get hx;obtain⟨v,hv,rv'⟩:=D.get hy;have hl:=rv.length;have N:=D.length;have W:=WI X.A (I.ok.hd t) its.toArray M.toArray (by rw[AQ,AQ,<-hl,<-N];exact L);have hi:i<its.toArray.size:=by rw[AQ];exact(AD.mp hu).1
  obtain⟨s1,s2,s3,Y,Z⟩:=id st;refine W.item i s _ _ hi ⟨s1,s2,s3,Y,Z,p,p'⟩ fun T F h' tk hvs hT ht hm k=>?_;obtain⟨x',y',hx',hy',rfl⟩:=hvs;have ex:x'=u:=BA (hx'.symm.trans ((FA ..).trans hu));have ey:y'=v:=BA (hy'.symm.trans ((FA ..).trans hv));subst ex ey;refine⟨.ref T,rfl,W.go elts kk tp i T _ _ _ hm fun O C k2=>?_⟩;have kk2:∀b o,b∉[z,TI,TO,g,j]->s.heap.get? b=some o->O.get? b=some o:=fun c o f ec=>by
   have n4:c∉[z,TO,g,j]:=fun m=>f (by
    simp only[AV,BH,or_false]at m⊢;exact m.imp_right .inr)
   exact k2 c o n4 (k c o n4 ec)
  have hT2:O.IsTuple T #[x',y']:=ht.at fun o e=>k2 T o (W.apart i T h' hm) e;have G:∀c∈[z,TI,TO,g,j],∃B,s.heap.get? c=some B:=fun c f=>by
   obtain⟨u3,v3,S⟩:=s3;obtain⟨o4,U,_⟩:=oI _ _ _ _ Y;obtain⟨o5,V,_⟩:=oJ _ _ _ _ Z;simp only[AV,BH,or_false]at f;rcases f with rfl | rfl | rfl | rfl | rfl
   .exact⟨_,s1⟩
   .exact⟨_,s2⟩
   .exact⟨_,S⟩
   .exact⟨_,U⟩
   .exact⟨_,V⟩
  refine⟨.ref T,IU H T (.tup [x,y]),I.turnLaid (fp:=[z,TI,TO,g,j]) kk2 R G hT ⟨?_,[x',y'],.cons ru (.cons rv' .nil),hT2⟩,rfl,⟨T,x,y,rfl,I.hok.fresh hT,rfl,fun zs hz=>by rw[uI _ _ _ _ _ _ _ _ J I hz hq];exact hx,fun zs hz=>by rw[uJ _ _ _ _ _ _ _ _ J I hz hr];exact hy⟩,⟨C.1,C.2.1,C.2.2.1,C.2.2.2.1,C.2.2.2.2.1⟩,fun c f=>?_⟩
  .show 2<=sizeLine;decide
  .obtain⟨B,eb⟩:=G c f;rw[B6 (AY (BF (AJ eb) hT))];exact(R c f).1
 done:=by
  intro X hP hw J t i d s σ H E I R st hg;subst hP hw;obtain⟨xs,ys,hq,hr,L,hx⟩:=hg;obtain⟨its,rv,p⟩:=gI _ _ _ _ _ _ _ J I hq;obtain⟨M,D,p'⟩:=gJ _ _ _ _ _ _ _ J I hr;have hl:=rv.length;have N:=D.length;have W:=WI X.A (I.ok.hd t) its.toArray M.toArray (by rw[AQ,AQ,<-hl,<-N];exact L);have hi:i=its.toArray.size:=by rw[AQ,<-hl,hx]
  obtain⟨s1,s2,s3,Y,Z⟩:=id st;rw[hi]at Y Z;refine W.done s _ _ ⟨s1,s2,s3,Y,Z,p,p'⟩ fun h' tk k=>⟨rfl,?_⟩;have nf:∀b u,H b=some u->b∉[z,TI,TO,g,j]:=fun b u e hb=>by rw[(R b hb).1]at e;cases e
  have k':∀c o,c∉[z,TI,TO,g,j]->s.heap.get? c=some o->h'.get? c=some o:=fun c o f ec=>k c o (fun m=>f (by
    simp only[AV,BH,or_false]at m⊢;exact m.imp_right .inr)) ec
  refine I.step (h':=h') (H':=H) (t':=tk) (g':=s.gens) (d':=s.drawn) (ch:=[z,TI,TO,g,j]) (fun b hb=>let⟨_,f1,_,f3,f4,f5⟩:=R b hb;⟨f3,f1,f4,f5⟩) (fun b B _ _ t e _=>k' b B t e) (fun b B _ _ t e _=>⟨B.slots,k' b B t e⟩) (fun _ _ _ _ n=>n)
   (fun b B t e=>⟨B,k' b B t e⟩) (fun _ _ e=>e) (fun _ _ _ e=>e) (fun b ps e=>⟨#[],by rw[e];simp⟩) (fun m hm=>?_) (fun b u eb=>?_) I.bare
  .obtain⟨B,es,ep,ho,r⟩:=hm;exact⟨B,es,ep,k' _ B (fun hb=>(R _ hb).2.1 rfl) ho,r⟩
  .refine(I.hok b u eb).stay (fun c v t q=>k' c v ?_ q) (fun _ q=>q) fun _ _ q=>q;rcases t with z | z
   .rw[z];exact nf b u eb
   .exact nf c _ z
 self:=fun A i s Q E st h=>FC st.1 h
theorem Nd(z TI TO n q a b:A2)(D:ZipApart z TI TO n q a b):MK P w K (.Tuple elts kk tp) (Zy (IW K) (IW K) a b) [z,TI,TO,n,q] z (Qh Heap.IsListIter Heap.IsListIter z TI TO n q a b) :=
 Ez (isq:=Heap.IsList) (isr:=Heap.IsList) (fun h c l i ⟨o,e,_,d⟩=>⟨o,e,fun v z=>by rw[d]at z;cases z⟩) (fun h y c l i z k=>z.at k) (fun h c l i ⟨o,e,_,d⟩=>⟨o,e,fun v z=>by rw[d]at z;cases z⟩) (fun h y c l i z k=>z.at k)
  (fun X f σ H s c r g I j=>by subst g;obtain⟨m,t,p,_⟩:=I.list j;exact⟨m,t,p.isList⟩) (fun X f σ H s c r u g I j x=>by subst g;exact I.list_inj j x) (fun X f σ H s c r g I j=>by subst g;obtain⟨m,t,p,_⟩:=I.list j;exact⟨m,t,p.isList⟩) (fun X f σ H s c r u g I j x=>by subst g;exact I.list_inj j x)
  z TI TO n q a b fun A B r u C=>by
   have W:=WalksT.zip2 (prog:=P) (w:=w) B z TI TO n q a b D r u
   rwa [EL C]at W
theorem Rx(z TI TO n q a b:A2)(D:ZipApart z TI TO n q a b):MK P w K (.Tuple elts kk tp) (Zy (IW K) (KQ K) a b) [z,TI,TO,n,q] z (Qh Heap.IsListIter Heap.IsTupleIter z TI TO n q a b) :=
 Ez (isq:=Heap.IsList) (isr:=Heap.IsTuple) (fun h c l i ⟨o,e,_,d⟩=>⟨o,e,fun v z=>by rw[d]at z;cases z⟩) (fun h y c l i z k=>z.at k) (fun h c l i ⟨o,e,_,d⟩=>⟨o,e,fun v z=>by rw[d]at z;cases z⟩) (fun h y c l i z k=>z.at k)
  (fun X f σ H s c r g I j=>by subst g;obtain⟨m,t,p,_⟩:=I.list j;exact⟨m,t,p.isList⟩) (fun X f σ H s c r u g I j x=>by subst g;exact I.list_inj j x) (fun X f σ H s c r g I j=>by subst g;obtain⟨m,t,p,_⟩:=I.tuple j;exact⟨m,t,p⟩) (fun X f σ H s c r u g I j x=>by subst g;exact I.tuple_inj j x)
  z TI TO n q a b fun A B r u C=>Zh B z TI TO n q a b D r u C
end
section
variable{X:Cx}{elts:A0 IY}{kk:Nat}{tp:Pos}
def zFh(K:PySem.W.Frag)(R:It->Hp->Prop)(a b:A2)(xs ys:A0 V)(H:Hp):Prop:=IW K H a xs/\IW K H b ys/\R (Zy (IW K) (IW K) a b) H\/IW K H a xs/\KQ K H b ys/\R (Zy (IW K) (KQ K) a b) H
def zCb(K:PySem.W.Frag)(c:TA):TI:=fun σ H R=>c σ H fun d e=>∃a b f g,d = [.ref a,.ref b]/\zFh K R a b f g e
theorem Zb{a b:IY}{L:TA}{p pos:Pos}(N:Gl X "zip")(O:X.mg "zip" = none)(P:PA X [a,b] L)(Q:starEach [a,b] X.env =(false,eval a X.env)::starEach [b] X.env:=by rfl)(t:(backTo pos (starEach [b] X.env)).any (·.1)=false:=by rfl):PI X (.Tuple elts kk tp) (.Call (.Name "zip" p) [a,b] [] pos) (zCb X.K L):=by
 intro f s σ H R I h;refine Call_ (o9 I N O Ph (PyProof.Rows.callWith_type1 (JT (P pos f s σ H _ I h) fun us d ⟨vs,w,g,S,T⟩=>?_) Q t));obtain⟨l,m,xs,ys,e,q⟩:=T;subst e;obtain⟨u,v,rfl,U,V⟩:=S.two;cases U;cases V;have i:∀c∈[d.heap.objs.size+4,d.heap.objs.size+2,d.heap.objs.size+3,d.heap.objs.size,d.heap.objs.size+1],w4 X f w c:=fun c M=>by
  have j:d.heap.objs.size<=c:=by
   simp only[AV,BH,or_false]at M;rcases M with rfl | rfl | rfl | rfl | rfl
   .exact DX ..
   .exact DX ..
   .exact DX ..
   .exact Nat.le_refl _
   .exact DX ..
  exact g.fpOk j (g.hok.fresh j)
 rcases q with⟨x,y,q⟩ | ⟨x,y,q⟩
 .obtain⟨z,W,n,Y⟩:=g.list x;obtain⟨A,Z,o,B⟩:=g.list y;have C:l<d.heap.objs.size:=by obtain⟨_,e,_⟩:=n.isList;exact AJ e
  have D:m<d.heap.objs.size:=by obtain⟨_,e,_⟩:=o.isList;exact AJ e
  refine call_zip_2 n.isList o.isList fun h' r E F G J hsz k=>FC r ?_;exact⟨d.heap.objs.size+4,_,_,_,w,rfl,g.kept (t':=d.toks) k,Nd _ _ _ _ _ l m (zipApart_new C D),⟨r,E,⟨_,_,F⟩,G,J⟩,i,q⟩
 .obtain⟨z,W,n,Y⟩:=g.list x;obtain⟨A,Z,o,B⟩:=g.tuple y;have C:l<d.heap.objs.size:=by obtain⟨_,e,_⟩:=n.isList;exact AJ e
  have D:m<d.heap.objs.size:=by obtain⟨_,e,_⟩:=id o;exact AJ e
  refine Oq n.isList o fun h' r E F G J k=>FC r ?_;exact⟨d.heap.objs.size+4,_,_,_,w,rfl,g.kept (t':=d.toks) k,Rx _ _ _ _ _ l m (zipApart_new C D),⟨r,E,⟨_,_,F⟩,G,J⟩,i,q⟩
variable(K:PySem.W.Frag)
theorem zHf{a b:IY}{d:TA}{p pos:Pos}(e:X.mg "zip" = none)(f:PA X [a,b] d)(g:Gl X "zip":=by rfl)(h:starEach [a,b] X.env =(false,eval a X.env)::starEach [b] X.env:=by rfl)(c:(backTo pos (starEach [b] X.env)).any (·.1)=false:=by rfl)(i:X.K=K:=by rfl):PI X (.Tuple elts kk tp) (.Call (.Name "zip" p) [a,b] [] pos) (zCb K d):=by subst i;exact Zb g e f h c
end
def zDm(i:Nat)(f:A2)(sp:Sp)(E:XK)(t:TA):TE:=fun σ H Q=>σ[i]?=some (some (.ref f))/\zAa sp [] E t σ H Q
section
variable{X:Cx}{CX:SD}{k:Nat}{f:A2}{fd:JK}{ps:A0 Str}{sp:Sp}{x:Str}{e:IY}{es:A0 IY}{t:TA}{p pos:Pos}{E:XK}{ds:A0 A1}
theorem Uc{i:Nat}(F:JC X.prog X.w X.K X.mg X.base CX k f fd ps sp)(l:KU k X.A)(m:PySem.W.keepIn X.K (.ref f)=true)(n:Binds X.K fd ps [])(o:o7 CX X E)
  (y:PA X (e::es) t) (z:X.N[i]?=some x:=by rfl) (B:VD X.env.scope x:=by first | exact Or.inl rfl | exact Or.inr (Or.inl rfl) | exact Or.inr (Or.inr rfl)) (b:(x ==("__debug__":Str))=false:=by decide) (c:(x ==("__classdict__":Str))=false:=by decide)
  (C:starEach (e::es) X.env =(false,eval e X.env)::starEach es X.env:=by rfl) (d:(backTo pos (starEach es X.env)).any (·.1)=false:=by rfl) :
  PE X (.Call (.Name x p) (e::es) [] pos) (zDm i f sp E t):=by
 intro a s σ H Q I h;obtain⟨D,h⟩:=h;refine FY (JT (Wi (i:=i) (pos:=p) z B b c a s σ H (fun v G=>v = .ref f/\G=H) I ⟨_,D,rfl,rfl⟩) fun u J ⟨v,L,g,M,O,P⟩=>?_);subst O P;cases M;refine PySem.W.callWith_K (h₀:=X.base) g.ok.mod.kin m (JT (y pos a J σ L _ g h) fun R S ⟨T,U,j,r,q⟩=>⟨j.kIn,?_⟩) C d;exact Kc F l n .nil o j r q
end
end L2
namespace TS
open PySem PyProof.Rows
def JU:A0 (A0 Nat)->A0 (A0 Nat)->Bool
 | _,[]=>false
 | [],_::_=>true
 | x::a,y::b=>decide (x<y)||(decide (x=y)&&JU a b)
def KS{x y:A0 Nat}{a b:A0 (A0 Nat)}:JU (x::a) (y::b)=true↔x<y\/(x=y/\JU a b=true):=by
 rw[JU];simp
def Y5(a:A0 (A0 Nat)):JU a []=false:=by cases a<;>rfl
def Ag:∀a,JU a a=false
 | []=>rfl
 | x::a=>by
  rw[BQ];intro z;rcases KS.mp z with z | ⟨_,z⟩
  .exact FX _ z
  .rw[Ag a]at z;cases z
def Cc:∀a b c,JU a b=true->JU b c=true->JU a c=true
 | _,[],_,h,_=>by rw[Y5]at h;cases h
 | _,_::_,[],_,h=>by rw[Y5]at h;cases h
 | [],_::_,_::_,_,_=>rfl
 | x::a,y::b,z::c,e,d=>by
  rw[KS]at *;rcases e with e | ⟨e,f⟩
  .rcases d with d | ⟨d,_⟩
   .exact .inl (HS e d)
   .exact .inl (d▸e)
  .rcases d with d | ⟨d,g⟩
   .exact .inl (e▸d)
   .exact .inr ⟨e.trans d,Cc a b c f g⟩
def La:∀a b c,JU a c=true->JU a b=true\/JU b c=true
 | _,_,[],h=>by rw[Y5]at h;cases h
 | [],[],_::_,_=>.inr rfl
 | _::_,[],_::_,_=>.inr rfl
 | [],_::_,_::_,_=>.inl rfl
 | x::a,y::b,z::c,h=>by
  rw[KS]at h;simp only[KS];rcases UC x y with q | q | q
  .exact .inl (.inl q)
  .rcases h with h | ⟨h,d⟩
   .exact .inr (.inl (q▸h))
   .rcases La a b c d with r | r
    .exact .inl (.inr ⟨q,r⟩)
    .exact .inr (.inr ⟨q▸h,r⟩)
  .rcases h with h | ⟨h,_⟩
   .exact .inr (.inl (HS q h))
   .exact .inr (.inl (h▸q))
def MU:∀a b,JU a b=false->JU b a=false->a=b
 | [],[],_,_=>rfl
 | [],_::_,h,_=>by cases h
 | _::_,[],_,h=>by cases h
 | x::a,y::b,c,d=>by
  rw[BQ]at c d;rcases UC x y with q | q | q
  .exact absurd (KS.mpr (.inl q)) c
  .rw[q,MU a b (BQ.mpr fun z=>c (KS.mpr (.inr ⟨q,z⟩))) (BQ.mpr fun z=>d (KS.mpr (.inr ⟨q.symm,z⟩)))]
  .exact absurd (KS.mpr (.inl q)) d
def MT(tab:A0 (A2×A0 (A0 Nat))):A1->A4 (A0 (A0 Nat))
 | .ref a=>(tab.find? fun q=>decide (q.1=a)).map fun q=>q.2
 | _=>none
@[reducible] def lexKind(tab:A0 (A2×A0 (A0 Nat))):PyProof.Rows.KeyKind where
 α:=A0 (A0 Nat)
 blt:=JU
 irrefl:=Ag
 trans:=Cc
 negTrans:=La
 total:=MU
 keyOf:=MT tab
 dflt:=[]
def LB{tab:A0 (A2×A0 (A0 Nat))}{v:A1}{k:A0 (A0 Nat)}(h:MT tab v=some k):∃q∈tab,v = .ref q.1/\q.2=k:=by
 match v,h with
 | .ref a,h =>
  obtain⟨q,e,b⟩:=AZ.mp h;exact⟨q,List.mem_of_find?_eq_some e,by rw[BL (List.find?_some (p:=fun q:A2×A0 (A0 Nat)=>decide (q.1=a)) e)],b⟩
def MA{tab:A0 (A2×A0 (A0 Nat))}{q:A2×A0 (A0 Nat)}(h:q∈tab):∃k,MT tab (.ref q.1)=some k:=by
 show ∃k,(tab.find? fun r=>decide (r.1=q.1)).map (fun r=>r.2)=some k;cases e:tab.find? fun r=>decide (r.1=q.1)with
 | none=>exact absurd (AK rfl) (List.find?_eq_none.mp e _ h)
 | some r=>exact⟨r.2,rfl⟩
open PySem.SeqAt PySem.MeetsSeq PySem.MeetsSeq3
open AutoSeq1 (wpAny_loadPart')
def TY(items:A7 A1)(as:A0 Str):Prop:=items.size=as.length/\∀(j:Nat) (x:Str),as[j]?=some x->∃t,items[j]?=some (.str x t)
abbrev NZ(as:A0 Str):A0 (A0 Nat):=as.map fun x=>x.cps.toList
def Ir(l b:A2)(items a:A7 A1)(n B:Nat)(as bs:A0 Str)(v:TY items as)(x:TY a bs)(k:Nat) :
  ∀i:Nat,as.length-i=k->i<=as.length->i<=bs.length->Meets (Builtin.«list.__eq__.loop» ⟨[.ref l,.ref b,rawInt i,rawInt 0],[]⟩)
   (fun A R s=>s.heap.get? l=some (seqObj "list" items n)/\s.heap.get? b=some (seqObj "list" a B)/\R (.ok (.ret (.bool (JU (NZ (as.drop i)) (NZ (bs.drop i)))))) s):=by
 induction k with
 | zero =>
  intro i C D E o w A R s h;obtain⟨F,g,d,G,os⟩:=s;obtain⟨p,f,h⟩:=h;wp_walk using BN p,BN f;have j:items[((i:Nat):Int).toNat]?=none:=by have:=v.1;simp;omega
  rw[j];have e:JU (NZ (as.drop i)) (NZ (bs.drop i))=decide (items.size<a.size):=by
   rw[v.1,x.1,ET (by omega)];by_cases c:i<bs.length
   .rw[AK (by omega),CO c];rfl
   .rw[AX (by omega),ET (by omega)];rfl
  rw[e]at h;wp_walk using BN p,BN f;exact h
 | succ k H =>
  intro i C D E o w A R s h;obtain⟨F,g,d,G,os⟩:=s;obtain⟨p,f,h⟩:=h;wp_walk using BN p,BN f;have q:i<as.length:=by omega
  obtain⟨t,I⟩:=v.2 i as[i] (AC q);have j:items[((i:Nat):Int).toNat]?=some (.str as[i] t):=by simpa using I
  by_cases c:i<bs.length
  .obtain⟨u,J⟩:=x.2 i bs[i] (AC c);have m:a[((i:Nat):Int).toNat]?=some (.str bs[i] u):=by simpa using J
   have K:((i:Int)+1) =((i+1:Nat):Int):=by push_cast;rfl
   rw[CO q,CO c]at h;have h:R (.ok (.ret (.bool (decide (as[i].cps.toList<bs[i].cps.toList)||(decide (as[i].cps.toList=bs[i].cps.toList)&&JU (NZ (as.drop (i+1))) (NZ (bs.drop (i+1)))))))) _:=h;rw[j,m];refine AA (GO ?_);by_cases e:as[i]=bs[i]
   .rw[AK e];rw[e,AX (FX _),AK rfl,HU,FH]at h;wp_walk;rw[K];exact⟨plainId_quiet plain_eq_loop _,FP entry_eq_loop (by
     rw[Around.under_plainId plain_eq_loop _];exact H (i+1) (by omega) (by omega) (by omega) o w A R _ ⟨p,f,h⟩)⟩
   .rw[AX e];have L:as[i].cps.toList≠bs[i].cps.toList:=fun z=>e (by
     have y:=IP.mp z;cases M:as[i];cases N:bs[i];rw[M,N]at y;exact congrArg Str.mk y)
    rw[AX L,DK,HX]at h;wp_walk using BN p,BN f;rw[j,m];show wpAny _ _ (richCompare CmpOp.Lt (.str as[i] t) (.str bs[i] u) >>= fun r=>ret r) _ _ _;refine AA (IL (typeIs_str _ _ _) (typeIs_str _ _ _) slot_str_lt (call_str_lt ⟨(by intro z;cases z),AE h⟩) rfl)
  .have m:a[((i:Nat):Int).toNat]?=none:=by have:=x.1;simp;omega
   rw[j,m];have e:JU (NZ (as.drop i)) (NZ (bs.drop i))=decide (items.size<a.size):=by
    rw[v.1,x.1,ET (l:=bs) (by omega),AX (by omega)];exact Y5 _
   rw[e]at h;wp_walk using BN p,BN f;exact h
def RA(l b:A2)(items a:A7 A1)(n f:Nat)(as bs:A0 Str)(j:TY items as)(k:TY a bs) :
  Meets (Builtin.«list.__lt__» ⟨[.ref l,.ref b],[]⟩)
   (fun A R s=>s.heap.get? l=some (seqObj "list" items n)/\s.heap.get? b=some (seqObj "list" a f)/\R (.ok (.ret (.bool (JU (NZ as) (NZ bs))))) s):=by
 intro c w A R s h;obtain⟨m,g,d,o,os⟩:=s;obtain⟨i,e,h⟩:=h;have p:=AutoSeq1.sub_list_list;wp_walk using BN i,BN e;exact⟨plainId_quiet plain_eq_loop _,FP entry_eq_loop (by
  rw[Around.under_plainId plain_eq_loop _];exact Ir l b items a n f as bs j k _ 0 rfl (CK _) (CK _) c w A R _ ⟨i,e,h⟩)⟩
end TS
namespace L2
open PySem PySem.Spec PyProof.Rows
def Xi{l:A0 Str}{us:A0 A1}(r:JA (l.map V.str) us):TS.TY us.toArray l:=by
 induction l generalizing us with
 | nil =>
  cases r;exact⟨rfl,fun j x h=>by rw[List.getElem?_nil]at h;cases h⟩
 | cons y l b =>
  cases r with
  | cons c d =>
   obtain⟨f,rfl⟩:=c;obtain⟨a,g⟩:=b d;refine⟨by simp only[AQ,BS]at a⊢;rw[a],fun j x h=>?_⟩;cases j with
   | zero =>
    rw[ID]at h;cases h;exact⟨f,rfl⟩
   | succ j =>
    rw[List.getElem?_cons_succ]at h;obtain⟨t,e⟩:=g j x h;exact⟨t,by simpa using e⟩
def UO(a:A0 (A2×A0 Str)):A0 (A2×A0 (A0 Nat)):=a.map fun q=>(q.1,TS.NZ q.2)
def Nf{P:A6}{w:F1}{s:A3}{a:A2}{g:A0 (A2×A0 Str)}{n:IV}(h:∀q∈g,∃us,JA (q.2.map V.str) us/\LAt n q.1 us)(d:∀b o,n.get? b=some o->b≠a/\s.heap.get? b=some o) :
  TS.SA P w a s (TS.lexKind (UO g)) oneType' (g.map fun q=>Value.ref q.1):=by
 refine⟨fun A t J f=>⟨fun x y k l Q E u z q=>?_⟩,fun v c=>?_,fun B A E t Q f q=>?_⟩
 .obtain⟨_,C,rfl,rfl⟩:=TS.LB u;obtain⟨_,D,rfl,rfl⟩:=TS.LB z;obtain⟨x,F,rfl⟩:=AI.mp C;obtain⟨y,G,rfl⟩:=AI.mp D;obtain⟨us,p,H,e⟩:=h x F;obtain⟨K,I,L,r⟩:=h y G;have i:=f _ _ (d _ _ e).1 (d _ _ e).2;have j:=f _ _ (d _ _ r).1 (d _ _ r).2;rw[keyLt'_oneType];exact TS.Q_ (by omega) i j (TS.RA _ _ _ _ _ _ _ _ (Xi p) (Xi I)) q
 .obtain⟨q,m,rfl⟩:=AI.mp c;exact TS.MA (q:=(q.1,TS.NZ q.2)) (AI.mpr ⟨q,m,rfl⟩)
 .refine PySem.W.kas_kind (T:=.type "list") B (fun v c=>?_) (by decide) (by decide) q;obtain⟨q,m,rfl⟩:=AI.mp c;obtain⟨us,p,H,e⟩:=h q m;exact(PySem.W.Looks.ld (f _ _ (d _ _ e).1 (d _ _ e).2)).andThen .now
section
variable{X:Cx}
def Xp(K:PySem.W.Frag):A0 V->Hp->VK->Prop:=fun e H Q=>∃(p:A2) (d:A0 (A2×A0 Str)),e = [.ref p]/\IW K H p (d.map fun q=>V.ref q.1)/\(∀q∈d,H q.1=some (.lst (q.2.map V.str))) /\
  ∀(l:A2) (c:A0 (A2×A0 Str)),H l=none->c.Perm d->c.Pairwise (fun a b=>TS.JU (TS.NZ b.2) (TS.NZ a.2)=false)->Q (.ref l) (IU H l (.lst (c.map fun q=>V.ref q.1)))
theorem Ff(hu:X.A.units+64<cLine):E9 X (.builtin "sorted") (Xp X.K):=by
 intro J s σ H xs B Q I r h;obtain⟨p,d,rfl,l,f,q⟩:=h;obtain⟨u,rfl,S⟩:=S2 r;cases S;obtain⟨c,x,T,L⟩:=I.list l;have C:=Zx x;have hl:=x.length;refine TS.OO (by omega) (collect_list (vs:=c) T.isList ?_ (by omega));have g:((s.heap.push (seqObj "list" #[] 0)).update s.heap.objs.size (Obj.mapSeq (· ++ c.toArray))).objs.size=s.heap.objs.size+1:=by rw[EN,size_push']
 have t:∀b o,s.heap.get? b=some o->((s.heap.push (seqObj "list" #[] 0)).update s.heap.objs.size (Obj.mapSeq (· ++ c.toArray))).get? b=some o:=fun b o i=>by
  rw[HQ _ _ _ _ (AY (AJ i))];exact AF _ i
 have D:∀q∈d,∃B,JA (q.2.map V.str) B/\LAt s.heap q.1 B:=fun q l=>by
  obtain⟨z,c,n,x,e⟩:=I.hok _ _ (f q l);exact⟨c,x,n,e⟩
 refine⟨rfl,by omega,TS.lexKind (UO d),oneType',fun s2 U=>?_,fun v W e Y k Z=>?_⟩
 .rw[C];refine Nf D fun b o i=>?_;rw[<-C];have w:b≠((s.heap.push (seqObj "list" #[] 0)).update s.heap.objs.size (Obj.mapSeq (· ++ c.toArray))).objs.size:=by
   rw[g];exact AY (CS (AJ i))
  exact⟨w,U b o w (t b o i)⟩
 .obtain⟨M,N⟩:=Y;rw[C]at M;obtain⟨j,y,O⟩:=T0 (fun q:A2×A0 Str=>Value.ref q.1) M d rfl;have P:∀q∈d,TS.MT (UO d) (.ref q.1)=some (TS.NZ q.2):=fun q l=>by
   obtain⟨k,e⟩:=TS.MA (tab:=UO d) (q:=(q.1,TS.NZ q.2)) (AI.mpr ⟨q,l,rfl⟩);obtain⟨_,m,E,e2⟩:=TS.LB e;obtain⟨r,mr,rfl⟩:=AI.mp m;have E:q.1=r.1:=Value.ref.inj E;have e3:=(f q l).symm.trans ((congrArg H E).trans (f r mr));have e4:q.2=r.2:=Km (HO.lst.inj (BA e3));rw[e,<-e2,e4]
  have F:j.Pairwise (fun a b=>TS.JU (TS.NZ b.2) (TS.NZ a.2)=false):=by
   rw[O,BX]at N;refine(E_.mp N).imp fun{a b} ⟨ha,hb,z⟩=>?_;have R:TS.JU ((TS.MT (UO d) (.ref b.1)).getD []) ((TS.MT (UO d) (.ref a.1)).getD [])=false:=z;rw[P a (y.mem_iff.mp ha),P b (y.mem_iff.mp hb)]at R;exact R
  have hn:H (s.heap.objs.size+1)=none:=I.hok.fresh (D_ _);have G:W.get? (s.heap.objs.size+1)=some (seqObj "list" v e):=by rw[<-g];exact Z
  refine⟨.ref (s.heap.objs.size+1),IU H (s.heap.objs.size+1) (.lst (j.map fun q=>V.ref q.1)),?_,by show Value.ref _=_;rw[<-g],q _ _ hn y F⟩;refine I.laid (t':=s.toks) (fun b o i=>k b o (t b o i)) (D_ _) ⟨?_,v.toList,e,by rw[O];exact Yy j,by simpa using G⟩;rw[AB,y.length_eq];rw[AB]at L;exact L
theorem Do(K:PySem.W.Frag)(a:X.A.units+64<cLine)(b:X.K=K:=by rfl):E9 X (.builtin "sorted") (Xp K):=by subst b;exact Ff a
end
def Lx(v d:A2):HO:=.ext fun h=>h.IsValuesView v d
def Itv(d:A2)(o:Obj)(a:A0 (JZ×V)):It :=
 ⟨fun i H=>H d=some (.frz o (.dK a))/\i<a.length,fun i H x b=>b=H/\∃k,a[i]?=some (k,x),fun i H=>H d=some (.frz o (.dK a))/\a.length<=i⟩
def KV.atV{c:A0 (JZ×V)}{vs:A0 (JZ×A1)}(h:KV c vs):∀{i:Nat} {k:JZ} {v:V},c[i]?=some (k,v)->∃u,vs[i]?=some (k,u)/\RelV v u:=by
 induction h with
 | nil=>intro i k v e;rw[List.getElem?_nil]at e;cases e
 | cons r _ d =>
  intro i k v e;cases i with
  | zero =>
   rw[ID]at e⊢;cases e;obtain⟨a,b⟩:=r;exact⟨_,by rw[show k=_ from a],b⟩
  | succ i=>exact d e
section
variable{X:Cx}{tg:IY}
def zFw(d:TE):TE:=fun σ H Q=>d σ H fun x b=>∃a c,x = .ref a/\b a=some (.dK c)/\∀v,b v=none->Q (.ref v) (IU b v (Lx v a))
theorem Qo{o:IY}{c d:Pos}{m:TE}(t:PE X o m)(f:attributeBase o "values" X.env (eval o X.env)=eval o X.env:=by rfl)(g:(c.endLine == d.line)=true:=by rfl):PE X (.Call (.Attribute o "values" c) [] [] d) (zFw m):=by
 intro i s σ H Q I h;refine wpAny_Call_method0_late f g (JT (t i s σ H _ I h) fun v n ⟨x,u,j,y,a,l,A,p,B⟩=>?_);subst A;obtain rfl:v=Value.ref a:=y;obtain⟨z,C,D,E,q⟩:=zBm j.hok p;obtain⟨G,J,_⟩:=zDp j (.inl ⟨l,.inl p⟩);refine⟨"dict", "dict.values",PySem.F.plainAttrs_dict,PySem.F.slot_dict_values,PySem.F.type_dict_values,G,J,Calls.callWith_builtin rfl (PySem.evalArgs_none ?_)⟩;refine call_meetsIn PySem.F.slot_dict_values q.typeIs PySem.F.entry_dict_values (PySem.F.args_dict_values_1 _) (meets_dict_values (C4 X.prog X.w) a C) ⟨⟨D,q⟩,?_⟩;exact⟨.ref n.heap.objs.size,IU u _ (Lx _ a),j.laid (t':=n.toks) (fun b o K=>AF _ K) (Nat.le_refl _) ⟨⟨_,AN _ rfl,rfl,rfl⟩,⟨_,AN _ rfl⟩,fun L M ⟨o,e,r⟩ k=>⟨o,k o e,r⟩⟩,rfl,B _ j.fresh⟩
theorem Rg{P:A6}{w:F1}{K:PySem.W.Frag}{d g:A2}{o:Obj}{a:A0 (JZ×V)}{B:A7 DictEntry}{ep:Nat}(q:o.data = .dict B ep):MK P w K tg (Itv d o a) [g] g (fun i h=>h.IsValIter g d i a.length ep) where
 mem:=by simp
 obj:=fun i h st b j=>by
  have e:b=g:=by simpa using j
  subst e;obtain⟨o,e,c,d⟩:=st;exact⟨o,e,fun v z=>by rw[d]at z;cases z⟩
 keep:=fun i h t st k=>by
  obtain⟨o,e,r⟩:=st;exact⟨o,k g (by simp) o e,r⟩
 item:=by
  intro X C D F Z i f s σ H E I x st G;subst C D F;obtain⟨J,y⟩:=G;obtain⟨L,M,f2,N,O,Q⟩:=x g (by simp);obtain⟨m,hz,hS,R,r,ob,S,T,n,U,p,Y⟩:=(show JH X.prog X.w H s.heap d (.frz o (.dK a))from I.hok d _ J);rw[m]at n;cases n;rw[q]at p;cases p;have hx:a[i]?=some (a[i].1,a[i].2):=AC y;obtain⟨u,hu,ru⟩:=r.atV hx;have A:a.length=R.length:=r.length;rw[A]at st;refine wpAny_pyNext_values_item (knd:=C4 X.prog X.w) st ⟨o,B,m,U,q,Y⟩ hu fun t l sb=>?_;have I1:Inv X f σ H { s with heap:=t }:=I.turned (t':=s.toks) (fun b o j e=>(sb.2 b j).trans e) L M N O Q;obtain⟨oi,ei,ci,di⟩:=id l;rw[<-A]at l;exact⟨u,rfl,Na (s:={ s with heap:=t }) ei ci di (by decide) ⟨a[i].2,H,I1,ru,⟨rfl,_,hx⟩,l,fun b j=>(x b j).1⟩⟩
 done:=by
  intro X C D F Z i f s σ H E I x st G;subst C D F;obtain⟨J,y⟩:=G;obtain⟨L,M,f2,N,O,Q⟩:=x g (by simp);obtain⟨m,hz,hS,R,r,ob,S,T,n,U,p,Y⟩:=(show JH X.prog X.w H s.heap d (.frz o (.dK a))from I.hok d _ J);rw[m]at n;cases n;rw[q]at p;cases p;have A:a.length=R.length:=r.length;rw[A]at st y;exact wpAny_pyNext_values_end (knd:=C4 X.prog X.w) (I.ok.hd Z) st ⟨o,B,m,U,q,Y⟩ (EC y) fun t eb=>⟨rfl,I.turned (t':=s.toks) (fun b o j e=>eb b o j e) L M N O Q⟩
 self:=fun _ _ _ _ _ st h=>wpAny_pyIter_valiter st h
def zHt(c:TE):TI:=fun σ H R=>c σ H fun x b=>∃v d a,x = .ref v/\b v=some (Lx v d)/\b d=some (.dK a)/\∀o,R (Itv d o a) (IU b d (.frz o (.dK a)))
theorem zCh{l:IY}{t:TE}(j:PE X l t):PI X tg l (zHt t):=by
 intro c s σ H R I h;refine JT (j c s σ H _ I h) fun v s1 ⟨x,g,k,D,E⟩=>?_;obtain⟨m,d,a,e,F,y,q⟩:=E;subst e;cases D;obtain⟨f,_⟩:=(show JH X.prog X.w g s1.heap m (Lx m d)from k.hok m _ F);obtain⟨G,J,z,r,o,A,ep,i,B,n,C⟩:=(show JH X.prog X.w g s1.heap d (.dK a)from k.hok d _ y);have p:Inv X c σ (IU g d (.frz o (.dK a))) { s1 with heap:=s1.heap,toks:=s1.toks }:=k.write (t':=s1.toks) (by rw[y];trivial) (.inl rfl) (fun b u _ e=>e) ⟨_,i⟩ ⟨i,G,J,z,r,o,A,ep,i,B,n,C⟩;have j:a.length=z.length:=r.length;refine wpAny_pyIter_values (knd:=C4 X.prog X.w) (ep:=ep) f ⟨o,A,i,B,n,C⟩ ?_;refine⟨s1.heap.objs.size,[s1.heap.objs.size],_,_,IU g d (.frz o (.dK a)),rfl,p.kept (t':=s1.toks) fun b o e=>AF _ e,Rg n,?_,fun b K=>?_,q o⟩
 .rw[j];exact⟨_,AN _ rfl,rfl,rfl⟩
 have e:b=s1.heap.objs.size:=by simpa using K
 subst e;exact p.fpOk (Nat.le_refl _) (p.hok.fresh (Nat.le_refl _))
theorem Ak(ns:A0 Int):∀{n:Nat},n<=ns.length->preSum (fun i=>ns.getD i 0) n =(ns.take n).sum
 | 0,_=>rfl
 | n+1,h=>by
  have e:ns[n]?=some ns[n]:=AC (by omega);show preSum (fun i=>ns.getD i 0) n+ns.getD n 0=_;rw[Ak ns (by omega),List.take_succ,List.sum_append,BK,e];simp
def zEz:A0 V->Hp->VK->Prop:=fun c H Q=>∃(v d:A2) (a:A0 (JZ×V)) (b:A0 Int),c = [.ref v]/\H v=some (Lx v d)/\H d=some (.dK a)/\(a.map fun q=>q.2)=b.map V.int/\Q (.int b.sum) H
theorem Yi(F:X.calm=true:=by rfl):E9 X (.builtin "sum") zEz:=by
 intro p s σ H N O Q I r h;obtain⟨v,d,a,c,rfl,G,J,x,q⟩:=h;obtain⟨u,rfl,j⟩:=S2 r;cases j;obtain⟨f,_⟩:=(show JH X.prog X.w H s.heap v (Lx v d)from I.hok v _ G);obtain⟨P,R,g,r,o,y,ep,m,z,A,B⟩:=(show JH X.prog X.w H s.heap d (.dK a)from I.hok d _ J);have S:a.length=g.length:=r.length;have K:a.length=c.length:=by have:=congrArg List.length x;rw[AB,AB]at this;exact this
 refine call_sum_walkG (wpAny_pyIter_values (knd:=C4 X.prog X.w) (ep:=ep) f ⟨o,y,m,z,A,B⟩ ?_);have n:d≠s.heap.objs.size:=AY (AJ m);refine⟨s.heap.objs.size,_,_,g.length,_,_,fun i=>c.getD i 0,rfl,Walks.dictValues (knd:=C4 X.prog X.w) (by simp only[Around.in1_handled];exact I.ok.hd F) s.heap.objs.size d n g ep,⟨⟨_,AN _ rfl,rfl,rfl⟩,o,y,AF _ m,z,A,B⟩,fun b hb=>?_,fun i u ⟨k,C⟩=>?_,fun T L t' M=>⟨.int c.sum,H,I.kept (t':=L) fun b o e=>M b o (by simpa using AY (AJ e)) (AF _ e),⟨t',?_⟩,q⟩⟩
 .rw[CD];rcases AV.mp hb with rfl | hb
  .exact FU _
  .rw[AH.mp hb];exact CS (AJ m)
 .have U:i<g.length:=(AD.mp C).1;have D:a[i]?=some (a[i].1,a[i].2):=AC (by omega);obtain⟨W,E,j⟩:=r.atV D;rw[C]at E;cases E;have e:=congrArg (fun l=>l[i]?) x;rw[AG,AG,D,AC (by omega:i<c.length)]at e;have e:a[i].2=V.int c[i]:=BA e;rw[e]at j;obtain⟨t,rfl⟩:=j;exact⟨t,by show Value.int c[i] t=Value.int (c.getD i 0) t;rw[BK,AC (by omega:i<c.length)];rfl⟩
 .have:preSum (fun i=>c.getD i 0) g.length=c.sum:=by
   rw[Ak _ (by omega),CY (by omega)]
  rw[this]
end
section
variable{X:Cx}
theorem zGc:PIp X .BitOr (ipI fun i j=>Builtin.bitOr i j):=by
 intro a s σ H x y v u Q I b c h;obtain⟨i,j,d,e,q⟩:=h;subst d;subst e;obtain⟨t,rfl⟩:=b;obtain⟨f,rfl⟩:=c;exact ior_int ⟨.int _,H,I.tok _,⟨_,rfl⟩,q⟩
end
section
variable{X:Cx}{tg:IY}
def zGb(c:TE):TI:=fun σ H R=>c σ H fun x b=>∃d a,x = .ref d/\Rd b d (.dK a)/\∀o,R (Itd d o a) (IU b d (.frz o (.dK a)))
theorem Tr{H:Hp}{d:A2}{o:HO}(h:H d=some o):IU H d o=H:=funext fun b=>by
 by_cases e:b=d
 .subst e;rw[A9,h]
 .rw[B6 e]
theorem Xs{l:IY}{D:TE}(B:PE X l D):PI X tg l (zGb D):=by
 intro i s σ H R I h;refine JT (B i s σ H _ I h) fun v s1 ⟨x,z,A,E,F⟩=>?_;obtain⟨d,a,e,j,q⟩:=F;subst e;cases E;obtain⟨o,C,t,m,c,r,f,ep,g,n,k,p⟩:∃o,Inv X i σ (IU z d (.frz o (.dK a))) { s1 with heap:=s1.heap,toks:=s1.toks }/\a.length<=sizeLine/\(d == sysModules)=false/\∃c,KV a c/\∃f ep,s1.heap.get? d=some o/\o.ExactDict/\o.data = .dict f ep/\(PySem.KeysOf (C4 X.prog X.w) f/\Pairs (C4 X.prog X.w) f.toList c/\(c.map (·.1)).Nodup):=by
  rcases j with j | ⟨o,j⟩
  .obtain⟨t,m,c,r,o,f,ep,g,n,k,p⟩:=(show JH X.prog X.w z s1.heap d (.dK a)from A.hok d _ j);exact⟨o,A.write (t':=s1.toks) (by rw[j];trivial) (.inl rfl) (fun b u _ e=>e) ⟨_,g⟩ ⟨g,t,m,c,r,o,f,ep,g,n,k,p⟩,t,m,c,r,f,ep,g,n,k,p⟩
  .obtain⟨g,t,m,c,r,J,f,ep,y,n,k,p⟩:=(show JH X.prog X.w z s1.heap d (.frz o (.dK a))from A.hok d _ j);rw[g]at y;cases y;exact⟨o,by rw[Tr j];exact A,t,m,c,r,f,ep,g,n,k,p⟩
 have B:a.length=c.length:=r.length;refine wpAny_pyIter_dict (knd:=C4 X.prog X.w) (ep:=ep) m ⟨o,f,g,n,k,p⟩ ?_;refine⟨s1.heap.objs.size,[s1.heap.objs.size],_,_,IU z d (.frz o (.dK a)),rfl,C.kept (t':=s1.toks) fun b o e=>AF _ e,Sa k,?_,fun b G=>?_,q o⟩
 .rw[B];exact⟨_,AN _ rfl,rfl,rfl⟩
 have e:b=s1.heap.objs.size:=by simpa using G
 subst e;exact C.fpOk (Nat.le_refl _) (C.hok.fresh (Nat.le_refl _))
end
end L2
namespace TS
open PySem PyProof.Rows
open PySem.SeqAt PySem.MeetsSeq PySem.MeetsSeq3
open AutoSeq1 (wpAny_loadPart')
def QN{a b:Str}(e:a≠b):a.cps.toList≠b.cps.toList:=fun z=>e (by
 have c:=IP.mp z;cases a;cases b;exact congrArg Str.mk c)
set_option maxHeartbeats 2000000 in
def Qf(p q:A2)(n B:Nat)(C k:A4 A2)(D l:A7 (A4 A1))(a b c f:Str)(m o t u:Tok) :
  Meets (Builtin.«tuple.__lt__» ⟨[.ref p,.ref q],[]⟩)
   (fun A R s=>s.heap.get? p=some { cls:=.type "tuple",dict:=C,data:=.seq #[.str a m,.str b o] n,slots:=D }/\s.heap.get? q=some { cls:=.type "tuple",dict:=k,data:=.seq #[.str c t,.str f u] B,slots:=l } /\
    R (.ok (.ret (.bool (JP (a.cps.toList,b.cps.toList) (c.cps.toList,f.cps.toList))))) s):=by
 intro y w A R s h;obtain⟨E,g,d,F,os⟩:=s;obtain⟨v,i,h⟩:=h;have G:=AutoSeq1.sub_tuple_tuple;wp_walk using BN v,BN i;show wpAny _ _ (eqBool (.str a m) (.str c t)) _ _ _;refine GO ?_;by_cases e:a=c
 .rw[AK e];wp_walk using BN v,BN i;show wpAny _ _ (eqBool (.str b o) (.str f u)) _ _ _;refine GO ?_;by_cases x:b=f
  .rw[AK x];wp_walk using BN v,BN i;have j:JP (a.cps.toList,b.cps.toList) (c.cps.toList,f.cps.toList)=false:=by
    unfold JP;rw[e,x];simp[FX]
   rw[j]at h;exact h
  .rw[AX x];have j:JP (a.cps.toList,b.cps.toList) (c.cps.toList,f.cps.toList)=decide (b.cps.toList<f.cps.toList):=by
    unfold JP;rw[e];simp[FX]
   rw[j]at h;show wpAny _ _ (richCompare CmpOp.Lt (.str b o) (.str f u) >>= fun r=>ret r >>= fun r=>pure (ForInStep.done (some r,()))) _ _ _;refine AA (IL (typeIs_str _ _ _) (typeIs_str _ _ _) slot_str_lt (call_str_lt ⟨(by intro z;cases z),?_⟩) rfl);exact AE (AE (AE h))
 .rw[AX e];have j:JP (a.cps.toList,b.cps.toList) (c.cps.toList,f.cps.toList)=decide (a.cps.toList<c.cps.toList):=by
   unfold JP;simp[QN e]
  rw[j]at h;show wpAny _ _ (richCompare CmpOp.Lt (.str a m) (.str c t) >>= fun r=>ret r >>= fun r=>pure (ForInStep.done (some r,()))) _ _ _;refine AA (IL (typeIs_str _ _ _) (typeIs_str _ _ _) slot_str_lt (call_str_lt ⟨(by intro z;cases z),?_⟩) rfl);exact AE (AE (AE h))
section
variable{prog:A6}{w:F1}{A:IZ}{E:A1->A3->Prop}{s:A3}
theorem Ze{v k:A1}{d e f g:Str}{Q:A1->A3->Prop}(y:JR s.heap v d e)(z:JR s.heap k f g)(B:A.units<cLine)
  (h:Q (.bool (JP (d.cps.toList,e.cps.toList) (f.cps.toList,g.cps.toList))) s):wpAny (model prog w) A (richCompare .Lt v k) Q E s:=by
 obtain⟨p,⟨C,D,l,G⟩,n,t,u,rfl,m,o,q⟩:=y;obtain⟨H,⟨r,i,data2,j⟩,I,J,K,rfl,a,b,c⟩:=z;simp only at o q b c;subst o q b c;exact richCompare_meets_room (op:=.Lt) ⟨_,m,rfl⟩ ⟨_,a,rfl⟩ PySem.F.slot_tuple_lt PySem.F.entry_tuple_lt (PySem.F.args_tuple_lt_2 _ _) (Qf p H n I D i G j d e f g t u J K)
  ⟨m,a,show Value.bool _≠Value.notImplemented/\_ from⟨(fun x=>nomatch x),h⟩⟩ B
theorem JR.tk{h:IV}{p:A2}{x y:Str}(z:JR h (.ref p) x y):IsTupleKey (strKind prog w) h [x,y] p:=by
 obtain⟨p,o,n,t,u,e,a,b,c⟩:=z;cases e;exact⟨o,_,n,a,b,c,.cons (show(x == x)=true by simp) (.cons (show(y == y)=true by simp) .nil)⟩
theorem zAi{v f:A1}{a b c d:Str}{Q:Bool->A3->Prop}(g:JR s.heap v a b)(i:JR s.heap f c d)(j:A.units<cLine)
  (h:Q (decide ((a,b) =(c,d))) s):wpAny (model prog w) A (eqBool v f) Q E s:=by
 obtain⟨p,o,n,t,u,rfl,_⟩:=id g;obtain⟨k,l,m,q,r,rfl,_⟩:=id i;refine wpAny_eqBool_tuple j g.tk i.tk ?_;have e:decide ([a,b] = [c,d])=decide ((a,b) =(c,d)):=by simp
 rw[e];exact h
end
abbrev NE(as:A0 (Str×Str)):A0 (A0 Nat):=as.flatMap fun q=>[q.1.cps.toList,q.2.cps.toList]
def Pn(p q:Str×Str)(as bs:A0 (Str×Str)):JU (NE (p::as)) (NE (q::bs)) =(JP (p.1.cps.toList,p.2.cps.toList) (q.1.cps.toList,q.2.cps.toList)||(decide (p=q)&&JU (NE as) (NE bs))):=by
 have g:NE (p::as)=p.1.cps.toList::p.2.cps.toList::NE as:=rfl;have h:NE (q::bs)=q.1.cps.toList::q.2.cps.toList::NE bs:=rfl;rw[g,h,JU,JU];unfold JP;obtain⟨a,b⟩:=p;obtain⟨c,d⟩:=q;by_cases e:a=c
 .subst e;by_cases f:b=d
  .subst f;simp[Bool.or_assoc]
  .simp[f,QN f]
 .simp[e,QN e]
def RU(h:IV)(items:A7 A1)(as:A0 (Str×Str)):Prop:=items.size=as.length/\∀(j:Nat) (q:Str×Str),as[j]?=some q->∃v,items[j]?=some v/\JR h v q.1 q.2
def Vx(l b:A2)(items a:A7 A1)(n C:Nat)(as bs:A0 (Str×Str))(k:Nat) :
  ∀i:Nat,as.length-i=k->i<=as.length->i<=bs.length->Meets (Builtin.«list.__eq__.loop» ⟨[.ref l,.ref b,rawInt i,rawInt 0],[]⟩)
   (fun A R s=>s.heap.get? l=some (seqObj "list" items n)/\s.heap.get? b=some (seqObj "list" a C)/\A.units+1<cLine/\RU s.heap items as/\RU s.heap a bs/\R (.ok (.ret (.bool (JU (NE (as.drop i)) (NE (bs.drop i)))))) s):=by
 induction k with
 | zero =>
  intro i D E F o w A R s h;obtain⟨G,g,d,H,os⟩:=s;obtain⟨p,f,x,q,t,h⟩:=h;wp_walk using BN p,BN f;have j:items[((i:Nat):Int).toNat]?=none:=by have:=q.1;simp;omega
  rw[j];have e:JU (NE (as.drop i)) (NE (bs.drop i))=decide (items.size<a.size):=by
   rw[q.1,t.1,ET (by omega)];by_cases c:i<bs.length
   .rw[AK (by omega),CO c];rfl
   .rw[AX (by omega),ET (by omega)];rfl
  rw[e]at h;wp_walk using BN p,BN f;exact h
 | succ k I =>
  intro i D E F o w A R s h;obtain⟨G,g,d,H,os⟩:=s;obtain⟨p,f,x,q,t,h⟩:=h;wp_walk using BN p,BN f;have u:i<as.length:=by omega
  obtain⟨v,J,y⟩:=q.2 i as[i] (AC u);have j:items[((i:Nat):Int).toNat]?=some v:=by simpa using J
  by_cases c:i<bs.length
  .obtain⟨z,K,B⟩:=t.2 i bs[i] (AC c);have m:a[((i:Nat):Int).toNat]?=some z:=by simpa using K
   have L:((i:Int)+1) =((i+1:Nat):Int):=by push_cast;rfl
   rw[CO u,CO c,Pn]at h;rw[j,m];refine AA (zAi y B (show A.units+1<cLine from x) ?_);by_cases e:as[i]=bs[i]
   .rw[AK (show(as[i].1,as[i].2) =(bs[i].1,bs[i].2)from e)];have M:JP (as[i].1.cps.toList,as[i].2.cps.toList) (bs[i].1.cps.toList,bs[i].2.cps.toList)=false:=by
     rw[e];unfold JP;simp[FX]
    rw[M,AK e,HU,FH]at h;wp_walk;rw[L];exact⟨plainId_quiet plain_eq_loop _,FP entry_eq_loop (by
     rw[Around.under_plainId plain_eq_loop _];exact I (i+1) (by omega) (by omega) (by omega) o w A R _ ⟨p,f,x,q,t,h⟩)⟩
   .rw[AX (show ¬(as[i].1,as[i].2) =(bs[i].1,bs[i].2)from e)];rw[AX e,DK,HX]at h;wp_walk using BN p,BN f;rw[j,m];show wpAny _ _ (richCompare CmpOp.Lt v z >>= fun r=>ret r) _ _ _;exact AA (Ze y B (show A.units+1<cLine from x) (AE h))
  .have m:a[((i:Nat):Int).toNat]?=none:=by have:=t.1;simp;omega
   rw[j,m];have e:JU (NE (as.drop i)) (NE (bs.drop i))=decide (items.size<a.size):=by
    rw[q.1,t.1,ET (l:=bs) (by omega),AX (by omega)];exact Y5 _
   rw[e]at h;wp_walk using BN p,BN f;exact h
def Tv(l b:A2)(items a:A7 A1)(n f:Nat)(as bs:A0 (Str×Str)) :
  Meets (Builtin.«list.__lt__» ⟨[.ref l,.ref b],[]⟩)
   (fun A R s=>s.heap.get? l=some (seqObj "list" items n)/\s.heap.get? b=some (seqObj "list" a f)/\A.units+1<cLine/\RU s.heap items as/\RU s.heap a bs/\R (.ok (.ret (.bool (JU (NE as) (NE bs))))) s):=by
 intro c w A R s h;obtain⟨j,g,d,k,os⟩:=s;obtain⟨i,e,h⟩:=h;have m:=AutoSeq1.sub_list_list;wp_walk using BN i,BN e;exact⟨plainId_quiet plain_eq_loop _,FP entry_eq_loop (by
  rw[Around.under_plainId plain_eq_loop _];exact Vx l b items a n f as bs _ 0 rfl (CK _) (CK _) c w A R _ ⟨i,e,h⟩)⟩
section
variable{prog:A6}{w:F1}{A:IZ}{E:A1->A3->Prop}{s:A3}
theorem QO{l b:A2}{items a:A7 A1}{n d:Nat}{as bs:A0 (Str×Str)}{Q:Bool->A3->Prop}(i:A.units+3<cLine)(c:s.heap.get? l=some (seqObj "list" items n))(e:s.heap.get? b=some (seqObj "list" a d))
  (f:RU s.heap items as) (g:RU s.heap a bs) (h:Q (JU (NE as) (NE bs)) s) :
  wpAny (model prog w) A (oneLt' true (.ref l) (.ref b)) Q E s:=by
 rw[oneLt'_eq];simp only[FK];refine AA (wpAny_cRoomFor (by omega) ?_);refine AA (wpAny_callSpecialIfBound?_slot (T := "list") ⟨_,c,rfl⟩ F.slot_list_lt (call_meets F.slot_list_lt ⟨_,c,rfl⟩ F.entry_list_lt (F.args_list_lt_2 _ _) (Tv l b items a n d as bs) ⟨c,e,?_,f,g,?_⟩))
 .show A.units+1<cLine;omega
 exact DI h
end
end TS
namespace L2
open PySem PySem.Spec PyProof.Rows
abbrev LP:=A2×A0 JI
abbrev nw(l:A0 JI):A0 (Str×Str):=l.map fun q=>q.2
def UM(a:A0 LP):A0 (A2×A0 (A0 Nat)):=a.map fun q=>(q.1,TS.NE (nw q.2))
def Qs{h:IV}{l:A0 JI}(a:∀q∈l,TS.JR h (.ref q.1) q.2.1 q.2.2):TS.RU h (l.map fun q=>Value.ref q.1).toArray (nw l):=by
 refine⟨by simp,fun j q e=>?_⟩;rw[AG]at e;obtain⟨r,er,rfl⟩:=AZ.mp e;exact⟨.ref r.1,by simp[er],a r (AM er)⟩
def zEx(h:IV)(q:LP):Prop:=LAt h q.1 (q.2.map fun r=>Value.ref r.1)/\∀r∈q.2,TS.JR h (.ref r.1) r.2.1 r.2.2
def JR.keeps{h h':IV}{v:A1}{x y:Str}(z:TS.JR h v x y)(k:∀b o,h.get? b=some o->h'.get? b=some o):TS.JR h' v x y:=by
 obtain⟨p,o,n,t,u,e,a,r⟩:=z;exact⟨p,o,n,t,u,e,k _ _ a,r⟩
def Mm{P:A6}{w:F1}{s:A3}{a:A2}{i:A0 LP}{j:IV}(m:∀q∈i,zEx j q)(f:∀b o,j.get? b=some o->b≠a/\s.heap.get? b=some o) :
  TS.SA P w a s (TS.lexKind (UM i)) oneType' (i.map fun q=>Value.ref q.1):=by
 refine⟨fun A p J n=>⟨fun x y k l Q E t u q=>?_⟩,fun v c=>?_,fun z A E p Q n q=>?_⟩
 .obtain⟨_,B,rfl,rfl⟩:=TS.LB t;obtain⟨_,C,rfl,rfl⟩:=TS.LB u;obtain⟨x,D,rfl⟩:=AI.mp B;obtain⟨y,F,rfl⟩:=AI.mp C;have g:∀b o,j.get? b=some o->p.heap.get? b=some o:=fun b o e=>n _ _ (f _ _ e).1 (f _ _ e).2;obtain⟨⟨G,h⟩,r⟩:=m x D;obtain⟨⟨K,H⟩,I⟩:=m y F;rw[keyLt'_oneType];exact TS.QO (by omega) (g _ _ h) (g _ _ H) (Qs fun q d=>JR.keeps (r q d) g) (Qs fun q d=>JR.keeps (I q d) g) q
 .obtain⟨q,d,rfl⟩:=AI.mp c;exact TS.MA (q:=(q.1,TS.NE (nw q.2))) (AI.mpr ⟨q,d,rfl⟩)
 .refine PySem.W.kas_kind (T:=.type "list") z (fun v c=>?_) (by decide) (by decide) q;obtain⟨q,d,rfl⟩:=AI.mp c;obtain⟨⟨G,h⟩,r⟩:=m q d;exact(PySem.W.Looks.ld (n _ _ (f _ _ h).1 (f _ _ h).2)).andThen .now
section
variable{X:Cx}
def K_(H:Hp)(q:LP):Prop:=H q.1=some (.lst (q.2.map fun r=>V.ref r.1))/\∀r∈q.2,E2 H r
theorem K_.same{H:Hp}{q r:LP}(f:K_ H q)(c:K_ H r)(e:q.1=r.1):nw q.2=nw r.2:=by
 have k:=f.1.symm.trans ((congrArg H e).trans c.1);have d:=HO.lst.inj (BA k);have g:=f.2;have h:=c.2;obtain⟨a,l⟩:=q;obtain⟨b,m⟩:=r;clear f c e k;simp only at d g h⊢
 induction l generalizing m with
 | nil=>cases m with
  | nil=>rfl
  | cons _ _=>cases d
 | cons x l n=>cases m with
  | nil=>cases d
  | cons y m =>
   rw[BB,BB]at d;obtain⟨i,o⟩:=FS d;have i:x.1=y.1:=V.ref.inj i;have p:=(g x BG).symm.trans ((congrArg H i).trans (h y BG));have j:=HO.tup.inj (BA p);simp only[List.cons.injEq,V.str.injEq,and_true]at j;show x.2::nw l=y.2::nw m;rw[n (fun r c=>g r (A_ _ c)) m (fun r c=>h r (A_ _ c)) o,Prod.ext j.1 j.2]
theorem Inv.plAt{a:A0 (A2×Obj)}{σ:St}{H:Hp}{s:A3}{q:LP}(I:Inv X a σ H s)(h:K_ H q):zEx s.heap q:=by
 obtain⟨z,b,n,c,e⟩:=I.hok _ _ h.1;have d:=An c;subst d;exact⟨⟨n,e⟩,fun r f=>I.pairAt (h.2 r f)⟩
def Rr(K:PySem.W.Frag):A0 V->Hp->VK->Prop:=fun e H Q=>∃(p:A2) (d:A0 LP),e = [.ref p]/\IW K H p (d.map fun q=>V.ref q.1)/\(∀q∈d,K_ H q) /\
  ∀(l:A2) (c:A0 LP),H l=none->c.Perm d->c.Pairwise (fun a b=>TS.JU (TS.NE (nw b.2)) (TS.NE (nw a.2))=false)->Q (.ref l) (IU H l (.lst (c.map fun q=>V.ref q.1)))
theorem Ec(hu:X.A.units+64<cLine):E9 X (.builtin "sorted") (Rr X.K):=by
 intro E s σ H xs us Q I r h;obtain⟨p,d,rfl,l,f,q⟩:=h;obtain⟨u,rfl,P⟩:=S2 r;cases P;obtain⟨c,F,R,G⟩:=I.list l;have x:=Zx F;have hl:=F.length;refine TS.OO (by omega) (collect_list (vs:=c) R.isList ?_ (by omega));have g:((s.heap.push (seqObj "list" #[] 0)).update s.heap.objs.size (Obj.mapSeq (· ++ c.toArray))).objs.size=s.heap.objs.size+1:=by rw[EN,size_push']
 have n:∀b o,s.heap.get? b=some o->((s.heap.push (seqObj "list" #[] 0)).update s.heap.objs.size (Obj.mapSeq (· ++ c.toArray))).get? b=some o:=fun b o i=>by
  rw[HQ _ _ _ _ (AY (AJ i))];exact AF _ i
 have y:∀q∈d,zEx s.heap q:=fun q l=>I.plAt (f q l);refine⟨rfl,by omega,TS.lexKind (UM d),oneType',fun s2 S=>?_,fun t T e U k W=>?_⟩
 .rw[x];refine Mm y fun b o i=>?_;rw[<-x];have v:b≠((s.heap.push (seqObj "list" #[] 0)).update s.heap.objs.size (Obj.mapSeq (· ++ c.toArray))).objs.size:=by
   rw[g];exact AY (CS (AJ i))
  exact⟨v,S b o v (n b o i)⟩
 .obtain⟨J,L⟩:=U;rw[x]at J;obtain⟨j,w,M⟩:=T0 (fun q:LP=>Value.ref q.1) J d rfl;have N:∀q∈d,TS.MT (UM d) (.ref q.1)=some (TS.NE (nw q.2)):=fun q l=>by
   obtain⟨k,e⟩:=TS.MA (tab:=UM d) (q:=(q.1,TS.NE (nw q.2))) (AI.mpr ⟨q,l,rfl⟩);obtain⟨_,m,B,Y⟩:=TS.LB e;obtain⟨r,Z,rfl⟩:=AI.mp m;have B:q.1=r.1:=Value.ref.inj B;rw[e,<-Y,(f q l).same (f r Z) B]
  have C:j.Pairwise (fun a b=>TS.JU (TS.NE (nw b.2)) (TS.NE (nw a.2))=false):=by
   rw[M,BX]at L;refine(E_.mp L).imp fun{a b} ⟨ha,hb,z⟩=>?_;have O:TS.JU ((TS.MT (UM d) (.ref b.1)).getD []) ((TS.MT (UM d) (.ref a.1)).getD [])=false:=z;rw[N a (w.mem_iff.mp ha),N b (w.mem_iff.mp hb)]at O;exact O
  have hn:H (s.heap.objs.size+1)=none:=I.hok.fresh (D_ _);have D:T.get? (s.heap.objs.size+1)=some (seqObj "list" t e):=by rw[<-g];exact W
  refine⟨.ref (s.heap.objs.size+1),IU H (s.heap.objs.size+1) (.lst (j.map fun q=>V.ref q.1)),?_,by show Value.ref _=_;rw[<-g],q _ _ hn w C⟩;refine I.laid (t':=s.toks) (fun b o i=>k b o (n b o i)) (D_ _) ⟨?_,t.toList,e,by rw[M];exact Yy j,by simpa using D⟩;rw[AB,w.length_eq];rw[AB]at G;exact G
theorem Gw(K:PySem.W.Frag)(a:X.A.units+64<cLine)(b:X.K=K:=by rfl):E9 X (.builtin "sorted") (Rr K):=by subst b;exact Ec a
theorem Pc:LW X (compareOp .IsNot) (fun x y H Q=>∃b c,x = .bl b/\y = .bl c/\Q (.bl (b != c)) H):=by
 intro a s σ H x y v u Q I d e h;obtain⟨b,c,rfl,rfl,q⟩:=h;cases d;cases e;exact isnot_bool (E5 I q rfl)
end
section
variable{P:A6}{w:F1}{K:PySem.W.Frag}{mg:Str->A4 A1}{base:IV}
theorem SB.o1{x a:Str}{st:JF}{f:A2}{g:JK}{N ps:A0 Str}{k:Nat}{sp:Sp}(F:SB K x a st f g)(S:IT N ps (B5 st))
  (b:∀(d:A1) (A:IZ) (c:A0 SF) (s:A3) (H:Hp) (vs:A0 V) (Q:VK) (E:XK),KU k (A.deeper (envOfC a (B5 st) s.heap.objs.size f d))->sp vs H Q E ->
   ∃t,R_ (Yo KB P w K mg base N a (B5 st) f d A c s H E).nox (M9 st) t/\t { nx:=fun _ H'=>Q .non H',rt:=Q } (Cq N vs) H) (e:∀vs H Q E,sp vs H Q E->vs.length=ps.length:=by intro _ _ _ _ h;repeat first | (obtain⟨h,_⟩:=h;subst h;rfl) | (obtain⟨_,h⟩:=h)):JC P w K mg base KB (k+1) f g ps sp:=F.ok S e b
end
end L2
namespace Sw
open PySem L2
def KW(i:Nat):JF:=PySem.Challenge.pw_strikeweave_k81_whole_tellings_and_whole.main.body.getD i (.Pass ⟨0,0,0,0⟩)
abbrev P_:JF:=KW 9
abbrev NG:JF:=KW 10
abbrev QU:JF:=KW 11
abbrev QL:JF:=KW 12
abbrev P7:JF:=KW 13
abbrev MY:JF:=KW 14
abbrev LZ:JF:=KW 15
abbrev PP:JF:=KW 16
abbrev OC:JF:=KW 17
abbrev PC:JF:=KW 18
abbrev QX:JF:=KW 19
abbrev QV:JF:=KW 23
abbrev O_:JF:=KW 24
abbrev N_:JF:=KW 25
abbrev PQ:JF:=KW 26
abbrev PD:JF:=KW 27
abbrev QW:JF:=KW 28
abbrev Le:JF:=KW 29
abbrev NH:JF:=KW 30
abbrev QM:JF:=KW 35
abbrev NU:JF:=KW 36
abbrev M_:JF:=KW 37
abbrev OZ:JF:=KW 38
abbrev QJ:JF:=KW 40
abbrev PY:JF:=KW 41
abbrev PX:JF:=KW 42
abbrev OW:JF:=KW 43
abbrev PR:JF:=KW 44
abbrev NT:JF:=KW 45
abbrev OX:JF:=KW 46
abbrev OB:JF:=KW 47
abbrev QK:JF:=KW 48
abbrev PZ:JF:=KW 49
abbrev NK:JF:=KW 50
abbrev OA:JF:=KW 51
abbrev NJ:JF:=KW 52
abbrev LQ:JF:=KW 53
abbrev PU:JF:=KW 54
abbrev PV:JF:=KW 55
abbrev OU:JF:=KW 56
abbrev MZ:JF:=KW 57
abbrev P6:JF:=KW 58
abbrev OV:JF:=KW 59
abbrev OY:JF:=KW 60
abbrev MI:JF:=J9 (KW 22) 0
abbrev NC:JF:=J9 (KW 22) 1
abbrev MF:JF:=J9 (KW 22) 2
abbrev NV:JF:=J9 (KW 22) 3
abbrev QA:JF:=J9 (KW 22) 4
abbrev L_:JF:=J9 (KW 22) 5
abbrev LK:JF:=J9 (KW 22) 6
abbrev LJ:JF:=J9 (KW 22) 7
abbrev OF:JF:=J9 (KW 22) 8
abbrev NM:JF:=J9 (KW 34) 0
abbrev NB:JF:=J9 (KW 34) 1
abbrev OE:JF:=J9 (KW 34) 2
abbrev NL:JF:=J9 (KW 34) 3
abbrev OD:JF:=J9 (KW 34) 4
abbrev NA:JF:=J9 (KW 34) 5
set_option genInjectivity false in
structure Tx(K:PySem.W.Frag)(mg:Str->A4 A1) where
 a8:Fn K mg "is_quiet" P_ ["web", "some"]
 aP:Fn K mg "strikes_back" NG ["web", "some"]
 bm:Fn K mg "stands" QU ["web", "some"]
 bi:Fn K mg "kept_by" QL ["web", "some"]
 a9:Fn K mg "is_whole" P7 ["web", "some"]
 ap:Fn K mg "struck_by_any" MY ["web", "some"]
 aA:Fn K mg "strikers_of_any" LZ ["web", "some"]
 aW:Fn K mg "words_by" PP ["web", "some"]
 aB:Fn K mg "is_telling" OC ["web", "words"]
 a1:Fn K mg "are_words" PC ["web", "words"]
 bn:Fn K mg "agrees" QX ["web", "given", "name"]
 bg:Fn K mg "joined" QV ["sets"]
 aH:Fn K mg "first_bit" O_ ["some"]
 aM:Fn K mg "whole_sets" N_ ["web"]
 aX:Fn K mg "tellings" PQ ["web"]
 aI:Fn K mg "all_found" PD ["web", "settle", "greatest"]
 au:Fn K mg "gather" QW ["marks", "settle", "greatest", "chosen", "barred", "found"]
 aC:Fn K mg "settle_standing" Le ["marks", "chosen", "barred"]
 ar:Fn K mg "settle_whole" NH ["marks", "chosen", "barred"]
 bj:Fn K mg "is_name" QM ["thing"]
 aS:Fn K mg "check_names" NU ["names"]
 aK:Fn K mg "check_strikes" M_ ["names", "strikes"]
 a2:Fn K mg "is_strike" OZ ["names", "thing"]
 a6:Fn K mg "_law_mix" QJ ["_law_cell", "_law_k"]
 ba:Fn K mg "_law_left" PY ["_law_script", "_law_k"]
 ak:Fn K mg "_law_pick" PX ["_law_left_here", "_law_many"]
 a3:Fn K mg "_law_names" OW ["_law_left_here", "_law_many"]
 bb:Fn K mg "_law_size" PR ["_law_left_here"]
 aT:Fn K mg "_law_strikes" NT ["_law_left_here", "_law_names_here"]
 a4:Fn K mg "_law_masks" OX ["_law_names_here", "_law_strikes_here"]
 aY:Fn K mg "_law_set_of" OB ["_law_view", "_law_mask"]
 a7:Fn K mg "_law_hit" QK ["_law_view", "_law_mask"]
 aZ:Fn K mg "_law_kept" PZ ["_law_view", "_law_mask"]
 av:Fn K mg "_law_is_quiet" NK ["_law_view", "_law_mask"]
 a0:Fn K mg "_law_stands" OA ["_law_view", "_law_mask"]
 aQ:Fn K mg "_law_is_whole" NJ ["_law_view", "_law_mask"]
 ay:Fn K mg "_law_all_standing" LQ ["_law_view"]
 bc:Fn K mg "_law_sets" PU ["_law_view", "_law_masks_here"]
 aw:Fn K mg "_law_same" PV ["_law_found", "_law_due"]
 aJ:Fn K mg "_law_tells" OU ["_law_view", "_law_words"]
 aL:Fn K mg "_law_all_words" MZ ["_law_names_here"]
 bd:Fn K mg "_law_bent" P6 ["_law_left_here", "_law_words"]
 a5:Fn K mg "_law_right" OV ["_law_left_here", "_law_web", "_law_view"]
 aa:A2
 ac:SH K aa
 bG:mg "Marks" = some (.ref aa)
 aD:KH K aa "names"
 aF:KH K aa "full"
 bl:KH K aa "bit_of"
 ax:KH K aa "strikers_of"
 be:KH K aa "struck_of"
 bo:KH K aa "loops"
 bh:A2
 bf:JK
 bt:SB K "__init__" "Marks.__init__" MI bh bf
 bu:Binds K bf ["self", "web"] []
 bH:Mk K aa bh
 am:Mt K aa "bits_in" "Marks.bits_in" NC ["self", "some"]
 al:Mt K aa "names_in" "Marks.names_in" MF ["self", "some"]
 bP:Mt K aa "first_name" "Marks.first_name" NV ["self", "some"]
 bQ:Mt K aa "set_of" "Marks.set_of" QA ["self", "some"]
 ae:Mt K aa "struck_by" "Marks.struck_by" L_ ["self", "some"]
 aq:Mt K aa "strikers_at" "Marks.strikers_at" LK ["self", "some"]
 ai:Mt K aa "unstruck_by" "Marks.unstruck_by" LJ ["self", "some"]
 aG:Mt K aa "kept" "Marks.kept" OF ["self", "some"]
 ab:A2
 ah:SH K ab
 bK:mg "Web" = some (.ref ab)
 aN:KH K ab "names"
 bp:KH K ab "strikes"
 az:KH K ab "strikers_by_name"
 aE:KH K ab "struck_by_name"
 bw:A2
 bv:JK
 bx:SB K "__init__" "Web.__init__" NM bw bv
 bz:Binds K bv ["self", "names", "strikes"] []
 bL:Mk K ab bw
 ad:Mt K ab "all_names" "Web.all_names" NB ["self"]
 bR:Mt K ab "all_strikes" "Web.all_strikes" OE ["self"]
 ag:Mt K ab "strikers" "Web.strikers" NL ["self", "name"]
 as:Mt K ab "struck" "Web.struck" OD ["self", "name"]
 an:Mt K ab "check_has" "Web.check_has" NA ["self", "name"]
 bS:A2
 bI:mg "WORDS" = some (.ref bS)
 bJ:SV K bS ["in", "out", "open"]
 bM:∃t,mg "MOST" = some (.int 300 t)
 bF:∃t,mg "LETTERS" = some (.str "abcdefghijklmnopqrstuvwxyz" t)
 bA:∃t,mg "LONGEST_NAME" = some (.int 8 t)
 aj:mg "len" = none
 aO:mg "range" = none
 aU:mg "enumerate" = none
 bB:mg "zip" = none
 bN:mg "min" = none
 bq:mg "sum" = none
 bC:mg "abs" = none
 ao:mg "sorted" = none
 bD:mg "int" = none
 br:mg "str" = none
 bs:mg "bool" = none
 aV:mg "list" = none
 bk:mg "tuple" = none
 bE:mg "set" = none
 af:mg "isinstance" = none
 aR:mg "all" = none
 bO:mg "any" = none
 bT:mg "ValueError" = none
end Sw
namespace L2
open PySem
def LC{N ps:A0 Str}{a:JY}(h1:a.kind = .function:=by rfl)(h2:a.isCoroutine=false:=by rfl)(b:a.isGenerator=false:=by rfl)(c:N.Nodup:=by decide +kernel)(d:N.take ps.length=ps:=by rfl)(e:∀x∈ps,a.names.lookup x=some .local\/a.names.lookup x=some .cell:=by decide +kernel)(f:∀y∈a.names,y.2≠ .free:=by decide +kernel):IT N ps a:=⟨h1,h2,b,c,d,e,f⟩
def Rm{j k:Nat}{A:IZ}(h:KU k A)(e:j<=k:=by decide):KU j A:=h.mono e
def O1{J:It}{xs:A0 V}{a:A2}{H0:Hp}(as:LA J xs a H0){g:TG}{d:TS}{D:Ends}{σ:St}{H:Hp}(Pv:Nat->St->Hp->Prop)(f:Pv 0 σ H)(h:∀i σ H,i<=xs.length->Pv i σ H->KZ a H0 H)
  (j:∀i σ H x,xs[i]?=some x->Pv i σ H->∀b:Ends,(∀σ' H',Pv (i+1) σ' H'->b.nx σ' H')->b.rt=D.rt->g x σ H fun σ2 c=>d b σ2 c) (k:∀σ H,Pv xs.length σ H->D.nx σ H) :
  ∃W:Nat->Nat->St->Hp->Prop,(∃m,W 0 m σ H)/\∀i m σ H,W i m σ H ->
   (J.stop i H/\D.nx σ H)\/(J.go i H/\∃N:St->Hp->Prop,(∀σ' H',N σ' H'->∃e,e < m/\W (i+1) e σ' H')/\∀x H',J.yld i H x H'->g x σ H' fun σ2 c=>d { D with nx:=N,ct:=N,bk:=D.nx } σ2 c) :=
 zBz as Pv f h (fun i σ H x l n=>j i σ H x l n _ (fun _ _ z=>z) rfl) k
def O8{lo:Int}{n:Nat}{g:TG}{c:TS}{D:Ends}{σ:St}{H:Hp}(Pv:Nat->St->Hp->Prop)(e:Pv 0 σ H)
  (f:∀i σ H,i<n->Pv i σ H->∀a:Ends,(∀σ' H',Pv (i+1) σ' H'->a.nx σ' H')->a.rt=D.rt->g (.int (lo+i)) σ H fun σ2 b=>c a σ2 b) (h:∀σ H,Pv n σ H->D.nx σ H) :
  ∃W:Nat->Nat->St->Hp->Prop,(∃m,W 0 m σ H)/\∀i m σ H,W i m σ H ->
   ((TB lo n).stop i H/\D.nx σ H)\/((TB lo n).go i H/\∃N:St->Hp->Prop,(∀σ' H',N σ' H'->∃d,d < m/\W (i+1) d σ' H')/\∀x H',(TB lo n).yld i H x H'->g x σ H' fun σ2 b=>c { D with nx:=N,ct:=N,bk:=D.nx } σ2 b) :=
 Pp Pv e (fun i σ H j k=>f i σ H j k _ (fun _ _ z=>z) rfl) h
def A5{α:Type}{A C:α->Prop}{a:α}(e:A a)(h:C a):∃v,A v/\C v:=⟨a,e,h⟩
def Ab{α0 α1 α2:Type}{d e f g h i:α0->α1->α2->Prop}{a:α0}{b:α1}{c:α2}(j:d a b c)(h1:e a b c)(h2:f a b c)(k:g a b c)(l:h a b c)(m:i a b c):∃a b c,d a b c/\e a b c/\f a b c/\g a b c/\h a b c/\i a b c:=⟨a,b,c,j,h1,h2,k,l,m⟩
def Vk{α0 α1 α2 α3 α4 α5 α6:Type}{h i j k:α0->α1->α2->α3->α4->α5->α6->Prop}{a:α0}{b:α1}{c:α2}{d:α3}{e:α4}{f:α5}{g:α6}(l:h a b c d e f g)(h1:i a b c d e f g)(h2:j a b c d e f g)(m:k a b c d e f g):∃a b c d e f g,h a b c d e f g/\i a b c d e f g/\j a b c d e f g/\k a b c d e f g:=⟨a,b,c,d,e,f,g,l,h1,h2,m⟩
def Zs{α0 α1 α2 α3 α4:Type}{f g h i j k:α0->α1->α2->α3->α4->Prop}{a:α0}{b:α1}{c:α2}{d:α3}{e:α4}(l:f a b c d e)(h1:g a b c d e)(h2:h a b c d e)(m:i a b c d e)(n:j a b c d e)(o:k a b c d e):∃a b c d e,f a b c d e/\g a b c d e/\h a b c d e/\i a b c d e/\j a b c d e/\k a b c d e:=⟨a,b,c,d,e,l,h1,h2,m,n,o⟩
def Pr{α0 α1 α2 α3 α4:Type}{f g h i j:α0->α1->α2->α3->α4->Prop}{a:α0}{b:α1}{c:α2}{d:α3}{e:α4}(k:f a b c d e)(h1:g a b c d e)(h2:h a b c d e)(l:i a b c d e)(m:j a b c d e):∃a b c d e,f a b c d e/\g a b c d e/\h a b c d e/\i a b c d e/\j a b c d e:=⟨a,b,c,d,e,k,h1,h2,l,m⟩
def zFr{α0 α1 α2 α3 α4 α5:Type}{g h i j k l m n:α0->α1->α2->α3->α4->α5->Prop}{a:α0}{b:α1}{c:α2}{d:α3}{e:α4}{f:α5}(o:g a b c d e f)(h1:h a b c d e f)(h2:i a b c d e f)(p:j a b c d e f)(q:k a b c d e f)(r:l a b c d e f)(s:m a b c d e f)(t:n a b c d e f):∃a b c d e f,g a b c d e f/\h a b c d e f/\i a b c d e f/\j a b c d e f/\k a b c d e f/\l a b c d e f/\m a b c d e f/\n a b c d e f:=⟨a,b,c,d,e,f,o,h1,h2,p,q,r,s,t⟩
def zFt{α0 α1 α2 α3:Type}{e f g h i j k:α0->α1->α2->α3->Prop}{a:α0}{b:α1}{c:α2}{d:α3}(l:e a b c d)(h1:f a b c d)(h2:g a b c d)(m:h a b c d)(n:i a b c d)(o:j a b c d)(p:k a b c d):∃a b c d,e a b c d/\f a b c d/\g a b c d/\h a b c d/\i a b c d/\j a b c d/\k a b c d:=⟨a,b,c,d,l,h1,h2,m,n,o,p⟩
def B9{α0 α1:Type}{c d e:α0->α1->Prop}{a:α0}{b:α1}(f:c a b)(h1:d a b)(h2:e a b):∃a b,c a b/\d a b/\e a b:=⟨a,b,f,h1,h2⟩
def B7{t u:TS}{D:Ends}{σ:St}{H:Hp}(h:∀N:St->Hp->Prop,(∀σ' H',u D σ' H'->N σ' H')->t { D with nx:=N } σ H):Tn t u D σ H:=h _ fun _ _ z=>z
def Od{i:Nat}{v:V}{t u:TS}{D:Ends}{σ:St}{H:Hp}(h:∀N:St->Hp->Prop,(∀σ' H',u D σ' H'->N σ' H')->t { D with nx:=N } (σ.set i (some v)) H):J7 i v σ H (fun σ2 a=>Tn t u D σ2 a):=h _ fun _ _ z=>z
end L2
namespace Sw
open PySem L2
section
variable{P:A6}{w:F1}{K:PySem.W.Frag}{mg:Str->A4 A1}{base:IV}
def Yh(c:Nat):Bool:=decide (97<=c)&&decide (c<=122)
def O6(x:Str):Bool:=decide (1<=x.length)&&decide (x.length<=8)&&x.cps.toList.all Yh
theorem Ih:("abcdefghijklmnopqrstuvwxyz":Str).cps.toList=List.range' 97 26:=by decide +kernel
theorem Xq(c:Nat):decide (c∈("abcdefghijklmnopqrstuvwxyz":Str).cps.toList)=Yh c:=by
 rw[Ih];unfold Yh;by_cases a:97<=c
 .by_cases b:c<=122
  .rw[AK (List.mem_range'_1.mpr (by omega)),AK a,AK b];rfl
  .rw[AX (fun z=>by have:=List.mem_range'_1.mp z;omega),AX b,HF]
 .rw[AX (fun z=>by have:=List.mem_range'_1.mp z;omega),AX a,DK]
theorem Mr:IT ["thing"] ["thing"] (B5 QM):=LC
def Nq:Sp:=fun b H Q _=>∃x,b = [.str x]/\x.length<=1000/\∀a,CM H a->Q (.bl (O6 x)) a
theorem Mv(T:Tx K mg):JC P w K mg base KB 1 T.bj.f T.bj.fd ["thing"] Nq:=by
 refine T.bj.F.o1 Mr fun r A b s H B Q E C h=>?_
 .obtain⟨x,rfl,G,k⟩:=h;refine⟨_,(B2 (G8 (PW.pt (u7 (U1 (M0 (D4 (M7 K) T.af C6 (A8 (pv 0) (A8 (U9 T.br Lc) B0))))) (S6 (U1 (Ur zDf zDf B8 (D4 El T.aj J3 (A8 (pv 0) B0)) (zDt T.bA)))))) (B3 (C0 P1)) C7)
   (B3 (C0 (D4 (Y3 K) T.aR Y8 (A8 (K6 (N':=["letter"]) (cap:=[none]) (cl:=[]) (G0 trivial trivial) rfl (zDa (pv 0)) (fun _ _ _ _=>by exact⟨(LR 0),D8,(D9 Rw (pv 0) (zFv T.bF) rfl)⟩)) B0))))),?_⟩
  have d:x.length<=sizeLine:=by rw[sizeLine_eq];omega
  have m:x.cps.size=x.length:=rfl;refine A5 rfl ⟨.str x, "str",_,true,rfl,.str x,rfl,A5 rfl ?_⟩;refine T8 ?_;refine A5 rfl ⟨x,rfl,d,B9 rfl rfl (A5 rfl ?_)⟩;refine Q6 (fun a=>?_) (fun a=>?_)
  .have a:(1:Int)<=(x.length:Int):=BL a;refine B9 rfl rfl (A5 rfl ?_);by_cases o:(x.length:Int)<=8
   .rw[AK o];refine T8 ?_;refine A5 rfl ⟨x,rfl,fun D p=>?_⟩;refine X2 (n:=x.cps.size) (fun i σ g=>(∃v,σ = [v])/\CM H g/\g D=some (.lst ((x.cps.toList.take i).map fun c=>V.bl (Yh c)))) ⟨⟨_,rfl⟩,CM.new p,A9⟩ (fun i _ _ q _=>q) (fun _ _ _=>rfl) ?_ ?_
    .rintro i σ t v g N q ⟨⟨I,rfl⟩,j,l⟩ ⟨rfl,c,u,rfl⟩ y;refine Q4 ?_;refine A5 rfl (B9 rfl rfl ⟨_,l,?_,?_⟩)
     .rw[AB,AR,sizeLine_eq];omega
     .rw[PySem.StrLaws.found_one,Xq];refine y _ _ ⟨⟨_,rfl⟩,j.upd p,?_⟩;rw[A9];have:x.cps.toList[i]?=some c:=by rw[BT];exact u
      rw[List.take_add_one,this,AL];rfl
    .rintro σ t ⟨_,j,l⟩;refine⟨D,x.cps.toList.map Yh,rfl,IW.of ?_,?_⟩
     .rw[l,<-AW,BP,BO];rfl
     .have e:(x.cps.toList.map Yh).all id=O6 x:=by
       unfold O6;rw[AK (show 1<=x.length by omega),AK (show x.length<=8 by omega),GV];rfl
      rw[e];exact k _ j
   .rw[AX o];refine Rs ?_;have e:O6 x=false:=by
     unfold O6;rw[AX (show ¬x.length<=8 by omega),HF,DK]
    have:=k H (CM.refl H);rw[e]at this;exact this
  .have a:¬(1:Int)<=(x.length:Int):=fun z=>a (AK z);refine A5 rfl ?_;refine Rs ?_;have e:O6 x=false:=by
    unfold O6;rw[AX (show ¬1<=x.length by omega),DK,DK]
   have:=k H (CM.refl H);rw[e]at this;exact this
theorem I_{α:Type}{l:A0 α}{i:Nat}{x:α}(h:l[i]?=some x):l.take (i+1)=l.take i ++ [x]:=by
 rw[List.take_add_one,h];rfl
theorem Br{α:Type}{l:A0 α}{i:Nat}{x:α}(a:l.Nodup)(h:l[i]?=some x):x∉l.take i:=by
 intro b;obtain⟨j,c,e⟩:=List.getElem_of_mem b;have d:j<i:=by rw[AR]at c;omega
 rw[List.getElem_take]at e;obtain⟨g,f⟩:=AD.mp h;have:=(List.getElem_inj a).mp (e.trans f.symm);omega
theorem KY:IT ["names", "seen", "place", "name"] ["names"] (B5 NU):=LC
def j0(ss:A0 Str):Prop:=(∀x∈ss,O6 x=true)/\ss.Nodup/\ss.length<=100
def Bo(K:PySem.W.Frag):Sp:=fun c H Q _=>∃(p:A2) (a:A0 Str),c = [.ref p]/\IW K H p (a.map V.str)/\j0 a/\∀b,CM H b->Q .non b
theorem On{x:Str}(h:O6 x=true):1<=x.length/\x.length<=8:=by
 unfold O6 at h;rw[BU,BU]at h;exact⟨BL h.1.1,BL h.1.2⟩
theorem Bl(T:Tx K mg):JC P w K mg base KB 2 T.aS.f T.aS.fd ["names"] (Bo K):=by
 refine T.aS.F.o1 KY fun U A C s H Z Q E J h=>?_
 .obtain⟨a,b,rfl,r,⟨V,W,hL⟩,k⟩:=h;have hu:=t8 J;refine⟨_,(B2 (C3 (i:=1) KY.nd rfl (.inl rfl) (Bz (zAc P w) (by rfl) T.bE Xf))
   (B3 (K2 PassesOwn.never rfl (piE K T.aU (A8 (pv 0) B0)) (RY K (n:=2) (C8 (D6 (i:=2) KY.nd rfl (.inl rfl)) (C8 (D6 (i:=3) KY.nd rfl (.inl rfl)) M5)))
   (B2 (G8 (PW.pt (u7 (U1 (M0 (C9 T.bj (Mv T) (Rm J) (A8 (pv 3) B0)))) (S6 (C2 (zGi P w) (pv 3) (pv 1) rfl)))) (B3 v9) C7)
   (B3 (E8 (Xc P w (zDy P w) (pv 1) (A8 (pv 3) B0)))))))),?_⟩
  refine⟨rfl,fun p L=>?_⟩;have M:CM H (IU H p (Nv P w p [])):=CM.new L;refine A5 rfl ⟨a,A5 rfl ⟨(M.at a).seqL r,zAe (n:=b.length) (fun i σ g=>∃l m,σ = [some (.ref a),some (.ref p),l,m]/\CM H g/\g p=some (Nv P w p ((b.take i).map Sum.inr))) ⟨_,_,rfl,M,A9⟩ ?_ ?_ ?_ ?_⟩⟩
  .rintro i σ g u ⟨l,m,rfl,c,o⟩;exact⟨_,_,(c.at a).seqL r,by rw[AG,AC u];rfl⟩
  .rintro σ g ⟨l,m,rfl,c,o⟩;exact⟨_,(c.at a).seqL r,by rw[AB]⟩
  .rintro i σ g v H' u ⟨l,m,rfl,c,o⟩ ⟨t,x,rfl,N,rfl,B⟩;have B:=B _ ((c.at a).seqL r);have j:b[i]?=some b[i]:=AC u;rw[AG,j]at B;cases B;have X:b[i]∈b:=EI u;have q:=V _ X;have O:=On q;have D:p≠t:=B1 o N;refine⟨t,A5 rfl ⟨KQ.of A9,rfl,_,A5 rfl (B9 rfl rfl ?_)⟩⟩;refine A5 rfl ⟨b[i],rfl,by omega,fun R S=>⟨_,rfl,?_⟩⟩;rw[q];refine T8 ?_;have G:CM H R:=(c.trans (CM.new N)).trans S;have I:R p=some (Nv P w p ((b.take i).map Sum.inr)):=S _ _ (by rw[B6 D];exact o);have d:¬(Sum.inr b[i]:JZ)∈(b.take i).map Sum.inr:=fun z=>by
    obtain⟨y,Y,e⟩:=AI.mp z;cases e;exact Br W j Y
   refine A5 rfl (A5 rfl ⟨p,_,Sum.inr b[i],rfl,rfl,I,A5 rfl ?_⟩);rw[AO (by decide),AX d];refine T8 ?_;refine A5 rfl ⟨⟨p,rfl,.inl ⟨_,I⟩⟩,A5 rfl ⟨p,_,Sum.inr b[i],rfl,rfl,I,?_,?_⟩⟩
   .rw[AB,AR];omega
   .refine⟨_,A5 rfl ⟨G.upd L,?_⟩⟩;rw[A9];unfold zEt;rw[AO d,I_ j,AL];rfl
  .rintro σ g ⟨l,m,rfl,c,o⟩;exact k g c
end
def Fz(ss:A0 Str):(ss.map V.str).all Dh=true:=by
 rw[CI];intro v a;obtain⟨x,_,rfl⟩:=AI.mp a;rfl
def Px(x:Str)(ss:A0 Str):inV (.str x) (ss.map V.str)=decide (x∈ss):=by
 unfold inV;rw[List.any_map]
 induction ss with
 | nil=>rfl
 | cons y r a =>
  rw[GH,a];show((y == x)||decide (x∈r))=decide (x∈y::r);by_cases e:x=y
  .subst e;simp
  .have:(y == x)=false:=by simpa using fun z=>e z.symm
   rw[this,HU];by_cases h:x∈r
   .rw[AK h,AK (A_ _ h)]
   .rw[AX h,AX (fun z=>(AV.mp z).elim e h)]
def S8{K:PySem.W.Frag}{H:Hp}{p:A2}{x:Str}{ss:A0 Str}{Q:VK}(h:RO K H p (ss.map V.str))(q:Q (.bl (decide (x∈ss))) H):US K false (.str x) (.ref p) H Q :=
 ⟨p,_,rfl,h,rfl,Fz ss,by rw[AO (by decide),Px];exact q⟩
def Bq{K:PySem.W.Frag}{H:Hp}{p:A2}{x:Str}{ss:A0 Str}{Q:VK}(h:RO K H p (ss.map V.str))(q:Q (.bl (!decide (x∈ss))) H):US K true (.str x) (.ref p) H Q :=
 ⟨p,_,rfl,h,rfl,Fz ss,by rw[AU rfl,Px];exact q⟩
section
variable{P:A6}{w:F1}{K:PySem.W.Frag}{mg:Str->A4 A1}{base:IV}
theorem Gb:IT ["names", "thing"] ["names", "thing"] (B5 OZ):=LC
def Go(K:PySem.W.Frag):Sp:=fun b H Q _=>∃(p:A2) (a:A0 Str) (t:A2) (x y:Str),b = [.ref p,.ref t]/\IW K H p (a.map V.str)/\H t=some (.tup [.str x,.str y])/\x∈a/\y∈a/\Q (.bl true) H
theorem Gf(T:Tx K mg):JC P w K mg base KB 1 T.a2.f T.a2.fd ["names", "thing"] (Go K):=by
 refine T.a2.F.o1 Gb fun e A c s H j Q E l h=>?_
 .obtain⟨p,m,t,x,y,rfl,d,b,g,i,k⟩:=h;refine⟨_,(B2 (G8 (PW.pt (u7 (U1 (M0 (D4 (M7 K) T.af C6 (A8 (pv 1) (A8 (U9 T.bk y4) B0))))) (S6 (C2 r9 (D4 (J6 K) T.aj J3 (A8 (pv 1) B0)) B8 (C5 _))))) (B3 (C0 P1)) C7)
   (B3 (C0 (S0 (D9 (Hg K) (K3 (ixT K) (pv 1) B8 (fun _ _=>rfl)) (pv 0) rfl) (U2 (D9 (Hg K) (K3 (ixT K) (pv 1) B8 (fun _ _=>rfl)) (pv 0) rfl)))))),?_⟩
  refine A5 rfl ⟨_, "tuple",_,true,rfl,.tup b,rfl,A5 rfl ?_⟩;refine T8 ?_;refine A5 rfl (B9 (a:=t) rfl (.inr (KQ.of b)) ⟨rfl,A5 rfl ?_⟩);refine T8 ?_;refine A5 rfl ⟨t,_,B9 rfl rfl ⟨KQ.of b,rfl,A5 rfl (S8 (.inl d) ⟨_,rfl,?_⟩)⟩⟩;rw[AK g];refine Rs ?_;refine A5 rfl ⟨t,_,B9 rfl rfl ⟨KQ.of b,rfl,A5 rfl (S8 (.inl d) ?_)⟩⟩;rw[AK i];exact k
structure QP(ss:A0 Str)(ps:A0 JI):Prop where
 nm:∀q∈ps,q.2.1∈ss/\q.2.2∈ss
 nd:(ps.map fun q=>q.2).Nodup
 len:ps.length<=200
def J4(ps:A0 JI):A0 V:=ps.map fun q=>V.ref q.1
def Hj(ps:A0 JI):A0 (A0 JZ×A2):=ps.map fun q=>([.inr q.2.1,.inr q.2.2],q.1)
theorem Uk{H:Hp}{ps:A0 JI}(h:∀q∈ps,E2 H q):Kz H (Hj ps):=fun k a=>by
 obtain⟨q,b,rfl⟩:=AI.mp a;exact h q b
theorem J5{H H':Hp}{ps:A0 JI}(s:CM H H')(h:∀q∈ps,E2 H q):∀q∈ps,E2 H' q:=fun q a=>s _ _ (h q a)
theorem KM:IT ["names", "strikes", "seen", "place", "strike"] ["names", "strikes"] (B5 M_):=LC
def q9(K:PySem.W.Frag):Sp:=fun e H Q _=>∃(p:A2) (c:A0 Str) (a:A2) (b:A0 JI),e = [.ref p,.ref a]/\IW K H p (c.map V.str)/\IW K H a (J4 b)/\(∀q∈b,E2 H q)/\QP c b/\∀d,CM H d->Q .non d
theorem r8(T:Tx K mg):JC P w K mg base KB 2 T.aK.f T.aK.fd ["names", "strikes"] (q9 K):=by
 refine T.aK.F.o1 KM fun X A D s H vs Q E N h=>?_
 .obtain⟨n,Y,a,b,rfl,Z,y,O,⟨hN,hD,hL⟩,k⟩:=h;have R:=t8 N;refine⟨_,(B2 (C3 (i:=2) KM.nd rfl (.inl rfl) (Bz (Ve P w) (by rfl) T.bE Xf))
   (B3 (K2 PassesOwn.never rfl (piE K T.aU (A8 (pv 1) B0)) (RY K (n:=2) (C8 (D6 (i:=3) KM.nd rfl (.inl rfl)) (C8 (D6 (i:=4) KM.nd rfl (.inl rfl)) M5)))
   (B2 (G8 (PW.pt (u7 (U1 (M0 (C9 T.a2 (Gf T) (Rm N) (A8 (pv 0) (A8 (pv 4) B0))))) (S6 (C2 (zFj P w R) (pv 4) (pv 2) rfl)))) (B3 v9) C7)
   (B3 (E8 (Xc P w (zEn P w R) (pv 2) (A8 (pv 4) B0)))))))),?_⟩
  refine⟨rfl,fun p S=>?_⟩;have U:CM H (IU H p (Nu P w p [])):=CM.new S;refine A5 rfl ⟨a,A5 rfl ⟨(U.at a).seqL y,zAe (n:=b.length) (fun i σ c=>∃l v4,σ = [some (.ref n),some (.ref a),some (.ref p),l,v4]/\CM H c/\c p=some (Nu P w p (Hj (b.take i)))) ⟨_,_,rfl,U,A9⟩ ?_ ?_ ?_ ?_⟩⟩
  .rintro i σ c B ⟨G,l,rfl,d,m⟩;exact⟨_,_,(d.at a).seqL y,by unfold J4;rw[AG,AC B];rfl⟩
  .rintro σ c ⟨G,l,rfl,d,m⟩;exact⟨_,(d.at a).seqL y,by unfold J4;rw[AB]⟩
  .rintro i σ c v H' B ⟨G,l,rfl,d,m⟩ ⟨t,x,rfl,V,rfl,o⟩;have o:=o _ ((d.at a).seqL y);have g:b[i]?=some b[i]:=AC B;unfold J4 at o;rw[AG,g]at o;cases o;have W:b[i]∈b:=EI B;obtain⟨I,J⟩:=hN _ W;have L:p≠t:=B1 m V;have C:CM H (IU c t (.tup [.int i,.ref b[i].1])):=d.trans (CM.new V);have j:=C _ _ (O _ W);refine⟨t,A5 rfl ⟨KQ.of A9,rfl,_,A5 rfl (B9 rfl rfl ?_)⟩⟩;refine A5 rfl (A5 rfl ⟨n,Y,b[i].1,b[i].2.1,b[i].2.2,rfl,(C.at n).seqL Z,j,I,J,A5 rfl ?_⟩);refine T8 ?_;have M:(IU c t (.tup [.int i,.ref b[i].1])) p=some (Nu P w p (Hj (b.take i))):=by rw[B6 L];exact m
   have r:Kz (IU c t (.tup [.int i,.ref b[i].1])) (Hj (b.take i)):=Uk (J5 C fun q j=>O q (CJ j));have u:∀q∈Hj (b.take i),q.1≠[.inr b[i].2.1,.inr b[i].2.2]:=fun q j e=>by
    obtain⟨z,hz,rfl⟩:=AI.mp j;have e':z.2=b[i].2:=by
     obtain⟨z1,z2,z3⟩:=z;simp only[List.cons.injEq,Sum.inr.injEq,and_true]at e;exact Prod.ext e.1 e.2
    have h1:(b.map fun q=>q.2)[i]?=some b[i].2:=by rw[AG,g];rfl
    refine Br hD h1 ?_;rw[<-List.map_take,<-e'];exact AI.mpr ⟨z,hz,rfl⟩
   refine A5 rfl (A5 rfl ⟨p,b[i].1,_,[.inr b[i].2.1,.inr b[i].2.2],rfl,rfl,M,j,r,u,A5 rfl ?_⟩);refine T8 ?_;refine A5 rfl ⟨⟨p,rfl,.inr (.inr ⟨_,M⟩)⟩,A5 rfl ⟨p,b[i].1,_,[.inr b[i].2.1,.inr b[i].2.2],rfl,rfl,M,j,r,u,?_,?_⟩⟩
   .unfold Hj;rw[AB,AR];omega
   .refine⟨_,A5 rfl ⟨C.upd S,?_⟩⟩;rw[A9,I_ g];unfold Hj;rw[AL];rfl
  .rintro σ c ⟨G,l,rfl,d,m⟩;exact k c d
end
def la(a:A0 (JZ×V))(n:Str):A2:=match R9 a (.inr n)with | some (.ref l)=>l | _=>0
def Ii(a:A0 (JZ×V))(n m:Str)(v:V):R9 (Lf a (Sum.inr n:JZ) v) (.inr m)=if m=n then some v else R9 a (.inr m):=by
 rw[Vn];by_cases e:m=n
 .rw[AU e,AU (by rw[e])]
 .rw[AO e,AO (fun z=>e (Sum.inr.inj z))]
def Ca(a:A0 (JZ×V))(n m:Str)(p:A2):la (Lf a (.inr n) (.ref p)) m=if m=n then p else la a m:=by
 unfold la;rw[Ii];by_cases e:m=n
 .rw[AU e,AU e]
 .rw[AO e,AO e]
structure DOk(H0:Hp)(kvs:A0 (JZ×V))(ns:A0 Str):Prop where
 val:∀n∈ns,R9 kvs (.inr n)=some (.ref (la kvs n))
 inj:∀n∈ns,∀m∈ns,la kvs n=la kvs m->n=m
 fr:∀n∈ns,H0 (la kvs n)=none
def Wy{K:PySem.W.Frag}{J:It}{a:A2}{ns:A0 Str}{H:Hp}{σ:St}{Q:St->Hp->Prop}(as:LA J (ns.map V.str) a H)(hσ:∃v,σ = [v])(I:ns.Nodup)(L:ns.length<=1000){D:A2}(A:H D=none)
  (q:∀σ b H',CM H H'->H' D=some (.dK b)->DOk H b ns->(∀n∈ns,H' (la b n)=some (.lst []))->(∀n∈ns,la b n≠D)->Q σ H') :
  Y7 (J7 0) X4 (Rk D (Dr 0) (zGn Jh)) J σ (IU H D (.dK [])) Q:=by
 obtain⟨v,rfl⟩:=hσ;refine G7 as (fun i σ f=>(∃v,σ = [v])/\∃b,CM H f/\f D=some (.dK b)/\b.length<=i/\DOk H b (ns.take i)/\(∀n∈ns.take i,f (la b n)=some (.lst []))/\∀n∈ns.take i,la b n≠D)
  ⟨⟨v,rfl⟩,[],CM.new A,A9,CK _,⟨fun n h=>by simp at h,fun n h=>by simp at h,fun n h=>by simp at h⟩,fun n h=>by simp at h,fun n h=>by simp at h⟩ (fun i σ f _ ⟨_,b,l,_⟩=>l.at a) ?_ ?_
 .rintro i σ f x N s ⟨⟨v,rfl⟩,b,l,w,C,t,o,y⟩ E;rw[AG]at s;have F:i<ns.length:=by
   rcases Nat.lt_or_ge i ns.length with z | z
   .exact z
   .rw[EC z]at s;cases s
  have u:ns[i]?=some ns[i]:=AC F;rw[u]at s;cases s;refine Q4 ?_;refine A5 rfl ⟨CK _,fun p r=>?_⟩;have g:D≠p:=B1 w r;refine⟨b,.inr ns[i],by rw[B6 g];exact w,rfl,by rw[sizeLine_eq];omega,E _ _ ⟨⟨_,rfl⟩,Lf b (.inr ns[i]) (.ref p),?_,A9,?_,⟨?_,?_,?_⟩,?_,?_⟩⟩
  .exact(l.trans (CM.new r)).upd A
  .have:=V1 b (Sum.inr ns[i]:JZ) (.ref p);omega
  all_goals rw[I_ u]
  .intro n c;rw[Ii,Ca];by_cases e:n=ns[i]
   .rw[AU e,AU e]
   .rw[AO e,AO e];rcases AS.mp c with z | z
    .exact t.val n z
    .exact absurd (AH.mp z) e
  .intro n c m B;rw[Ca,Ca];have d:∀k∈ns.take i ++ [ns[i]],k≠ns[i]->k∈ns.take i:=fun k G e=>(AS.mp G).elim id fun z=>absurd (AH.mp z) e;by_cases e:n=ns[i]
   .by_cases j:m=ns[i]
    .exact fun _=>e.trans j.symm
    .rw[AU e,AO j];intro z;have:=o m (d m B j);rw[<-z,r]at this;cases this
   .by_cases j:m=ns[i]
    .rw[AO e,AU j];intro z;have:=o n (d n c e);rw[z,r]at this;cases this
    .rw[AO e,AO j];exact t.inj n (d n c e) m (d m B j)
  .intro n c;rw[Ca];by_cases e:n=ns[i]
   .rw[AU e];exact l.free r
   .rw[AO e];rcases AS.mp c with z | z
    .exact t.fr n z
    .exact absurd (AH.mp z) e
  .intro n c;rw[Ca];by_cases e:n=ns[i]
   .rw[AU e,B6 g.symm,A9]
   .rw[AO e];rcases AS.mp c with z | z
    .rw[B6 (y n z),B6 (B1 (o n z) r)];exact o n z
    .exact absurd (AH.mp z) e
  .intro n c;rw[Ca];by_cases e:n=ns[i]
   .rw[AU e];exact g.symm
   .rw[AO e];rcases AS.mp c with z | z
    .exact y n z
    .exact absurd (AH.mp z) e
 .rintro σ f ⟨_,b,l,w,C,t,o,y⟩;rw[AB]at *;rw[BP]at *;exact q σ b f l w t o y
def B4(qs:A0 JI)(n:Str):A0 Str:=(qs.filter fun q=>decide (q.2.2=n)).map fun q=>q.2.1
def C1(qs:A0 JI)(n:Str):A0 Str:=(qs.filter fun q=>decide (q.2.1=n)).map fun q=>q.2.2
def Aa(qs:A0 JI)(q:JI)(n:Str):B4 (qs ++ [q]) n=B4 qs n ++(if q.2.2=n then [q.2.1]else []):=by
 unfold B4;rw[DN,AL];by_cases e:q.2.2=n
 .rw[AU e,CU,AU (AK e)];rfl
 .rw[AO e,CU,AO (by simp[e])];rfl
def Dq(qs:A0 JI)(q:JI)(n:Str):C1 (qs ++ [q]) n=C1 qs n ++(if q.2.1=n then [q.2.2]else []):=by
 unfold C1;rw[DN,AL];by_cases e:q.2.1=n
 .rw[AU e,CU,AU (AK e)];rfl
 .rw[AO e,CU,AO (by simp[e])];rfl
def wf(a b c d:A2):A0 (Str×V):=[("names",.ref a),("strikes",.ref b),("strikers_by_name",.ref c),("struck_by_name",.ref d)]
structure Tg(ns:A0 Str)(qs:A0 JI):Prop where
 nd:ns.Nodup
 len:ns.length<=100
 srt:ns.Pairwise RB
 mem:∀q∈qs,q.2.1∈ns/\q.2.2∈ns
 ndq:(qs.map fun q=>q.2).Nodup
 lenq:qs.length<=200
 srq:qs.Pairwise VB
structure JV(C:A2)(H:Hp)(x:A2)(ns:A0 Str)(qs:A0 JI):Prop where
 ok:Tg ns qs
 ex:∃dx a b c d kc kd,H x=some (.ins C dx (wf a b c d))/\H a=some (.lst (ns.map V.str))/\H b=some (.lst (J4 qs))/\(∀q∈qs,E2 H q)/\H c=some (.dK kc)/\H d=some (.dK kd) /\
  (∀n∈ns,∃l,R9 kc (.inr n)=some (.ref l)/\H l=some (.lst ((B4 qs n).map V.str)))/\∀n∈ns,∃l,R9 kd (.inr n)=some (.ref l)/\H l=some (.lst ((C1 qs n).map V.str))
section
variable{P:A6}{w:F1}{K:PySem.W.Frag}{mg:Str->A4 A1}{base:IV}
theorem LF:IT ["self", "names", "strikes", "one", "other"] ["self", "names", "strikes"] (B5 NM):=LC
def Jj(K:PySem.W.Frag)(C:A2):Sp:=fun g H Q _=>∃(x h n:A2) (b:A0 Str) (a:A2) (c:A0 JI),g = [.ref x,.ref n,.ref a]/\H x=some (.ins C h [])/\H n=some (.lst (b.map V.str))/\j0 b /\
 H a=some (.lst (J4 c))/\(∀q∈c,E2 H q)/\QP b c/\∀d e f,d.Perm b->d.Pairwise RB->e.Perm c->e.Pairwise VB->Sm [x] H f->JV C f x d e->Q .non f
theorem Hl(T:Tx K mg):JC P w K mg base KB 3 T.bw T.bv ["self", "names", "strikes"] (Jj K T.ab):=by
 refine T.bx.o1 LF fun cdv A outer s H vs Q E hr h=>?_
 .obtain⟨x,g,n,ss,a,ps,rfl,hx,hS,hN,hP,hI,hO,k⟩:=h;have hu:=t8 hr;refine⟨_,(B2 (E8 (C9 T.aS (Bl T) (Rm hr) (A8 (pv 1) B0)))
   (B2 (E8 (C9 T.aK (r8 T) (Rm hr) (A8 (pv 1) (A8 (pv 2) B0))))
   (B2 (SX K (pv 0) (D4 (Db K) T.ao G9 (A8 (pv 1) B0)))
   (B2 (SX K (pv 0) (D4 (Um K) T.ao G9 (A8 (pv 2) B0)))
   (B2 (SX K (pv 0) (Np (N':=["name"]) (cap:=[none]) (cl:=[]) (G0 trivial trivial) rfl (MQ K (QC K (pv 0))) (fun _ _ _ _=>by exact⟨(LR 0),D8,(pv 0),(K8 B0)⟩)))
   (B2 (SX K (pv 0) (Np (N':=["name"]) (cap:=[none]) (cl:=[]) (G0 trivial trivial) rfl (MQ K (QC K (pv 0))) (fun _ _ _ _=>by exact⟨(LR 0),D8,(pv 0),(K8 B0)⟩)))
   (B3 (K2 PassesOwn.never rfl (MQ K (QC K (pv 0))) (RY K (n:=2) (C8 (D6 (i:=3) LF.nd rfl (.inl rfl)) (C8 (D6 (i:=4) LF.nd rfl (.inl rfl)) M5)))
   (B2 (E8 (Hh K PySem.F.plainAttrs_list PySem.F.slot_list_append PySem.F.type_list_append J2 (K0 hu (QC K (pv 0)) (pv 4) (fun _ _=>rfl)) (A8 (pv 3) B0)))
   (B3 (E8 (Hh K PySem.F.plainAttrs_list PySem.F.slot_list_append PySem.F.type_list_append J2 (K0 hu (QC K (pv 0)) (pv 3) (fun _ _=>rfl)) (A8 (pv 4) B0))))))))))))),?_⟩
  obtain⟨hN1,hN2,hN3⟩:=id hN;obtain⟨hO1,hO2,hO3⟩:=id hO;refine B7 fun Z1 hZ1=>?_;refine A5 rfl ⟨n,ss,rfl,IW.of hS,hN,fun H1 s1=>?_⟩;refine hZ1 _ _ (B7 fun Z2 hZ2=>?_);refine A5 rfl (A5 rfl ⟨n,ss,a,ps,rfl,IW.of (s1 _ _ hS),IW.of (s1 _ _ hP),J5 s1 hI,hO,fun H2 s2=>?_⟩);refine hZ2 _ _ (B7 fun Z3 hZ3=>?_);have s12:=s1.trans s2;refine A5 rfl ⟨n,ss,rfl,IW.of (s12 _ _ hS),fun j p hl1 p1 w1=>?_⟩;have M:x≠j:=B1 (s12 _ _ hx) hl1;refine A5 rfl ⟨x,T.ab,g,[],rfl,by rw[B6 M];exact s12 _ _ hx,T.ah,T.aN,by decide,?_⟩;have hxa:a≠x:=U6 hP hx (by intro z;cases z);have k3:Sm [x] H (IU (IU H2 j (.lst (p.map V.str))) x (.ins T.ab g (O7 "names" (.ref j) []))):=(Sm.new s12.sm hl1).upd (by simp);have e3:(IU (IU H2 j (.lst (p.map V.str))) x (.ins T.ab g (O7 "names" (.ref j) []))) j=some (.lst (p.map V.str)):=by rw[B6 M.symm,A9]
  generalize hH3:IU (IU H2 j (.lst (p.map V.str))) x (.ins T.ab g (O7 "names" (.ref j) []))=H3 at k3 e3⊢;refine hZ3 _ _ (B7 fun Z4 hZ4=>?_);have x3:H3 x=some (.ins T.ab g [("names",.ref j)]):=by rw[<-hH3,A9];rfl
  have r:∀{b:A2},b≠x->b∉[x]:=fun h z=>h (AH.mp z);have U:∀q∈ps,E2 H3 q:=fun q D=>k3 _ _ (hI q D) (r (U6 (hI q D) hx (by intro z;cases z)));refine A5 rfl ⟨a,ps,rfl,IW.of (k3 _ _ hP (r hxa)),U,fun t y hl2 p2 w2=>?_⟩;have N:x≠t:=B1 x3 hl2;refine A5 rfl ⟨x,T.ab,g,[("names",.ref j)],rfl,by rw[B6 N];exact x3,T.ah,T.bp,by simp,?_⟩;have k4:Sm [x] H3 (IU (IU H3 t (.lst (J4 y))) x (.ins T.ab g (O7 "strikes" (.ref t) [("names",.ref j)]))):=(Sm.new (Sm.refl _ _) hl2).upd (by simp);have e4:(IU (IU H3 t (.lst (J4 y))) x (.ins T.ab g (O7 "strikes" (.ref t) [("names",.ref j)]))) t=some (.lst (J4 y)):=by rw[B6 N.symm,A9]
  have R:(IU (IU H3 t (.lst (J4 y))) x (.ins T.ab g (O7 "strikes" (.ref t) [("names",.ref j)]))) x=some (.ins T.ab g [("names",.ref j),("strikes",.ref t)]):=by rw[A9];rfl
  refine hZ4 _ _ ?_;show Tn _ _ _ _ (IU (IU H3 t (.lst (J4 y))) x (.ins T.ab g (O7 "strikes" (.ref t) [("names",.ref j)])));generalize IU (IU H3 t (.lst (J4 y))) x (.ins T.ab g (O7 "strikes" (.ref t) [("names",.ref j)]))=H4 at k4 e4 R⊢;have f4:H4 j=some (.lst (p.map V.str)):=k4 _ _ e3 (r M.symm);have u:∀q∈y,E2 H4 q:=fun q D=>k4 _ _ (U q (p2.mem_iff.mp D)) (r (U6 (U q (p2.mem_iff.mp D)) x3 (by intro z;cases z)));have ndn:p.Nodup:=p1.nodup_iff.mpr hN2;have lnn:p.length<=1000:=by rw[p1.length_eq];omega
  refine B7 fun Z5 hZ5=>?_;refine A5 rfl ⟨x,T.ab,g,_,A5 rfl ⟨R,T.ah,T.aN,rfl,j,rfl,⟨_,IW.of f4⟩,fun c hc=>Wy (K:=K) (ND (IW.of f4)) ⟨_,rfl⟩ ndn lnn hc fun _ I H5 s5 e5 D5 c5 n5=>?_⟩⟩;have x5:=s5 _ _ R;refine A5 rfl ⟨x,T.ab,g,A5 rfl ⟨x5,T.ah,T.az,by simp,?_⟩⟩;have k6:Sm [x] H5 (IU H5 x (.ins T.ab g (O7 "strikers_by_name" (.ref c) [("names",.ref j),("strikes",.ref t)]))):=(Sm.refl _ _).upd (by simp);have x6:(IU H5 x (.ins T.ab g (O7 "strikers_by_name" (.ref c) [("names",.ref j),("strikes",.ref t)]))) x=some (.ins T.ab g [("names",.ref j),("strikes",.ref t),("strikers_by_name",.ref c)]):=by rw[A9];rfl
  generalize IU H5 x (.ins T.ab g (O7 "strikers_by_name" (.ref c) [("names",.ref j),("strikes",.ref t)]))=H6 at k6 x6⊢;refine hZ5 _ _ (B7 fun Z6 hZ6=>?_);have W:∀{b:A2} {o:HO},H4 b=some o->b≠x->H6 b=some o:=fun e B=>k6 _ _ (s5 _ _ e) (r B);have f6:=W f4 M.symm;have g6:=W e4 N.symm;have c6:H6 c=some (.dK I):=k6 _ _ e5 (r (B1 R hc).symm);have cl6:∀n∈p,H6 (la I n)=some (.lst []):=fun n f=>k6 _ _ (c5 n f) (r (B1 R (D5.fr n f)).symm);refine A5 rfl ⟨x,T.ab,g,_,A5 rfl ⟨x6,T.ah,T.aN,rfl,j,rfl,⟨_,IW.of f6⟩,fun d hd=>Wy (K:=K) (ND (IW.of f6)) ⟨_,rfl⟩ ndn lnn hd fun _ L H7 s7 e7 D7 c7 n7=>?_⟩⟩;have x7:=s7 _ _ x6;refine A5 rfl ⟨x,T.ab,g,A5 rfl ⟨x7,T.ah,T.aE,by simp,?_⟩⟩;have k8:Sm [x] H7 (IU H7 x (.ins T.ab g (O7 "struck_by_name" (.ref d) [("names",.ref j),("strikes",.ref t),("strikers_by_name",.ref c)]))):=(Sm.refl _ _).upd (by simp);have x8:(IU H7 x (.ins T.ab g (O7 "struck_by_name" (.ref d) [("names",.ref j),("strikes",.ref t),("strikers_by_name",.ref c)]))) x=some (.ins T.ab g (wf j t c d)):=by rw[A9];rfl
  generalize IU H7 x (.ins T.ab g (O7 "struck_by_name" (.ref d) [("names",.ref j),("strikes",.ref t),("strikers_by_name",.ref c)]))=H8 at k8 x8⊢;refine hZ6 _ _ ?_;have O:∀{b:A2} {o:HO},H6 b=some o->b≠x->H8 b=some o:=fun e B=>k8 _ _ (s7 _ _ e) (r B);have f8:=O f6 M.symm;have g8:=O g6 N.symm;have c8:=O c6 (B1 R hc).symm;have d8:H8 d=some (.dK L):=k8 _ _ e7 (r (B1 x6 hd).symm);have cl8:∀n∈p,H8 (la I n)=some (.lst []):=fun n f=>O (cl6 n f) (B1 R (D5.fr n f)).symm;have dl8:∀n∈p,H8 (la L n)=some (.lst []):=fun n f=>k8 _ _ (c7 n f) (r (B1 x6 (D7.fr n f)).symm);have pin8:∀q∈y,E2 H8 q:=fun q D=>O (W (u q D) (U6 (u q D) R (by intro z;cases z))) (U6 (u q D) R (by intro z;cases z));have dif:∀n∈p,∀m∈p,la I n≠la L m:=fun n f m G=>B1 (cl6 n f) (D7.fr m G);have C:∀{b:A2} {o:HO},H4 b=some o->b≠x->(∀n∈p,b≠la I n)/\∀n∈p,b≠la L n:=fun e B=>⟨fun n f=>B1 e (D5.fr n f),fun n f=>B1 (W e B) (D7.fr n f)⟩;have kall:Sm [x] H H8:=fun b o e B=>by
   have hb':b≠x:=fun z=>B (by simp[z]);exact O (W (k4 _ _ (k3 _ _ e B) B) hb') hb'
  have odif:∀{b:A2} {o:HO},H b=some o->b≠x->(∀n∈p,b≠la I n)/\∀n∈p,b≠la L n:=fun e B=>C (k4 _ _ (k3 _ _ e (r B)) (r B)) B;have X:(∀n∈p,x≠la I n)/\∀n∈p,x≠la L n:=⟨fun n f=>B1 R (D5.fr n f),fun n f=>B1 x6 (D7.fr n f)⟩;have cdif:(∀n∈p,c≠la I n)/\∀n∈p,c≠la L n:=⟨fun n f=>(n5 n f).symm,fun n f=>B1 c6 (D7.fr n f)⟩;have Y:(∀n∈p,d≠la I n)/\∀n∈p,d≠la L n:=⟨fun n f=>(B1 (cl6 n f) hd).symm,fun n f=>(n7 n f).symm⟩;refine⟨_,rfl,x,T.ab,g,_,_,rfl,x8,T.ah,T.bp,rfl,t,rfl,⟨_,IW.of g8⟩,O1 (ND (IW.of g8)) (fun i σ S=>(∃v3 v4,σ = [some (.ref x),some (.ref n),some (.ref a),v3,v4]) /\
   (∀b o,H8 b=some o->((∀n∈p,b≠la I n)/\∀n∈p,b≠la L n)->S b=some o)/\(∀n∈p,S (la I n)=some (.lst ((B4 (y.take i) n).map V.str)))/\∀n∈p,S (la L n)=some (.lst ((C1 (y.take i) n).map V.str)))
   ⟨⟨_,_,rfl⟩,fun b o e _=>e,cl8,dl8⟩ ?_ ?_ ?_⟩
  .rintro i σ S _ ⟨_,J,_⟩ o e;exact J _ _ e (C e4 N.symm)
  .rintro i σ S v hv ⟨⟨v3,v4,rfl⟩,J,h2,h3⟩ D1 hD1 _;unfold J4 at hv;rw[AG]at hv;cases D:y[i]? with
   | none=>rw[D]at hv;cases hv
   | some q =>
    rw[D]at hv;cases hv;have G:q∈y:=AM D;have hq9:E2 S q:=J _ _ (pin8 q G) (C (u q G) (U6 (u q G) R (by intro z;cases z)));obtain⟨m1,Z⟩:=hO1 q (p2.mem_iff.mp G);have m1:q.2.1∈p:=p1.mem_iff.mpr m1;have Z:q.2.2∈p:=p1.mem_iff.mpr Z;have hlen:∀l:A0 JI,l.length<=200->∀n,(B4 l n).length<=200/\(C1 l n).length<=200:=fun l hl n=>by
     unfold B4 C1;rw[AB,AB];exact⟨Nat.le_trans (BR ..) hl,Nat.le_trans (BR ..) hl⟩
    have hl200:(y.take i).length<=200:=by
     rw[AR];have:=p2.length_eq;omega
    have x9:S x=some (.ins T.ab g (wf j t c d)):=J _ _ x8 X;refine⟨q.1,A5 rfl ⟨KQ.of hq9,rfl,_,A5 rfl (B9 rfl rfl ?_)⟩⟩;refine A5 rfl ⟨x,T.ab,g,_,A5 rfl ⟨x9,T.ah,T.az,rfl,A5 rfl ⟨c,.ref (la I q.2.2),rfl,by rw[<-D5.val _ Z];exact QH.k (k:=Sum.inr q.2.2) (J _ _ c8 cdif),.inl ⟨rfl,_,IW.of (h2 _ Z)⟩,A5 rfl ⟨_,B9 rfl rfl ⟨h2 _ Z,?_,?_⟩⟩⟩⟩⟩
    .rw[AB,sizeLine_eq];have:=(hlen _ hl200 q.2.2).1;omega
    have x10:(IU S (la I q.2.2) (.lst ((B4 (y.take i) q.2.2).map V.str ++ [.str q.2.1]))) x=some (.ins T.ab g (wf j t c d)):=by rw[B6 (X.1 _ Z)];exact x9
    have d10:(IU S (la I q.2.2) (.lst ((B4 (y.take i) q.2.2).map V.str ++ [.str q.2.1]))) d=some (.dK L):=by rw[B6 (Y.1 _ Z)];exact J _ _ d8 Y
    have l10:(IU S (la I q.2.2) (.lst ((B4 (y.take i) q.2.2).map V.str ++ [.str q.2.1]))) (la L q.2.1)=some (.lst ((C1 (y.take i) q.2.1).map V.str)):=by rw[B6 (dif _ Z _ m1).symm];exact h3 _ m1
    refine A5 rfl ⟨x,T.ab,g,_,A5 rfl ⟨x10,T.ah,T.aE,rfl,A5 rfl ⟨d,.ref (la L q.2.1),rfl,by rw[<-D7.val _ m1];exact QH.k (k:=Sum.inr q.2.1) d10,.inl ⟨rfl,_,IW.of l10⟩,A5 rfl ⟨_,B9 rfl rfl ⟨l10,?_,?_⟩⟩⟩⟩⟩
    .rw[AB,sizeLine_eq];have:=(hlen _ hl200 q.2.1).2;omega
    refine hD1 _ _ ⟨⟨_,_,rfl⟩,fun b o e B=>?_,fun m G=>?_,fun m G=>?_⟩
    .rw[B6 (B.2 _ m1),B6 (B.1 _ Z)];exact J b o e B
    .rw[B6 (dif m G _ m1),I_ D,Aa];by_cases e:q.2.2=m
     .rw[<-e,A9,AU rfl,AL];rfl
     .rw[AO e,CV,B6 (fun z=>e (D5.inj _ G _ Z z).symm)];exact h2 m G
    .rw[I_ D,Dq];by_cases e:q.2.1=m
     .rw[<-e,A9,AU rfl,AL];rfl
     .rw[AO e,CV,B6 (fun z=>e (D7.inj _ G _ m1 z).symm),B6 (dif _ Z _ G).symm];exact h3 m G
  .rintro σ S ⟨_,J,h2,h3⟩;have hlq:(J4 y).length=y.length:=by unfold J4;rw[AB]
   rw[hlq,BP]at h2 h3;refine k p y S p1 w1 p2 w2 (fun b o e B=>?_) ⟨⟨ndn,by rw[p1.length_eq];exact hN3,w1,fun q D=>⟨p1.mem_iff.mpr (hO1 q (p2.mem_iff.mp D)).1,p1.mem_iff.mpr (hO1 q (p2.mem_iff.mp D)).2⟩,(p2.map _).nodup_iff.mpr hO2,by rw[p2.length_eq];exact hO3,w2⟩,g,j,t,c,d,I,L,J _ _ x8 X,J _ _ f8 (C f4 M.symm),J _ _ g8 (C e4 N.symm),fun q G=>J _ _ (pin8 q G) (C (u q G) (U6 (u q G) R (by intro z;cases z))),J _ _ c8 cdif,J _ _ d8 Y,fun n f=>⟨_,D5.val n f,h2 n f⟩,fun n f=>⟨_,D7.val n f,h3 n f⟩⟩;have hb':b≠x:=fun z=>B (by simp[z]);exact J _ _ (kall b o e B) (odif e hb')
end
def JV.same{C:A2}{H H':Hp}{x:A2}{ns:A0 Str}{qs:A0 JI}(h:JV C H x ns qs)(s:CM H H'):JV C H' x ns qs:=by
 obtain⟨g,i,a,b,c,d,j,k,m,o,p,q,r,t,u,w⟩:=h;exact⟨g,i,a,b,c,d,j,k,s _ _ m,s _ _ o,s _ _ p,J5 s q,s _ _ r,s _ _ t,fun n f=>let⟨l,v,e⟩:=u n f;⟨l,v,s _ _ e⟩,fun n f=>let⟨l,v,e⟩:=w n f;⟨l,v,s _ _ e⟩⟩
section
variable{P:A6}{w:F1}{K:PySem.W.Frag}{mg:Str->A4 A1}{base:IV}
theorem t6:IT ["self"] ["self"] (B5 NB):=LC
def Fh(C:A2):Sp:=fun b H Q _=>∃(x:A2) (a:A0 Str) (c:A0 JI),b = [.ref x]/\JV C H x a c/\∀l,H l=none->Q (.ref l) (IU H l (.lst (a.map V.str)))
theorem I0(T:Tx K mg):JC P w K mg base KB 1 T.ad.f T.ad.fd ["self"] (Fh T.ab):=by
 refine T.ad.F.o1 t6 fun g A e s H m Q E n h=>?_
 .obtain⟨x,o,p,rfl,⟨q,i,a,b,c,d,r,t,j,l,u,v,y,z,B,C⟩,k⟩:=h;refine⟨_,(B3 (C0 (Tm (Ef K) T.aV X1 (A8 (QC K (pv 0)) B0)))),?_⟩;exact⟨_,rfl,x,T.ab,i,_,_,rfl,j,T.ah,T.aN,rfl,a,_,rfl,.inl (IW.of l),k⟩
theorem t9:IT ["self", "name"] ["self", "name"] (B5 NA):=LC
def Eo(C:A2):Sp:=fun b H Q _=>∃(x:A2) (n:Str) (a:A0 Str) (c:A0 JI),b = [.ref x,.str n]/\JV C H x a c/\n∈a/\Q .non H
theorem R4(T:Tx K mg):JC P w K mg base KB 1 T.an.f T.an.fd ["self", "name"] (Eo T.ab):=by
 refine T.an.F.o1 t9 fun g A e s H o Q E p h=>?_
 .obtain⟨x,n,q,r,rfl,⟨t,i,a,b,c,d,u,v,j,l,y,z,B,C,D,G⟩,m,k⟩:=h;refine⟨_,(B3 (G8 (C2 (Lp K) (pv 1) (QC K (pv 0)) rfl) (B3 v9) C7)),?_⟩;refine A5 rfl (A5 rfl ⟨x,T.ab,i,_,A5 rfl ⟨j,T.ah,T.aN,rfl,Bq (.inl (IW.of l)) ⟨_,rfl,?_⟩⟩⟩);rw[AK m];exact T8 k
theorem Cz:IT ["self", "name"] ["self", "name"] (B5 OD):=LC
def Ro(C:A2):Sp:=fun c H Q _=>∃(x:A2) (n:Str) (a:A0 Str) (b:A0 JI),c = [.ref x,.str n]/\JV C H x a b/\n∈a/\∀l,H l=none->Q (.ref l) (IU H l (.lst ((C1 b n).map V.str)))
theorem Z8(T:Tx K mg):JC P w K mg base KB 2 T.as.f T.as.fd ["self", "name"] (Ro T.ab):=by
 refine T.as.F.o1 Cz fun r A g s H C Q E i h=>?_
 .obtain⟨x,n,t,u,rfl,j,o,k⟩:=h;have y:=t8 i;obtain⟨D,p,a,b,c,d,G,I,q,J,L,M,N,z,O,B⟩:=id j;refine⟨_,(B2 (E8 (F0 (pv 0) T.ah T.an.m (R4 T) (Rm i) T.an.b .nil M6 (A8 (pv 1) B0)))
   (B3 (C0 (Tm (Ef K) T.aV X1 (A8 (K0 y (QC K (pv 0)) (pv 1) (fun _ _=>rfl)) B0))))),?_⟩
  refine A5 rfl ⟨x,p,A5 rfl ⟨q,rfl,A5 rfl ⟨x,n,t,u,rfl,j,o,?_⟩⟩⟩;obtain⟨l,v,e⟩:=B n o;exact⟨_,rfl,x,T.ab,p,_,_,rfl,q,T.ah,T.aE,rfl,_,rfl,d,_,rfl,by rw[<-v];exact QH.k (k:=Sum.inr n) z,l,_,rfl,.inl (IW.of e),k⟩
theorem Am:IT ["self", "name"] ["self", "name"] (B5 NL):=LC
def Ja(C:A2):Sp:=fun c H Q _=>∃(x:A2) (n:Str) (a:A0 Str) (b:A0 JI),c = [.ref x,.str n]/\JV C H x a b/\n∈a/\∀l,H l=none->Q (.ref l) (IU H l (.lst ((B4 b n).map V.str)))
theorem K4(T:Tx K mg):JC P w K mg base KB 2 T.ag.f T.ag.fd ["self", "name"] (Ja T.ab):=by
 refine T.ag.F.o1 Am fun r A g s H C Q E i h=>?_
 .obtain⟨x,n,t,u,rfl,j,o,k⟩:=h;have y:=t8 i;obtain⟨D,p,a,b,c,d,G,I,q,J,L,M,z,N,B,O⟩:=id j;refine⟨_,(B2 (E8 (F0 (pv 0) T.ah T.an.m (R4 T) (Rm i) T.an.b .nil M6 (A8 (pv 1) B0)))
   (B3 (C0 (Tm (Ef K) T.aV X1 (A8 (K0 y (QC K (pv 0)) (pv 1) (fun _ _=>rfl)) B0))))),?_⟩
  refine A5 rfl ⟨x,p,A5 rfl ⟨q,rfl,A5 rfl ⟨x,n,t,u,rfl,j,o,?_⟩⟩⟩;obtain⟨l,v,e⟩:=B n o;exact⟨_,rfl,x,T.ab,p,_,_,rfl,q,T.ah,T.az,rfl,_,rfl,c,_,rfl,by rw[<-v];exact QH.k (k:=Sum.inr n) z,l,_,rfl,.inl (IW.of e),k⟩
end
def Tz{l:A0 Str}{k y:Str}:y∈Vg l k↔y∈l\/y=k:=by
 unfold Vg;by_cases h:k∈l
 .rw[AU h];exact⟨.inl,fun z=>z.elim id fun e=>e▸h⟩
 .rw[AO h,AS,AH]
def Zr{l:A0 Str}{k:Str}(a:l.Nodup):(Vg l k).Nodup:=by
 unfold Vg;by_cases h:k∈l
 .rw[AU h];exact a
 .rw[AO h];exact Rb a h
def Vz(l:A0 Str)(k:Str):(Vg l k).length<=l.length+1:=by
 unfold Vg;split
 .omega
 .rw[BJ];simp
def Te{w:F1}{J:It}{a D:A2}{ys:A0 Str}{H0 H:Hp}{n:Nat}{σ:St}{Q:St->Hp->Prop}{Sg:St->Prop}{d:Nat}(as:LA J (ys.map V.str) a H)(hσ:Sg σ)(A:∀σ v,Sg σ->Sg (σ.set d (some v))/\(σ.set d (some v))[d]?=some (some v)){l:A0 Str}(C:H D=some (Ei w D l))(m:a≠D)(E:l.Nodup)(I:l.length+ys.length<=4000)
  (F:CM H0 H) (p:H0 D=none) (q:∀σ b H',Sg σ->CM H0 H'->H' D=some (Ei w D b)->b.Nodup->b.length<=l.length+ys.length->(∀y,y∈b↔y∈l\/y∈ys)->Q σ H') :
  Y7 (J7 d) X4 (Fa w D (Dr d)) J σ H Q:=by
 refine G7 as (fun i σ c=>Sg σ/\CM H0 c/\(∀o,H a=some o->c a=some o)/\∃b,c D=some (Ei w D b)/\b.Nodup/\b.length<=l.length+i/\∀y,y∈b↔y∈l\/y∈ys.take i)
  ⟨hσ,F,fun _ e=>e,l,C,E,Nat.le_refl _,fun y=>by simp⟩ (fun i σ c _ ⟨_,_,k,_⟩=>k) ?_ ?_
 .rintro i σ c x N f ⟨hσ1,r,B,b,s,t,u,g⟩ G;rw[AG]at f;cases j:ys[i]? with
  | none=>rw[j]at f;cases f
  | some y =>
   rw[j]at f;cases f;have K:=(AD.mp j).1;refine Q4 ?_;refine⟨_,(A σ _ hσ1).2,b,y,rfl,s,by omega,G _ _ ⟨(A σ _ hσ1).1,r.upd p,fun o e=>?_,Vg b y,A9,Zr t,?_,fun z=>?_⟩⟩
   .rw[B6 m];exact B o e
   .have:=Vz b y;omega
   .rw[Tz,g,I_ j,AS,AH,or_assoc]
 .rintro σ c ⟨hσ1,r,B,b,s,t,u,g⟩;rw[AB]at u g;rw[BP]at g;exact q σ b c hσ1 r s t u g
def OG{qs:A0 JI}{n y:Str}:y∈C1 qs n↔∃q∈qs,q.2.1=n/\q.2.2=y:=by
 unfold C1;rw[AI];constructor
 .rintro⟨q,c,e⟩;obtain⟨a,b⟩:=BI.mp c;exact⟨q,a,BL b,e⟩
 .rintro⟨q,a,b,d⟩;exact⟨q,BI.mpr ⟨a,AK b⟩,d⟩
def QE{qs:A0 JI}{n y:Str}:y∈B4 qs n↔∃q∈qs,q.2.2=n/\q.2.1=y:=by
 unfold B4;rw[AI];constructor
 .rintro⟨q,c,e⟩;obtain⟨a,b⟩:=BI.mp c;exact⟨q,a,BL b,e⟩
 .rintro⟨q,a,b,d⟩;exact⟨q,BI.mpr ⟨a,AK b⟩,d⟩
def Fc(qs:A0 JI)(n:Str):(C1 qs n).length<=qs.length:=by
 unfold C1;rw[AB];exact BR ..
def U3(qs:A0 JI)(n:Str):(B4 qs n).length<=qs.length:=by
 unfold B4;rw[AB];exact BR ..
section
variable{P:A6}{w:F1}{K:PySem.W.Frag}{mg:Str->A4 A1}{base:IV}
theorem u8:IT ["web", "some"] ["web", "some"] (B5 MY):=LC
def Wm(K:PySem.W.Frag)(C:A2)(f:A0 JI->Str->A0 Str):Sp:=fun h H Q _=>∃(x a:A2) (c e:A0 Str) (g:A0 JI),h = [.ref x,.ref a]/\JV C H x e g/\RO K H a (c.map V.str)/\(∀n∈c,n∈e) /\
 ∀l (b:A0 Str) d,H l=none->CM H d->d l=some (.lst (b.map V.str))->(∀y,y∈b↔∃n∈c,y∈f g n)->b.Pairwise RB->b.Nodup->b.length<=100->Q (.ref l) d
theorem J8(T:Tx K mg):JC P w K mg base KB 3 T.ap.f T.ap.fd ["web", "some"] (Wm K T.ab C1):=by
 refine T.ap.F.o1 u8 fun cdv A S s H vs Q E hr h=>?_
 .obtain⟨x,a,U,ns,O,rfl,hW,hS,hM,k⟩:=h;have hu:=t8 hr;obtain⟨W,dx,a1,b,c,d,kc,kd,e1,_⟩:=id hW;have j:∀l:A0 Str,l.Nodup->(∀y∈l,∃n∈U,y∈C1 O n)->l.length<=100:=fun l nd h=>by
   refine Nat.le_trans (nd.length_le_of_subset fun y g=>?_) W.len;obtain⟨n,_,X⟩:=h y g;obtain⟨q,hq,_,e⟩:=OG.mp X;rw[<-e];exact(W.mem q hq).2
  refine⟨_,(B3 (C0 (D4 (Lb w) T.ao G9 (A8 (zBe w (N':=["name", "other", "web"]) (cap:=[none,none,some 0]) (cl:=[("web",_)]) (G0 ⟨⟨rfl,rfl,rfl,rfl⟩,trivial⟩ ⟨rfl,trivial⟩) (piS K (pv 1)) (fun _ _ _ _=>by exact⟨(LR 0),D8,(MQ K (F0 (pv 2) T.ah T.as.m (Z8 T) (Rm hr) T.as.b .nil M6 (A8 (pv 0) B0))),(LR 1),D8,(pv 1)⟩)) B0)))),?_⟩;dsimp only[Tn,We,J7,Wq,SJ,V9,Jh];refine w5 (by rfl) hS ?_;intro J as D hD;refine G7 as (fun i σ r=>(∃u B,σ = [u,B,some (.ref x)])/\CM H r/\∃l,r D=some (Ei w D l)/\l.Nodup/\∀y,y∈l↔∃n∈U.take i,y∈C1 O n)
   ⟨⟨_,_,rfl⟩,CM.new hD,[],A9,GQ,fun y=>by simp⟩ (fun i σ r _ ⟨_,o,_⟩=>o.at a) ?_ ?_
  .rintro i σ r v N C ⟨⟨u,B,rfl⟩,o,l,R,G,t⟩ hN;rw[AG]at C;cases g:U[i]? with
   | none=>rw[g]at C;cases C
   | some n =>
    rw[g]at C;cases C;have hn:n∈ns:=hM n (AM g);have Y:l.length<=100:=j l G fun y g=>by
     obtain⟨m,I,h⟩:=(t y).mp g;exact⟨m,CJ I,h⟩
    refine Q4 ?_;refine A5 rfl ⟨x,dx,A5 rfl ⟨o _ _ e1,rfl,A5 rfl ⟨x,n,ns,O,rfl,hW.same o,hn,fun p L=>?_⟩⟩⟩;have M:D≠p:=B1 R L;refine⟨p,rfl,⟨_,IW.of A9⟩,Te (H0:=H) (n:=0) (ND (IW.of A9)) (Sg:=fun σ=>∃u B,σ = [u,B,some (.ref x)]) ⟨_,_,rfl⟩ (fun σ v ⟨u,B,e⟩=>by rw[e];exact⟨⟨_,_,rfl⟩,rfl⟩) (by rw[B6 M];exact R) M.symm G ?_ (o.trans (CM.new L)) hD ?_⟩
    .have:=Fc O n;have:=W.lenq;omega
    .rintro σ l' H2 hσ Z e3 n3 _ m3;refine hN _ _ ⟨hσ,Z,l',e3,n3,fun y=>?_⟩;rw[m3,t,I_ g];constructor
     .rintro(⟨m,I,h⟩ | h)
      .exact⟨m,EO _ I,h⟩
      .exact⟨n,BZ _ (AH.mpr rfl),h⟩
     .rintro⟨m,I,h⟩;rcases AS.mp I with z | z
      .exact .inl ⟨m,z,h⟩
      .rw[AH.mp z]at h;exact .inr h
  .rintro σ r ⟨_,o,l,R,G,t⟩;rw[AB,BP]at t;refine⟨D,l,rfl,R,fun p hs L pm srt=>?_⟩;have Z:CM H (IU r p (.lst (hs.map V.str))):=o.trans (CM.new L);exact k p hs _ (o.free L) Z A9 (fun y=>by rw[pm.mem_iff];exact t y) srt (pm.nodup_iff.mpr G) (by rw[pm.length_eq];exact j l G fun y g=>(t y).mp g)
end
def f7(qs:A0 JI)(a b:Str):Prop:=∃q∈qs,q.2.1=a/\q.2.2=b
def JM{qs:A0 JI}{a b:Str}:b∈C1 qs a↔f7 qs a b:=OG
instance(qs:A0 JI)(a b:Str):Decidable (f7 qs a b):=inferInstanceAs (Decidable (∃q∈qs,q.2.1=a/\q.2.2=b))
def Cf(qs:A0 JI)(ss:A0 Str):Bool:=ss.all fun n=>decide (¬∃m∈ss,f7 qs m n)
def Zo(K:PySem.W.Frag)(C:A2)(f:A0 Str->A0 JI->A0 Str->Bool):Sp:=fun g H Q _=>∃(x a:A2) (b c:A0 Str) (d:A0 JI),g = [.ref x,.ref a]/\JV C H x c d/\RO K H a (b.map V.str)/\(∀n∈b,n∈c)/\b.length<=100 /\
 ∀e,CM H e->Q (.bl (f c d b)) e
def Ke(K:PySem.W.Frag)(C:A2)(f:A0 Str->A0 JI->A0 Str->Prop):Sp:=fun h H Q _=>∃(x a:A2) (c d:A0 Str) (e:A0 JI),h = [.ref x,.ref a]/\JV C H x d e/\RO K H a (c.map V.str)/\(∀n∈c,n∈d)/\c.length<=100 /\
 ∀(b:Bool) g,(b=true↔f d e c)->CM H g->Q (.bl b) g
def Bv(qs:A0 JI)(ss:A0 Str):Prop:=∀m∈ss,∀n∈ss,¬f7 qs m n
def zDg(qs:A0 JI)(ss:A0 Str):Prop:=∀x,∀n∈ss,f7 qs x n->∃m∈ss,f7 qs m x
def QB{qs:A0 JI}{ss:A0 Str}:Cf qs ss=true↔Bv qs ss:=by
 unfold Cf Bv;rw[CI];constructor
 .intro h m a n b c;exact BL (h n b) ⟨m,a,c⟩
 .intro h n b;refine AK ?_;rintro⟨m,a,c⟩;exact h m a n b c
def JG{qs:A0 JI}{a b:Str}:a∈B4 qs b↔f7 qs a b:=by
 unfold B4 f7;rw[AI];constructor
 .rintro⟨q,c,rfl⟩;obtain⟨d,e⟩:=BI.mp c;exact⟨q,d,rfl,BL e⟩
 .rintro⟨q,c,rfl,rfl⟩;exact⟨q,BI.mpr ⟨c,AK rfl⟩,rfl⟩
section
variable{P:A6}{w:F1}{K:PySem.W.Frag}{mg:Str->A4 A1}{base:IV}
theorem OT:IT ["web", "some", "hit"] ["web", "some"] (B5 P_):=LC
theorem Hv(T:Tx K mg):JC P w K mg base KB 4 T.a8.f T.a8.fd ["web", "some"] (Zo K T.ab fun _=>Cf):=by
 refine T.a8.F.o1 OT fun O A y s H vs Q E R h=>?_
 .obtain⟨x,a,g,S,p,rfl,U,G,W,hl,k⟩:=h;refine⟨_,(B2 (C3 (i:=2) OT.nd rfl (.inr rfl) (C9 T.ap (J8 T) (Rm R) (A8 (pv 0) (A8 (pv 1) B0))))
   (B3 (C0 (D4 (Y3 K) T.aR Y8 (A8 (K6 (N':=["name", "hit"]) (cap:=[none,some 2]) (cl:=[("hit",_)]) (G0 ⟨⟨rfl,rfl,rfl,rfl⟩,trivial⟩ ⟨rfl,trivial⟩) rfl (piS K (pv 1)) (fun _ _ _ _=>by exact⟨(LR 0),D8,(D9 (Lp K) (pv 0) (pv 1) rfl)⟩)) B0))))),?_⟩
  refine A5 rfl (A5 rfl (Pr (a:=x) (b:=a) (c:=g) (d:=S) (e:=p) rfl U G W fun l j I X q Y Z _ _ _=>?_));dsimp only[Tn,We,J7,Wq,SJ,V9,Jh];refine w5 (by rfl) ((q.at a).seq G) ?_;intro J as D L;refine G7 as (fun i σ r=>(∃M,σ = [M,some (.ref l)])/\CM I r/\r D=some (.lst ((g.take i).map fun n=>V.bl (!decide (n∈j)))))
   ⟨⟨_,rfl⟩,CM.new L,A9⟩ (fun i σ I _ ⟨_,q,_⟩=>q.at a) ?_ ?_
  .rintro i σ r v N o ⟨⟨M,rfl⟩,t,u⟩ hN;rw[AG]at o;cases z:g[i]? with
   | none=>rw[z]at o;cases o
   | some n =>
    rw[z]at o;cases o;refine Q4 ?_;refine A5 rfl (A5 rfl (Bq (.inl (IW.of (t _ _ Y))) ⟨_,u,?_,hN _ _ ⟨⟨_,rfl⟩,t.upd L,?_⟩⟩))
    .rw[AB,AR,sizeLine_eq];omega
    .rw[A9,I_ z,AL];rfl
  .rintro σ r ⟨_,t,u⟩;rw[AB,BP]at u;refine⟨D,g.map fun n=>!decide (n∈j),rfl,IW.of (by rw[u,BO];rfl),?_⟩;have e:(g.map fun n=>!decide (n∈j)).all id=Cf p g:=by
    unfold Cf;rw[GV];congr 1;funext n;show(!decide (n∈j))=decide (¬∃m∈g,f7 p m n);have:n∈j↔∃m∈g,f7 p m n:=by
     rw[Z];exact⟨fun⟨m,B,C⟩=>⟨m,B,JM.mp C⟩,fun⟨m,B,C⟩=>⟨m,B,JM.mpr C⟩⟩
    rw[decide_not];congr 1;exact IS.mpr this
   rw[e];exact k _ (q.trans t)
theorem d6:IT ["web", "some"] ["web", "some"] (B5 LZ):=LC
theorem X5(T:Tx K mg):JC P w K mg base KB 3 T.aA.f T.aA.fd ["web", "some"] (Wm K T.ab B4):=by
 refine T.aA.F.o1 d6 fun cdv A S s H vs Q E hr h=>?_
 .obtain⟨x,a,U,ns,O,rfl,hW,hS,hM,k⟩:=h;have hu:=t8 hr;obtain⟨W,dx,a1,b,c,d,kc,kd,e1,_⟩:=id hW;have j:∀l:A0 Str,l.Nodup->(∀y∈l,∃n∈U,y∈B4 O n)->l.length<=100:=fun l nd h=>by
   refine Nat.le_trans (nd.length_le_of_subset fun y g=>?_) W.len;obtain⟨n,_,X⟩:=h y g;obtain⟨q,hq,_,e⟩:=QE.mp X;rw[<-e];exact(W.mem q hq).1
  refine⟨_,(B3 (C0 (D4 (Lb w) T.ao G9 (A8 (zBe w (N':=["name", "striker", "web"]) (cap:=[none,none,some 0]) (cl:=[("web",_)]) (G0 ⟨⟨rfl,rfl,rfl,rfl⟩,trivial⟩ ⟨rfl,trivial⟩) (piS K (pv 1)) (fun _ _ _ _=>by exact⟨(LR 0),D8,(MQ K (F0 (pv 2) T.ah T.ag.m (K4 T) (Rm hr) T.ag.b .nil M6 (A8 (pv 0) B0))),(LR 1),D8,(pv 1)⟩)) B0)))),?_⟩;dsimp only[Tn,We,J7,Wq,SJ,V9,Jh];refine w5 (by rfl) hS ?_;intro J as D hD;refine G7 as (fun i σ r=>(∃u B,σ = [u,B,some (.ref x)])/\CM H r/\∃l,r D=some (Ei w D l)/\l.Nodup/\∀y,y∈l↔∃n∈U.take i,y∈B4 O n)
   ⟨⟨_,_,rfl⟩,CM.new hD,[],A9,GQ,fun y=>by simp⟩ (fun i σ r _ ⟨_,o,_⟩=>o.at a) ?_ ?_
  .rintro i σ r v N C ⟨⟨u,B,rfl⟩,o,l,R,G,t⟩ hN;rw[AG]at C;cases g:U[i]? with
   | none=>rw[g]at C;cases C
   | some n =>
    rw[g]at C;cases C;have hn:n∈ns:=hM n (AM g);have Y:l.length<=100:=j l G fun y g=>by
     obtain⟨m,I,h⟩:=(t y).mp g;exact⟨m,CJ I,h⟩
    refine Q4 ?_;refine A5 rfl ⟨x,dx,A5 rfl ⟨o _ _ e1,rfl,A5 rfl ⟨x,n,ns,O,rfl,hW.same o,hn,fun p L=>?_⟩⟩⟩;have M:D≠p:=B1 R L;refine⟨p,rfl,⟨_,IW.of A9⟩,Te (H0:=H) (n:=0) (ND (IW.of A9)) (Sg:=fun σ=>∃u B,σ = [u,B,some (.ref x)]) ⟨_,_,rfl⟩ (fun σ v ⟨u,B,e⟩=>by rw[e];exact⟨⟨_,_,rfl⟩,rfl⟩) (by rw[B6 M];exact R) M.symm G ?_ (o.trans (CM.new L)) hD ?_⟩
    .have:=U3 O n;have:=W.lenq;omega
    .rintro σ l' H2 hσ Z e3 n3 _ m3;refine hN _ _ ⟨hσ,Z,l',e3,n3,fun y=>?_⟩;rw[m3,t,I_ g];constructor
     .rintro(⟨m,I,h⟩ | h)
      .exact⟨m,EO _ I,h⟩
      .exact⟨n,BZ _ (AH.mpr rfl),h⟩
     .rintro⟨m,I,h⟩;rcases AS.mp I with z | z
      .exact .inl ⟨m,z,h⟩
      .rw[AH.mp z]at h;exact .inr h
  .rintro σ r ⟨_,o,l,R,G,t⟩;rw[AB,BP]at t;refine⟨D,l,rfl,R,fun p hs L pm srt=>?_⟩;have Z:CM H (IU r p (.lst (hs.map V.str))):=o.trans (CM.new L);exact k p hs _ (o.free L) Z A9 (fun y=>by rw[pm.mem_iff];exact t y) srt (pm.nodup_iff.mpr G) (by rw[pm.length_eq];exact j l G fun y g=>(t y).mp g)
theorem MX:IT ["web", "some", "hit"] ["web", "some"] (B5 NG):=LC
theorem Ac(T:Tx K mg):JC P w K mg base KB 4 T.aP.f T.aP.fd ["web", "some"] (Ke K T.ab fun _=>zDg):=by
 refine T.aP.F.o1 MX fun cdv A u s H vs Q E I h=>?_
 .obtain⟨x,a,J,L,M,rfl,O,R,S,hl,k⟩:=h;refine⟨_,(B2 (C3 (i:=2) MX.nd rfl (.inr rfl) (C9 T.ap (J8 T) (Rm I) (A8 (pv 0) (A8 (pv 1) B0))))
   (B3 (C0 (D4 (Y3 K) T.aR Y8 (A8 (K6 (N':=["name", "hit"]) (cap:=[none,some 2]) (cl:=[("hit",_)]) (G0 ⟨⟨rfl,rfl,rfl,rfl⟩,trivial⟩ ⟨rfl,trivial⟩) rfl (MQ K (C9 T.aA (X5 T) (Rm I) (A8 (pv 0) (A8 (pv 1) B0)))) (fun _ _ _ _=>by exact⟨(LR 0),D8,(D9 (Hg K) (pv 0) (pv 1) rfl)⟩)) B0))))),?_⟩
  refine A5 rfl (A5 rfl (Pr (a:=x) (b:=a) (c:=J) (d:=L) (e:=M) rfl O R S fun l U H1 hl0 j e1 W _ _ _=>?_));dsimp only[Tn,We,J7,Wq,SJ,V9,Jh];refine A5 rfl (A5 rfl (Pr (a:=x) (b:=a) (c:=J) (d:=L) (e:=M) rfl (O.same j) ((j.at a).seq R) S fun X z H2 hl2 Y Z m2 _ _ RP=>?_));have o:=Y _ _ e1;refine⟨X,rfl,⟨_,IW.of Z⟩,fun D hD=>?_⟩;refine G7 (ND (K:=K) (IW.of Z)) (fun i σ q=>(∃v0,σ = [v0,some (.ref l)])/\CM H2 q/\q D=some (.lst ((z.take i).map fun n=>V.bl (decide (n∈U)))))
   ⟨⟨_,rfl⟩,CM.new hD,A9⟩ (fun i σ H1 _ ⟨_,j,_⟩=>j.at X) ?_ ?_
  .rintro i σ q v N p ⟨⟨v0,rfl⟩,r,t⟩ hN;rw[AG]at p;cases g:z[i]? with
   | none=>rw[g]at p;cases p
   | some n =>
    rw[g]at p;cases p;refine Q4 ?_;refine A5 rfl (A5 rfl (S8 (.inl (IW.of (r _ _ o))) ⟨_,t,?_,hN _ _ ⟨⟨_,rfl⟩,r.upd hD,?_⟩⟩))
    .rw[AB,AR,sizeLine_eq];omega
    .rw[A9,I_ g,AL];rfl
  .rintro σ q ⟨_,r,t⟩;rw[AB,BP]at t;refine⟨D,z.map fun n=>decide (n∈U),rfl,IW.of (by rw[t,BO];rfl),?_⟩;refine k _ _ ?_ ((j.trans Y).trans r);rw[GV,CI];constructor
   .intro h y n B g;have:=BL (h y ((m2 y).mpr ⟨n,B,JG.mpr g⟩));obtain⟨m,C,G⟩:=(W y).mp this;exact⟨m,C,JM.mp G⟩
   .intro h y g;obtain⟨n,B,g⟩:=(m2 y).mp g;obtain⟨m,C,G⟩:=h y n B (JG.mp g);exact AK ((W y).mpr ⟨m,C,JM.mpr G⟩)
end
def Wk(qs:A0 JI)(ss:A0 Str):Prop:=Bv qs ss/\zDg qs ss
section
variable{P:A6}{w:F1}{K:PySem.W.Frag}{mg:Str->A4 A1}{base:IV}
theorem Fs:IT ["web", "some"] ["web", "some"] (B5 QU):=⟨rfl,rfl,rfl,by decide +kernel,rfl,by decide +kernel,by decide +kernel⟩
theorem Se(T:Tx K mg):JC P w K mg base KB 5 T.bm.f T.bm.fd ["web", "some"] (Ke K T.ab fun _=>Wk):=by
 have i:=Hv (P:=P) (w:=w) (base:=base) T;have g:=Ac (P:=P) (w:=w) (base:=base) T;have I:=Fs;refine T.bm.F.ok Fs (fun v H Q E h=>?_) (fun y A n s H v Q E p h=>?_)
 .obtain⟨x,a,j,o,l,rfl,_⟩:=h;rfl
 .obtain⟨x,a,j,o,l,rfl,q,r,t,u,k⟩:=h;refine⟨_,(B3 (C0 (S0 (C9 T.a8 i (p.mono (by decide)) (A8 (pv 0) (A8 (pv 1) B0))) (U2 (C9 T.aP g (p.mono (by decide)) (A8 (pv 0) (A8 (pv 1) B0))))))),?_⟩;refine A5 rfl (A5 rfl (Zs (a:=x) (b:=a) (c:=j) (d:=o) (e:=l) rfl q r t u fun B m=>⟨Cf l j,rfl,?_⟩));refine Q6 (fun c=>?_) (fun c=>?_)
  .refine A5 rfl (A5 rfl (Zs (a:=x) (b:=a) (c:=j) (d:=o) (e:=l) rfl (q.same m) ((m.at a).seq r) t u fun b C D G=>k b C ?_ (m.trans G)));exact D.trans ⟨fun h=>⟨QB.mp c,h⟩,fun h=>h.2⟩
  .exact k false B ⟨fun z=>(by cases z),fun h=>absurd (QB.mpr h.1) c⟩ m
theorem PM:IT ["_law_cell", "_law_k", "_law_m"] ["_law_cell", "_law_k"] (B5 QJ):=LC
def zBq:Sp:=fun b H Q _=>∃(a k:Int),b = [.int a,.int k]/\0<=k/\k<=2000000/\∀m:Int,0<=m->m<1999999973->Q (.int m) H
theorem Ck(T:Tx K mg):JC P w K mg base KB 1 T.a6.f T.a6.fd ["_law_cell", "_law_k"] zBq:=by
 refine T.a6.F.o1 PM fun d A b s H e Q E g h=>?_
 .obtain⟨a,k,rfl,j,l,q⟩:=h;refine⟨_,(B2 (C3 (i:=2) PM.nd rfl (.inl rfl) (D0 Fj (D0 Cd (D0 U4 (D0 U4 (D0 Fj (pv 0) B8) (D0 Cd (D0 Cd (pv 1) (pv 1)) B8)) B8) B8) B8))
   (B3 (C0 (D0 Fj (D0 Cd (pv 2) (pv 2)) B8)))),?_⟩
  refine A5 rfl (B9 rfl rfl ⟨(show(0:Int)<2147483629 by decide),A5 rfl (A5 rfl (B9 rfl rfl ⟨.inl ⟨by omega,by omega⟩,B9 rfl rfl ⟨.inr ⟨by decide,by decide⟩,B9 rfl rfl (B9 rfl rfl (B9 rfl rfl ⟨.inr ⟨by decide,by decide⟩,B9 rfl rfl ⟨(show(0:Int)<2147483647 by decide),?_⟩⟩))⟩⟩))⟩);generalize c:(a % 2147483629+k*k*7919+11)*48271 % 2147483647=m;have n:0<=m:=by rw[<-c];exact GX _ (by decide)
  have o:m<2147483647:=by rw[<-c];exact FZ _ (by decide)
  exact⟨_,rfl,_,rfl,_,_,rfl,rfl,.inl ⟨by omega,by omega⟩,_,_,rfl,rfl,(show(0:Int)<1999999973 by decide),q _ (GX _ (by decide)) (FZ _ (by decide))⟩
def JE(H:Hp)(p:A2)(c:Int):Prop:=∃a b:Int,H p=some (.lst [.int a,.int b,.int c])/\0<=c
theorem JE.isS{H:Hp}{p:A2}{c:Int}(h:JE H p c):(H p).isSome=true:=by
 obtain⟨_,_,e,_⟩:=h;rw[e];rfl
theorem JE.get{H:Hp}{p:A2}{c:Int}(h:JE H p c):H p=some ((H p).get h.isS):=(Option.some_get _).symm
theorem JE.cast{H:Hp}{p:A2}{c a:Int}(h:JE H p c)(e:c=a):JE H p a:=e▸h
theorem JE.upd{H:Hp}{p a:A2}{c:Int}{o:HO}(h:JE H p c)(n:p≠a):JE (L2.IU H a o) p c:=by
 obtain⟨x,y,e,z⟩:=h;exact⟨x,y,by rw[B6 n];exact e,z⟩
theorem JE.same{H H':Hp}{p:A2}{c:Int}(h:JE H p c)(s:CM H H'):JE H' p c:=by
 obtain⟨x,y,e,z⟩:=h;exact⟨x,y,s _ _ e,z⟩
theorem zGl(c:Bool):-(2^64) <(if c=true then(1:Int)else 0)/\(if c=true then(1:Int)else 0)<2^64:=by cases c<;>exact⟨by decide,by decide⟩
theorem OS:IT ["_law_script", "_law_k", "_law_cell"] ["_law_script", "_law_k"] (B5 PY):=LC
def zAr(K:PySem.W.Frag):Sp:=fun b H Q _=>∃(p:A2) (c:A0 Int) (k:Nat),b = [.ref p,.int (k:Int)]/\IW K H p (c.map V.int)/\k<=1000/\∀l a,H l=none->CM H a->JE a l 0->Q (.ref l) a
theorem Iw(T:Tx K mg):JC P w K mg base KB 1 T.ba.f T.ba.fd ["_law_script", "_law_k"] (zAr K):=by
 refine T.ba.F.o1 OS fun o A g s H t Q E u h=>?_
 .obtain⟨p,d,k,rfl,n,v,q⟩:=h;refine⟨_,(B2 (C3 (i:=2) OS.nd rfl (.inl rfl) (Ug (C2 zDh (pv 1) (D4 (J6 K) T.aj J3 (A8 (pv 0) B0)) (C5 _)) (K3 (OL K) (pv 0) (pv 1) (fun _ _=>rfl)) B8))
   (B3 (C0 (K8 (A8 (D0 Cd (D4 Ka T.bC Xg (A8 (pv 2) B0)) (Tm Qi T.bD Wn (A8 (D9 zFc (D4 Ka T.bC Xg (A8 (pv 2) B0)) (D0 zDj B8 B8) (C5 _)) B0))) (A8 (D0 U4 (pv 2) (D0 Cd B8 (pv 1))) (A8 B8 B0))))))),?_⟩
  refine A5 rfl (A5 rfl (B9 (a:=p) rfl (.inl n) (B9 rfl rfl (A5 rfl ?_))));have j:decide ((k:Int) <((d.map V.int).length:Int))=true->∃c:Int,SR (d.map V.int) (k:Int)=some (.int c):=fun b=>by
   have b:(k:Int) <((d.map V.int).length:Int):=BL b;rw[AB]at b;have m:d[k]?=some (d[k]'(by omega)):=AC (by omega);exact⟨_,S4 (by rw[AG,m];rfl)⟩
  refine Q6 (fun b=>?_) (fun b=>?_)
  .obtain⟨c,r⟩:=j b;refine A5 rfl (A5 rfl ⟨p,_,B9 rfl rfl ⟨n,r,?_⟩⟩)
   (repeat first | refine⟨_,rfl,?_⟩ | refine⟨_,_,rfl,rfl,?_⟩)
   refine⟨⟨by decide,by decide,by decide⟩,?_⟩
   (repeat first | refine⟨_,rfl,?_⟩ | refine⟨_,_,rfl,rfl,?_⟩)
   refine .inr ⟨_,rfl,?_⟩
   (repeat first | refine⟨_,rfl,?_⟩ | refine⟨_,_,rfl,rfl,?_⟩)
   refine⟨.inr ?_,?_⟩
   .exact zGl _
   (repeat first | refine⟨_,rfl,?_⟩ | refine⟨_,_,rfl,rfl,?_⟩)
   refine⟨.inl ⟨by decide,by decide⟩,?_⟩
   (repeat first | refine⟨_,rfl,?_⟩ | refine⟨_,_,rfl,rfl,?_⟩)
   exact⟨by show 3<=sizeLine;decide,fun l e=>q l _ e (CM.new e) ⟨_,_,A9,by decide⟩⟩
  .skip;(repeat first | refine⟨_,rfl,?_⟩ | refine⟨_,_,rfl,rfl,?_⟩)
   refine⟨⟨by decide,by decide,by decide⟩,?_⟩
   (repeat first | refine⟨_,rfl,?_⟩ | refine⟨_,_,rfl,rfl,?_⟩)
   refine .inr ⟨_,rfl,?_⟩
   (repeat first | refine⟨_,rfl,?_⟩ | refine⟨_,_,rfl,rfl,?_⟩)
   refine⟨.inr ?_,?_⟩
   .exact zGl _
   (repeat first | refine⟨_,rfl,?_⟩ | refine⟨_,_,rfl,rfl,?_⟩)
   refine⟨.inl ⟨by decide,by decide⟩,?_⟩
   (repeat first | refine⟨_,rfl,?_⟩ | refine⟨_,_,rfl,rfl,?_⟩)
   exact⟨by show 3<=sizeLine;decide,fun l e=>q l _ e (CM.new e) ⟨_,_,A9,by decide⟩⟩
theorem OQ:IT ["_law_left_here", "_law_many", "_law_digit"] ["_law_left_here", "_law_many"] (B5 PX):=LC
def Yw:Sp:=fun e H Q _=>∃(p:A2) (c a:Int),e = [.ref p,.int a]/\JE H p c/\c<=1000000/\0<a/\a<=1000000 /\
 ∀(d:Nat) b,(d:Int)<a->Sm [p] H b->JE b p (c+1)->Q (.int (d:Int)) b
theorem E6(T:Tx K mg):JC P w K mg base KB 2 T.ak.f T.ak.fd ["_law_left_here", "_law_many"] Yw:=by
 refine T.ak.F.o1 OQ fun u A o s H x Q E r h=>?_
 .obtain⟨p,c,j,rfl,⟨a,b,e,y⟩,z,k,B,q⟩:=h;refine⟨_,(B2 (m9 (D0 U4 (K3 (OL K) (pv 0) B8 (fun _ _=>rfl)) B8) (Ek (pv 0) B8 b9))
   (B2 (G8 (C2 zBs (K3 (OL K) (pv 0) B8 (fun _ _=>rfl)) B8 (C5 _)) (B2 (C3 (i:=2) OQ.nd rfl (.inl rfl) (D0 Fj (K3 (OL K) (pv 0) B8 (fun _ _=>rfl)) (pv 1)))
   (B2 (m9 (D0 Sh (K3 (OL K) (pv 0) B8 (fun _ _=>rfl)) (pv 1)) (Ek (pv 0) B8 b9))
   (B3 (C0 (pv 2))))) C7)
   (B3 (C0 (D0 Fj (D0 Sh (C9 T.a6 (Ck T) (Rm r) (A8 (C9 T.a6 (Ck T) (Rm r) (A8 (K3 (OL K) (pv 0) B8 (fun _ _=>rfl)) (A8 (K3 (OL K) (pv 0) B8 (fun _ _=>rfl)) B0))) (A8 (D0 U4 (K3 (OL K) (pv 0) B8 (fun _ _=>rfl)) B8) B0))) B8) (pv 1)))))),?_⟩
  have t:∀d:Int,0<=d->d<j->∀l m,Q (.int d) (IU (IU H p (.lst [.int a,.int b,.int (c+1)])) p (.lst [.int l,.int m,.int (c+1)]))/\Q (.int d) (IU H p (.lst [.int l,.int m,.int (c+1)])):=fun d v g l m=>by
   obtain⟨n,rfl⟩:=Int.eq_ofNat_of_zero_le v;exact⟨q n _ g (((Sm.refl _ _).upd (by simp)).upd (by simp)) ⟨l,m,A9,by omega⟩,q n _ g ((Sm.refl _ _).upd (by simp)) ⟨l,m,A9,by omega⟩⟩
  refine A5 rfl ⟨p,_,B9 rfl rfl ⟨IW.of e,rfl,B9 rfl rfl (A5 rfl ⟨p,_,_,2,rfl,rfl,e,rfl,?_⟩)⟩⟩;refine A5 rfl ⟨p,_,B9 rfl rfl ⟨IW.of A9,rfl,B9 rfl rfl (A5 rfl ?_)⟩⟩;refine Q6 (fun g=>?_) (fun g=>?_)
  .have g:(0:Int)<a:=BL g;refine A5 rfl ⟨p,_,B9 rfl rfl ⟨IW.of A9,rfl,A5 rfl (B9 rfl rfl ⟨k,?_⟩)⟩⟩;refine A5 rfl ⟨p,_,B9 rfl rfl ⟨IW.of A9,rfl,A5 rfl (B9 rfl rfl ⟨⟨k,by omega⟩,A5 rfl ⟨p,_,_,0,rfl,rfl,A9,rfl,?_⟩⟩)⟩⟩;exact⟨_,rfl,(t _ (GX _ (by omega)) (FZ _ k) _ _).1⟩
  .refine A5 rfl ⟨p,_,B9 rfl rfl ⟨IW.of A9,rfl,A5 rfl ⟨p,_,B9 rfl rfl ⟨IW.of A9,rfl,_,A5 rfl ⟨by omega,by omega,fun C D G=>?_⟩⟩⟩⟩⟩;refine A5 rfl ⟨p,_,B9 rfl rfl ⟨IW.of A9,rfl,B9 rfl rfl ⟨_,A5 rfl ⟨by omega,by omega,fun I J L=>?_⟩⟩⟩⟩;refine B9 rfl rfl ⟨⟨by decide,by decide⟩,A5 rfl (B9 rfl rfl ⟨k,?_⟩)⟩;exact(t _ (GX _ (by omega)) (FZ _ k) _ _).2
end
def six{d n:Nat}(h:d<n):seqIndex? (d:Int) n=some d:=by
 unfold seqIndex?;simp;omega
def KR{α:Type}{l:A0 α}{i:Nat}{x:α}(h:l[i]?=some x):(x::l.eraseIdx i).Perm l:=ST.KR h
def Fg{α β:Type}(f:α->β):∀(l:A0 α) (i:Nat),(l.map f).eraseIdx i =(l.eraseIdx i).map f
 | [],_=>rfl
 | _::_,0=>rfl
 | a::l,i+1=>by
  show f a ::(l.map f).eraseIdx i=f a ::(l.eraseIdx i).map f;rw[Fg f l i]
def Vl{a b c:A0 Str}(d:(b++c).Perm a)(h1:∀x∈a,O6 x=true)(h2:a.Nodup)(f:a.length<=100):j0 c:=by
 refine⟨fun x e=>h1 x (d.mem_iff.mp (BZ _ e)),?_,?_⟩
 .exact(FO.mp (d.nodup_iff.mpr h2)).2.1
 .have:=d.length_eq;rw[BJ]at this;omega
def Up{c a b:A0 Str}{d:Nat}{x:Str}(e:(a++b).Perm c)(h:a[d]?=some x):(a.eraseIdx d ++(b ++ [x])).Perm c:=by
 refine List.Perm.trans ?_ e;rw[<-BM];refine DC.trans ?_;rw[<-BM];exact(KR h).append_right b
def PH{p b:A2}{H H':Hp}{o:HO}(h:Sm [p] H H')(e:H b=some o)(n:b≠p):H' b=some o:=h b o e fun z=>n (AH.mp z)
section
variable{P:A6}{w:F1}{K:PySem.W.Frag}{mg:Str->A4 A1}{base:IV}
def RG:A0 Str:=["b", "aa", "zebra", "c", "quartzes", "ab", "m", "knows", "d", "mm", "likes", "z", "a", "ba", "abcdefgh", "y", "zz", "e", "x", "f"]
abbrev QI:Str := "b aa zebra c quartzes ab m knows d mm likes z a ba abcdefgh y zz e x f"
theorem Zj:Builtin.Str.partsBetween QI (Builtin.Str.occurrences QI " " 0 QI.length (QI.length+1)) (" ":Str).length=RG:=by decide +kernel
theorem RF:(∀x∈RG,O6 x=true)/\RG.Nodup:=⟨by decide +kernel,by decide +kernel⟩
theorem Jq:∃a:A0 Str,a.length=20/\(∀x∈a,O6 x=true)/\a.Nodup/\∀(Q:VK) (H:Hp),(∀l,H l=none->Q (.ref l) (IU H l (.lst (a.map V.str))))->Xl (.str QI) [.str " "] H Q :=
 ⟨RG,rfl,RF.1,RF.2,fun Q H h=>⟨QI, " ",RG,rfl,rfl,by decide +kernel,by decide +kernel,by decide +kernel,by decide +kernel,Zj,by decide +kernel,h⟩⟩
theorem LN:IT ["_law_left_here", "_law_many", "_law_some", "_law_names_here", "_law_k"] ["_law_left_here", "_law_many"] (B5 OW):=LC
def Vf:Sp:=fun e H Q _=>∃(p:A2) (c:Int) (a:Nat),e = [.ref p,.int (a:Int)]/\JE H p c/\c<=900000/\a<=20 /\
 ∀l (d:A0 Str) b,H l=none->Sm [p] H b->b l=some (.lst (d.map V.str))->d.length=a->j0 d->JE b p (c+a)->Q (.ref l) b
set_option maxHeartbeats 2000000 in
theorem Hc(T:Tx K mg):JC P w K mg base KB 3 T.a3.f T.a3.fd ["_law_left_here", "_law_many"] Vf:=by
 refine T.a3.F.o1 LN fun X A C s H vs Q E Y h=>?_
 .obtain⟨p,c,o,rfl,R,c1,m1,q⟩:=h;obtain⟨a0,b0,S,c0⟩:=id R;refine⟨_,(B2 (C3 (i:=2) LN.nd rfl (.inl rfl) (Hh K PySem.F.plainAttrs_str PySem.F.slot_str_split PySem.F.type_str_split Vw K1 (A8 K1 B0)))
   (B2 (C3 (i:=3) LN.nd rfl (.inl rfl) (K8 B0))
   (B2 (K2 PassesOwn.never rfl (UB T.aO (A8 (pv 1) B0)) (D6 (i:=4) LN.nd rfl (.inl rfl))
   (B3 (E8 (Hh K PySem.F.plainAttrs_list PySem.F.slot_list_append PySem.F.type_list_append J2 (pv 3) (A8 (Hh K PySem.F.plainAttrs_list PySem.F.slot_list_pop PySem.F.type_list_pop Wb (pv 2) (A8 (C9 T.ak (E6 T) (Rm Y) (A8 (pv 0) (A8 (D4 (J6 K) T.aj J3 (A8 (pv 2) B0)) B0))) B0)) B0)))))
   (B3 (C0 (pv 3)))))),?_⟩
  obtain⟨r,Z,a1,a2,t⟩:=Jq;refine⟨rfl,?_⟩;dsimp only[V9,tC,Jh];refine t _ _ fun a v=>?_;refine⟨CK _,fun b D=>?_⟩;have j:H b=none:=(CM.new v).free D;have k:a≠b:=B1 A9 D;have l:p≠a:=B1 S v;have m:p≠b:=B1 S j;refine A5 rfl (A5 rfl ⟨by omega,by omega,?_⟩);rw[CC];refine O8 (fun i σ n=>(∃G,σ = [some (.ref p),some (.int (o:Int)),some (.ref a),some (.ref b),G])/\Sm [p] H n/\JE n p (c+i)/\∃e g:A0 Str,n a=some (.lst (e.map V.str))/\n b=some (.lst (g.map V.str))/\(e++g).Perm r/\g.length=i) ?_ ?_ ?_
  .refine⟨⟨_,rfl⟩,((CM.new v).trans (CM.new D)).sm,((R.cast (by omega)).upd l).upd m,r,[],by rw[B6 k,A9],by rw[A9];rfl,by rw[CV],rfl⟩
  .rintro i σ n hi ⟨⟨G,rfl⟩,I,J,e,g,x,y,z,B⟩ D1 L _;have U:e.length=20-i:=by
    have:=z.length_eq;rw[BJ,B,Z]at this;omega
   refine A5 rfl ⟨.inl ⟨rfl,_,IW.of y⟩,A5 rfl ⟨.inl ⟨rfl,_,IW.of x⟩,A5 rfl (A5 rfl (B9 (a:=a) rfl (.inl (IW.of x)) (Ab (a:=p) (b:=c+i) rfl J (by omega) ?_ ?_ fun d H2 hd M L2=>?_)))⟩⟩
   .rw[AB];omega
   .rw[AB];omega
   rw[AB]at hd;have u:d<e.length:=by omega
   have W:e[d]?=some e[d]:=AC u;have N:=PH M x l.symm;have O:=PH M y m.symm;refine⟨a,_,_,d,.str e[d],rfl,rfl,N,by omega,by omega,six (by rw[AB];exact u),by rw[AG,W];rfl,b,B9 rfl rfl ⟨by rw[B6 k.symm];exact O,?_,?_⟩⟩
   .rw[AB,sizeLine_eq];omega
   refine L _ _ ⟨⟨_,rfl⟩,?_,?_,e.eraseIdx d,g ++ [e[d]],?_,?_,Up z W,by rw[BJ,B];rfl⟩
   .exact((I.trans M).updN v).updN j
   .exact((L2.cast (by omega)).upd l).upd m
   .rw[B6 k,A9,Fg]
   .rw[A9,AL];rfl
  .rintro σ n ⟨⟨G,rfl⟩,I,J,e,g,x,y,z,B⟩;exact⟨_,rfl,q b g n j I y B (Vl z a1 a2 (by omega)) J⟩
end
def pd(k:Str×Str):PyData:=.tuple [.str k.1,.str k.2]
def T2{x:Str}(h:O6 x=true):PySem.PyData.strOk x=true:=by
 unfold O6 at h;rw[BU]at h;unfold PySem.PyData.strOk;rw[<-Array.all_toList,CI];intro c a;have:=(CI.mp h.2) c a;unfold Yh at this;rw[BU]at this;have:=BL this.2;exact AK (by omega)
def Ic{K:PySem.W.Frag}{H:Hp}{t:A2}{k:Str×Str}(h:H t=some (.tup [.str k.1,.str k.2])):Rp K H (pd k) (.ref t):=by
 unfold pd;simp only[Rp,PL];exact⟨t,_,rfl,KQ.of h,_,_,rfl,rfl,_,_,rfl,rfl,rfl⟩
def Gq{K:PySem.W.Frag}{H:Hp}:∀{ps:A0 JI},(∀q∈ps,E2 H q)->PL K H (ps.map fun q=>pd q.2) (J4 ps)
 | [],_=>by simp[PL,J4]
 | q::r,h=>by
  show PL K H (pd q.2::r.map fun q=>pd q.2) (V.ref q.1::J4 r);simp only[PL];exact⟨_,_,rfl,Ic (h q (BG ..)),Gq fun z a=>h z (A_ _ a)⟩
def y0{K:PySem.W.Frag}{H:Hp}{l:A2}{ps:A0 JI}(a:H l=some (.lst (J4 ps)))(h:∀q∈ps,E2 H q):Rp K H (.list (ps.map fun q=>pd q.2)) (.ref l):=by
 simp only[Rp];exact⟨l,_,rfl,IW.of a,Gq h⟩
def Xk(a b:Str×Str):PyData.eqv (pd a) (pd b)=decide (a=b):=by
 unfold pd;rw[PyData.eqv,PyData.eqvAll,PyData.eqvAll,PyData.eqvAll,PyData.eqv,PyData.eqv];by_cases c:a.1=b.1
 .by_cases d:a.2=b.2
  .rw[AK (Prod.ext c d),c,d];simp
  .rw[AX fun z=>d (congrArg Prod.snd z)];simp[d]
 .rw[AX fun z=>c (congrArg Prod.fst z)];simp[c]
def Ae(k:Str×Str):∀ps:A0 JI,((ps.map fun q=>pd q.2).any fun z=>PyData.eqv z (pd k))=decide (k∈ps.map fun q=>q.2)
 | []=>rfl
 | q::r=>by
  rw[BB,GH,Ae k r,Xk,BB];by_cases e:q.2=k
  .rw[AK e,Bool.true_or,AK (show k∈q.2::_ from by rw[<-e];exact BG ..)]
  .rw[AX e,HU];by_cases h:k∈r.map fun q=>q.2
   .rw[AK h,AK (A_ _ h)]
   .rw[AX h,AX fun z=>(AV.mp z).elim (fun z=>e z.symm) h]
def Ko{k:Str×Str}(h1:PySem.PyData.strOk k.1=true)(h2:PySem.PyData.strOk k.2=true):(pd k).canLay0=true:=by
 unfold pd;simp[PyData.canLay0,PyData.canLayAll0,h1,h2]
def Iz:∀{ps:A0 JI},(∀q∈ps,PySem.PyData.strOk q.2.1=true/\PySem.PyData.strOk q.2.2=true)->PyData.canLayAll0 (ps.map fun q=>pd q.2)=true
 | [],_=>rfl
 | q::r,h=>by
  rw[BB,PyData.canLayAll0,Ko (h q (BG ..)).1 (h q (BG ..)).2,Iz fun z a=>h z (A_ _ a)];rfl
def f9{K:PySem.W.Frag}{H:Hp}{t l:A2}{k:Str×Str}{ps:A0 JI}{Q:VK}(b:H t=some (.tup [.str k.1,.str k.2]))(c:H l=some (.lst (J4 ps)))(d:∀q∈ps,E2 H q)
  (a:PySem.PyData.strOk k.1=true/\PySem.PyData.strOk k.2=true) (e:∀q∈ps,PySem.PyData.strOk q.2.1=true/\PySem.PyData.strOk q.2.2=true) (q:Q (.bl (!decide (k∈ps.map fun q=>q.2))) H):Xn K true (.ref t) (.ref l) H Q :=
 ⟨pd k,_,Ic b,.inl (y0 c d),⟨Ko a.1 a.2,by simp[pd,PyData.depth,PyData.depthAll]⟩,Iz e,by rw[AU rfl,Ae];exact q⟩
structure FL(H:Hp)(l:A2)(ps:A0 JI)(ss:A0 Str):Prop where
 at_:H l=some (.lst (J4 ps))
 pin:∀q∈ps,E2 H q
 nm:∀q∈ps,q.2.1∈ss/\q.2.2∈ss
 nd:(ps.map fun q=>q.2).Nodup
def FL.sm{H H':Hp}{p l:A2}{c:Int}{ps:A0 JI}{ss:A0 Str}(h:FL H l ps ss)(L:JE H p c)(n:l≠p)(s:Sm [p] H H'):FL H' l ps ss:=by
 obtain⟨x,y,e,_⟩:=L;exact⟨PH s h.at_ n,fun q a=>PH s (h.pin q a) (U6 (h.pin q a) e (by intro z;cases z)),h.nm,h.nd⟩
def FL.new{H:Hp}{l t:A2}{o:HO}{ps:A0 JI}{ss:A0 Str}(h:FL H l ps ss)(n:H t=none):FL (IU H t o) l ps ss :=
 ⟨by rw[B6 (B1 h.at_ n)];exact h.at_,fun q a=>by unfold E2;rw[B6 (B1 (h.pin q a) n)];exact h.pin q a,h.nm,h.nd⟩
def FL.put{H:Hp}{l t:A2}{ps:A0 JI}{ss:A0 Str}{x y:Str}(h:FL H l ps ss)(k:Nat)(b:H t=some (.tup [.str x,.str y]))(e:x∈ss)(f:y∈ss)(g:(x,y)∉ps.map fun q=>q.2) :
  FL (IU H l (.lst ((J4 ps).take k++V.ref t ::(J4 ps).drop k))) l (ps.take k ++(t,x,y)::ps.drop k) ss:=by
 have c:(ps.take k ++(t,x,y)::ps.drop k).Perm ((t,x,y)::ps):=by
  refine List.perm_middle.trans (List.Perm.cons _ ?_);rw[BW]
 have d:∀q∈ps.take k ++(t,x,y)::ps.drop k,q =(t,x,y)\/q∈ps:=fun q a=>AV.mp (c.mem_iff.mp a);refine⟨?_,fun q a=>?_,fun q a=>?_,?_⟩
 .rw[A9];unfold J4;rw[AL,List.map_take,BB,List.map_drop]
 .unfold E2;rcases d q a with rfl | z
  .rw[B6 (U6 b h.at_ (by intro z;cases z))];exact b
  .rw[B6 (U6 (h.pin q z) h.at_ (by intro z;cases z))];exact h.pin q z
 .rcases d q a with rfl | z
  .exact⟨e,f⟩
  .exact h.nm q z
 .rw[(c.map _).nodup_iff];show((x,y)::ps.map fun q=>q.2).Nodup;exact DV.mpr ⟨g,h.nd⟩
def FL.app{H:Hp}{l t:A2}{ps:A0 JI}{ss:A0 Str}{x y:Str}(h:FL H l ps ss)(a:H t=some (.tup [.str x,.str y]))(b:x∈ss)(c:y∈ss)(d:(x,y)∉ps.map fun q=>q.2) :
  FL (IU H l (.lst (J4 ps ++ [V.ref t]))) l (ps ++ [(t,x,y)]) ss:=by
 have:=h.put ps.length a b c d;have e:(J4 ps).length=ps.length:=by unfold J4;rw[AB]
 rw[<-e,BP,List.drop_length,e,BP,List.drop_length]at this;exact this
def Kf(ss:A0 Str):∀tt:A0 Str,(tt.flatMap fun a=>ss.map fun b=>(a,b)).length=tt.length*ss.length
 | []=>by simp
 | a::r=>by rw[List.flatMap_cons,BJ,AB,Kf ss r,BS,Nat.succ_mul];omega
def FL.len{H:Hp}{l:A2}{ps:A0 JI}{ss:A0 Str}(h:FL H l ps ss):ps.length<=ss.length*ss.length:=by
 have:=h.nd.length_le_of_subset (l₂:=ss.flatMap fun a=>ss.map fun b=>(a,b)) (fun k c=>by
  obtain⟨q,d,rfl⟩:=AI.mp c;obtain⟨e,f⟩:=h.nm q d;exact List.mem_flatMap.mpr ⟨q.2.1,e,AI.mpr ⟨q.2.2,f,rfl⟩⟩)
 rw[Kf,AB]at this;exact this
section
variable{P:A6}{w:F1}{K:PySem.W.Frag}{mg:Str->A4 A1}{base:IV}
theorem Yz(a b d:Nat)(h1:a<3)(h2:b<4)(h:d<8):∃n:Nat,n<=10/\SR [V.int (8 +(a:Int)),V.int b,V.int 4,V.int 5,V.int 6,V.int 7,V.int 5,V.int 6] (d:Int)=some (.int (n:Int)):=by
 suffices ∃n:Nat,n<=10/\[V.int (8 +(a:Int)),V.int b,V.int 4,V.int 5,V.int 6,V.int 7,V.int 5,V.int 6][d]?=some (.int (n:Int)) by
  obtain⟨n,h,e⟩:=this;exact⟨n,h,S4 e⟩
 match d,h with
 | 0,_=>exact⟨8+a,by omega,by show some (V.int _)=_;rw[Int.natCast_add];rfl⟩
 | 1,_=>exact⟨b,by omega,rfl⟩
 | 2,_=>exact⟨4,by omega,rfl⟩
 | 3,_=>exact⟨5,by omega,rfl⟩
 | 4,_=>exact⟨6,by omega,rfl⟩
 | 5,_=>exact⟨7,by omega,rfl⟩
 | 6,_=>exact⟨5,by omega,rfl⟩
 | 7,_=>exact⟨6,by omega,rfl⟩
theorem OP:IT ["_law_left_here", "_law_way"] ["_law_left_here"] (B5 PR):=LC
def Zz:Sp:=fun b H Q _=>∃(p:A2) (c:Int),b = [.ref p]/\JE H p c/\c<=900000 /\
 ∀(n:Nat) a,n<=10->Sm [p] H a->JE a p (c+3)->Q (.int (n:Int)) a
theorem Hk(T:Tx K mg):JC P w K mg base KB 3 T.bb.f T.bb.fd ["_law_left_here"] Zz:=by
 refine T.bb.F.o1 OP fun m A b s H G Q E g h=>?_
 .obtain⟨p,c,rfl,o,I,q⟩:=h;refine⟨_,(B2 (C3 (i:=1) OP.nd rfl (.inl rfl) (C9 T.ak (E6 T) (Rm g) (A8 (pv 0) (A8 B8 B0))))
   (@B3 _ _ _ (@C0 _ _ _ _ (@K3 _ _ _ _ _ _ _ (OL K) (@K8 _ _ _ _ (@A8 _ _ _ _ _ (D0 U4 B8 (C9 T.ak (E6 T) (Rm g) (A8 (pv 0) (A8 B8 B0)))) (@A8 _ _ _ _ _ (C9 T.ak (E6 T) (Rm g) (A8 (pv 0) (A8 B8 B0))) (@A8 _ _ _ _ _ B8 (@A8 _ _ _ _ _ B8 (@A8 _ _ _ _ _ B8 (@A8 _ _ _ _ _ B8 (@A8 _ _ _ _ _ B8 (@A8 _ _ _ _ _ B8 B0 (by rfl)) (by rfl)) (by rfl)) (by rfl)) (by rfl)) (by rfl)) (by rfl)) (by rfl))) (pv 1) (fun _ _=>rfl))))),?_⟩
  refine A5 rfl (Ab (a:=p) rfl o (by omega) (by decide) (by decide) fun d J L r t=>?_);refine A5 rfl (Ab (a:=p) rfl t (by omega) (by decide) (by decide) fun u M v x L2=>?_);refine B9 rfl rfl ?_;refine A5 rfl (Ab (a:=p) rfl L2 (by omega) (by decide) (by decide) fun y N z B j=>?_);refine⟨by show 8<=sizeLine;decide,fun l k=>?_⟩;obtain⟨n,C,e⟩:=Yz u y d (by omega) (by omega) (by omega);have D:=j.get;refine A5 rfl ⟨l,_,B9 rfl rfl ⟨IW.of A9,e,?_⟩⟩;exact q n _ C (((r.trans x).trans B).new k) ((j.cast (by omega)).upd (B1 D k))
theorem JE.ne{H:Hp}{p n:A2}{c:Int}{ss:A0 Str}(h:JE H p c)(d:H n=some (.lst (ss.map V.str))):n≠p:=by
 rintro rfl;obtain⟨a,b,e,_⟩:=h;rw[d]at e;cases ss with
 | nil=>cases e
 | cons x r=>cases e
theorem JE.neP{H:Hp}{p n:A2}{c:Int}{ss:A0 JI}(h:JE H p c)(d:H n=some (.lst (J4 ss))):n≠p:=by
 rintro rfl;obtain⟨a,b,e,_⟩:=h;rw[d]at e;cases ss with
 | nil=>cases e
 | cons x r=>cases e
theorem Wa(d:Nat)(h:d<4):∃n:Nat,0<n/\n<=9/\SR [V.int 4,V.int 6,V.int 9,V.int 3] (d:Int)=some (.int (n:Int)):=by
 suffices ∃n:Nat,0<n/\n<=9/\[V.int 4,V.int 6,V.int 9,V.int 3][d]?=some (.int (n:Int)) by
  obtain⟨n,a,b,e⟩:=this;exact⟨n,a,b,S4 e⟩
 match d,h with
 | 0,_=>exact⟨4,by omega,by omega,rfl⟩
 | 1,_=>exact⟨6,by omega,by omega,rfl⟩
 | 2,_=>exact⟨9,by omega,by omega,rfl⟩
 | 3,_=>exact⟨3,by omega,by omega,rfl⟩
theorem KE:IT ["_law_left_here", "_law_names_here", "_law_found", "_law_often", "_law_one", "_law_other"] ["_law_left_here", "_law_names_here"] (B5 NT):=LC
def Mg(K:PySem.W.Frag):Sp:=fun f H Q _=>∃(p n:A2) (c:Int) (b:A0 Str),f = [.ref p,.ref n]/\JE H p c/\c<=900000/\H n=some (.lst (b.map V.str))/\j0 b/\b.length<=10 /\
 ∀l (d:A0 JI) e a,H l=none->Sm [p] H a->a l=some (.lst (J4 d))->(∀q∈d,E2 a q)->QP b d->e<=c+1000->JE a p e->Q (.ref l) a
def SI(H:Hp)(p f:A2)(ss:A0 Str)(b:Int)(a:Hp):Prop:=Sm [p] H a/\(∃c,c<=b/\JE a p c)/\∃d,FL a f d ss
set_option maxHeartbeats 4000000 in
theorem Bn(T:Tx K mg):JC P w K mg base KB 3 T.aT.f T.aT.fd ["_law_left_here", "_law_names_here"] (Mg K):=by
 refine T.aT.F.o1 KE fun cdv A outer s H vs Q E hr h=>?_
 .obtain⟨p,n,c,u,rfl,hL,c1,hn,hN,m,q⟩:=h;obtain⟨a0,b0,e0,c0⟩:=id hL;refine⟨_,(B2 (C3 (i:=2) KE.nd rfl (.inl rfl) (K8 B0))
   (B2 (C3 (i:=3) KE.nd rfl (.inl rfl) (K3 (OL K) (K8 (A8 B8 (A8 B8 (A8 B8 (A8 B8 B0))))) (C9 T.ak (E6 T) (Rm hr) (A8 (pv 0) (A8 B8 B0))) (fun _ _=>rfl)))
   (B2 (K2 PassesOwn.never rfl (MQ K (pv 1)) (D6 (i:=4) KE.nd rfl (.inl rfl))
   (B2 (K2 PassesOwn.never rfl (MQ K (pv 1)) (D6 (i:=5) KE.nd rfl (.inl rfl))
   (B3 (G8 (PW.pt (Gu (C2 r9 (pv 4) (pv 5) (C5 _)) (Gu (C2 N9 (C9 T.ak (E6 T) (Rm hr) (A8 (pv 0) (A8 (pv 3) B0))) B8 (C5 _)) (Cn (C2 (u9 K hr.units) (M8 (A8 (pv 4) (A8 (pv 5) B0))) (pv 2) rfl))))) (B2 (E8 (Hh K PySem.F.plainAttrs_list PySem.F.slot_list_insert PySem.F.type_list_insert Om (pv 2) (A8 (C9 T.ak (E6 T) (Rm hr) (A8 (pv 0) (A8 (D0 U4 (D4 (J6 K) T.aj J3 (A8 (pv 2) B0)) B8) B0))) (A8 (M8 (A8 (pv 4) (A8 (pv 5) B0))) B0))))
   (B3 (G8 (PW.pt (Gu (C2 N9 (C9 T.ak (E6 T) (Rm hr) (A8 (pv 0) (A8 B8 B0))) B8 (C5 _)) (Cn (C2 (u9 K hr.units) (M8 (A8 (pv 5) (A8 (pv 4) B0))) (pv 2) rfl)))) (B3 (E8 (Hh K PySem.F.plainAttrs_list PySem.F.slot_list_append PySem.F.type_list_append J2 (pv 2) (A8 (M8 (A8 (pv 5) (A8 (pv 4) B0))) B0)))) C7))) C7)))
   (B3 (G8 (PW.pt (Gu (C2 N9 (C9 T.ak (E6 T) (Rm hr) (A8 (pv 0) (A8 B8 B0))) B8 (C5 _)) (Cn (C2 (u9 K hr.units) (M8 (A8 (pv 4) (A8 (pv 4) B0))) (pv 2) rfl)))) (B3 (E8 (Hh K PySem.F.plainAttrs_list PySem.F.slot_list_append PySem.F.type_list_append J2 (pv 2) (A8 (M8 (A8 (pv 4) (A8 (pv 4) B0))) B0)))) C7))))
   (B3 (C0 (pv 2)))))),?_⟩
  refine⟨CK _,fun f hf=>?_⟩;have z:p≠f:=B1 e0 hf;have nnf:n≠f:=B1 hn hf;have nnp:n≠p:=hL.ne hn;have nnD:n∉[p]:=by simpa using nnp
  have N:∀x∈u,PySem.PyData.strOk x=true:=fun x L=>T2 (hN.1 x L);refine⟨by show 4<=sizeLine;decide,fun t ht=>?_⟩;have s1:CM H (IU (IU H f (.lst [])) t (.lst [.int 4,.int 6,.int 9,.int 3])):=(CM.new hf).trans (CM.new ht);have ef:(IU (IU H f (.lst [])) t (.lst [.int 4,.int 6,.int 9,.int 3])) f=some (.lst []):=by rw[B6 (B1 A9 ht),A9]
  refine A5 rfl (Ab (a:=p) (b:=c) rfl (hL.same s1) (by omega) (by decide) (by decide) fun d C hd O W=>?_);obtain⟨S,o1,o2,eo⟩:=Wa d (by omega);have hpt:p≠t:=B1 ((CM.new hf) _ _ e0) ht;refine⟨t,_,B9 rfl rfl ⟨IW.of (PH O A9 hpt.symm),eo,?_⟩⟩;have i0:SI H p f u (c+1) C:=⟨s1.sm.trans O,⟨_,Int.le_refl _,W⟩,[],PH O ef z.symm,by simp,by simp,by simp⟩;have hseq:∀{C b},SI H p f u b C->IW K C n (u.map V.str):=fun h=>(h.1.at nnD).seqL (IW.of hn);refine A5 rfl ⟨n,rfl,⟨_,hseq i0⟩,?_⟩;refine O1 (ND (K:=K) (IW.of hn)) (fun i σ C=>(∃v4 v5,σ = [some (.ref p),some (.ref n),some (.ref f),some (.int (S:Int)),v4,v5])/\SI H p f u (c+1+31*i) C) ?_ ?_ ?_ ?_
  .exact⟨⟨_,_,rfl⟩,by simpa using i0⟩
  .rintro i σ C hi ⟨_,X⟩;exact X.1.at nnD
  .rintro i σ C x L ⟨⟨v4,v5,rfl⟩,X⟩ D1 hD1 _;rw[AG]at L;obtain⟨g,ho,rfl⟩:∃y,u[i]?=some y/\V.str y=x:=by
    cases e:u[i]? with
    | none=>rw[e]at L;cases L
    | some y=>rw[e]at L;exact⟨y,rfl,by injection L⟩
   have r:g∈u:=AM ho;have hi:i<u.length:=(AD.mp ho).1;refine A5 rfl ⟨n,rfl,⟨_,hseq X⟩,?_⟩;refine O1 (ND (K:=K) (IW.of hn)) (fun j σ C=>(∃v5,σ = [some (.ref p),some (.ref n),some (.ref f),some (.int (S:Int)),some (.str g),v5])/\SI H p f u (c+1+31*i+3*j) C) ?_ ?_ ?_ ?_
   .exact⟨⟨_,rfl⟩,by simpa using X⟩
   .rintro i σ C hi ⟨_,X⟩;exact X.1.at nnD
   .rintro j σ C x L ⟨⟨v5,rfl⟩,X⟩ D2 M _;rw[AG]at L;obtain⟨l,ho,rfl⟩:∃y,u[j]?=some y/\V.str y=x:=by
     cases e:u[j]? with
     | none=>rw[e]at L;cases L
     | some y=>rw[e]at L;exact⟨y,rfl,by injection L⟩
    have J:l∈u:=AM ho;have hj:j<u.length:=(AD.mp ho).1;obtain⟨O,⟨c',Z,W⟩,v,Y⟩:=X;have done:∀{R c2 D},Sm [p] H R->c2<=c'+3->JE R p c2->FL R f D u->SI H p f u (c+1+31*i+3 *((j+1:Nat):Int)) R:=fun{R c2 D} a b d e=>⟨a,⟨c2,by omega,d⟩,D,e⟩;refine A5 rfl (A5 rfl ⟨rfl,A5 rfl ?_⟩);refine Q6 (fun X=>?_) (fun X=>T8 (M _ _ ⟨⟨_,rfl⟩,done O (by omega) W Y⟩));refine A5 rfl (A5 rfl (Ab (a:=p) (b:=c') rfl W (by omega) (by omega) (by omega) fun d1 R hd1 k2 L2=>⟨rfl,_,rfl,?_⟩));have F2:=Y.sm W z.symm k2;refine Q6 (fun h2=>?_) (fun h2=>T8 (M _ _ ⟨⟨_,rfl⟩,done (O.trans k2) (by omega) L2 F2⟩));refine A5 rfl (A5 rfl ⟨by show 2<=sizeLine;decide,fun t2 ht2=>?_⟩);have F3:=F2.new (o:=.tup [.str g,.str l]) ht2;have e2:=L2.get;have L3:=L2.upd (o:=.tup [.str g,.str l]) (B1 e2 ht2);have k3:=(O.trans k2).new (o:=.tup [.str g,.str l]) ht2;refine A5 rfl (f9 (k:=(g,l)) A9 F3.at_ F3.pin ⟨N _ r,N _ J⟩ (fun q hq=>⟨N _ (F3.nm q hq).1,N _ (F3.nm q hq).2⟩) ⟨_,rfl,?_⟩);refine Q6 (fun h3=>?_) (fun h3=>M _ _ ⟨⟨_,rfl⟩,done k3 (by omega) L3 F3⟩);have h3':(g,l)∉v.map fun q=>q.2:=by simpa using h3
    have PJ:=F3.len;have U:v.length<=100:=Nat.le_trans PJ (Nat.mul_le_mul m m);have rl:(J4 v).length=v.length:=by unfold J4;rw[AB]
    refine A5 rfl ⟨.inl ⟨rfl,_,IW.of F3.at_⟩,A5 rfl (A5 rfl (B9 (a:=f) rfl (.inl (IW.of F3.at_)) (B9 rfl rfl (Ab (a:=p) (b:=c'+1) rfl L3 (by omega) (by omega) (by omega) fun d2 H4 hd2 k4 L4=>?_))))⟩;have F4:=F3.sm L3 z.symm k4;refine A5 rfl (A5 rfl ⟨by show 2<=sizeLine;decide,fun t3 ht3=>?_⟩);have F5:=F4.new (o:=.tup [.str g,.str l]) ht3;have e4:=L4.get;have L5:=L4.upd (o:=.tup [.str g,.str l]) (B1 e4 ht3);have k5:=(k3.trans k4).new (o:=.tup [.str g,.str l]) ht3;refine⟨f,_,_,d2,A5 rfl ⟨rfl,rfl,F5.at_,by omega,by rw[sizeLine_eq];omega,?_⟩⟩;have F6:=F5.put d2 A9 r J h3';have L6:=L5.upd (o:=.lst ((J4 v).take d2++V.ref t3 ::(J4 v).drop d2)) z;have k6:=k5.updN (o:=.lst ((J4 v).take d2++V.ref t3 ::(J4 v).drop d2)) hf;generalize hps:v.take d2 ++(t3,g,l)::v.drop d2=ps' at F6;refine A5 rfl (Ab (a:=p) rfl L6 (by omega) (by decide) (by decide) fun d3 H7 hd3 k7 L7=>⟨rfl,_,rfl,?_⟩);have F7:=F6.sm L6 z.symm k7;refine Q6 (fun h4=>?_) (fun h4=>T8 (M _ _ ⟨⟨_,rfl⟩,done (k6.trans k7) (by omega) L7 F7⟩));refine A5 rfl (A5 rfl ⟨by show 2<=sizeLine;decide,fun t4 G=>?_⟩);have B:=F7.new (o:=.tup [.str l,.str g]) G;have e7:=L7.get;have L8:=L7.upd (o:=.tup [.str l,.str g]) (B1 e7 G);have k8:=(k6.trans k7).new (o:=.tup [.str l,.str g]) G;refine A5 rfl (f9 (k:=(l,g)) A9 B.at_ B.pin ⟨N _ J,N _ r⟩ (fun q hq=>⟨N _ (B.nm q hq).1,N _ (B.nm q hq).2⟩) ⟨_,rfl,?_⟩);refine Q6 (fun h5=>?_) (fun h5=>M _ _ ⟨⟨_,rfl⟩,done k8 (by omega) L8 B⟩);have h5':(l,g)∉ps'.map fun q=>q.2:=by simpa using h5
    have PJ:=B.len;have U:ps'.length<=100:=Nat.le_trans PJ (Nat.mul_le_mul m m);have rl:(J4 ps').length=ps'.length:=by unfold J4;rw[AB]
    refine A5 rfl ⟨.inl ⟨rfl,_,IW.of B.at_⟩,A5 rfl (A5 rfl ⟨by show 2<=sizeLine;decide,fun t5 I=>?_⟩)⟩;have F9:=B.new (o:=.tup [.str l,.str g]) I;have e8:=L8.get;have L9:=L8.upd (o:=.tup [.str l,.str g]) (B1 e8 I);have k9:=k8.new (o:=.tup [.str l,.str g]) I;refine⟨f,B9 rfl rfl ⟨F9.at_,by rw[sizeLine_eq];omega,M _ _ ⟨⟨_,rfl⟩,done (k9.updN hf) (by omega) (L9.upd z) (F9.app A9 J r h5')⟩⟩⟩
   .rintro σ C ⟨⟨v5,rfl⟩,O,⟨c',Z,W⟩,v,Y⟩;simp only[AB]at Z;have done:∀{R c2 D},Sm [p] H R->c2<=c'+1->JE R p c2->FL R f D u->SI H p f u (c+1+31 *((i+1:Nat):Int)) R:=fun{R c2 D} a b d e=>⟨a,⟨c2,by omega,d⟩,D,e⟩;refine A5 rfl (Ab (a:=p) (b:=c') rfl W (by omega) (by decide) (by decide) fun d3 H7 hd3 k7 L7=>⟨rfl,_,rfl,?_⟩);have F7:=Y.sm W z.symm k7;refine Q6 (fun h4=>?_) (fun h4=>T8 (hD1 _ _ ⟨⟨_,_,rfl⟩,done (O.trans k7) (by omega) L7 F7⟩));refine A5 rfl (A5 rfl ⟨by show 2<=sizeLine;decide,fun t4 G=>?_⟩);have B:=F7.new (o:=.tup [.str g,.str g]) G;have e7:=L7.get;have L8:=L7.upd (o:=.tup [.str g,.str g]) (B1 e7 G);have k8:=(O.trans k7).new (o:=.tup [.str g,.str g]) G;refine A5 rfl (f9 (k:=(g,g)) A9 B.at_ B.pin ⟨N _ r,N _ r⟩ (fun q hq=>⟨N _ (B.nm q hq).1,N _ (B.nm q hq).2⟩) ⟨_,rfl,?_⟩);refine Q6 (fun h5=>?_) (fun h5=>hD1 _ _ ⟨⟨_,_,rfl⟩,done k8 (by omega) L8 B⟩);have h5':(g,g)∉v.map fun q=>q.2:=by simpa using h5
    have PJ:=B.len;have U:v.length<=100:=Nat.le_trans PJ (Nat.mul_le_mul m m);have rl:(J4 v).length=v.length:=by unfold J4;rw[AB]
    refine A5 rfl ⟨.inl ⟨rfl,_,IW.of B.at_⟩,A5 rfl (A5 rfl ⟨by show 2<=sizeLine;decide,fun t5 I=>?_⟩)⟩;have F9:=B.new (o:=.tup [.str g,.str g]) I;have e8:=L8.get;have L9:=L8.upd (o:=.tup [.str g,.str g]) (B1 e8 I);have k9:=k8.new (o:=.tup [.str g,.str g]) I;refine⟨f,B9 rfl rfl ⟨F9.at_,by rw[sizeLine_eq];omega,hD1 _ _ ⟨⟨_,_,rfl⟩,done (k9.updN hf) (by omega) (L9.upd z) (F9.app A9 r r h5')⟩⟩⟩
  .rintro σ C ⟨⟨v4,v5,rfl⟩,O,⟨c',Z,W⟩,v,Y⟩;simp only[AB]at Z;have PJ:=Y.len;have U:v.length<=100:=Nat.le_trans PJ (Nat.mul_le_mul m m);exact⟨_,rfl,q f v c' C hf O Y.at_ Y.pin ⟨Y.nm,Y.nd,by omega⟩ (by omega) W⟩
end
def R5(x y:Nat):Builtin.bitOr (x:Int) (y:Int) =((x ||| y:Nat):Int):=by
 have b:¬0<=Builtin.bitNot (x:Int):=by unfold Builtin.bitNot;omega
 have c:¬0<=Builtin.bitNot (y:Int):=by unfold Builtin.bitNot;omega
 have a:∀z:Int,Builtin.bitNot (Builtin.bitNot z)=z:=fun z=>by unfold Builtin.bitNot;omega
 rw[Builtin.bitOr,PyProof.Rows.bitAnd_nn b c,a,a,a];rfl
def Xu(x y:Nat):Builtin.bitAnd (x:Int) (y:Int) =((x &&& y:Nat):Int):=by simp[Builtin.bitAnd]
def UN(k:Nat):(1:Int)*2 ^((k:Int).toNat) =((2^k:Nat):Int):=by rw[Int.one_mul,CC,Int.natCast_pow];rfl
def Qb(m k:Nat):decide (V.int (Builtin.bitAnd ((m:Int) / 2 ^((k:Int).toNat)) 1)=V.int 1)=m.testBit k:=by
 have a:(m:Int) / 2 ^((k:Int).toNat) =((m / 2^k:Nat):Int):=by rw[CC,Int.natCast_ediv,Int.natCast_pow];rfl
 have b:Builtin.bitAnd ((m / 2^k:Nat):Int) 1 =((m / 2^k % 2:Nat):Int):=by
  rw[show(1:Int) =((1:Nat):Int)from rfl,Xu,Nat.and_one_is_mod]
 rw[a,b,Nat.testBit_eq_decide_div_mod_eq];refine IS.mpr ⟨fun h=>?_,fun h=>?_⟩
 .injection h with h;omega
 .rw[h];rfl
def J1(m:Nat):V:=.int (m:Int)
structure MB(ns:A0 Str)(ks:A0 (Str×Str))(B:A0 Nat):Prop where
 len:B.length=ns.length
 bit:∀i j,(B.getD i 0).testBit j=true↔∃k∈ks,ns[i]?=some k.1/\ns[j]?=some k.2
def MB.zero(ns:A0 Str):MB ns [] (List.replicate ns.length 0):=by
 refine⟨List.length_replicate,fun i j=>?_⟩;have e:(List.replicate ns.length 0).getD i 0=0:=by
  rw[BK,List.getElem?_replicate];by_cases h:i<ns.length
  .rw[AU h];rfl
  .rw[AO h];rfl
 rw[e,DG];simp
def T3{α:Type}{l:A0 α}(h:l.Nodup){i j:Nat}{x:α}(hi:l[i]?=some x)(c:l[j]?=some x):i=j:=by
 obtain⟨a,e⟩:=AD.mp hi;obtain⟨b,d⟩:=AD.mp c;exact(List.getElem_inj h).mp (e.trans d.symm)
def MB.step{ns:A0 Str}{ks:A0 (Str×Str)}{B:A0 Nat}(h:MB ns ks B)(l:ns.Nodup){a b:Nat}{x y:Str}(f:ns[a]?=some x)(m:ns[b]?=some y):MB ns (ks ++ [(x,y)]) (B.set a (B.getD a 0 ||| 2^b)):=by
 have g:a<B.length:=by rw[h.len];exact(AD.mp f).1
 refine⟨by rw[List.length_set];exact h.len,fun i j=>?_⟩;by_cases e:a=i
 .subst e;have e:(B.set a (B.getD a 0 ||| 2^b)).getD a 0=B.getD a 0 ||| 2^b:=by
   rw[BK,IH g];rfl
  rw[e,CH,DP,h.bit,EJ,BD];constructor
  .rintro(⟨k,hk,c,d⟩ | rfl)
   .exact⟨k,EO _ hk,c,d⟩
   .exact⟨(x,y),BZ _ (AH.mpr rfl),f,m⟩
  .rintro⟨k,hk,c,d⟩;rcases AS.mp hk with hk | hk
   .exact .inl ⟨k,hk,c,d⟩
   .rw[AH.mp hk]at d;exact .inr (T3 l m d)
 .have n:(B.set a (B.getD a 0 ||| 2^b)).getD i 0=B.getD i 0:=by
   rw[BK,List.getElem?_set_ne e,<-BK]
  rw[n,h.bit];constructor
  .rintro⟨k,hk,c,d⟩;exact⟨k,EO _ hk,c,d⟩
  .rintro⟨k,hk,c,d⟩;rcases AS.mp hk with hk | hk
   .exact⟨k,hk,c,d⟩
   .rw[AH.mp hk]at c;exact absurd (T3 l f c) e
def MB.mono{ns:A0 Str}{ks ks':A0 (Str×Str)}{B:A0 Nat}(h:MB ns ks B)(e:∀k,k∈ks↔k∈ks'):MB ns ks' B :=
 ⟨h.len,fun i j=>by rw[h.bit];exact⟨fun⟨k,a,b⟩=>⟨k,(e k).mp a,b⟩,fun⟨k,a,b⟩=>⟨k,(e k).mpr a,b⟩⟩⟩
def Wv{x y:Str}(h:x.cps.toList=y.cps.toList):x=y:=by
 cases x;cases y;exact congrArg Str.mk (IP.mp h)
def Uf{x y:Str}(h1:RB x y)(h2:RB y x):x=y:=Wv (List.le_antisymm (as:=x.cps.toList) (bs:=y.cps.toList) h1 h2)
def i7{a b:A0 Str}(h1:a.Pairwise RB)(h2:b.Pairwise RB)(h:a.Perm b):a=b:=HZ (fun _ _ _ _=>Uf) h1 h2 h
structure KO(H:Hp)(p v:A2)(ns:A0 Str)(ks:A0 (Str×Str))(A B:A0 Nat):Prop where
 ex:∃a s t,H v=some (.lst [.ref a,.ref s,.ref t])/\H a=some (.lst (ns.map V.str))/\H s=some (.lst (A.map J1))/\H t=some (.lst (B.map J1))/\v≠p/\a≠p/\s≠p/\t≠p
 mA:MB ns (ks.map fun k=>(k.2,k.1)) A
 mB:MB ns ks B
def KO.sm{H H':Hp}{p v:A2}{ns:A0 Str}{ks:A0 (Str×Str)}{A B:A0 Nat}(h:KO H p v ns ks A B)(s:Sm [p] H H'):KO H' p v ns ks A B:=by
 obtain⟨⟨a,b,c,i,j,k,l,d,e,f,g⟩,m,n⟩:=h;exact⟨⟨a,b,c,PH s i d,PH s j e,PH s k f,PH s l g,d,e,f,g⟩,m,n⟩
def KO.same{H H':Hp}{p v:A2}{ns:A0 Str}{ks:A0 (Str×Str)}{A B:A0 Nat}(h:KO H p v ns ks A B)(s:CM H H'):KO H' p v ns ks A B:=h.sm s.sm
def Tb{n j:Nat}(h:j<n):TN n (j:Int)=some j:=by
 unfold TN;rw[AU (by omega),AU (by omega),CC]
def Bf{B:A0 Nat}{a:Nat}(h:a<B.length):SR (B.map J1) (a:Int)=some (.int ((B.getD a 0:Nat):Int)):=by
 refine S4 ?_;rw[AG,AC h,BK,AC h];rfl
def Kt(n:Nat):(List.replicate ((n:Int).toNat) [V.int 0]).flatten =(List.replicate n 0).map J1:=by
 rw[CC]
 induction n with
 | zero=>rfl
 | succ n a =>
  rw[EW,HC,a,EW,BB];rfl
def Lq(B:A0 Nat)(a m:Nat):(B.map J1).set a (.int (m:Int)) =(B.set a m).map J1:=by
 rw[List.map_set];rfl
section
variable{P:A6}{w:F1}{K:PySem.W.Frag}{mg:Str->A4 A1}{base:IV}
theorem KL:IT ["_law_names_here", "_law_strikes_here", "_law_strikers", "_law_struck", "_law_one", "_law_other", "_law_a", "_law_b"] ["_law_names_here", "_law_strikes_here"] (B5 OX):=LC
def Vp:Sp:=fun f H Q _=>∃(n a:A2) (b:A0 Str) (c:A0 JI),f = [.ref n,.ref a]/\H n=some (.lst (b.map V.str))/\j0 b/\H a=some (.lst (J4 c))/\(∀q∈c,E2 H q)/\QP b c /\
 ∀v d A B e,H v=none->CM H e->d.Perm b->d.Pairwise RB->(∀p o,H p=some o->KO e p v d (c.map fun q=>q.2) A B)->Q (.ref v) e
set_option maxHeartbeats 2000000 in
theorem Et(T:Tx K mg):JC P w K mg base KB 1 T.a4.f T.a4.fd ["_law_names_here", "_law_strikes_here"] Vp:=by
 refine T.a4.F.o1 KL fun cdv A outer s H vs Q E hr h=>?_
 .obtain⟨n,a,ss,y,rfl,hn,hN,ha,hP,hO,q⟩:=h;refine⟨_,(B2 (C3 (i:=0) KL.nd rfl (.inl rfl) (D4 (Db K) T.ao G9 (A8 (pv 0) B0)))
   (B2 (Wz (i:=2) (j:=3) rfl KL.nd rfl rfl (by decide) rfl rfl (A8 (D0 Xa (K8 (A8 B8 B0)) (D4 (J6 K) T.aj J3 (A8 (pv 0) B0))) (A8 (D0 Xa (K8 (A8 B8 B0)) (D4 (J6 K) T.aj J3 (A8 (pv 0) B0))) B0)) rfl)
   (B2 (K2 PassesOwn.never rfl (MQ K (pv 1)) (RY K (n:=2) (C8 (D6 (i:=4) KL.nd rfl (.inl rfl)) (C8 (D6 (i:=5) KL.nd rfl (.inl rfl)) M5)))
   (B2 (Wz (i:=6) (j:=7) rfl KL.nd rfl rfl (by decide) rfl rfl (A8 (Hh K PySem.F.plainAttrs_list PySem.F.slot_list_index PySem.F.type_list_index (Ln K) (pv 0) (A8 (pv 4) B0)) (A8 (Hh K PySem.F.plainAttrs_list PySem.F.slot_list_index PySem.F.type_list_index (Ln K) (pv 0) (A8 (pv 5) B0)) B0)) rfl)
   (B2 (m9 (D0 Y6 (K3 (OL K) (pv 2) (pv 7) (fun _ _=>rfl)) (D0 By B8 (pv 6))) (Ek (pv 2) (pv 7) b9))
   (B3 (m9 (D0 Y6 (K3 (OL K) (pv 3) (pv 6) (fun _ _=>rfl)) (D0 By B8 (pv 7))) (Ek (pv 3) (pv 6) b9))))))
   (B3 (C0 (K8 (A8 (pv 0) (A8 (pv 2) (A8 (pv 3) B0))))))))),?_⟩
  refine A5 rfl ⟨n,ss,rfl,IW.of hn,fun l b hl G srt=>?_⟩;have S:b.Nodup:=G.nodup_iff.mpr hN.2.1;have U:(b.map V.str).length=b.length:=AB ..;have ln:b.length<=100:=by rw[G.length_eq];exact hN.2.2
  have s1:CM H (IU H l (.lst (b.map V.str))):=CM.new hl;refine⟨by show 1<=sizeLine;decide,fun W d=>?_⟩;have s2:=s1.trans (CM.new (o:=.lst [V.int 0]) d);refine A5 rfl (B9 (a:=l) rfl (.inl (IW.of ((CM.new d) _ _ A9))) ⟨W,B9 rfl rfl ⟨A9,by omega,by omega,by rw[U,CC,sizeLine_eq];show 1*b.length<=_;omega,fun s X=>?_⟩⟩);rw[U,Kt];have hs1:IU H l (.lst (b.map V.str)) s=none:=(CM.new d).free X;have I:H s=none:=s2.free X;have nls:l≠s:=B1 A9 hs1;have s3:=s2.trans (CM.new (o:=.lst ((List.replicate b.length 0).map J1)) X);refine⟨by show 1<=sizeLine;decide,fun J r=>?_⟩;have s4:=s3.trans (CM.new (o:=.lst [V.int 0]) r);have Y:(IU (IU (IU (IU H l (.lst (b.map V.str))) W (.lst [V.int 0])) s (.lst ((List.replicate b.length 0).map J1))) J (.lst [V.int 0])) l=some (.lst (b.map V.str)) :=
   (CM.new r) _ _ ((CM.new X) _ _ ((CM.new d) _ _ A9))
  have es:(IU (IU (IU (IU H l (.lst (b.map V.str))) W (.lst [V.int 0])) s (.lst ((List.replicate b.length 0).map J1))) J (.lst [V.int 0])) s=some (.lst ((List.replicate b.length 0).map J1)):=(CM.new r) _ _ A9;generalize hG:IU (IU (IU (IU H l (.lst (b.map V.str))) W (.lst [V.int 0])) s (.lst ((List.replicate b.length 0).map J1))) J (.lst [V.int 0])=H4 at s4 Y es⊢;have et2:H4 J=some (.lst [V.int 0]):=by rw[<-hG];exact A9
  refine A5 rfl (B9 (a:=l) rfl (.inl (IW.of Y)) ⟨J,B9 rfl rfl ⟨et2,by omega,by omega,by rw[U,CC,sizeLine_eq];show 1*b.length<=_;omega,fun t Z=>?_⟩⟩);rw[U,Kt];have L:l≠t:=B1 Y Z;have e:s≠t:=B1 es Z;have s5:=s4.trans (CM.new (o:=.lst ((List.replicate b.length 0).map J1)) Z);have M:H t=none:=s4.free Z;refine⟨_,A5 rfl (A5 rfl ⟨a,rfl,⟨_,IW.of (s5 _ _ ha)⟩,?_⟩)⟩;refine O1 (ND (K:=K) (IW.of ha)) (fun i σ u=>(∃v4 v5 v6 v7,σ = [some (.ref l),some (.ref a),some (.ref s),some (.ref t),v4,v5,v6,v7])/\CM H u/\u l=some (.lst (b.map V.str)) /\
   ∃A B:A0 Nat,u s=some (.lst (A.map J1))/\u t=some (.lst (B.map J1))/\MB b ((y.take i).map fun q=>(q.2.2,q.2.1)) A/\MB b ((y.take i).map fun q=>q.2) B) ?_ ?_ ?_ ?_
  .exact⟨⟨_,_,_,_,rfl⟩,s5,by rw[B6 L];exact Y,_,_,by rw[B6 e];exact es,A9,MB.zero b,MB.zero b⟩
  .rintro i σ u hi ⟨_,g,_⟩;exact g.at a
  .rintro i σ u v c ⟨⟨v4,v5,v6,v7,rfl⟩,g,x,A,B,h3,h4,C,D⟩ D1 hD1 _;unfold J4 at c;rw[AG]at c;cases N:y[i]? with
   | none=>rw[N]at c;cases c
   | some q =>
    rw[N]at c;cases c;have hm:q∈y:=AM N;obtain⟨m1,m2⟩:=hO.nm q hm;have m1:q.2.1∈b:=G.mem_iff.mpr m1;have m2:q.2.2∈b:=G.mem_iff.mpr m2;obtain⟨j,O⟩:=EK.mp m1;obtain⟨k,R⟩:=EK.mp m2;have lj:j<b.length:=(AD.mp O).1;have lk:k<b.length:=(AD.mp R).1;refine⟨q.1,A5 rfl ⟨KQ.of (g _ _ (hP q hm)),rfl,_,A5 rfl (B9 rfl rfl ?_)⟩⟩;refine A5 rfl ⟨.inl ⟨rfl,_,IW.of x⟩,A5 rfl ⟨l,b,q.2.1,j,rfl,rfl,IW.of x,O,fun m hm z=>by have:=T3 S z O;omega,?_⟩⟩;refine A5 rfl ⟨.inl ⟨rfl,_,IW.of x⟩,A5 rfl ⟨l,b,q.2.2,k,rfl,rfl,IW.of x,R,fun m hm z=>by have:=T3 S z R;omega,?_⟩⟩;refine⟨_,A5 rfl ?_⟩;refine A5 rfl (A5 rfl ⟨s,_,B9 rfl rfl ⟨IW.of h3,Bf (by rw[C.len];exact lk),A5 rfl (B9 rfl rfl ⟨⟨by omega,by omega,by decide⟩,B9 rfl rfl ?_⟩)⟩⟩);dsimp only;rw[UN,R5];refine A5 rfl (A5 rfl ⟨s,_,_,k,rfl,rfl,h3,Tb (by rw[AB,C.len];exact lk),?_⟩);rw[Lq];refine A5 rfl (A5 rfl ⟨t,_,B9 rfl rfl ⟨IW.of (by rw[B6 e.symm];exact h4),Bf (by rw[D.len];exact lj),A5 rfl (B9 rfl rfl ⟨⟨by omega,by omega,by decide⟩,B9 rfl rfl ?_⟩)⟩⟩);dsimp only;rw[UN,R5];refine A5 rfl (A5 rfl ⟨t,_,_,j,rfl,rfl,by rw[B6 e.symm];exact h4,Tb (by rw[AB,D.len];exact lj),?_⟩);rw[Lq];refine hD1 _ _ ⟨⟨_,_,_,_,rfl⟩,(g.upd I).upd M,?_,A.set k (A.getD k 0 ||| 2^j),_,?_,A9,?_,?_⟩
    .rw[B6 L,B6 nls];exact x
    .rw[B6 e,A9]
    .rw[I_ N,AL];exact C.step S R O
    .rw[I_ N,AL];exact D.step S O R
  .rintro σ u ⟨⟨v4,v5,v6,v7,rfl⟩,g,x,A,B,h3,h4,C,D⟩;have lr:(J4 y).length=y.length:=by unfold J4;rw[AB]
   rw[lr,BP]at C D;refine A5 rfl (A5 rfl (A5 rfl ⟨by show 3<=sizeLine;decide,fun v c=>?_⟩));have s9:=CM.new (o:=.lst [.ref l,.ref s,.ref t]) c;refine q v b A B _ (g.free c) (g.trans s9) G srt fun p o hp=>⟨⟨l,s,t,A9,s9 _ _ x,s9 _ _ h3,s9 _ _ h4,(B1 (g _ _ hp) c).symm,(B1 hp hl).symm,(B1 hp I).symm,(B1 hp M).symm⟩,?_,D⟩;rw[BO];exact C
end
def Dt(ns:A0 Str)(m i:Nat):A0 Str:=(List.range i).filterMap fun k=>if m.testBit k=true then ns[k]? else none
def JX(ns:A0 Str)(m:Nat):A0 Str:=Dt ns m ns.length
def Q5{ns:A0 Str}{m i:Nat}{x:Str}(h:ns[i]?=some x):Dt ns m (i+1)=Dt ns m i++if m.testBit i=true then [x]else []:=by
 unfold Dt;rw[EM,List.filterMap_append];congr 1;by_cases e:m.testBit i=true
 .rw[AU e];simp[e,h]
 .rw[AO e];simp[e]
def KN{ns:A0 Str}{m:Nat}{x:Str}:x∈JX ns m↔∃k,m.testBit k=true/\ns[k]?=some x:=by
 unfold JX Dt;rw[List.mem_filterMap];constructor
 .rintro⟨k,a,e⟩;by_cases h:m.testBit k=true
  .rw[AU h]at e;exact⟨k,h,e⟩
  .rw[AO h]at e;cases e
 .rintro⟨k,h,e⟩;exact⟨k,CB.mpr (AD.mp e).1,by rw[AU h];exact e⟩
def Z9(ns:A0 Str)(m:Nat):∀i,i<=ns.length->(Dt ns m i).Sublist (ns.take i)
 | 0,_=>by simp[Dt]
 | i+1,h=>by
  have a:ns[i]?=some ns[i]:=AC (by omega);rw[Q5 a,I_ a];refine(Z9 ns m i (by omega)).append ?_;by_cases e:m.testBit i=true
  .rw[AU e];exact List.Sublist.refl _
  .rw[AO e];exact List.nil_sublist _
def P2(ns:A0 Str)(m:Nat):(JX ns m).Sublist ns:=by
 have:=Z9 ns m ns.length (Nat.le_refl _)
 rwa [BP]at this
section
variable{P:A6}{w:F1}{K:PySem.W.Frag}{mg:Str->A4 A1}{base:IV}
theorem Dv:IT ["_law_view", "_law_mask"] ["_law_view", "_law_mask"] (B5 OB):=LC
def Oo:Sp:=fun c H Q _=>∃(p v:A2) (m:Nat) (a:A0 Str) (d:A0 (Str×Str)) (A B:A0 Nat),c = [.ref v,.int (m:Int)]/\KO H p v a d A B/\a.length<=100 /\
 ∀l b,H l=none->CM H b->b l=some (.lst ((JX a m).map V.str))->Q (.ref l) b
theorem Cr(T:Tx K mg):JC P w K mg base KB 1 T.aY.f T.aY.fd ["_law_view", "_law_mask"] Oo:=by
 refine T.aY.F.o1 Dv fun M A o s H S Q E U h=>?_
 .obtain⟨p,v,m,g,W,A,B,rfl,O,X,q⟩:=h;obtain⟨⟨a,s,t,R,k,Y,Z,_⟩,mA,mB⟩:=id O;refine⟨_,(B3 (C0 (K6 (N':=["_law_k", "_law_name", "_law_mask"]) (cap:=[none,none,some 1]) (cl:=[("_law_mask",_)]) (G0 ⟨⟨rfl,rfl,rfl,rfl⟩,trivial⟩ ⟨rfl,trivial⟩) rfl (piE K T.aU (A8 (K3 (OL K) (pv 0) B8 (fun _ _=>rfl)) B0)) (fun _ _ _ _=>by exact⟨(RY K (n:=2) (C8 (LR 0) (C8 (LR 1) M5))),(P9 (C2 N9 (D0 Q2 (D0 Th (pv 2) (pv 0)) B8) B8 (C5 _))),(pv 1)⟩)))),?_⟩;dsimp only[Tn,We,J7,Wq,SJ,V9,Jh];refine A5 rfl ⟨v,_,B9 rfl rfl ⟨IW.of R,rfl,a,A5 rfl ⟨IW.of k,fun D r=>?_⟩⟩⟩;refine X2 (n:=g.length) (fun i σ b=>(∃C G,σ = [C,G,some (.int (m:Int))])/\CM H b/\b D=some (.lst ((Dt g m i).map V.str))) ⟨⟨_,_,rfl⟩,CM.new r,A9⟩ ?_ ?_ ?_ ?_
  .rintro i σ b u ⟨_,c,d⟩;exact⟨_,_,(c.at a).seqL (IW.of k),by rw[AG,AC u];rfl⟩
  .rintro σ b ⟨_,c,d⟩;exact⟨_,(c.at a).seqL (IW.of k),by rw[AB]⟩
  .rintro i σ b x H' N u ⟨⟨C,G,rfl⟩,c,d⟩ ⟨t,x,rfl,I,rfl,l⟩ J;have l:=l _ ((c.at a).seqL (IW.of k));have e:g[i]?=some g[i]:=AC u;rw[AG,e]at l;cases l;refine⟨t,A5 rfl ⟨KQ.of A9,rfl,_,A5 rfl (B9 rfl rfl ?_)⟩⟩;have j:D≠t:=B1 d I;have L:CM H (IU b t (.tup [.int i,.str g[i]])):=c.trans (CM.new I);refine A5 rfl (A5 rfl (B9 rfl rfl ⟨(show(0:Int)<=(i:Int) by omega),B9 rfl rfl ⟨rfl,A5 rfl ?_⟩⟩));dsimp only;rw[Qb];have y:=(Z9 g m i (by omega)).length_le;rw[AR]at y;refine Q6 (fun z=>?_) (fun z=>?_)
   .refine A5 rfl ⟨_,by rw[B6 j];exact d,by rw[AB,sizeLine_eq];omega,J _ _ ⟨⟨_,_,rfl⟩,L.upd r,?_⟩⟩;rw[A9,Q5 e,AU z,AL];rfl
   .refine J _ _ ⟨⟨_,_,rfl⟩,L,?_⟩;rw[B6 j,Q5 e,AO z,CV];exact d
  .rintro σ b ⟨_,c,d⟩;exact q D b r c d
end
def Ej(B:A0 Nat)(m j:Nat):Prop:=∃k,m.testBit k=true/\(B.getD k 0).testBit j=true
def P8(n:Nat)(A B:A0 Nat)(m j:Nat):Prop:=j<n/\∀b,(A.getD j 0).testBit b=true->Ej B m b
def JL(B:A0 Nat)(m:Nat):Prop:=∀i j,m.testBit i=true->m.testBit j=true->¬(B.getD i 0).testBit j=true
def o8(a h:Nat):decide (V.int (Builtin.bitAnd (a:Int) (Builtin.bitNot (h:Int)))=V.int 0)=true↔∀b,a.testBit b=true->h.testBit b=true:=by
 rw[BD,PyProof.Rows.bitAnd_not,Xu];constructor
 .intro e b c;injection e with e;have e:a=a &&& h:=by omega
  rw[e,EG,BU]at c;exact c.2
 .intro k;have e:a &&& h=a:=CN fun b=>by
   rw[EG];cases c:a.testBit b with
   | false=>rfl
   | true=>rw[k b c];rfl
  rw[e,Int.sub_self]
def Vm(a m:Nat):decide (V.int (Builtin.bitAnd (a:Int) (m:Int))=V.int 0)=true↔∀b,a.testBit b=true->¬m.testBit b=true:=by
 rw[BD,Xu];constructor
 .intro e b c d;injection e with e;have e:a &&& m=0:=by omega
  have:(a &&& m).testBit b=true:=by rw[EG,c,d];rfl
  rw[e,DG]at this;cases this
 .intro k;have e:a &&& m=0:=CN fun b=>by
   rw[EG,DG];cases c:a.testBit b with
   | false=>rfl
   | true =>
    have:=k b c;cases d:m.testBit b with
    | false=>rfl
    | true=>exact absurd d this
  rw[e];rfl
def U7(d k j:Nat):(d ||| 2^k).testBit j=true↔d.testBit j=true\/j=k:=by
 rw[CH,DP,EJ,BD];exact⟨fun h=>h.imp id Eq.symm,fun h=>h.imp id Eq.symm⟩
section
variable{P:A6}{w:F1}{K:PySem.W.Frag}{mg:Str->A4 A1}{base:IV}
theorem MN:IT ["_law_view", "_law_mask", "_law_hit_here", "_law_k"] ["_law_view", "_law_mask"] (B5 QK):=LC
def zEb:Sp:=fun b H Q _=>∃(p v:A2) (m:Nat) (a:A0 Str) (c:A0 (Str×Str)) (A B:A0 Nat),b = [.ref v,.int (m:Int)]/\KO H p v a c A B/\a.length<=100 /\
 ∀h:Nat,(∀j,h.testBit j=true↔Ej B m j)->Q (.int (h:Int)) H
theorem Bs(T:Tx K mg):JC P w K mg base KB 1 T.a7.f T.a7.fd ["_law_view", "_law_mask"] zEb:=by
 refine T.a7.F.o1 MN fun x A g s H J Q E L h=>?_
 .obtain⟨p,v,m,M,N,A,B,rfl,y,O,q⟩:=h;obtain⟨⟨a,s,t,r,C,R,D,_⟩,S,u⟩:=id y;refine⟨_,(B2 (C3 (i:=2) MN.nd rfl (.inl rfl) B8)
   (B2 (K2 PassesOwn.never rfl (UB T.aO (A8 (D4 (J6 K) T.aj J3 (A8 (K3 (OL K) (pv 0) B8 (fun _ _=>rfl)) B0)) B0)) (D6 (i:=3) MN.nd rfl (.inl rfl))
   (B3 (G8 (C2 N9 (D0 Q2 (D0 Th (pv 1) (pv 3)) B8) B8 (C5 _)) (B3 (C3 (i:=2) MN.nd rfl (.inl rfl) (D0 Y6 (pv 2) (K3 (OL K) (K3 (OL K) (pv 0) B8 (fun _ _=>rfl)) (pv 3) (fun _ _=>rfl))))) C7)))
   (B3 (C0 (pv 2))))),?_⟩
  refine A5 rfl ⟨v,_,B9 rfl rfl ⟨IW.of r,rfl,B9 (a:=a) rfl (.inl (IW.of C)) (A5 rfl ⟨?_,?_,?_⟩)⟩⟩
  .omega
  .rw[AB];omega
  rw[AB,CC];refine O8 (fun i σ l=>l=H/\∃(h:Nat) (n:A4 V),σ = [some (.ref v),some (.int (m:Int)),some (.int (h:Int)),n]/\∀j,h.testBit j=true↔∃k,k<i/\m.testBit k=true/\(B.getD k 0).testBit j=true) ?_ ?_ ?_
  .exact⟨rfl,0,_,rfl,fun j=>by rw[DG];simp⟩
  .rintro i σ l G ⟨rfl,h,n,rfl,d⟩ U c _;rw[IM];refine A5 rfl (A5 rfl (B9 rfl rfl ⟨(show(0:Int)<=(i:Int) by omega),B9 rfl rfl ⟨rfl,A5 rfl ?_⟩⟩));dsimp only;rw[Qb];refine Q6 (fun o=>?_) (fun o=>?_)
   .refine A5 rfl (A5 rfl ⟨v,_,B9 rfl rfl ⟨IW.of r,rfl,A5 rfl ⟨t,_,B9 rfl rfl ⟨IW.of D,Bf (by rw[u.len];exact G),B9 rfl rfl ?_⟩⟩⟩⟩);dsimp only;rw[R5];refine c _ _ ⟨rfl,_,_,rfl,fun j=>?_⟩;rw[CH,DP,d];constructor
    .rintro(⟨k,b,h2⟩ | h2)
     .exact⟨k,by omega,h2⟩
     .exact⟨i,by omega,o,h2⟩
    .rintro⟨k,b,h2⟩;by_cases e:k=i
     .rw[e]at h2;exact .inr h2.2
     .exact .inl ⟨k,by omega,h2⟩
   .refine c _ _ ⟨rfl,h,_,rfl,fun j=>?_⟩;rw[d];constructor
    .rintro⟨k,b,h2⟩;exact⟨k,by omega,h2⟩
    .rintro⟨k,b,h2⟩;by_cases e:k=i
     .rw[e]at h2;exact absurd h2.1 o
     .exact⟨k,by omega,h2⟩
  .rintro σ l ⟨rfl,h,n,rfl,d⟩;refine A5 rfl (q h fun j=>?_);rw[d];constructor
   .rintro⟨k,b,h2⟩;exact⟨k,h2⟩
   .rintro⟨k,b,h2⟩;refine⟨k,?_,b,h2⟩;obtain⟨z,_,I,_⟩:=(u.bit k j).mp h2;exact(AD.mp I).1
theorem LD:IT ["_law_view", "_law_mask", "_law_hit_here", "_law_kept_here", "_law_k"] ["_law_view", "_law_mask"] (B5 PZ):=LC
def Xv:Sp:=fun b H Q _=>∃(p v:A2) (m:Nat) (a:A0 Str) (c:A0 (Str×Str)) (A B:A0 Nat),b = [.ref v,.int (m:Int)]/\KO H p v a c A B/\a.length<=100 /\
 ∀h:Nat,(∀j,h.testBit j=true↔P8 a.length A B m j)->Q (.int (h:Int)) H
theorem Ay(T:Tx K mg):JC P w K mg base KB 2 T.aZ.f T.aZ.fd ["_law_view", "_law_mask"] Xv:=by
 refine T.aZ.F.o1 LD fun M A x s H Z Q E N h=>?_
 .obtain⟨p,v,m,O,R,A,B,rfl,I,S,q⟩:=h;obtain⟨⟨a,s,t,J,U,W,e4,_⟩,X,mB⟩:=id I;refine⟨_,(B2 (C3 (i:=2) LD.nd rfl (.inl rfl) (C9 T.a7 (Bs T) (Rm N) (A8 (pv 0) (A8 (pv 1) B0))))
   (B2 (C3 (i:=3) LD.nd rfl (.inl rfl) B8)
   (B2 (K2 PassesOwn.never rfl (UB T.aO (A8 (D4 (J6 K) T.aj J3 (A8 (K3 (OL K) (pv 0) B8 (fun _ _=>rfl)) B0)) B0)) (D6 (i:=4) LD.nd rfl (.inl rfl))
   (B3 (G8 (C2 N9 (D0 Q2 (K3 (OL K) (K3 (OL K) (pv 0) B8 (fun _ _=>rfl)) (pv 4) (fun _ _=>rfl)) (Yl Xo (pv 2))) B8 (C5 _)) (B3 (C3 (i:=3) LD.nd rfl (.inl rfl) (D0 Y6 (pv 3) (D0 By B8 (pv 4))))) C7)))
   (B3 (C0 (pv 3)))))),?_⟩
  refine A5 rfl (A5 rfl (Vk (a:=p) (b:=v) (c:=m) (d:=O) (e:=R) (f:=A) (g:=B) rfl I S fun o k=>?_));refine A5 rfl ⟨v,_,B9 rfl rfl ⟨IW.of J,rfl,B9 (a:=a) rfl (.inl (IW.of U)) (A5 rfl ⟨?_,?_,?_⟩)⟩⟩
  .omega
  .rw[AB];omega
  rw[AB,CC];refine O8 (fun i σ y=>y=H/\∃(h:Nat) (C:A4 V),σ = [some (.ref v),some (.int (m:Int)),some (.int (o:Int)),some (.int (h:Int)),C]/\∀j,h.testBit j=true↔P8 i A B m j) ?_ ?_ ?_
  .exact⟨rfl,0,_,rfl,fun j=>by rw[DG];exact⟨fun z=>(by cases z),fun z=>absurd z.1 (GY _)⟩⟩
  .rintro i σ y Y ⟨rfl,h,C,rfl,u⟩ D1 r _;rw[IM];refine A5 rfl ⟨v,_,B9 rfl rfl ⟨IW.of J,rfl,A5 rfl ⟨s,_,B9 rfl rfl ⟨IW.of W,Bf (by rw[X.len];exact Y),A5 rfl (A5 rfl (B9 rfl rfl ⟨rfl,A5 rfl ?_⟩))⟩⟩⟩⟩;dsimp only;have L:=o8 (A.getD i 0) o;refine Q6 (fun D=>?_) (fun D=>?_)
   .refine A5 rfl (A5 rfl (B9 rfl rfl ⟨⟨by omega,by omega,by decide⟩,B9 rfl rfl ?_⟩));dsimp only;rw[UN,R5];refine r _ _ ⟨rfl,_,_,rfl,fun j=>?_⟩;rw[U7,u];constructor
    .rintro(⟨G,l⟩ | rfl)
     .exact⟨by omega,l⟩
     .exact⟨by omega,fun b n=>(k b).mp (L.mp D b n)⟩
    .rintro⟨G,l⟩;by_cases e:j=i
     .exact .inr e
     .exact .inl ⟨by omega,l⟩
   .refine r _ _ ⟨rfl,h,_,rfl,fun j=>?_⟩;rw[u];constructor
    .rintro⟨G,l⟩;exact⟨by omega,l⟩
    .rintro⟨G,l⟩;by_cases e:j=i
     .subst e;exact absurd (L.mpr fun b n=>(k b).mpr (l b n)) D
     .exact⟨by omega,l⟩
  .rintro σ y ⟨rfl,h,C,rfl,u⟩;exact⟨_,rfl,q h u⟩
theorem Ad:IT ["_law_view", "_law_mask"] ["_law_view", "_law_mask"] (B5 NK):=LC
def Ra:Sp:=fun c H Q _=>∃(p v:A2) (m:Nat) (a:A0 Str) (d:A0 (Str×Str)) (A B:A0 Nat),c = [.ref v,.int (m:Int)]/\KO H p v a d A B/\a.length<=100 /\
 ∀b:Bool,(b=true↔JL B m)->Q (.bl b) H
theorem P3(T:Tx K mg):JC P w K mg base KB 2 T.av.f T.av.fd ["_law_view", "_law_mask"] Ra:=by
 refine T.av.F.o1 Ad fun t A l s H I Q E u h=>?_
 .obtain⟨p,v,m,x,y,A,B,rfl,z,C,q⟩:=h;refine⟨_,(B3 (C0 (D9 N9 (D0 Q2 (C9 T.a7 (Bs T) (Rm u) (A8 (pv 0) (A8 (pv 1) B0))) (pv 1)) B8 (C5 _)))),?_⟩;refine A5 rfl (A5 rfl (Vk (a:=p) (b:=v) (c:=m) (d:=x) (e:=y) (f:=A) (g:=B) rfl z C fun D k=>?_));refine A5 rfl (B9 rfl rfl ⟨rfl,?_⟩);refine q _ ?_;dsimp only;rw[Vm];constructor
  .intro h i j n o r;exact h j ((k j).mpr ⟨i,n,r⟩) o
  .intro h j o G;obtain⟨i,n,r⟩:=(k j).mp o;exact h i j n G r
end
def Tk{H H':Hp}{p:A2}{c:Int}{q:JI}(h:E2 H q)(L:JE H p c)(s:Sm [p] H H'):E2 H' q:=by
 obtain⟨x,y,e,_⟩:=L;exact PH s h (U6 h e (by intro z;cases z))
def JV.sm{C:A2}{H H':Hp}{x p:A2}{c:Int}{ns:A0 Str}{qs:A0 JI}(h:JV C H x ns qs)(L:JE H p c)(s:Sm [p] H H'):JV C H' x ns qs:=by
 obtain⟨j,m,a,b,c,d,r,t,u,g,i,w,A,B,D,E⟩:=h;obtain⟨y,z,F,_⟩:=id L;have k:∀{b:A2} {o:HO},H b=some o->o≠ .lst [.int y,.int z,.int _]->H' b=some o:=fun e n=>PH s e (U6 e F n);exact⟨j,m,a,b,c,d,r,t,k u (by intro z;cases z),PH s g (L.ne g),PH s i (L.neP i),fun q G=>Tk (w q G) L s,k A (by intro z;cases z),k B (by intro z;cases z),fun n f=>let⟨l,v,e⟩:=D n f;⟨l,v,PH s e (L.ne e)⟩,fun n f=>let⟨l,v,e⟩:=E n f;⟨l,v,PH s e (L.ne e)⟩⟩
def sd(ss:A0 Str):PyData:=.list (ss.map PyData.str)
def Jz{K:PySem.W.Frag}{H:Hp}:∀ss:A0 Str,PL K H (ss.map PyData.str) (ss.map V.str)
 | []=>by simp[PL]
 | x::r=>by
  simp only[BB,PL,Rp];exact⟨_,_,rfl,rfl,Jz r⟩
def Hn{K:PySem.W.Frag}{H:Hp}{l:A2}{ss:A0 Str}(h:IW K H l (ss.map V.str)):Rp K H (sd ss) (.ref l):=by
 unfold sd;simp only[Rp];exact⟨l,_,rfl,h,Jz ss⟩
def g7:∀ss:A0 Str,PyData.depthAll (ss.map PyData.str)<=1
 | []=>by simp[PyData.depthAll]
 | x::r=>by
  have:=g7 r;simp only[BB,PyData.depthAll,PyData.depth];omega
def Kg:∀{ss:A0 Str},(∀x∈ss,PySem.PyData.strOk x=true)->PyData.canLayAll0 (ss.map PyData.str)=true
 | [],_=>rfl
 | x::r,h=>by
  rw[BB,PyData.canLayAll0,Kg fun z a=>h z (A_ _ a)];simp[PyData.canLay0,h x (BG ..)]
def Jn{ss:A0 Str}(h:∀x∈ss,O6 x=true):Pl (sd ss):=by
 refine⟨?_,?_⟩
 .unfold sd;rw[PyData.canLay0];exact Kg fun x a=>T2 (h x a)
 .unfold sd;rw[PyData.depth];have:=g7 ss;omega
def Pg{K:PySem.W.Frag}{x y:V}{d:PyData}{H:Hp}{Q:VK}(h1:Rp K H d x)(h2:Rp K H d y)(p:Pl d)(q:Q (.bl false) H):zFk K x y H Q :=
 ⟨d,d,h1,h2,p,p,by rw[PySem.SeqAt.eqv_refl d p.1];exact q⟩
def Vi(qs:A0 JI)(ss:A0 Str)(n:Str):Prop:=∀x,f7 qs x n->∃m∈ss,f7 qs m x
def Mf(K:PySem.W.Frag)(C:A2):Sp:=fun g H Q _=>∃(x a:A2) (b c:A0 Str) (e:A0 JI),g = [.ref x,.ref a]/\JV C H x c e/\RO K H a (b.map V.str)/\(∀n∈b,n∈c)/\b.length<=100 /\
 ∀l (f:Str->Bool) d,H l=none->CM H d->(∀n∈c,f n=true↔Vi e b n)->d l=some (.lst ((c.filter f).map V.str))->Q (.ref l) d
section
variable{P:A6}{w:F1}{K:PySem.W.Frag}{mg:Str->A4 A1}{base:IV}
theorem PN:IT ["web", "some", "hit"] ["web", "some"] (B5 QL):=LC
theorem Mn(T:Tx K mg):JC P w K mg base KB 4 T.bi.f T.bi.fd ["web", "some"] (Mf K T.ab):=by
 refine T.bi.F.o1 PN fun cdv A Y s H vs Q E Z h=>?_
 .obtain⟨x,a,ss,q,g,rfl,hW,hS,hM,hl,k⟩:=h;refine⟨_,(B2 (C3 (i:=2) PN.nd rfl (.inr rfl) (C9 T.ap (J8 T) (Rm Z) (A8 (pv 0) (A8 (pv 1) B0))))
   (B3 (C0 (K6 (N':=["name", "hit", "web"]) (cap:=[none,some 2,some 0]) (cl:=[("web",_),("hit",_)]) (G0 ⟨⟨rfl,rfl,rfl,rfl⟩,⟨⟨rfl,rfl,rfl,rfl⟩,trivial⟩⟩ ⟨rfl,⟨rfl,trivial⟩⟩) rfl (MQ K (Z7 (pv 0) T.ah T.ad.m (I0 T) (Rm Z) T.ad.b .nil M6)) (fun _ _ _ _=>by exact⟨(LR 0),(P9 (M0 (D4 (Y3 K) T.aR Y8 (A8 (K6 (N':=["striker", "hit"]) (cap:=[none,some 1]) (cl:=[("hit",_)]) (G0 ⟨⟨rfl,rfl,rfl,rfl⟩,trivial⟩ ⟨rfl,trivial⟩) rfl (MQ K (F0 (pv 2) T.ah T.ag.m (K4 T) (Rm Z) T.ag.b .nil M6 (A8 (pv 0) B0))) (fun _ _ _ _=>by exact⟨(LR 0),D8,(D9 (Hg K) (pv 0) (pv 1) rfl)⟩)) B0)))),(pv 0)⟩))))),?_⟩
  refine A5 rfl (A5 rfl (Pr (a:=x) (b:=a) (c:=ss) (d:=q) (e:=g) rfl hW hS hM fun l t H1 hl0 J e1 m1 _ _ _=>?_));dsimp only[Tn,We,J7,Wq,SJ,V9,Jh];have W1:=hW.same J;obtain⟨ok,dx,a1,b,c,d,kc,kd,e2,_⟩:=id W1;refine A5 rfl ⟨x,dx,A5 rfl ⟨e2,rfl,x,q,g,rfl,W1,fun L hl2=>?_⟩⟩;have G:=CM.new (o:=.lst (q.map V.str)) hl2;have f2:(IU H1 L (.lst (q.map V.str))) L=some (.lst (q.map V.str)):=A9;generalize IU H1 L (.lst (q.map V.str))=H2 at G f2⊢;refine⟨L,rfl,⟨_,IW.of f2⟩,fun D hD=>?_⟩;have hlen:=ok.len;refine G7 (ND (K:=K) (IW.of f2)) (fun i σ C=>(∃M,σ = [M,some (.ref l),some (.ref x)])/\CM H2 C/\C D=some (.lst (((q.take i).filter fun n=>(B4 g n).all fun y=>decide (y∈t)).map V.str)))
   ⟨⟨_,rfl⟩,CM.new hD,A9⟩ (fun i σ H1 _ ⟨_,J,_⟩=>J.at L) ?_ ?_
  .rintro i σ C v N r ⟨⟨M,rfl⟩,z,O⟩ hN;rw[AG]at r;cases u:q[i]? with
   | none=>rw[u]at r;cases r
   | some n =>
    rw[u]at r;cases r;have hn:n∈q:=AM u;have W3:=(W1.same G).same z;refine A5 rfl ⟨x,dx,A5 rfl ⟨z _ _ (G _ _ e2),rfl,A5 rfl ⟨x,n,q,g,rfl,W3,hn,fun p hp=>?_⟩⟩⟩;have I:=CM.new (o:=.lst ((B4 g n).map V.str)) hp;have f4:(IU C p (.lst ((B4 g n).map V.str))) p=some (.lst ((B4 g n).map V.str)):=A9;generalize IU C p (.lst ((B4 g n).map V.str))=H4 at I f4⊢;have hDp:D≠p:=B1 O hp;have e4:=I _ _ O;have R:=I _ _ (z _ _ (G _ _ e1));refine⟨p,rfl,⟨_,IW.of f4⟩,fun D2 S=>?_⟩;have s24:CM H2 H4:=z.trans I;refine G7 (ND (K:=K) (IW.of f4)) (fun j σ U=>(∃M,σ = [M,some (.ref l)])/\CM H4 U/\U D2=some (.lst (((B4 g n).take j).map fun y=>V.bl (decide (y∈t)))))
     ⟨⟨_,rfl⟩,CM.new S,A9⟩ (fun j σ U _ ⟨_,B,_⟩=>B.at p) ?_ ?_
    .rintro j σ U v N' r ⟨⟨M,rfl⟩,B,W⟩ hN';rw[AG]at r;cases X:(B4 g n)[j]? with
     | none=>rw[X]at r;cases r
     | some y =>
      rw[X]at r;cases r;refine Q4 ?_;have hj:=(AD.mp X).1;have:=U3 g n;have:=ok.lenq;refine A5 rfl (A5 rfl (S8 (.inl (IW.of (B _ _ R))) ⟨_,W,?_,hN' _ _ ⟨⟨_,rfl⟩,B.upd S,?_⟩⟩))
      .rw[AB,AR,sizeLine_eq];omega
      .rw[A9,I_ X,AL];rfl
    .rintro σ U ⟨_,B,W⟩;rw[AB,BP]at W;refine⟨D2,(B4 g n).map fun y=>decide (y∈t),rfl,IW.of (by rw[W,BO];rfl),A5 rfl ?_⟩;rw[GV];have e6:=B _ _ e4;have hi:=(AD.mp u).1;have hf:((q.take (i+1)).filter fun n=>(B4 g n).all fun y=>decide (y∈t)) =((q.take i).filter fun n=>(B4 g n).all fun y=>decide (y∈t)) ++(if((B4 g n).all fun y=>decide (y∈t))=true then [n]else []):=by
      rw[I_ u,DN,CU,EY]
     refine Q6 (fun c=>?_) (fun c=>?_)
     .refine A5 rfl ⟨_,e6,?_,hN _ _ ⟨⟨_,rfl⟩,(z.trans (I.trans B)).upd hD,?_⟩⟩
      .rw[AB,sizeLine_eq];have:=(DE (l:=q.take i) (p:=fun n=>(B4 g n).all fun y=>decide (y∈t))).length_le;rw[AR]at this;omega
      .rw[A9,hf,AU (show((B4 g n).all fun y=>decide (y∈t))=true from c),AL];rfl
     .refine hN _ _ ⟨⟨_,rfl⟩,z.trans (I.trans B),?_⟩;rw[hf,AO (show ¬((B4 g n).all fun y=>decide (y∈t))=true from c),CV];exact e6
  .rintro σ C ⟨_,z,O⟩;rw[AB,BP]at O;refine k D _ C ((J.trans G).free hD) ((J.trans G).trans z) (fun n hn=>?_) O;rw[CI];constructor
   .intro h y u;obtain⟨m,hm,h'⟩:=(m1 y).mp (BL (h y (JG.mpr u)));exact⟨m,hm,JM.mp h'⟩
   .intro h y u;obtain⟨m,hm,h'⟩:=h y (JG.mp u);exact AK ((m1 y).mpr ⟨m,hm,JM.mpr h'⟩)
end
def Ba:∀a b:A0 Str,PyData.eqvAll (a.map PyData.str) (b.map PyData.str)=decide (a=b)
 | [],[]=>by simp[PyData.eqvAll]
 | [],_::_=>by simp[PyData.eqvAll]
 | _::_,[]=>by simp[PyData.eqvAll]
 | x::a,y::b=>by
  rw[BB,BB,PyData.eqvAll,Ba a b,PyData.eqv];by_cases d:x=y
  .by_cases c:a=b
   .rw[AK c,d,c];simp
   .rw[AX c];simp[c]
  .simp[d]
def zDx(a b:A0 Str):PyData.eqv (sd a) (sd b)=decide (a=b):=by
 unfold sd;rw[PyData.eqv,Ba]
def Li(ns:A0 Str)(qs:A0 JI)(ss:A0 Str):Prop:=Wk qs ss/\∀n∈ns,n∈ss↔Vi qs ss n
def Ry(K:PySem.W.Frag)(C:A2)(f:A0 Str->A0 JI->A0 Str->Prop):Sp:=fun h H Q _=>∃(x a:A2) (c d:A0 Str) (e:A0 JI),h = [.ref x,.ref a]/\JV C H x d e/\RO K H a (c.map V.str)/\(∀n∈c,n∈d)/\c.length<=100/\c.Nodup/\(∀n∈d,O6 n=true) /\
 ∀(b:Bool) g,(b=true↔f d e c)->CM H g->Q (.bl b) g
section
variable{P:A6}{w:F1}{K:PySem.W.Frag}{mg:Str->A4 A1}{base:IV}
theorem Jp:IT ["web", "some"] ["web", "some"] (B5 P7):=LC
theorem Jo(T:Tx K mg):JC P w K mg base KB 6 T.a9.f T.a9.fd ["web", "some"] (Ry K T.ab Li):=by
 refine T.a9.F.o1 Jp fun X A r s H vs Q E t h=>?_
 .obtain⟨x,a,u,p,L,rfl,v,B,j,M,Y,N,k⟩:=h;refine⟨_,(B3 (C0 (S0 (C9 T.bm (Se T) (Rm t) (A8 (pv 0) (A8 (pv 1) B0))) (U2 (D9 (Vs K t.units) (C9 T.bi (Mn T) (Rm t) (A8 (pv 0) (A8 (pv 1) B0))) (D4 (Wf K) T.ao G9 (A8 (pv 1) B0)) (C5 _)))))),?_⟩;refine A5 rfl (A5 rfl (Zs (a:=x) (b:=a) (c:=u) (d:=p) (e:=L) rfl v B j M fun b Z O m=>⟨b,rfl,?_⟩));obtain⟨R,_⟩:=id v;refine Q6 (fun c=>?_) (fun c=>?_)
  .refine⟨_,rfl,_,rfl,x,a,u,p,L,rfl,v.same m,(m.at a).seq B,j,M,fun l f H2 hl2 S C e2=>?_⟩;refine⟨_,rfl,a,u,rfl,((m.trans S).at a).seq B,fun l3 D G q I=>?_⟩;have U:=CM.new (o:=.lst (D.map V.str)) G;have g:(p.filter f).Sublist p:=DE;refine⟨_,_,Hn (IW.of (U _ _ e2)),Hn (IW.of A9),Jn fun y i=>N y (g.mem i),Jn fun y i=>N y (j y (q.mem_iff.mp i)),?_⟩;rw[zDx];refine k _ _ ?_ ((m.trans S).trans U);rw[BD];constructor
   .intro e;refine⟨O.mp c,fun n W=>?_⟩;rw[<-C n W,<-q.mem_iff,<-e,BI];exact⟨fun h=>h.2,fun h=>⟨W,h⟩⟩
   .rintro⟨_,h⟩;refine i7 (R.srt.sublist g) I ?_;refine(EU (g.nodup R.nd) (q.nodup_iff.mpr Y)).mpr fun y=>?_;rw[BI,q.mem_iff];constructor
    .rintro⟨i,J⟩;exact(h y i).mpr ((C y i).mp J)
    .intro i;exact⟨j y i,(C y (j y i)).mpr ((h y (j y i)).mp i)⟩
  .exact k false Z ⟨fun z=>(by cases z),fun h=>absurd (O.mpr h.1) c⟩ m
end
def WL(H:Hp)(l:A2)(ks:A0 (Str×Str)):Prop:=∃a:A0 JI,H l=some (.lst (J4 a))/\(∀q∈a,E2 H q)/\(a.map fun q=>q.2)=ks
def WL.nil{H:Hp}{l:A2}:WL (IU H l (.lst [])) l []:=⟨[],A9,fun q h=>absurd h (BH),rfl⟩
def WL.same{H H':Hp}{l:A2}{ks:A0 (Str×Str)}(h:WL H l ks)(s:CM H H'):WL H' l ks:=let⟨a,e,p,k⟩:=h;⟨a,s _ _ e,J5 s p,k⟩
def WL.get{H:Hp}{l:A2}{ks:A0 (Str×Str)}(h:WL H l ks):∃xs,H l=some (.lst xs)/\xs.length=ks.length:=let⟨a,e,_,k⟩:=h;⟨_,e,by rw[<-k,AB];unfold J4;rw[AB]⟩
def WL.put{H:Hp}{l t:A2}{ks:A0 (Str×Str)}{x y:Str}(h:WL H l ks)(a:H t=none):∃xs,(IU H t (.tup [.str x,.str y])) l=some (.lst xs)/\xs.length=ks.length/\WL (IU (IU H t (.tup [.str x,.str y])) l (.lst (xs ++ [.ref t]))) l (ks ++ [(x,y)]):=by
 obtain⟨b,e,p,k⟩:=h;have n:l≠t:=B1 e a;refine⟨J4 b,by rw[B6 n];exact e,by rw[<-k,AB];unfold J4;rw[AB],b ++ [(t,x,y)],?_,fun q c=>?_,by rw[AL,k];rfl⟩
 .rw[A9];unfold J4;rw[AL];rfl
 .unfold E2;rcases AS.mp c with z | z
  .rw[B6 (U6 (p q z) e (by intro z;cases z)),B6 (B1 (p q z) a)];exact p q z
  .rw[AH.mp z,B6 n.symm];exact A9
def I9(ss a:A0 Str)(n:Str):Str:=if n∈ss then "in" else if n∈a then "out" else "open"
def Jf(K:PySem.W.Frag)(C:A2):Sp:=fun g H Q _=>∃(x a:A2) (b c:A0 Str) (e:A0 JI),g = [.ref x,.ref a]/\JV C H x c e/\RO K H a (b.map V.str)/\(∀n∈b,n∈c) /\
 ∀l (f:A0 Str) d,H l=none->CM H d->(∀y,y∈f↔∃n∈b,y∈C1 e n)->WL d l (c.map fun n=>(n,I9 b f n))->Q (.ref l) d
section
variable{P:A6}{w:F1}{K:PySem.W.Frag}{mg:Str->A4 A1}{base:IV}
theorem LX:IT ["web", "some", "hit", "words", "name"] ["web", "some"] (B5 PP):=LC
theorem Af(T:Tx K mg):JC P w K mg base KB 4 T.aW.f T.aW.fd ["web", "some"] (Jf K T.ab):=by
 refine T.aW.F.o1 LX fun cdv A M s H vs Q E hr h=>?_
 .obtain⟨x,a,N,p,qs,rfl,hW,hS,hM,k⟩:=h;refine⟨_,(B2 (C3 (i:=2) LX.nd rfl (.inl rfl) (C9 T.ap (J8 T) (Rm hr) (A8 (pv 0) (A8 (pv 1) B0))))
   (B2 (C3 (i:=3) LX.nd rfl (.inl rfl) (K8 B0))
   (B2 (K2 PassesOwn.never rfl (MQ K (Z7 (pv 0) T.ah T.ad.m (I0 T) (Rm hr) T.ad.b .nil M6)) (D6 (i:=4) LX.nd rfl (.inl rfl))
   (B3 (G8 (C2 (Hg K) (pv 4) (pv 1) rfl) (B3 (E8 (Hh K PySem.F.plainAttrs_list PySem.F.slot_list_append PySem.F.type_list_append J2 (pv 3) (A8 (M8 (A8 (pv 4) (A8 K1 B0))) B0)))) (B3 (G8 (C2 (Hg K) (pv 4) (pv 2) rfl) (B3 (E8 (Hh K PySem.F.plainAttrs_list PySem.F.slot_list_append PySem.F.type_list_append J2 (pv 3) (A8 (M8 (A8 (pv 4) (A8 K1 B0))) B0)))) (B3 (E8 (Hh K PySem.F.plainAttrs_list PySem.F.slot_list_append PySem.F.type_list_append J2 (pv 3) (A8 (M8 (A8 (pv 4) (A8 K1 B0))) B0)))))))))
   (B3 (C0 (pv 3)))))),?_⟩
  refine A5 rfl (A5 rfl (Pr (a:=x) (b:=a) (c:=N) (d:=p) (e:=qs) rfl hW hS hM fun l O R hl0 J e1 m1 _ _ _=>?_));refine⟨CK _,fun g q=>?_⟩;have S:=CM.new (o:=.lst []) q;have U:=hW.same (J.trans S);have W:WL (IU R g (.lst [])) g []:=WL.nil;generalize IU R g (.lst [])=H2 at S U W⊢;obtain⟨ok,dx,a1,b,c,d,kc,kd,e2,_⟩:=id U;have hlen:=ok.len;refine A5 rfl ⟨x,dx,A5 rfl ⟨e2,rfl,x,p,qs,rfl,U,fun v B=>?_⟩⟩;have X:=CM.new (o:=.lst (p.map V.str)) B;have C:(IU H2 v (.lst (p.map V.str))) v=some (.lst (p.map V.str)):=A9;have Y:v≠g:=let⟨_,e,_⟩:=W.get;(B1 e B).symm;have W3:=W.same X;generalize IU H2 v (.lst (p.map V.str))=H3 at X C W3⊢;have S1:=(J.at a).seq hS;refine⟨v,rfl,⟨_,IW.of C⟩,O1 (ND (IW.of C)) (fun i σ r=>(∃Z,σ = [some (.ref x),some (.ref a),some (.ref l),some (.ref g),Z])/\CM R r/\r v=some (.lst (p.map V.str))/\WL r g ((p.take i).map fun n=>(n,I9 N O n))) ?_ ?_ ?_ ?_⟩
  .exact⟨⟨_,rfl⟩,S.trans X,C,W3⟩
  .rintro j σ H5 _ ⟨_,_,f5,_⟩ o e;exact(C.symm.trans e)▸f5
  .rintro i σ r y hy ⟨⟨Z,rfl⟩,G,f4,I⟩ D hD _;rw[AG]at hy;obtain⟨n,hn,rfl⟩:=AZ.mp hy;have hi:=(AD.mp hn).1;have u:∀L:Str,I9 N O n=L->zEg (tBM K "list" Td (Dr 3) (V9 (zEp (V9 (Dr 4) (V9 (tC (V.str L)) Jh))) Jh)) D [some (.ref x),some (.ref a),some (.ref l),some (.ref g),some (.str n)] r:=fun L ew=>by
    obtain⟨xs,e4,TK⟩:=I.get;refine A5 rfl ⟨.inl ⟨rfl,_,IW.of e4⟩,A5 rfl ⟨by show 2<=sizeLine;decide,fun t ht=>?_⟩⟩;obtain⟨ys,e5,SL,W5⟩:=I.put (x:=n) (y:=L) ht;refine⟨g,_,_,rfl,rfl,e5,?_,hD _ _ ⟨⟨_,rfl⟩,(G.trans (CM.new ht)).upd q,?_,?_⟩⟩
    .rw[SL,AB,AR,sizeLine_eq];omega
    .rw[B6 Y,B6 (B1 f4 ht)];exact f4
    .rw[I_ hn,AL,BB,ew];exact W5
   refine A5 rfl (A5 rfl (S8 ((G.at a).seq S1) ⟨_,rfl,Q6 (fun h=>u _ ?_) (fun h=>?_)⟩))
   .unfold I9;rw[AU (BL h)]
   have h:=fun z=>h (AK z);refine A5 rfl (A5 rfl (S8 (.inl (IW.of (G _ _ e1))) ⟨_,rfl,Q6 (fun h'=>u _ ?_) (fun h'=>u _ ?_)⟩))
   .unfold I9;rw[AO h,AU (BL h')]
   .unfold I9;rw[AO h,AO fun z=>h' (AK z)]
  .rintro σ r ⟨⟨Z,rfl⟩,G,f4,I⟩;rw[AB,BP]at I;exact⟨_,rfl,k g O r (J.free q) (J.trans G) m1 I⟩
end
def Pk{J:It}{xs:A0 V}{a D:A2}{H:Hp}(as:LA J xs a H){j:TE}{g:TG}{σ:St}{Q:St->Hp->Prop}(f:V->V)(o:xs.length<=1000)(k:H D=none)(Pσ:St->Prop)(p:Pσ σ)
  (step:∀(i:Nat) (σ:St) (G:Hp) (x:V) (M:St->VK),xs[i]?=some x->Pσ σ->CM H G->(∀σ2 d,Pσ σ2->CM G d->M σ2 (f x) d)->g x σ G fun σ2 r=>j σ2 r (M σ2))
  (q:∀σ G,CM H G->G D=some (.lst (xs.map f))->Q σ G):Y7 g X4 (T7 D j) J σ (IU H D (.lst [])) Q:=by
 refine G7 as (fun i σ G=>Pσ σ/\CM H G/\G D=some (.lst ((xs.take i).map f))) ⟨p,CM.new k,A9⟩ (fun i σ G _ h=>h.2.1.at a) ?_ ?_
 .rintro i σ G x N l ⟨hσ,b,c⟩ s;refine step i σ G x (fun σ2 y m=>∃e,m D=some (.lst e)/\e.length<sizeLine/\N σ2 (IU m D (.lst (e ++ [y])))) l hσ b fun σ2 d t n=>?_;refine⟨_,n _ _ c,by rw[AB,AR,sizeLine_eq];omega,s _ _ ⟨t,(b.trans n).upd k,?_⟩⟩;rw[A9,I_ l,AL];rfl
 .rintro σ G ⟨hσ,b,c⟩;rw[BP]at c;exact q σ G b c
def Qq{c e:Hp->A2->A0 V->Prop}{l d:A2}{xs ys:A0 V}(n:xs.length=ys.length){g:TG}{f:TT}{h:R6}{σ:St}{H:Hp}{Q:St->Hp->Prop}(Pv:Nat->St->Hp->Prop)(m:Pv 0 σ H)(a:∀i σ H,Pv i σ H->c H l xs/\e H d ys)
  (o:∀i σ H T x y (N:St->Hp->Prop),xs[i]?=some x->ys[i]?=some y->Pv i σ H->H T=none->(∀σ' H',Pv (i+1) σ' H'->N σ' H')->g (.ref T) σ (IU H T (.tup [x,y])) fun σ2 q=>f σ2 q fun b j=>if b=true then h σ2 j N else N σ2 j)
  (r:∀σ H,Pv xs.length σ H->Q σ H):Y7 g f h (Zy c e l d) σ H Q:=by
 refine X2 (n:=xs.length) Pv m (fun i σ H k p=>?_) (fun σ H p=>?_) (fun i σ H v H' N k p y s=>?_) r
 .exact⟨xs,ys,_,_,(a i σ H p).1,(a i σ H p).2,by omega,AC k,AC (by omega)⟩
 .exact⟨xs,ys,(a _ σ H p).1,(a _ σ H p).2,by omega,rfl⟩
 .obtain⟨T,x,z,rfl,t,rfl,u,w⟩:=y;exact o i σ H T x z N (u xs (a i σ H p).1) (w ys (a i σ H p).2) p t s
def Given(H:Hp)(d:A2)(ns:A0 Str)(f:Str->Str):Prop:=∃a,H d=some (.dK a)/\∀n∈ns,R9 a (.inr n)=some (.str (f n))
def Given.same{H H':Hp}{d:A2}{ns:A0 Str}{f:Str->Str}(h:Given H d ns f)(s:CM H H'):Given H' d ns f:=let⟨k,e,q⟩:=h;⟨k,s _ _ e,q⟩
def Given.get{H:Hp}{d:A2}{ns:A0 Str}{f:Str->Str}{n:Str}(h:Given H d ns f)(a:n∈ns):QH H d (.str n) (some (.str (f n))):=let⟨k,e,q⟩:=h;.inl ⟨k,.inr n,.inl e,rfl,(q n a).symm⟩
def VC(qs:A0 JI)(f:Str->Str)(n:Str):Bool:=decide (f n = "in") ==(B4 qs n).all fun m=>decide (f m = "out")
def ag2(qs:A0 JI)(f:Str->Str)(n:Str):Bool:=decide (f n = "out") == decide (("in":Str)∈(B4 qs n).map f)
def SS(qs:A0 JI)(f:Str->Str)(n:Str):Bool:=VC qs f n&&ag2 qs f n
def Jg(qs:A0 JI)(n:Str):(B4 qs n).length<=qs.length:=by
 unfold B4;rw[AB];exact BR _ _
def zAg{qs:A0 JI}{n y:Str}{ns:A0 Str}(h:∀q∈qs,q.2.1∈ns/\q.2.2∈ns)(a:y∈B4 qs n):y∈ns:=by
 obtain⟨q,b,rfl⟩:=AI.mp a;exact(h q (BI.mp b).1).1
def zCd(f:Str->Str):V->V
 | .str z=>.str (f z)
 | v=>v
def Ue(f:Str->Str)(l:A0 Str):(l.map V.str).map (zCd f) =(l.map f).map V.str:=by
 rw[BO,BO];rfl
def zAd(l:A0 Str):(l.map V.str).map (fun v=>V.bl (decide (v = .str "out"))) =(l.map fun z=>decide (z =("out":Str))).map V.bl:=by
 rw[BO,BO];refine EV fun z _=>?_;simp
def Gv(a b:Bool):decide (V.bl a=V.bl b) =(a == b):=by cases a<;>cases b<;>simp
def Q0(a b:Str):decide (V.str a=V.str b)=decide (a=b):=by simp
section
variable{P:A6}{w:F1}{K:PySem.W.Frag}{mg:Str->A4 A1}{base:IV}
theorem NQ:IT ["web", "given", "name", "against", "all_out", "one_in"] ["web", "given", "name"] (B5 QX):=LC
def Rq(C:A2):Sp:=fun e H Q _=>∃(x d:A2) (n:Str) (a:A0 Str) (b:A0 JI) (f:Str->Str),e = [.ref x,.ref d,.str n]/\JV C H x a b/\n∈a/\Given H d a f/\∀c,CM H c->Q (.bl (SS b f n)) c
theorem Qr(T:Tx K mg):JC P w K mg base KB 3 T.bn.f T.bn.fd ["web", "given", "name"] (Rq T.ab):=by
 refine T.bn.F.o1 NQ fun cdv A u s H vs Q E W h=>?_
 .obtain⟨x,d,n,ns,g,f,rfl,X,B,Y,q⟩:=h;have C:=t8 W;obtain⟨j,dx,a,b,c,e,kc,kd,ex,_⟩:=id X;refine⟨_,(B2 (Lu (i:=3) (N':=["striker", "given"]) (cap:=[none,some 1]) (cl:=[("given",_)]) NQ.nd rfl (.inl rfl) (G0 ⟨⟨rfl,rfl,rfl,rfl⟩,trivial⟩ ⟨rfl,trivial⟩) rfl (MQ K (F0 (pv 0) T.ah T.ag.m (K4 T) (Rm W) T.ag.b .nil M6 (A8 (pv 2) B0))) (fun _ _ _ _=>by exact⟨(LR 0),D8,(K0 C (pv 1) (pv 0) (fun _ _=>rfl))⟩))
   (B2 (C3 (i:=4) NQ.nd rfl (.inl rfl) (D4 (Y3 K) T.aR Y8 (A8 (K6 (N':=["word"]) (cap:=[none]) (cl:=[]) (G0 trivial trivial) rfl (MQ K (pv 3)) (fun _ _ _ _=>by exact⟨(LR 0),D8,(D9 N9 (pv 0) K1 (C5 _))⟩)) B0)))
   (B2 (C3 (i:=5) NQ.nd rfl (.inl rfl) (D9 (Hg K) K1 (pv 3) rfl))
   (B3 (C0 (S0 (D9 N9 (D9 N9 (K0 C (pv 1) (pv 2) (fun _ _=>rfl)) K1 (C5 _)) (pv 4) (C5 _)) (U2 (D9 N9 (D9 N9 (K0 C (pv 1) (pv 2) (fun _ _=>rfl)) K1 (C5 _)) (pv 5) (C5 _))))))))),?_⟩
  have ls:=Jg g n;have lq:=j.lenq;have lm:((B4 g n).map V.str).length<=1000:=by rw[AB];omega
  refine B7 fun N1 I=>?_;refine A5 rfl ⟨x,dx,_,rfl,ex,rfl,A5 rfl ⟨x,n,ns,g,rfl,X,B,fun l hl=>⟨l,rfl,⟨_,IW.of A9⟩,fun D Z=>?_⟩⟩⟩;have r:=CM.new (o:=.lst ((B4 g n).map V.str)) hl;have f1:(IU H l (.lst ((B4 g n).map V.str))) l=some (.lst ((B4 g n).map V.str)):=A9;generalize IU H l (.lst ((B4 g n).map V.str))=H1 at r f1 Z⊢;refine Pk (ND (K:=K) (IW.of f1)) (zCd f) lm Z (fun σ=>∃k,σ = [k,some (.ref d)]) ⟨_,rfl⟩ ?_ ?_
  .rintro i σ G y M p ⟨k,rfl⟩ sG J;rw[AG]at p;obtain⟨z,hz,rfl⟩:=AZ.mp p;exact A5 rfl (A5 rfl ⟨d,_,rfl,((Y.same r).same sG).get (zAg j.mem (AM hz)),J _ G ⟨_,rfl⟩ (CM.refl _)⟩)
  .intro σ H2 s2 t;rw[Ue]at t;have L:(((B4 g n).map f).map V.str).length<=1000:=by rw[AB,AB];omega
   refine I _ _ (B7 fun N2 N=>?_);refine A5 rfl ⟨D,rfl,⟨_,IW.of t⟩,fun D2 O=>?_⟩;refine Pk (ND (K:=K) (IW.of t)) (fun v=>.bl (decide (v = .str "out"))) L O (fun σ=>∃k,σ = [k]) ⟨_,rfl⟩ ?_ ?_
   .rintro i σ G y M p ⟨k,rfl⟩ sG J;rw[AG]at p;obtain⟨z,hz,rfl⟩:=AZ.mp p;exact A5 rfl ⟨rfl,J _ G ⟨_,rfl⟩ (CM.refl _)⟩
   .intro σ H3 R e3;rw[zAd]at e3;refine⟨D2,_,rfl,IW.of e3,?_⟩;refine N _ _ (B7 fun N3 S=>?_);refine A5 rfl (S8 (.inl (IW.of (R _ _ t))) ?_);have G3:=((Y.same r).same s2).same R;have sH:=(r.trans s2).trans R;refine S _ _ ?_;refine A5 rfl (A5 rfl ⟨d,_,rfl,G3.get B,⟨rfl,A5 rfl ⟨rfl,?_⟩⟩⟩);have q:=q H3 sH;unfold SS at q;rw[Gv,Q0];rw[GV,GV];refine⟨_,rfl,Q6 (fun U=>?_) (fun U=>?_)⟩
    .refine A5 rfl (A5 rfl ⟨d,_,rfl,G3.get B,⟨rfl,A5 rfl ⟨rfl,?_⟩⟩⟩);rw[Gv,Q0];rw[show VC g f n=true from U,FH]at q;exact q
    .rw[show VC g f n=false from BQ.mpr U,DK]at q;exact q
end
structure WS(H:Hp)(d:A2)(ps:A0 JI):Prop where
 at_:H d=some (.lst (J4 ps))\/H d=some (.tup (J4 ps))
 pin:∀q∈ps,E2 H q
 ok:∀q∈ps,PySem.PyData.strOk q.2.1=true/\PySem.PyData.strOk q.2.2=true
 len:ps.length<=200
def WS.same{H H':Hp}{d:A2}{ps:A0 JI}(h:WS H d ps)(s:CM H H'):WS H' d ps:=⟨h.at_.imp (s _ _) (s _ _),J5 s h.pin,h.ok,h.len⟩
def WS.sq{K:PySem.W.Frag}{H:Hp}{d:A2}{ps:A0 JI}(h:WS H d ps):RO K H d (J4 ps):=h.at_.imp IW.of KQ.of
abbrev W3:A0 Str:=["in", "out", "open"]
def Xw:∀y∈W3,PySem.PyData.strOk y=true:=by decide +kernel
def To(ns:A0 Str)(ks:A0 (Str×Str)):A0 Bool:=(ns.zip ks).map fun p=>decide (p.2∈W3.map fun y=>(p.1,y))
def P5(ns:A0 Str)(ks:A0 (Str×Str)):Bool:=decide (ks.length=ns.length) &&(To ns ks).all id
section
variable{P:A6}{w:F1}{K:PySem.W.Frag}{mg:Str->A4 A1}{base:IV}
theorem zAu{K:PySem.W.Frag}{H:Hp}{t l:A2}{k:Str×Str}{ps:A0 JI}{Q:VK}(b:H t=some (.tup [.str k.1,.str k.2]))(c:H l=some (.lst (J4 ps)))(d:∀q∈ps,E2 H q)
  (a:PySem.PyData.strOk k.1=true/\PySem.PyData.strOk k.2=true) (e:∀q∈ps,PySem.PyData.strOk q.2.1=true/\PySem.PyData.strOk q.2.2=true) (q:Q (.bl (decide (k∈ps.map fun q=>q.2))) H):Xn K false (.ref t) (.ref l) H Q :=
 ⟨pd k,_,Ic b,.inl (y0 c d),⟨Ko a.1 a.2,by simp[pd,PyData.depth,PyData.depthAll]⟩,Iz e,by rw[AO (by decide),Ae];exact q⟩
theorem Gh{l d D:A2}{ns:A0 Str}{ps:A0 JI}{H:Hp}{g:Hp->A2->A0 V->Prop}{j:TE}{Q:St->Hp->Prop}(A:H l=some (.lst (ns.map V.str)))(B:∀G,CM H G->g G d (J4 ps))(n:ps.length=ns.length)(I:ns.length<=100)(k:H D=none)
  (step:∀(i:Nat) (n:Str) (q:JI) (G:Hp) (M:VK),ns[i]?=some n->ps[i]?=some q->CM H G->(∀b,CM G b->M (.bl (decide (q.2∈W3.map fun y=>(n,y)))) b)->j [some (.str n),some (.ref q.1)] G M)
  (q:∀σ G,CM H G->G D=some (.lst ((To ns (ps.map fun q=>q.2)).map V.bl))->Q σ G):Y7 (UL K 2 (Ee (J7 0) (Ee (J7 1) UX))) X4 (T7 D j) (Zy (IW K) g l d) [none,none] (IU H D (.lst [])) Q:=by
 refine Qq (xs:=ns.map V.str) (ys:=J4 ps) (by unfold J4;rw[AB,AB,n]) (fun i σ G=>(∃m p,σ = [m,p])/\CM H G/\G D=some (.lst (((To ns (ps.map fun q=>q.2)).take i).map V.bl))) ⟨⟨_,_,rfl⟩,CM.new k,A9⟩ (fun i σ G h=>⟨IW.of (h.2.1 _ _ A),B G h.2.1⟩) ?_ ?_
 .rintro i σ G T x y N s c ⟨⟨m,p,rfl⟩,e,a⟩ C E;rw[AG]at s;obtain⟨z,f,rfl⟩:=AZ.mp s;unfold J4 at c;rw[AG]at c;obtain⟨r,t,rfl⟩:=AZ.mp c;refine⟨T,_,rfl,KQ.of A9,rfl,⟨_,_,rfl,⟨_,_,rfl,⟨rfl,Iv ?_⟩⟩⟩⟩;have u:=CM.new (o:=.tup [.str z,.ref r.1]) C;have v:=e.trans u;refine step i z r _ _ f t v fun b w=>?_;have F:(To ns (ps.map fun q=>q.2))[i]?=some (decide (r.2∈W3.map fun y=>(z,y))):=by
   unfold To;rw[AG,(HN (z:=(z,r.2))).mpr ⟨f,by rw[AG,t];rfl⟩];rfl
  refine⟨_,w _ _ (u _ _ a),by rw[AB,AR,sizeLine_eq];have:=(AD.mp f).1;omega,E _ _ ⟨⟨_,_,rfl⟩,(v.trans w).upd k,?_⟩⟩;rw[A9,I_ F,AL];rfl
 .rintro σ G ⟨_,e,a⟩;have:(ns.map V.str).length =(To ns (ps.map fun q=>q.2)).length:=by unfold To;rw[AB,AB,List.length_zip,AB,n,Nat.min_self]
  rw[this,BP]at a;exact q σ G e a
theorem Nr{a:A2}{n:Str}{r:JI}{G:Hp}{M:VK}(x:SV K a W3)(F:E2 G r)(s:PySem.PyData.strOk r.2.1=true/\PySem.PyData.strOk r.2.2=true)(u:PySem.PyData.strOk n=true)(I:∀d,CM G d->M (.bl (decide (r.2∈W3.map fun y=>(n,y)))) d) :
  UQ (Xn K false) (Dr 1) (Ao (zGh K (tC (.ref a))) (fun _=>.lst []) [none,some 0] fun D J σ H Q=>Y7 (J7 0) X4 (T7 D (zEp (V9 (Dr 1) (V9 (Dr 0) Jh)))) J σ H Q) [some (.str n),some (.ref r.1)] G M:=by
 refine A5 rfl ⟨a,rfl,⟨_,x.sq⟩,fun D A=>?_⟩;refine G7 (asT (K:=K) (x.sq (H:=G))) (fun i σ d=>(∃B,σ = [B,some (.str n)])/\CM G d/\∃c:A0 JI,d D=some (.lst (J4 c))/\(∀q∈c,E2 d q)/\(c.map fun q=>q.2) =(W3.take i).map fun y=>(n,y)) ⟨⟨_,rfl⟩,CM.new A,[],A9,fun q h=>absurd h BH,rfl⟩ (fun i σ d _ h=>h.2.1.at a) ?_ ?_
 .rintro i σ w v N C ⟨⟨B,rfl⟩,j,c,l,m,f⟩ L;rw[AG]at C;obtain⟨y,p,rfl⟩:=AZ.mp C;refine Q4 (A5 rfl (A5 rfl ⟨by show 2<=sizeLine;decide,fun t O=>?_⟩));have g:=CM.new (o:=.tup [.str n,.str y]) O;have P:i<3:=(AD.mp p).1;have R:c.length=i:=by
   have:=congrArg List.length f;rw[AB,AB,AR]at this;rw[this];exact EL (FD P)
  refine⟨_,g _ _ l,by unfold J4;rw[AB,sizeLine_eq];omega,L _ _ ⟨⟨_,rfl⟩,(j.trans g).upd A,c ++ [(t,(n,y))],?_,fun q hq=>?_,?_⟩⟩
  .rw[A9];unfold J4;rw[AL];rfl
  .have E:∀{b o},(IU w t (.tup [.str n,.str y])) b=some (.tup o)->b≠D:=fun e=>U6 e (g _ _ l) (by intro z;cases z);rcases AS.mp hq with hq | hq
   .exact(B6 (E (g _ _ (m q hq)))).trans (g _ _ (m q hq))
   .rw[AH.mp hq];exact(B6 (E A9)).trans A9
  .rw[AL,f,I_ p,AL];rfl
 .rintro σ w ⟨_,j,c,l,m,f⟩;have f:(c.map fun q=>q.2)=W3.map fun y=>(n,y):=f;refine zAu (k:=r.2) (j _ _ F) l m s (fun q hq=>?_) ?_
  .have:q.2∈W3.map fun y=>(n,y):=by rw[<-f];exact AI.mpr ⟨q,hq,rfl⟩
   obtain⟨y,p,e⟩:=AI.mp this;rw[<-e];exact⟨u,Xw y p⟩
  .rw[f];exact I w j
theorem N0:IT ["web", "words", "names"] ["web", "words"] (B5 PC):=LC
def Ft(C:A2):Sp:=fun e H Q _=>∃(x d:A2) (a:A0 Str) (f b:A0 JI),e = [.ref x,.ref d]/\JV C H x a f/\(∀y∈a,O6 y=true)/\WS H d b/\∀c,CM H c->Q (.bl (P5 a (b.map fun q=>q.2))) c
set_option maxHeartbeats 1000000 in
theorem Gg(T:Tx K mg):JC P w K mg base KB 2 T.a1.f T.a1.fd ["web", "words"] (Ft T.ab):=by
 refine T.a1.F.o1 N0 fun W A J s H vs Q E t h=>?_
 .obtain⟨x,d,g,X,k,rfl,S,Y,Z,q⟩:=h;obtain⟨u,dx,a,b,c,e,kc,kd,ex,_⟩:=id S;refine⟨_,(B2 (C3 (i:=2) N0.nd rfl (.inl rfl) (Z7 (pv 0) T.ah T.ad.m (I0 T) (Rm t) T.ad.b .nil M6))
   (B2 (G8 (C2 r9 (D4 (J6 K) T.aj J3 (A8 (pv 1) B0)) (D4 (J6 K) T.aj J3 (A8 (pv 2) B0)) (C5 _)) (B3 (C0 P1)) C7)
   (B3 (C0 (D4 (Y3 K) T.aR Y8 (A8 (zCp (N':=["name", "pair"]) (cap:=[none,none]) (cl:=[]) (zFd (fun _=>trivial) trivial) rfl (zHf K T.bB (A8 (pv 2) (A8 (pv 1) B0))) (fun _ _ _ _=>by exact⟨(RY K (n:=2) (C8 (pgD 0) (C8 (pgD 1) M5))),D8,(D9 (zAb K t.units) (pv 1) (K6 (N':=["word", "name"]) (cap:=[none,some 0]) (cl:=[("name",_)]) (G0 ⟨⟨rfl,rfl,rfl,rfl⟩,trivial⟩ ⟨rfl,trivial⟩) rfl (piT K (zDo T.bI)) (fun _ _ _ _=>by exact⟨(LR 0),D8,(M8 (A8 (pv 1) (A8 (pv 0) B0)))⟩)) rfl)⟩)) B0)))))),?_⟩
  have lr:(J4 k).length=k.length:=AB ..;have ln:(g.map V.str).length=g.length:=AB ..;refine B7 fun N1 L=>?_;refine A5 rfl ⟨x,dx,_,rfl,ex,rfl,x,g,X,rfl,S,fun l hl=>?_⟩;have C:=CM.new (o:=.lst (g.map V.str)) hl;have p:(IU H l (.lst (g.map V.str))) l=some (.lst (g.map V.str)):=A9;generalize IU H l (.lst (g.map V.str))=N at C p⊢;have I:=Z.same C;refine L _ _ (B7 fun N2 O=>?_);refine A5 rfl ⟨d,_,rfl,I.sq,A5 rfl ⟨l,_,rfl,.inl (IW.of p),⟨rfl,A5 rfl ?_⟩⟩⟩;rw[lr,ln];by_cases v:k.length=g.length
  .rw[show(!decide (V.int (k.length:Int)=V.int (g.length:Int)))=false by simp[v]];refine T8 (O _ _ ?_);have z:∀G,CM N G->∀D,G D=some (.lst ((To g (k.map fun q=>q.2)).map V.bl))->Q (.bl ((To g (k.map fun q=>q.2)).all id)) G:=fun G j D _=>by
    have:=q G (C.trans j);unfold P5 at this;rw[AB,AK v,FH]at this;exact this
   have UR:=fun(i:Nat) (n:Str) (r:JI) (G:Hp) (M:VK) (hn:g[i]?=some n) (t:k[i]?=some r) (j:CM N G) (hM:∀U,CM G U->M (.bl (decide (r.2∈W3.map fun y=>(n,y)))) U) =>
    Nr (K:=K) (T.bJ) (J5 j I.pin r (AM t)) (I.ok r (AM t)) (T2 (Y n (AM hn))) hM
   refine A5 rfl (A5 rfl ⟨l,d,g.map V.str,J4 k,rfl,?_⟩);rcases I.at_ with h | h
   .refine .inl ⟨IW.of p,IW.of h,fun D R=>Gh p (fun G j=>IW.of (j _ _ h)) v u.len R UR fun σ G j B=>⟨D,_,rfl,IW.of B,z G j D B⟩⟩
   .refine .inr ⟨IW.of p,KQ.of h,fun D R=>Gh p (fun G j=>KQ.of (j _ _ h)) v u.len R UR fun σ G j B=>⟨D,_,rfl,IW.of B,z G j D B⟩⟩
  .rw[show(!decide (V.int (k.length:Int)=V.int (g.length:Int)))=true by simp;omega];have:=q N C;unfold P5 at this;rw[AB,AX v,DK]at this;exact Rs this
end
def PK(ks:A0 (Str×Str))(n:Str):Str:=((ks.find? fun k=>decide (k.1=n)).map fun k=>k.2).getD ""
def Bw:∀{ks:A0 (Str×Str)} {k:Str×Str},(ks.map fun k=>k.1).Nodup->k∈ks->PK ks k.1=k.2
 | [],_,_,h=>absurd h BH
 | a::r,k,b,h=>by
  rw[BB]at b;obtain⟨c,d⟩:=DV.mp b;unfold PK;rw[EX];rcases AV.mp h with rfl | h
  .rw[AK rfl];rfl
  .have e:a.1≠k.1:=fun z=>c (by rw[z];exact AI.mpr ⟨k,h,rfl⟩);rw[AX e];exact Bw d h
def KC{ns:A0 Str}{ks:A0 (Str×Str)}:P5 ns ks=true↔(ks.map fun k=>k.1)=ns/\∀k∈ks,k.2∈W3:=by
 unfold P5 To;rw[BU,BD];constructor
 .rintro⟨r,g⟩;have g:=CI.mp g;have a:∀(i:Nat) (n:Str) (k:Str×Str),ns[i]?=some n->ks[i]?=some k->k.1=n/\k.2∈W3:=fun i n k m j=>by
   have:=g _ (AI.mpr ⟨(n,k),AM ((HN (z:=(n,k))).mpr ⟨m,j⟩),rfl⟩);obtain⟨y,o,e⟩:=AI.mp (BL this);have e:(n,y)=k:=e;rw[<-e];exact⟨rfl,o⟩
  refine⟨FN fun i=>?_,fun k j=>?_⟩
  .rw[AG];by_cases c:i<ks.length
   .rw[AC c,AC (by omega:i<ns.length)];exact congrArg some (a i _ _ (AC (by omega)) (AC c)).1
   .rw[EC (by omega),EC (by omega)];rfl
  .obtain⟨i,d⟩:=List.getElem?_of_mem j;have c:=(AD.mp d).1;exact(a i _ k (AC (by omega)) d).2
 .rintro⟨rfl,h⟩;refine⟨(AB ..).symm,CI.mpr fun b p=>?_⟩;obtain⟨⟨n,k⟩,q,rfl⟩:=AI.mp p;obtain⟨i,d⟩:=List.getElem?_of_mem q;obtain⟨f,l⟩:=HN.mp d;rw[AG,l]at f;have f:k.1=n:=BA f;subst f;exact AK (AI.mpr ⟨k.2,h k (AM l),rfl⟩)
def R8(ns:A0 Str)(qs:A0 JI)(ks:A0 (Str×Str)):Bool:=P5 ns ks&&ns.all (SS qs (PK ks))
def zHa(qs:A0 JI)(f:Str->Str):V->V
 | .str z=>.bl (SS qs f z)
 | v=>v
def Zf(qs:A0 JI)(f:Str->Str)(l:A0 Str):(l.map V.str).map (zHa qs f) =(l.map (SS qs f)).map V.bl:=by
 rw[BO,BO];rfl
section
variable{P:A6}{w:F1}{K:PySem.W.Frag}{mg:Str->A4 A1}{base:IV}
theorem Vy{J:It}{a D:A2}{ns:A0 Str}{ps:A0 JI}{H:Hp}{Q:St->Hp->Prop}(as:LA J (J4 ps) a H)(u:∀q∈ps,E2 H q)(w:ps.length<=200)(m:H D=none)(e:(ps.map fun q=>q.2.1)=ns)(x:ns.Nodup)
  (q:∀σ G,CM H G->Given G D ns (PK (ps.map fun q=>q.2))->Q σ G):Y7 (UL K 2 (Ee (J7 0) (Ee (J7 1) UX))) X4 (Rk D (Dr 0) (Dr 1)) J [none,none] (IU H D (.dK [])) Q:=by
 refine G7 as (fun i σ G=>(∃o p,σ = [o,p])/\CM H G/\∃b,G D=some (.dK b)/\b.length<=i/\∀q∈ps.take i,R9 b (.inr q.2.1)=some (.str (PK (ps.map fun q=>q.2) q.2.1))) ⟨⟨_,_,rfl⟩,CM.new m,[],A9,CK _,fun q h=>absurd h (by simp)⟩ (fun i σ G _ h=>h.2.1.at a) ?_ ?_
 .rintro i σ G v N g ⟨⟨o,p,rfl⟩,f,b,j,y,l⟩ A;unfold J4 at g;rw[AG]at g;obtain⟨r,d,rfl⟩:=AZ.mp g;have s:=AM d;have B:=(AD.mp d).1;refine⟨r.1,_,rfl,KQ.of (f _ _ (u r s)),rfl,⟨_,_,rfl,⟨_,_,rfl,⟨rfl,Iv ?_⟩⟩⟩⟩;refine A5 rfl (A5 rfl ⟨b,.inr r.2.1,j,rfl,by rw[sizeLine_eq];omega,A _ _ ⟨⟨_,_,rfl⟩,f.upd m,_,A9,?_,fun z hz=>?_⟩⟩)
  .have:=V1 b (.inr r.2.1:JZ) (.str r.2.2);omega
  .rw[Ii];by_cases c:z.2.1=r.2.1
   .rw[AU c,c,Bw (k:=r.2) (by rw[BO];exact e▸x) (AI.mpr ⟨r,s,rfl⟩)]
   .rw[AO c];rw[I_ d]at hz;rcases AS.mp hz with hz | hz
    .exact l z hz
    .rw[AH.mp hz]at c;exact absurd rfl c
 .rintro σ G ⟨_,f,b,j,y,l⟩;refine q σ G f ⟨b,j,fun n t=>?_⟩;rw[<-e]at t;obtain⟨r,d,rfl⟩:=AI.mp t;refine l r ?_;unfold J4;rw[AB,BP];exact d
theorem NS:IT ["web", "words", "given"] ["web", "words"] (B5 OC):=LC
def Di(C:A2):Sp:=fun f H Q _=>∃(x d:A2) (a:A0 Str) (b c:A0 JI),f = [.ref x,.ref d]/\JV C H x a b/\(∀y∈a,O6 y=true)/\WS H d c/\∀e,CM H e->Q (.bl (R8 a b (c.map fun q=>q.2))) e
set_option maxHeartbeats 1000000 in
theorem Q8(T:Tx K mg):JC P w K mg base KB 4 T.aB.f T.aB.fd ["web", "words"] (Di T.ab):=by
 refine T.aB.F.o1 NS fun cdv A B s H vs Q E C h=>?_
 .obtain⟨x,d,g,k,u,rfl,I,hN,X,q⟩:=h;obtain⟨p,dx,a,b,c,e,kc,kd,ex,_⟩:=id I;refine⟨_,(B2 (G8 (U1 (M0 (C9 T.a1 (Gg T) (Rm C) (A8 (pv 0) (A8 (pv 1) B0))))) (B3 (C0 P1)) C7)
   (B2 (C3 (i:=2) NS.nd rfl (.inr rfl) (Np (N':=["name", "word"]) (cap:=[none,none]) (cl:=[]) (G0 trivial trivial) rfl (piS K (pv 1)) (fun _ _ _ _=>by exact⟨(RY K (n:=2) (C8 (LR 0) (C8 (LR 1) M5))),D8,(pv 0),(pv 1)⟩)))
   (B3 (C0 (D4 (Y3 K) T.aR Y8 (A8 (K6 (N':=["name", "web", "given"]) (cap:=[none,some 0,some 2]) (cl:=[("web",_),("given",_)]) (G0 ⟨⟨rfl,rfl,rfl,rfl⟩,⟨⟨rfl,rfl,rfl,rfl⟩,trivial⟩⟩ ⟨rfl,⟨rfl,trivial⟩⟩) rfl (MQ K (Z7 (pv 0) T.ah T.ad.m (I0 T) (Rm C) T.ad.b .nil M6)) (fun _ _ _ _=>by exact⟨(LR 0),D8,(C9 T.bn (Qr T) (Rm C) (A8 (pv 1) (A8 (pv 2) (A8 (pv 0) B0))))⟩)) B0)))))),?_⟩
  refine B7 fun N1 L=>?_;refine A5 rfl (A5 rfl ⟨x,d,g,k,u,rfl,I,hN,X,fun H1 N=>⟨_,rfl,?_⟩⟩);unfold R8 at q;cases O:P5 g (u.map fun q=>q.2)with
  | false =>
   have:=q H1 N;rw[O,DK]at this;exact Rs this
  | true =>
   have q:∀v,CM H v->Q (.bl (g.all (SS k (PK (u.map fun q=>q.2))))) v:=fun v R=>by
    have:=q v R;rw[O,FH]at this;exact this
   obtain⟨Y,w2⟩:=KC.mp O;rw[BO]at Y;refine T8 (L _ _ (B7 fun N2 S=>?_));have U:=X.same N;refine w5 (a:=d) rfl U.sq fun J as D hD=>Vy as U.pin U.len hD Y p.nd fun σ Z s2 hG=>?_;refine S _ _ ?_;have j:=N.trans s2;have r:=I.same j;refine A5 rfl ⟨x,dx,_,rfl,j _ _ ex,rfl,x,g,k,rfl,r,fun l hl=>⟨l,rfl,⟨_,IW.of A9⟩,fun D2 t=>?_⟩⟩;have W:=CM.new (o:=.lst (g.map V.str)) hl;have f3:(IU Z l (.lst (g.map V.str))) l=some (.lst (g.map V.str)):=A9;generalize IU Z l (.lst (g.map V.str))=H3 at W f3 t⊢;refine Pk (ND (K:=K) (IW.of f3)) (zHa k (PK (u.map fun q=>q.2))) (by rw[AB];have:=p.len;omega) t (fun σ=>∃v0,σ = [v0,some (.ref x),some (.ref D)]) ⟨_,rfl⟩ ?_ ?_
   .rintro i σ G y M hy ⟨v0,rfl⟩ sG hM;rw[AG]at hy;obtain⟨z,hz,rfl⟩:=AZ.mp hy;have s3:=W.trans sG;exact A5 rfl (A5 rfl (A5 rfl ⟨x,D,z,g,k,_,rfl,r.same s3,AM hz,hG.same s3,fun G' R=>hM _ G' ⟨_,rfl⟩ R⟩))
   .intro σ H4 s4 e4;rw[Zf]at e4;refine⟨D2,_,rfl,IW.of e4,?_⟩;rw[GV];exact q H4 ((j.trans W).trans s4)
end
def Qu:∀(j a b:Nat),(∀j,a.testBit j=true->¬b.testBit j=true)->(a+b).testBit j =(a.testBit j||b.testBit j)
 | 0,a,b,h=>by
  have c:=h 0;rw[DH,DH,BD,BD]at c;rw[DH,DH,DH,<-Bool.decide_or];exact IS.mpr ⟨fun z=>by omega,fun z=>by omega⟩
 | j+1,a,b,h=>by
  have c:=h 0;rw[DH,DH,BD,BD]at c;rw[DZ,DZ,DZ,show(a+b) / 2=a / 2+b / 2 by omega];exact Qu j (a / 2) (b / 2) fun i=>by have:=h (i+1);rw[DZ,DZ]at this;exact this
def Hy:∀{l:A0 Nat},l.Nodup->∀j,((l.map fun k=>2^k).sum).testBit j=true↔j∈l
 | [],_,j=>by simp
 | k::l,b,j=>by
  obtain⟨c,d⟩:=DV.mp b;have a:=Hy d;rw[BB,List.sum_cons,Nat.add_comm,Qu j _ _ fun i z y=>?_,DP,a,EJ,BD,AV];rotate_left
  .rw[EJ,BD]at y;exact c (y▸(a i).mp z)
  exact⟨fun h=>h.elim .inr fun e=>.inl e.symm,fun h=>h.elim (fun e=>.inr e.symm) .inl⟩
def Zt:∀(s:Nat),0<s->∃k,s.testBit k=true/\s-(s &&&(s-1))=2^k:=by
 intro s
 induction s using Nat.strongRecOn with
 | _ s a =>
  intro h;by_cases o:s % 2=1
  .refine⟨0,by rw[DH];exact AK o,?_⟩;have e:s &&&(s-1)=s-1:=CN fun i=>by
    rw[EG];cases i with
    | zero=>rw[DH,DH,AX (by omega:¬(s-1) % 2=1),HF]
    | succ i=>rw[DZ,DZ,show(s-1) / 2=s / 2 by omega,Bool.and_self]
   rw[e];omega
  .obtain⟨k,b,c⟩:=a (s / 2) (by omega) (by omega);refine⟨k+1,by rw[DZ];exact b,?_⟩;have e:s &&&(s-1)=2 *(s / 2 &&&(s / 2-1)):=CN fun i=>by
    rw[EG];cases i with
    | zero=>rw[DH,DH,AX o,DK,DH,AX (by omega)]
    | succ i=>rw[DZ,DZ,DZ,Nat.mul_div_cancel_left _ (by decide),EG,show(s-1) / 2=s / 2-1 by omega]
   have:s / 2 &&&(s / 2-1)<=s / 2:=Nat.and_le_left;rw[e,Nat.pow_succ];omega
def MD(n m:Nat):Prop:=∀j,m.testBit j=true->j<n
def MD.or{n m k:Nat}(h:MD n m)(b:k<n):MD n (m ||| 2^k):=fun j a=>((U7 m k j).mp a).elim (h j) fun e=>by omega
def MD.zero(n:Nat):MD n 0:=fun j a=>by rw[DG]at a;cases a
def MD.lt{n m:Nat}(h:MD n m):m<2^n:=Nat.lt_pow_two_of_testBit m fun i a=>BQ.mpr fun z=>by have:=h i z;omega
structure VI(n:Nat)(A B:A0 Nat):Prop where
 tr:∀i j,(A.getD i 0).testBit j=true↔(B.getD j 0).testBit i=true
 lt:∀i j,(B.getD i 0).testBit j=true->i<n/\j<n
def MB.net{ns:A0 Str}{ks:A0 (Str×Str)}{A B:A0 Nat}(a:MB ns (ks.map fun k=>(k.2,k.1)) A)(b:MB ns ks B):VI ns.length A B:=by
 refine⟨fun i j=>?_,fun i j h=>?_⟩
 .rw[a.bit,b.bit];constructor
  .rintro⟨_,e,c,d⟩;obtain⟨k,f,rfl⟩:=AI.mp e;exact⟨k,f,d,c⟩
  .rintro⟨k,e,c,d⟩;exact⟨_,AI.mpr ⟨k,e,rfl⟩,d,c⟩
 .obtain⟨k,_,c,d⟩:=(b.bit i j).mp h;exact⟨(AD.mp c).1,(AD.mp d).1⟩
def LH(n:Nat)(A B:A0 Nat)(m:Nat):Prop:=MD n m/\JL B m/\∀j,m.testBit j=true->P8 n A B m j
def KP(c b m:Nat):Prop:=(∀j,c.testBit j=true->m.testBit j=true)/\∀j,m.testBit j=true->¬b.testBit j=true
def Sub(c a:Nat):Prop:=∀j,c.testBit j=true->a.testBit j=true
def KP.mono{c a b d m:Nat}(h:KP a d m)(e:Sub c a)(f:Sub b d):KP c b m:=⟨fun j z=>h.1 j (e j z),fun j z y=>h.2 j z (f j y)⟩
def Qe(n:Nat)(A B:A0 Nat)(c b:Nat):Prop:=(∀j,Ej B c j->b.testBit j=true)/\(∀j,Ej A c j->b.testBit j=true) /\
 ∀i j,i<n->(¬∃k,k<n/\¬b.testBit k=true/\(B.getD k 0).testBit i=true)->(B.getD i 0).testBit j=true->b.testBit j=true
def Sf{n:Nat}{A B:A0 Nat}(N:VI n A B){c b m:Nat}(h:LH n A B m)(f:KP c b m):(∀j,Ej B c j->¬m.testBit j=true)/\(∀j,Ej A c j->¬m.testBit j=true) /\
  ∀i j,i<n->(¬∃k,k<n/\¬b.testBit k=true/\(B.getD k 0).testBit i=true)->(B.getD i 0).testBit j=true->¬m.testBit j=true:=by
 obtain⟨lo,d,g⟩:=h;refine⟨fun j ⟨k,a,e⟩ z=>d k j (f.1 k a) z e,fun j ⟨k,a,e⟩ z=>d j k z (f.1 k a) ((N.tr k j).mp e),fun i j p l e z=>?_⟩;obtain⟨k,a,o⟩:=(g j z).2 i ((N.tr j i).mpr e);exact l ⟨k,lo k a,f.2 k a,o⟩
def Mo{n:Nat}{A B:A0 Nat}(N:VI n A B){c b:Nat}(lo:MD n c)(s:Qe n A B c b)(a:∀j,c.testBit j=true->¬b.testBit j=true)(g:∀j,j<n->c.testBit j=true\/b.testBit j=true):LH n A B c:=by
 obtain⟨l,t,m⟩:=s;refine⟨lo,fun i j o f e=>a j f (l j ⟨i,o,e⟩),fun j f=>⟨lo j f,fun x p=>?_⟩⟩;have d:=(N.tr j x).mp p;by_cases h:Ej B c x
 .exact h
 .refine absurd (m x j (N.lt x j d).1 (fun⟨k,q,r,e⟩=>h ⟨k,(g k q).resolve_right r,e⟩) d) (a j f)
def Ov{n c b m:Nat}(lo:MD n m)(a:∀j,j<n->c.testBit j=true\/b.testBit j=true)(f:KP c b m):m=c:=CN fun j=>by
 rw[B_];exact⟨fun h=>(a j (lo j h)).resolve_right (f.2 j h),f.1 j⟩
def RZ{c b m k:Nat}:KP (c ||| 2^k) b m↔KP c b m/\m.testBit k=true:=by
 constructor
 .rintro⟨a,d⟩;exact⟨⟨fun j z=>a j (by rw[CH,z];rfl),d⟩,a k (by rw[CH,GI,Bool.or_true])⟩
 .rintro⟨⟨a,d⟩,f⟩;exact⟨fun j z=>((U7 c k j).mp z).elim (a j) fun e=>e▸f,d⟩
def RC{c b m k:Nat}:KP c (b ||| 2^k) m↔KP c b m/\¬m.testBit k=true:=by
 constructor
 .rintro⟨d,a⟩;exact⟨⟨d,fun j z y=>a j z (by rw[CH,y];rfl)⟩,fun z=>a k z (by rw[CH,GI,Bool.or_true])⟩
 .rintro⟨⟨d,a⟩,f⟩;exact⟨d,fun j z y=>((U7 b k j).mp y).elim (a j z) fun e=>f (e▸z)⟩
def UP(n c b:Nat):Nat:=(List.range n).countP fun i=>!c.testBit i&&!b.testBit i
def Ud{n c a b d:Nat}(e:Sub c a)(f:Sub b d):UP n a d<=UP n c b:=List.countP_mono_left fun i _ h=>by
 rw[BU,GE,GE]at h⊢;exact⟨BQ.mpr fun z=>BQ.mp h.1 (e i z),BQ.mpr fun z=>BQ.mp h.2 (f i z)⟩
def Ww{n c a b d k:Nat}(j:Sub c a)(m:Sub b d)(o:k<n)(f:¬c.testBit k=true/\¬b.testBit k=true)(h1:a.testBit k=true\/d.testBit k=true):UP n a d < UP n c b:=by
 unfold UP;have r:=CB.mpr o;obtain⟨s,t,e⟩:=List.append_of_mem r;rw[e,List.countP_append,List.countP_append,List.countP_cons,List.countP_cons];have g:=fun l:A0 Nat=>List.countP_mono_left (l:=l) (p:=fun i=>!a.testBit i&&!d.testBit i) (q:=fun i=>!c.testBit i&&!b.testBit i) fun i _ h=>by
  rw[BU,GE,GE]at h⊢;exact⟨BQ.mpr fun z=>BQ.mp h.1 (j i z),BQ.mpr fun z=>BQ.mp h.2 (m i z)⟩
 have w:=g s;have x:=g t;have u:(!a.testBit k&&!d.testBit k)=false:=by
  rcases h1 with h | h<;>rw[h]<;>simp
 have v:(!c.testBit k&&!b.testBit k)=true:=by
  rw[BQ.mpr f.1,BQ.mpr f.2];rfl
 rw[u,v,AO (by decide),AU rfl];omega
def Iu(m i:Nat):((Builtin.bitAnd ((2^i:Nat):Int) (m:Int)) != 0)=m.testBit i:=by
 rw[Xu];have e:(2^i &&& m)=if m.testBit i=true then 2^i else 0:=CN fun j=>by
  rw[EG,EJ];by_cases h:m.testBit i=true
  .rw[AU h,EJ];by_cases c:i=j
   .subst c;rw[h,Bool.and_true]
   .rw[AX c,DK]
  .rw[AO h,DG];by_cases c:i=j
   .subst c;rw[BQ.mpr h,HF]
   .rw[AX c,DK]
 rw[e];have p:0<2^i:=Nat.pow_pos (by decide);by_cases h:m.testBit i=true
 .rw[AU h,h,bne_iff_ne];omega
 .rw[AO h,BQ.mpr h];rfl
def zEu(x y:Nat)(h:∀j,y.testBit j=true->x.testBit j=true):∃z:Nat,Builtin.bitXor (x:Int) (y:Int) =(z:Int)/\∀j,z.testBit j=true↔x.testBit j=true/\¬y.testBit j=true:=by
 have b:∀j,(x ^^^ y).testBit j=true↔x.testBit j=true/\¬y.testBit j=true:=fun j=>by
  rw[Nat.testBit_xor];cases d:x.testBit j<;>cases f:y.testBit j<;>simp;exact absurd (h j f) (by rw[d];decide)
 refine⟨x ^^^ y,?_,b⟩;have e:(x ^^^ y)+y=x:=CN fun j=>by
  rw[Qu j _ _ fun i z=>((b i).mp z).2,B_,DP,b];exact⟨fun z=>z.elim (·.1) (h j),fun z=>by by_cases c:y.testBit j=true<;>simp[z,c]⟩
 have a:x &&& y=y:=CN fun j=>by
  rw[EG,B_,BU];exact⟨(·.2),fun z=>⟨h j z,z⟩⟩
 rw[PyProof.Rows.bitXor_and,Xu,a];omega
def bK(M:A0 Nat)(n:Nat):A0 (JZ×V):=(List.range n).map fun i=>((Sum.inl ((2^i:Nat):Int):JZ),J1 (M.getD i 0))
def Sz{i j:Nat}(h:((2^i:Nat):Int) =((2^j:Nat):Int)):i=j:=(Nat.pow_right_inj (by decide)).mp (Int.ofNat_inj.mp h)
def Kv(M:A0 Nat):∀{n i:Nat},i<n->R9 (bK M n) (.inl ((2^i:Nat):Int))=some (J1 (M.getD i 0))
 | n+1,i,h=>by
  unfold R9 bK;rw[EM,AL,List.find?_append];by_cases c:i<n
  .have a:=Kv M c;unfold R9 bK at a;cases e:(List.find? (fun b:JZ×V=>decide (b.1=Sum.inl ((2^i:Nat):Int))) ((List.range n).map fun i=>((Sum.inl ((2^i:Nat):Int):JZ),J1 (M.getD i 0))))with
   | none=>rw[e]at a;cases a
   | some q=>rw[e]at a;rw[Option.some_or];exact a
  .have e:i=n:=by omega
   subst e;rw[List.find?_eq_none.mpr fun q d z=>?_,Option.none_or]
   .rw[BB,EX,AK rfl];rfl
   .obtain⟨k,f,rfl⟩:=AI.mp d;have:=Sz (Sum.inl.inj (BL z));have:=CB.mp f;omega
def mf(a b c d:A2)(n L:Nat):A0 (Str×V):=[("names",.ref a),("full",J1 (2^n-1)),("bit_of",.ref b),("strikers_of",.ref c),("struck_of",.ref d),("loops",J1 L)]
structure JD(C:A2)(H:Hp)(x c:A2)(ns:A0 Str)(A B:A0 Nat)(L:Nat):Prop where
 ex:∃dx a b d kb,H x=some (.ins C dx (mf a b c d ns.length L))/\H a=some (.lst (ns.map V.str))/\Rd H b (.dK kb)/\(∀i n,ns[i]?=some n->R9 kb (.inr n)=some (J1 (2^i)))/\Rd H c (.dK (bK A ns.length))/\H d=some (.dK (bK B ns.length))/\d≠c/\b≠c
 net:VI ns.length A B
 nd:ns.Nodup
 len:ns.length<=100
 loops:∀j,L.testBit j=true↔(A.getD j 0).testBit j=true
def Yc{H:Hp}{a c:A2}{b:A0 (JZ×V)}{o:HO}(r:Rd H c (.dK b))(h:H a=some o)(e:∀b,o≠ .dK b)(f:∀d u,o≠ .frz d u):a≠c:=by
 rintro rfl;rcases r with r | ⟨d,r⟩
 .rw[h]at r;exact e _ (BA r)
 .rw[h]at r;exact f _ _ (BA r)
def zFb{H H':Hp}{b c:A2}{u:HO}(r:Rd H b u)(s:Sm [c] H H')(n:b≠c):Rd H' b u:=r.imp (fun h=>PH s h n) fun⟨o,h⟩=>⟨o,PH s h n⟩
def JD.fz{C:A2}{H H':Hp}{x c:A2}{ns:A0 Str}{A B:A0 Nat}{L:Nat}(h:JD C H x c ns A B L)(s:Sm [c] H H')(r:Rd H' c (.dK (bK A ns.length))):JD C H' x c ns A B L:=by
 obtain⟨⟨k,a,b,d,l,e,f,m,n,g,o,i,j⟩,p,q,t,u⟩:=h;exact⟨⟨k,a,b,d,l,PH s e (Yc g e (fun _ z=>by cases z) fun _ _ z=>by cases z),PH s f (Yc g f (fun _ z=>by cases z) fun _ _ z=>by cases z),zFb m s j,n,r,PH s o i,i,j⟩,p,q,t,u⟩
def JD.same{C:A2}{H H':Hp}{x c:A2}{ns:A0 Str}{A B:A0 Nat}{L:Nat}(h:JD C H x c ns A B L)(s:CM H H'):JD C H' x c ns A B L :=
 h.fz s.sm (let⟨_,_,_,_,_,_,_,_,_,a,_⟩:=h.ex;a.imp (s _ _) fun⟨o,e⟩=>⟨o,s _ _ e⟩)
def S9(m i:Nat):A0 Nat:=(List.range i).filter fun k=>m.testBit k
def Ar(m i:Nat):S9 m (i+1)=S9 m i++if m.testBit i=true then [i]else []:=by
 unfold S9;rw[EM,DN,CU,EY]
def Ah(m i:Nat):(S9 m i).length<=i:=Nat.le_trans (BR ..) (by rw[CA];exact Nat.le_refl _)
section
variable{P:A6}{w:F1}{K:PySem.W.Frag}{mg:Str->A4 A1}{base:IV}
theorem t7:IT ["self", "some"] ["self", "some"] (B5 NC):=LC
def Mc(C:A2):Sp:=fun d H Q _=>∃(x c:A2) (b:A0 Str) (A B:A0 Nat) (L m:Nat),d = [.ref x,.int (m:Int)]/\JD C H x c b A B L/\∀l a,H l=none->Sm [c] H a->JD C a x c b A B L->a l=some (.lst ((S9 m b.length).map fun k=>J1 (2^k)))->Q (.ref l) a
theorem R0(T:Tx K mg):JC P w K mg base KB 1 T.am.f T.am.fd ["self", "some"] (Mc T.aa):=by
 refine T.am.F.o1 t7 fun W A p s H vs Q E hr h=>?_
 .obtain⟨x,c,e,A,B,L,m,rfl,r,q⟩:=h;obtain⟨X,a,b,d,kb,Y,e2,e3,e4,Z,e6,n1,n2⟩:=r.ex;have ln:=r.len;refine⟨_,(B3 (C0 (K6 (N':=["bit", "some"]) (cap:=[none,some 1]) (cl:=[("some",_)]) (G0 ⟨⟨rfl,rfl,rfl,rfl⟩,trivial⟩ ⟨rfl,trivial⟩) rfl (Xs (QC K (pv 0))) (fun _ _ _ _=>by exact⟨(LR 0),(P9 (UT K (D0 Q2 (pv 0) (pv 1)))),(pv 0)⟩)))),?_⟩;refine A5 rfl ⟨x,T.aa,X,_,A5 rfl ⟨Y,T.ac,T.ax,rfl,c,_,rfl,Z,fun o D j=>?_⟩⟩;have t:D≠c:=fun z=>by rw[z,A9]at j;cases j
  have u:Sm [c] H (IU H c (.frz o (.dK (bK A e.length)))):=(Sm.refl _ _).upd (by simp);have O:Rd (IU H c (.frz o (.dK (bK A e.length)))) c (.dK (bK A e.length)):=.inr ⟨o,A9⟩;have C:(IU H c (.frz o (.dK (bK A e.length)))) c=some (.frz o (.dK (bK A e.length))):=A9;have I:H D=none:=by rw[B6 t]at j;exact j
  have R:=r.fz u O;generalize IU H c (.frz o (.dK (bK A e.length)))=H1 at j u O C R⊢;have S:(bK A e.length).length=e.length:=by unfold bK;rw[AB,CA]
  refine X2 (n:=e.length) (fun i σ G=>(∃U,σ = [U,some (.int (m:Int))])/\CM H1 G/\G D=some (.lst ((S9 m i).map fun k=>J1 (2^k)))) ⟨⟨_,rfl⟩,CM.new j,A9⟩ ?_ ?_ ?_ ?_
  .rintro i σ G J ⟨_,g,_⟩;exact⟨g _ _ C,by rw[S];exact J⟩
  .rintro σ G ⟨_,g,_⟩;exact⟨g _ _ C,by rw[S];exact Nat.le_refl _⟩
  .rintro i σ G y H' N J ⟨⟨U,rfl⟩,g,l⟩ ⟨rfl,k,v,M,rfl⟩ V;unfold bK at M;rw[AG,List.getElem?_range J]at M;obtain⟨rfl,rfl⟩:=Prod.mk.inj (BA M);refine A5 rfl (A5 rfl (B9 rfl rfl ⟨_,rfl,?_⟩));dsimp only;rw[Iu];have hl:=Ah m i;refine Q6 (fun z=>A5 rfl ⟨_,l,by rw[AB,sizeLine_eq];omega,V _ _ ⟨⟨_,rfl⟩,g.upd j,?_⟩⟩) (fun z=>V _ _ ⟨⟨_,rfl⟩,g,?_⟩)
   .rw[A9,Ar,AU z,AL];rfl
   .rw[Ar,AO z,CV];exact l
  .rintro σ G ⟨_,g,l⟩;exact q D G I (u.trans g.sm) (R.same g) l
end
def zFm{α:Type}{J:It}{ys:A0 α}{r:α->V}(f:α->V){a D:A2}{H:Hp}(as:LA J (ys.map r) a H){g:TT}{j:TE}{c:St}{k:A4 V}{Q:St->Hp->Prop}(p:α->Bool)(x:ys.length<=5000)(l:H D=none)
  (z:∀y∈ys,∀G,CM H G->∀M:Bool->Hp->Prop,(∀d,CM G d->M (p y) d)->g (some (r y)::c) G M) (A:∀y∈ys,∀G,CM H G->∀M:VK,(∀d,CM G d->M (f y) d)->j (some (r y)::c) G M)
  (q:∀σ G,CM H G->G D=some (.lst ((ys.filter p).map f))->Q σ G):Y7 (J7 0) g (T7 D j) J (k::c) (IU H D (.lst [])) Q:=by
 refine G7 as (fun i σ G=>(∃v,σ=v::c)/\CM H G/\G D=some (.lst (((ys.take i).filter p).map f))) ⟨⟨_,rfl⟩,CM.new l,A9⟩ (fun i σ G _ h=>h.2.1.at a) ?_ ?_
 .rintro i σ G v N m ⟨⟨k,rfl⟩,b,e⟩ n;rw[AG]at m;obtain⟨y,o,rfl⟩:=AZ.mp m;have s:=AM o;refine z y s G b _ fun d t=>?_;have e:=t _ _ e;have b:=b.trans t;have u:(ys.take (i+1)).filter p =(ys.take i).filter p++if p y=true then [y]else []:=by
   rw[I_ o,DN,CU,EY]
  have B:=BR p (ys.take i);rw[AR]at B;refine Q6 (fun c=>A y s d b _ fun C w=>⟨_,w _ _ e,by rw[AB,sizeLine_eq];omega,n _ _ ⟨⟨_,rfl⟩,(b.trans w).upd l,?_⟩⟩) (fun c=>n _ _ ⟨⟨_,rfl⟩,b,?_⟩)
  .rw[A9,u,AU c,AL];rfl
  .rw[u,AO c,CV];exact e
 .rintro σ G ⟨_,b,e⟩;rw[AB,BP]at e;exact q σ G b e
def Jm{α:Type}{J:It}{ys:A0 α}{r:α->V}(f:α->V){a D:A2}{H:Hp}(as:LA J (ys.map r) a H){g:TT}{h:TE}{c:St}{j:A4 V}{Q:St->Hp->Prop}(p:α->Bool)(d:ys.length<=5000)(k:H D=none)
  (l:∀y∈ys,∀G,CM H G->∀M:Bool->Hp->Prop,(∀i,CM G i->M (p y) i)->g (some (r y)::c) G M) (m:∀y∈ys,∀G,CM H G->∀M:VK,M (f y) G->h (some (r y)::c) G M)
  (q:∀σ G,CM H G->G D=some (.lst ((ys.filter p).map f))->Q σ G):Y7 (J7 0) g (T7 D h) J (j::c) (IU H D (.lst [])) Q :=
 zFm f as p d k l (fun y n G s M t=>m y n G s M (t G fun b o e=>e)) q
def MS{m n k:Nat}:k∈S9 m n↔k<n/\m.testBit k=true:=by
 unfold S9;rw[BI,CB]
def O4(n j:Nat):(2^n-1).testBit j=true↔j<n:=by rw[Nat.testBit_two_pow_sub_one,BD]
section
variable{P:A6}{w:F1}{K:PySem.W.Frag}{mg:Str->A4 A1}{base:IV}
theorem i8:IT ["self", "some"] ["self", "some"] (B5 MF):=LC
def Av(C:A2):Sp:=fun d H Q _=>∃(x c:A2) (b:A0 Str) (A B:A0 Nat) (L m:Nat),d = [.ref x,.int (m:Int)]/\JD C H x c b A B L/\∀l a,H l=none->CM H a->a l=some (.lst ((JX b m).map V.str))->Q (.ref l) a
theorem l8(T:Tx K mg):JC P w K mg base KB 1 T.al.f T.al.fd ["self", "some"] (Av T.aa):=by
 refine T.al.F.o1 i8 fun S A l s H vs Q E U h=>?_
 .obtain⟨x,c,t,A,B,L,m,rfl,u,q⟩:=h;have W:=t8 U;obtain⟨v,a,b,d,C,I,J,X,Y,e5,e6,n1,n2⟩:=u.ex;have ln:=u.len;refine⟨_,(B3 (C0 (K6 (N':=["name", "some", "self"]) (cap:=[none,some 1,some 0]) (cl:=[("some",_),("self",_)]) (G0 ⟨⟨rfl,rfl,rfl,rfl⟩,⟨⟨rfl,rfl,rfl,rfl⟩,trivial⟩⟩ ⟨rfl,⟨rfl,trivial⟩⟩) rfl (MQ K (QC K (pv 0))) (fun _ _ _ _=>by exact⟨(LR 0),(P9 (UT K (D0 Q2 (K0 W (QC K (pv 2)) (pv 0) (fun _ _=>rfl)) (pv 1)))),(pv 0)⟩)))),?_⟩;refine A5 rfl ⟨x,T.aa,v,_,A5 rfl ⟨I,T.ac,T.aD,rfl,a,rfl,⟨_,IW.of J⟩,fun D p=>?_⟩⟩;refine G7 (ND (IW.of J)) (fun i σ G=>(∃M,σ = [M,some (.int (m:Int)),some (.ref x)])/\CM H G/\G D=some (.lst ((Dt t m i).map V.str))) ⟨⟨_,rfl⟩,CM.new p,A9⟩ (fun i σ G _ h=>h.2.1.at a) ?_ ?_
  .rintro i σ G y N O ⟨⟨M,rfl⟩,g,j⟩ R;rw[AG]at O;obtain⟨n,k,rfl⟩:=AZ.mp O;have li:=(AD.mp k).1;have Z:Rd G b (.dK C):=X.imp (g _ _) fun⟨o,e⟩=>⟨o,g _ _ e⟩;refine A5 rfl ⟨x,T.aa,v,_,A5 rfl ⟨g _ _ I,T.ac,T.bl,rfl,A5 rfl ⟨b,_,rfl,.inl ⟨C,.inr n,Z,rfl,(Y i n k).symm⟩,A5 rfl (B9 rfl rfl ⟨_,rfl,?_⟩)⟩⟩⟩;dsimp only;rw[Iu];have r:=(Z9 t m i (by omega)).length_le;rw[AR]at r;refine Q6 (fun z=>A5 rfl ⟨_,j,by rw[AB,sizeLine_eq];omega,R _ _ ⟨⟨_,rfl⟩,g.upd p,?_⟩⟩) (fun z=>R _ _ ⟨⟨_,rfl⟩,g,?_⟩)
   .rw[A9,Q5 k,AU z,AL];rfl
   .rw[Q5 k,AO z,CV];exact j
  .rintro σ G ⟨_,g,j⟩;rw[AB]at j;exact q D G p g j
theorem NP:IT ["sets", "whole", "one"] ["sets"] (B5 QV):=LC
def Sk(K:PySem.W.Frag):Sp:=fun b H Q _=>∃(l:A2) (a:A0 Nat),b = [.ref l]/\H l=some (.lst (a.map J1))/\∀r:Nat,(∀j,r.testBit j=true↔∃z∈a,z.testBit j=true)->Q (.int (r:Int)) H
theorem Fv(T:Tx K mg):JC P w K mg base KB 1 T.bg.f T.bg.fd ["sets"] (Sk K):=by
 refine T.bg.F.o1 NP fun u A c s H B Q E a h=>?_
 .obtain⟨l,v,rfl,p,q⟩:=h;refine⟨_,(B2 (C3 (i:=1) NP.nd rfl (.inl rfl) B8)
   (B2 (K2 PassesOwn.never rfl (MQ K (pv 0)) (D6 (i:=2) NP.nd rfl (.inl rfl))
   (B3 (zEa (i:=1) NP.nd rfl (Or.inl rfl) (pv 2) zGc)))
   (B3 (C0 (pv 1))))),?_⟩
  refine B7 fun C d=>?_;refine d _ _ (B7 fun D g=>?_);refine A5 rfl ⟨l,rfl,⟨_,IW.of p⟩,?_⟩;refine O1 (ND (K:=K) (IW.of p)) (fun i σ G=>G=H/\∃(r:Nat) (k:A4 V),σ = [some (.ref l),some (.int (r:Int)),k]/\∀j,r.testBit j=true↔∃z∈v.take i,z.testBit j=true) ⟨rfl,0,_,rfl,fun j=>by simp⟩ (fun i σ G _ h=>by rw[h.1];exact fun o e=>e) ?_ ?_
  .rintro i σ G y t ⟨rfl,r,k,rfl,a⟩ I m _;rw[AG]at t;obtain⟨z,x,rfl⟩:=AZ.mp t;refine A5 rfl (A5 rfl (B9 rfl rfl ?_));dsimp only;rw[R5];refine m _ _ ⟨rfl,_,_,rfl,fun j=>?_⟩;rw[CH,DP,a,I_ x];constructor
   .rintro(⟨n,h1,b⟩ | h)
    .exact⟨n,EO _ h1,b⟩
    .exact⟨z,BZ _ (AH.mpr rfl),h⟩
   .rintro⟨n,h1,b⟩;rcases AS.mp h1 with h1 | h1
    .exact .inl ⟨n,h1,b⟩
    .rw[AH.mp h1]at b;exact .inr b
  .rintro σ G ⟨rfl,r,k,rfl,a⟩;rw[AB,BP]at a;exact g _ _ (A5 rfl (q r a))
def Sd(C:A2)(f:A0 Nat->A0 Nat->A0 Nat):Sp:=fun d H Q _=>∃(x c:A2) (b:A0 Str) (A B:A0 Nat) (L m:Nat),d = [.ref x,.int (m:Int)]/\JD C H x c b A B L/\∀(r:Nat) a,Sm [c] H a->JD C a x c b A B L->(∀j,r.testBit j=true↔Ej (f A B) m j)->Q (.int (r:Int)) a
theorem Qz{n m r:Nat}{M:A0 Nat}(b:∀k j,(M.getD k 0).testBit j=true->k<n)(h:∀j,r.testBit j=true↔∃z∈(S9 m n).map (fun k=>M.getD k 0),z.testBit j=true)(j:Nat):r.testBit j=true↔Ej M m j:=by
 rw[h];constructor
 .rintro⟨z,c,e⟩;obtain⟨k,a,rfl⟩:=AI.mp c;exact⟨k,(MS.mp a).2,e⟩
 .rintro⟨k,a,e⟩;exact⟨_,AI.mpr ⟨k,MS.mpr ⟨b k j e,a⟩,rfl⟩,e⟩
theorem Y1:IT ["self", "some"] ["self", "some"] (B5 L_):=LC
theorem J0(T:Tx K mg):JC P w K mg base KB 2 T.ae.f T.ae.fd ["self", "some"] (Sd T.aa fun _ B=>B):=by
 refine T.ae.F.o1 Y1 fun J A t s H V Q E n h=>?_
 .obtain⟨x,c,y,A,B,L,m,rfl,g,q⟩:=h;have N:=t8 n;obtain⟨u,a,b,d,O,v,_⟩:=g.ex;have W:=g.len;refine⟨_,(B3 (C0 (C9 T.bg (Fv T) (Rm n) (A8 (K6 (N':=["bit", "self"]) (cap:=[none,some 0]) (cl:=[("self",_)]) (G0 ⟨⟨rfl,rfl,rfl,rfl⟩,trivial⟩ ⟨rfl,trivial⟩) rfl (MQ K (F0 (pv 0) T.ac T.am.m (R0 T) (Rm n) T.am.b .nil M6 (A8 (pv 1) B0))) (fun _ _ _ _=>by exact⟨(LR 0),D8,(K0 N (QC K (pv 1)) (pv 0) (fun _ _=>rfl))⟩)) B0)))),?_⟩;refine A5 rfl ⟨x,u,A5 rfl ⟨v,rfl,A5 rfl ⟨x,c,y,A,B,L,m,rfl,g,fun l X Y R z C=>?_⟩⟩⟩;obtain⟨u,a,b,d,O,v,Z,e3,e4,e5,S,n1,n2⟩:=z.ex;refine⟨l,rfl,⟨_,IW.of C⟩,fun D U=>?_⟩;refine Jm (fun k=>J1 (B.getD k 0)) (ND (IW.of C)) (fun _=>true) (Nat.le_trans (Ah ..) (by omega)) U (fun k I G i M g=>g G fun b o e=>e) (fun k I G i M g=>?_) fun σ' G i p=>?_
  .exact A5 rfl ⟨x,T.aa,u,_,A5 rfl ⟨i _ _ v,T.ac,T.be,rfl,A5 rfl ⟨d,_,rfl,.inl ⟨_,.inl ((2^k:Nat):Int),.inl (i _ _ S),rfl,(Kv B (MS.mp I).1).symm⟩,g⟩⟩⟩
  rw[GL.mpr fun _ _=>rfl]at p;have p:G D=some (.lst (((S9 m y.length).map fun k=>B.getD k 0).map J1)):=by rw[p,BO];rfl
  refine⟨D,_,rfl,p,fun r n=>q r G (R.trans i.sm) (z.same i) (Qz (fun k j e=>(g.net.lt k j e).1) n)⟩
theorem T9:IT ["self", "some"] ["self", "some"] (B5 LK):=LC
theorem U0(T:Tx K mg):JC P w K mg base KB 2 T.aq.f T.aq.fd ["self", "some"] (Sd T.aa fun A _=>A):=by
 refine T.aq.F.o1 T9 fun J A t s H V Q E n h=>?_
 .obtain⟨x,c,y,A,B,L,m,rfl,g,q⟩:=h;have N:=t8 n;obtain⟨u,a,b,d,O,v,_⟩:=g.ex;have W:=g.len;refine⟨_,(B3 (C0 (C9 T.bg (Fv T) (Rm n) (A8 (K6 (N':=["bit", "self"]) (cap:=[none,some 0]) (cl:=[("self",_)]) (G0 ⟨⟨rfl,rfl,rfl,rfl⟩,trivial⟩ ⟨rfl,trivial⟩) rfl (MQ K (F0 (pv 0) T.ac T.am.m (R0 T) (Rm n) T.am.b .nil M6 (A8 (pv 1) B0))) (fun _ _ _ _=>by exact⟨(LR 0),D8,(K0 N (QC K (pv 1)) (pv 0) (fun _ _=>rfl))⟩)) B0)))),?_⟩;refine A5 rfl ⟨x,u,A5 rfl ⟨v,rfl,A5 rfl ⟨x,c,y,A,B,L,m,rfl,g,fun l X Y R z C=>?_⟩⟩⟩;obtain⟨u,a,b,d,O,v,Z,e3,e4,S,e6,n1,n2⟩:=z.ex;refine⟨l,rfl,⟨_,IW.of C⟩,fun D U=>?_⟩;refine Jm (fun k=>J1 (A.getD k 0)) (ND (IW.of C)) (fun _=>true) (Nat.le_trans (Ah ..) (by omega)) U (fun k I G i M g=>g G fun b o e=>e) (fun k I G i M g=>?_) fun σ' G i p=>?_
  .exact A5 rfl ⟨x,T.aa,u,_,A5 rfl ⟨i _ _ v,T.ac,T.ax,rfl,A5 rfl ⟨c,_,rfl,.inl ⟨_,.inl ((2^k:Nat):Int),S.imp (i _ _) fun⟨o,e⟩=>⟨o,i _ _ e⟩,rfl,(Kv A (MS.mp I).1).symm⟩,g⟩⟩⟩
  rw[GL.mpr fun _ _=>rfl]at p;have p:G D=some (.lst (((S9 m y.length).map fun k=>A.getD k 0).map J1)):=by rw[p,BO];rfl
  refine⟨D,_,rfl,p,fun r n=>q r G (R.trans i.sm) (z.same i) (Qz (fun k j e=>(g.net.lt j k ((g.net.tr k j).mp e)).2) n)⟩
theorem T6:IT ["self", "some"] ["self", "some"] (B5 LJ):=LC
def Jw(C:A2):Sp:=fun d H Q _=>∃(x c:A2) (a:A0 Str) (A B:A0 Nat) (L m:Nat),d = [.ref x,.int (m:Int)]/\JD C H x c a A B L/\∀(r:Nat) b,Sm [c] H b->JD C b x c a A B L->(∀j,r.testBit j=true↔j<a.length/\¬Ej B m j)->Q (.int (r:Int)) b
theorem O2(T:Tx K mg):JC P w K mg base KB 3 T.ai.f T.ai.fd ["self", "some"] (Jw T.aa):=by
 refine T.ai.F.o1 T6 fun t A i s H I Q E g h=>?_
 .obtain⟨x,c,n,A,B,L,m,rfl,l,q⟩:=h;obtain⟨o,a,b,d,J,p,_⟩:=l.ex;refine⟨_,(B3 (C0 (D0 Ku (QC K (pv 0)) (F0 (pv 0) T.ac T.ae.m (J0 T) (Rm g) T.ae.b .nil M6 (A8 (pv 1) B0))))),?_⟩;refine A5 rfl ⟨x,T.aa,o,_,A5 rfl ⟨p,T.ac,T.aF,rfl,A5 rfl ⟨x,o,A5 rfl ⟨p,rfl,A5 rfl ⟨x,c,n,A,B,L,m,rfl,l,fun r u v y g=>?_⟩⟩⟩⟩⟩;obtain⟨z,C,D⟩:=zEu (2^n.length-1) r fun j G=>by
   obtain⟨k,_,e⟩:=(g j).mp G;exact(O4 _ _).mpr (l.net.lt k j e).2
  refine⟨_,_,rfl,rfl,?_⟩;dsimp only;rw[C];exact q z u v y fun j=>by rw[D,O4,g]
theorem Fm:IT ["some"] ["some"] (B5 O_):=LC
def Lg:Sp:=fun a H Q _=>∃s:Nat,a = [.int (s:Int)]/\0<s/\∀k:Nat,s.testBit k=true->Q (.int ((2^k:Nat):Int)) H
theorem Gc(T:Tx K mg):JC P w K mg base KB 1 T.aH.f T.aH.fd ["some"] Lg:=by
 refine T.aH.F.o1 Fm fun b A a s H i Q E j h=>?_
 .obtain⟨s,rfl,c,q⟩:=h;refine⟨_,(B3 (C0 (D0 Q2 (pv 0) (Yl zCx (pv 0))))),?_⟩;refine A5 rfl (A5 rfl ⟨_,rfl,B9 rfl rfl ?_⟩);obtain⟨k,d,l⟩:=Zt s c;have e:-(s:Int)=Builtin.bitNot (((s-1:Nat)):Int):=by unfold Builtin.bitNot;omega
  have:=q k d;dsimp only;rw[e,PyProof.Rows.bitAnd_not,Xu];have g:(s:Int)-((s &&&(s-1):Nat):Int) =((2^k:Nat):Int):=by
   have:s &&&(s-1)<=s:=Nat.and_le_left;omega
  rw[g];exact this
def Jr(C:A2):Sp:=fun g H Q _=>∃(x c:A2) (b:A0 Str) (A B:A0 Nat) (L d e:Nat),g = [.ref x,.int (d:Int),.int (e:Int)]/\JD C H x c b A B L/\MD b.length d/\MD b.length e /\
 ∀t (a:Nat) f,Sm [c] H f->JD C f x c b A B L->f t=some (.tup [.int (d:Int),.int (a:Int)])->MD b.length a->Sub e a->(∀m,LH b.length A B m->KP d e m->KP d a m)->Qe b.length A B d a->Q (.ref t) f
theorem J_:IT ["marks", "chosen", "barred", "safe", "more"] ["marks", "chosen", "barred"] (B5 Le):=LC
set_option maxHeartbeats 2000000 in
theorem Z0(T:Tx K mg):JC P w K mg base KB 4 T.aC.f T.aC.fd ["marks", "chosen", "barred"] (Jr T.aa):=by
 refine T.aC.F.o1 J_ fun cdv A outer s H vs Q E Z h=>?_
 .obtain⟨x,c,l,A,B,L,n,M,rfl,hM,loc,lob,q⟩:=h;have p:=hM.net;refine⟨_,(B3 (Kk PassesOwn.never (M0 P1) (B2 (C3 (i:=3) J_.nd rfl (.inl rfl) (F0 (pv 0) T.ac T.ai.m (O2 T) (Rm Z) T.ai.b .nil M6 (A8 (D0 Ku (QC K (pv 0)) (pv 2)) B0)))
   (B2 (C3 (i:=4) J_.nd rfl (.inl rfl) (D0 Y6 (D0 Y6 (D0 Y6 (pv 2) (F0 (pv 0) T.ac T.ae.m (J0 T) (Rm Z) T.ae.b .nil M6 (A8 (pv 1) B0))) (F0 (pv 0) T.ac T.aq.m (U0 T) (Rm Z) T.aq.b .nil M6 (A8 (pv 1) B0))) (F0 (pv 0) T.ac T.ae.m (J0 T) (Rm Z) T.ae.b .nil M6 (A8 (pv 3) B0))))
   (B2 (G8 (C2 N9 (pv 4) (pv 2) (C5 _)) (B3 (C0 (M8 (A8 (pv 1) (A8 (pv 2) B0))))) C7)
   (B3 (C3 (i:=2) J_.nd rfl (.inl rfl) (pv 4)))))))),?_⟩
  refine⟨fun k σ G=>∃(g:Nat) (N O:A4 V),σ = [some (.ref x),some (.int (n:Int)),some (.int (g:Int)),N,O]/\k=2^l.length-g/\MD l.length g/\Sub M g/\Sm [c] H G/\JD T.aa G x c l A B L/\∀m,LH l.length A B m->KP n M m->KP n g m,⟨_,M,_,_,rfl,rfl,lob,fun j h=>h,Sm.refl _ _,hM,fun m _ h=>h⟩,?_⟩;rintro k σ G ⟨g,N,O,rfl,rfl,lo1,r,kG,MG,u⟩;refine⟨_,rfl,Rs ⟨fun σ' G'=>∃(v:Nat) (N O:A4 V),σ' = [some (.ref x),some (.int (n:Int)),some (.int (v:Int)),N,O]/\g<v/\MD l.length v/\Sub M v/\Sm [c] H G'/\JD T.aa G' x c l A B L/\∀m,LH l.length A B m->KP n M m->KP n v m,?_,?_⟩⟩
  .rintro σ' G' ⟨v,N,O,rfl,lt,R,h⟩;have:=R.lt;exact⟨2^l.length-v,by omega,v,_,_,rfl,rfl,R,h⟩
  refine B7 fun N1 hN1=>?_;obtain⟨y,a,b,d,kb,C,_⟩:=MG.ex;obtain⟨z,ez,hz⟩:=zEu (2^l.length-1) g fun j I=>(O4 _ _).mpr (lo1 j I);refine A5 rfl ⟨x,y,A5 rfl ⟨C,rfl,A5 rfl ⟨x,T.aa,y,_,A5 rfl ⟨C,T.ac,T.aF,rfl,A5 rfl (B9 rfl rfl ?_)⟩⟩⟩⟩;dsimp only;rw[ez];refine⟨x,c,l,A,B,L,z,rfl,MG,fun sf G1 k1 M1 S=>?_⟩;refine hN1 _ _ (B7 fun N2 hN2=>?_);obtain⟨y,a,b,d,kb,C,_⟩:=M1.ex;refine A5 rfl (A5 rfl ⟨x,y,A5 rfl ⟨C,rfl,A5 rfl ⟨x,c,l,A,B,L,n,rfl,M1,fun r1 G2 k2 M2 h1=>?_⟩⟩⟩);refine B9 rfl rfl ?_;dsimp only;rw[R5];obtain⟨y,a,b,d,kb,C,_⟩:=M2.ex;refine A5 rfl ⟨x,y,A5 rfl ⟨C,rfl,A5 rfl ⟨x,c,l,A,B,L,n,rfl,M2,fun r2 G3 k3 M3 h2=>?_⟩⟩⟩;refine B9 rfl rfl ?_;dsimp only;rw[R5];obtain⟨y,a,b,d,kb,C,_⟩:=M3.ex;refine A5 rfl ⟨x,y,A5 rfl ⟨C,rfl,A5 rfl ⟨x,c,l,A,B,L,sf,rfl,M3,fun r3 G4 k4 M4 h3=>?_⟩⟩⟩;refine B9 rfl rfl ?_;dsimp only;rw[R5];have k4:=kG.trans (k1.trans (k2.trans (k3.trans k4)));generalize hmo:(g ||| r1 ||| r2 ||| r3)=U;have J:∀j,U.testBit j=true↔((g.testBit j=true\/Ej B n j)\/Ej A n j)\/Ej B sf j:=fun j=>by
   rw[<-hmo,CH,CH,CH,DP,DP,DP,h1,h2,h3]
  have W:∀j,Ej B sf j↔∃i,i<l.length/\(¬∃k,k<l.length/\¬g.testBit k=true/\(B.getD k 0).testBit i=true)/\(B.getD i 0).testBit j=true:=fun j=>by
   constructor
   .rintro⟨i,D,e⟩;obtain⟨hn,nh⟩:=(S i).mp D;exact⟨i,hn,fun⟨k,hk,nb,e'⟩=>nh ⟨k,(hz k).mpr ⟨(O4 _ _).mpr hk,nb⟩,e'⟩,e⟩
   .rintro⟨i,D,X,e⟩;exact⟨i,(S i).mpr ⟨D,fun⟨k,hk,e'⟩=>X ⟨k,(O4 _ _).mp ((hz k).mp hk).1,((hz k).mp hk).2,e'⟩⟩,e⟩
  refine hN2 _ _ (B7 fun N3 hN3=>?_);refine A5 rfl (A5 rfl ⟨rfl,_,rfl,Q6 (fun Y=>?_) (fun ne=>?_)⟩)
  .have Y:U=g:=by have:=V.int.inj (BL Y);omega
   refine A5 rfl (A5 rfl ⟨by show 2<=sizeLine;decide,fun t ht=>?_⟩);have ut:=CM.new (o:=.tup [.int (n:Int),.int (g:Int)]) ht;refine q t g _ (k4.trans ut.sm) (M4.same ut) A9 lo1 r u ⟨fun j h=>?_,fun j h=>?_,fun i j D X e=>?_⟩
   .rw[<-Y];exact(J j).mpr (.inl (.inl (.inr h)))
   .rw[<-Y];exact(J j).mpr (.inl (.inr h))
   .rw[<-Y];exact(J j).mpr (.inr ((W j).mpr ⟨i,D,X,e⟩))
  .have ne:U≠g:=fun z=>ne (AK (by rw[z]));refine hN3 _ _ ?_;have sb:Sub g U:=fun j h=>(J j).mpr (.inl (.inl (.inl h)));refine A5 rfl ⟨U,_,_,rfl,FB (Nat.le_of_testBit sb) (Ne.symm ne),fun j h=>?_,fun j h=>sb j (r j h),k4,M4,fun m hs hf=>?_⟩
   .rcases(J j).mp h with((h | ⟨k,_,e⟩) | ⟨k,_,e⟩) | ⟨k,_,e⟩
    .exact lo1 j h
    .exact(p.lt k j e).2
    .exact(p.lt j k ((p.tr k j).mp e)).1
    .exact(p.lt k j e).2
   .have f1:=u m hs hf;obtain⟨x1,x2,x3⟩:=Sf p hs f1;refine⟨f1.1,fun j I z=>?_⟩;rcases(J j).mp z with((h | h) | h) | h
    .exact f1.2 j I h
    .exact x1 j h I
    .exact x2 j h I
    .obtain⟨i,D,X,e⟩:=(W j).mp h;exact x3 i j D X e I
end
def er(H:Hp)(l:A2):Hp:=fun b=>if b=l then none else H b
def Zl{H:Hp}{l b:A2}(n:b≠l):er H l b=H b:=AO n
def Ea(H:Hp)(l:A2):CM (er H l) H:=fun b o e=>by
 unfold er at e;by_cases c:b=l
 .rw[AU c]at e;cases e
 .rw[AO c]at e;exact e
def zCr(H:Hp)(l:A2)(o:HO):er (IU H l o) l=er H l:=funext fun b=>by
 unfold er;by_cases c:b=l
 .rw[AU c,AU c]
 .rw[AO c,AO c,B6 c]
def JD.er{C:A2}{H H':Hp}{x c l:A2}{ns:A0 Str}{A B:A0 Nat}{L:Nat}(h:JD C (er H l) x c ns A B L)(k:Sm [c] H H')(h':JD C H' x c ns A B L)(n:l≠c):JD C (Sw.er H' l) x c ns A B L:=by
 refine h.fz (fun b o e a=>?_) ?_
 .have:b≠l:=fun z=>by subst z;unfold Sw.er at e;rw[AU rfl]at e;cases e
  rw[Zl this];exact k b o (Ea H l b o e) a
 .obtain⟨_,_,_,_,_,_,_,_,_,d,_⟩:=h'.ex;unfold Rd;rw[Zl n.symm];exact d
def Pf{n:Nat}(p:Nat->Prop)(h:∀m,p m->MD n m):∃a:A0 Nat,a.Nodup/\∀m,m∈a↔p m:=by
 classical
 refine⟨(List.range (2^n)).filter fun m=>decide (p m),DE.nodup HK,fun m=>?_⟩;rw[BI,CB,BD];exact⟨fun z=>z.2,fun z=>⟨(h m z).lt,z⟩⟩
def Eg(x y:Nat):((Builtin.bitAnd (x:Int) (y:Int)) != 0)=true↔∃j,x.testBit j=true/\y.testBit j=true:=by
 rw[Xu,bne_iff_ne];constructor
 .intro h;have h:x &&& y≠0:=fun z=>h (by rw[z];rfl);obtain⟨j,a⟩:=Nat.exists_testBit_of_ne_zero h;rw[EG,BU]at a;exact⟨j,a⟩
 .rintro⟨j,b,c⟩ z;have e:x &&& y=0:=by omega
  have:=DG j;rw[<-e,EG,b,c]at this;cases this
section
variable{P:A6}{w:F1}{K:PySem.W.Frag}{mg:Str->A4 A1}{base:IV}
abbrev UG:=Nat->A0 Nat->A0 Nat->Nat->Prop
def Bb(C:A2)(h:UG):Sp:=fun i H Q _=>∃(x c:A2) (d:A0 Str) (A B:A0 Nat) (L e f:Nat),i = [.ref x,.int (e:Int),.int (f:Int)]/\JD C H x c d A B L/\MD d.length e/\MD d.length f /\
 ∀t (a b:Nat) g,Sm [c] H g->JD C g x c d A B L->g t=some (.tup [.int (a:Int),.int (b:Int)])->MD d.length a->MD d.length b->Sub e a->Sub f b->(∀m,h d.length A B m->KP e f m->KP a b m)->((∀j,a.testBit j=true->¬b.testBit j=true)->(∀j,j<d.length->a.testBit j=true\/b.testBit j=true)->h d.length A B a)->Q (.ref t) g
def Y2(C f:A2)(i:UG)(k:Nat):Sp:=fun j H Q E=>∃(x c l:A2) (a:A0 Str) (A B:A0 Nat) (L e g:Nat) (b:A0 Nat),j = [.ref x,.ref f,.bl false,.int (e:Int),.int (g:Int),.ref l]/\JD C (er H l) x c a A B L/\MD a.length e/\MD a.length g/\UP a.length e g<=k/\H l=some (.lst (b.map J1))/\b.length<=300 /\
 ∀d:A0 Nat,d.Nodup->(∀m,m∈d↔i a.length A B m/\KP e g m)->(∀h,b.length+d.length<=300->Sm [c,l] H h->JD C (er h l) x c a A B L->h l=some (.lst ((b++d).map J1))->Q .non h)/\(300<b.length+d.length->False)
theorem LO:IT ["marks", "settle", "greatest", "chosen", "barred", "found", "undecided", "most", "first"] ["marks", "settle", "greatest", "chosen", "barred", "found"] (B5 QW):=LC
set_option maxHeartbeats 4000000 in
theorem Cl(T:Tx K mg){f:A2}{fd:JK}{I:UG}{n k:Nat}{S:Sp}(tl:∀n A B m,I n A B m->MD n m)(G:JC P w K mg base KB n f fd ["marks", "chosen", "barred"] (Bb T.aa I))(C:PySem.W.keepIn K (.ref f)=true)(D:Binds K fd ["marks", "chosen", "barred"] [])
  (h1:1<=n) (p:JC P w K mg base KB n T.au.f T.au.fd ["marks", "settle", "greatest", "chosen", "barred", "found"] S) (hS:∀k',k=k'+1->S=Y2 T.aa f I k') :
  JC P w K mg base KB (n+1) T.au.f T.au.fd ["marks", "settle", "greatest", "chosen", "barred", "found"] (Y2 T.aa f I k):=by
 have r:JC P w K mg base KB n T.aH.f T.aH.fd ["some"] Lg:=(Gc T).mono h1;refine T.au.F.o1 LO fun cdv A outer s H vs Q E hr h=>?_
 .obtain⟨x,c,l,v,A,B,L,ch,ba,X,rfl,hR,loc,lob,hu,el,lf,q⟩:=h;have hM:=hR.same (Ea H l);refine⟨_,(B2 (m9 (Uc (i:=1) G (hr.mono (Nat.le_refl _)) C D M6 (A8 (pv 0) (A8 (pv 3) (A8 (pv 4) B0)))) (RY K (n:=2) (C8 (D6 (i:=3) LO.nd rfl (.inl rfl)) (C8 (D6 (i:=4) LO.nd rfl (.inl rfl)) M5))))
   (B2 (G8 (UT K (D0 Q2 (pv 3) (pv 4))) (B3 Ig) C7)
   (B2 (C3 (i:=6) LO.nd rfl (.inl rfl) (D0 Ku (QC K (pv 0)) (D0 Y6 (pv 3) (pv 4))))
   (B2 (C3 (i:=7) LO.nd rfl (.inr rfl) (D0 Y6 (pv 3) (pv 6)))
   (B2 (G8 (PW.pt (Gu (M0 (pv 2)) (Cn (M0 (D4 (zDe K) T.bO zCo (A8 (K6 (N':=["one", "most"]) (cap:=[none,some 7]) (cl:=[("most",_)]) (G0 ⟨⟨rfl,rfl,rfl,rfl⟩,trivial⟩ ⟨rfl,trivial⟩) rfl (MQ K (pv 5)) (fun _ _ _ _=>by exact⟨(LR 0),D8,(D9 N9 (D0 Q2 (pv 1) (pv 0)) (pv 1) (C5 _))⟩)) B0)))))) (B3 Ig) C7)
   (B2 (G8 (U1 (UT K (pv 6))) (B2 (G8 (C2 N9 (D4 (J6 K) T.aj J3 (A8 (pv 5) B0)) (zDt T.bM) (C5 _)) (B3 v9) C7)
   (B2 (E8 (Hh K PySem.F.plainAttrs_list PySem.F.slot_list_append PySem.F.type_list_append J2 (pv 5) (A8 (pv 3) B0)))
   (B3 Ig))) C7)
   (B2 (C3 (i:=8) LO.nd rfl (.inl rfl) (C9 T.aH r (hr.mono (Nat.le_refl _)) (A8 (pv 6) B0)))
   (B2 (E8 (C9 T.au p (hr.mono (Nat.le_refl _)) (@A8 _ _ _ _ _ (pv 0) (@A8 _ _ _ _ _ (pv 1) (@A8 _ _ _ _ _ (pv 2) (@A8 _ _ _ _ _ (D0 Y6 (pv 3) (pv 8)) (@A8 _ _ _ _ _ (pv 4) (@A8 _ _ _ _ _ (pv 5) B0 (by rfl)) (by rfl)) (by rfl)) (by rfl)) (by rfl)) (by rfl))))
   (B3 (E8 (C9 T.au p (hr.mono (Nat.le_refl _)) (@A8 _ _ _ _ _ (pv 0) (@A8 _ _ _ _ _ (pv 1) (@A8 _ _ _ _ _ (pv 2) (@A8 _ _ _ _ _ (pv 3) (@A8 _ _ _ _ _ (D0 Y6 (pv 4) (pv 8)) (@A8 _ _ _ _ _ (pv 5) B0 (by rfl)) (by rfl)) (by rfl)) (by rfl)) (by rfl)) (by rfl))))))))))))),?_⟩
  refine B7 fun N1 hN1=>?_;refine⟨rfl,A5 rfl (A5 rfl (A5 rfl ⟨x,c,v,A,B,L,ch,ba,rfl,hM,loc,lob,fun t g b1 H1 Y M1 et lo1 Z R U snd cpl=>?_⟩))⟩;refine⟨t,_,rfl,KQ.of et,rfl,_,_,rfl,_,_,rfl,rfl,?_⟩;have nlc:l≠c:=let⟨_,_,_,_,_,_,_,_,_,e5,_⟩:=hM.ex;Yc e5 el (fun _ z=>by cases z) fun _ _ z=>by cases z
  have J:=PH Y el nlc;have R1:=hR.er Y M1 nlc;have Y:Sm [c,l] H H1:=fun b o e nb=>Y b o e fun z=>nb (AV.mpr (.inl (AH.mp z)));refine hN1 _ _ (B7 fun N2 hN2=>?_);refine A5 rfl (A5 rfl (B9 rfl rfl ⟨_,rfl,Q6 (fun cm=>?_) (fun cm=>?_)⟩))
  .obtain⟨j,j1,j2⟩:=(Eg g b1).mp cm;have:=(q [] GQ fun m=>⟨fun z=>absurd z BH,fun⟨z,y⟩=>absurd j2 ((snd m z y).2 j ((snd m z y).1 j j1))⟩).1 H1 (by rw[IA];omega) Y R1 (by rw[CV];exact J);exact this
  have dis:∀j,g.testBit j=true->¬b1.testBit j=true:=fun j z y=>cm ((Eg g b1).mpr ⟨j,z,y⟩);have fit:∀m,I v.length A B m/\KP ch ba m↔I v.length A B m/\KP g b1 m:=fun m=>⟨fun⟨z,y⟩=>⟨z,snd m z y⟩,fun⟨z,y⟩=>⟨z,y.mono R U⟩⟩;refine hN2 _ _ (B7 fun N3 hN3=>?_);obtain⟨dx,a,b,d,kb,e1,_⟩:=M1.ex;obtain⟨u,eu,N⟩:=zEu (2^v.length-1) (g ||| b1) fun j hj=>by
   rw[CH,DP]at hj;exact(O4 _ _).mpr (hj.elim (lo1 j) (Z j))
  have N:∀j,u.testBit j=true↔j<v.length/\¬g.testBit j=true/\¬b1.testBit j=true:=fun j=>by
   rw[N,O4,CH,DP,not_or]
  refine A5 rfl ⟨x,T.aa,dx,_,A5 rfl ⟨e1,T.ac,T.aF,rfl,A5 rfl (A5 rfl (B9 rfl rfl ?_))⟩⟩;dsimp only;rw[R5];refine B9 rfl rfl ?_;dsimp only;rw[eu];refine hN3 _ _ (B7 fun N4 hN4=>?_);refine A5 rfl (A5 rfl (B9 rfl rfl ?_));refine hN4 _ _ (B7 fun N5 hN5=>?_);refine A5 rfl ⟨_,rfl,T8 (T8 ?_)⟩;refine hN5 _ _ (B7 fun N6 hN6=>?_);refine A5 rfl ⟨_,rfl,Q6 (fun z0=>?_) (fun z0=>?_)⟩
  .have u0:u=0:=by
    rw[GE,bne_eq_false_iff_eq]at z0;omega
   have all:∀j,j<v.length->g.testBit j=true\/b1.testBit j=true:=fun j hj=>by
    by_cases h:g.testBit j=true
    .exact .inl h
    .by_cases h':b1.testBit j=true
     .exact .inr h'
     .have:=(N j).mpr ⟨hj,h,h'⟩;rw[u0,DG]at this;cases this
   have tg:=cpl dis all;have qq:=q [g] (ED _ _) fun m=>by
    rw[fit,AH];exact⟨fun z=>by rw[z];exact⟨tg,fun j h=>h,dis⟩,fun⟨z,y⟩=>Ov (tl _ _ _ _ z) all y⟩
   have lm:(X.map J1).length=X.length:=AB ..;refine B7 fun N7 hN7=>?_;refine A5 rfl (B9 (a:=l) rfl (.inl (IW.of J)) ⟨rfl,_,rfl,Q6 (fun e3=>?_) (fun e3=>?_)⟩)
   .have l300:X.length=300:=by
     have:=V.int.inj (BL e3);rw[lm]at this;omega
    exact qq.2 (by rw[List.length_singleton];omega)
   .have l300:X.length<300:=FB lf fun z=>e3 (AK (by rw[lm,z];rfl));refine hN7 _ _ (B7 fun N8 hN8=>?_);refine A5 rfl ⟨.inl ⟨rfl,_,IW.of J⟩,A5 rfl ⟨l,_,_,rfl,rfl,J,by rw[lm,sizeLine_eq];omega,hN8 _ _ ?_⟩⟩;have:=qq.1 (IU H1 l (.lst (X.map J1 ++ [.int (g:Int)]))) (by rw[List.length_singleton];omega) (Y.upd (by simp)) (by rw[zCr];exact R1) (by rw[A9,AL];rfl);exact this
  .have upos:0<u:=by
    rcases Nat.eq_zero_or_pos u with h | h
    .exact absurd (by rw[h];rfl) z0
    .exact h
   refine hN6 _ _ (B7 fun N7 hN7=>?_);refine A5 rfl ⟨u,rfl,upos,fun kk hkk=>?_⟩;obtain⟨k0,nc,nb⟩:=(N kk).mp hkk;have ss:∀a:Nat,Sub a (a ||| 2^kk):=fun a j h=>by rw[CH,h];rfl
   have sb:∀a:Nat,(a ||| 2^kk).testBit kk=true:=fun a=>by rw[CH,GI,Bool.or_true]
   have un1:=Ud (n:=v.length) R U;have un2:=Ww (n:=v.length) (ss g) (fun j h=>h:Sub b1 b1) k0 ⟨nc,nb⟩ (.inl (sb g));have un3:=Ww (n:=v.length) (fun j h=>h:Sub g g) (ss b1) k0 ⟨nc,nb⟩ (.inr (sb b1));obtain⟨k',rfl⟩:∃k',k=k'+1:=⟨k-1,by omega⟩;have hSS:=hS k' rfl;subst hSS;have mem:∀{M L2:A0 Nat},(∀m,m∈M↔I v.length A B m/\KP (g ||| 2^kk) b1 m)->(∀m,m∈L2↔I v.length A B m/\KP g (b1 ||| 2^kk) m)->∀m,m∈M++L2↔I v.length A B m/\KP ch ba m:=fun h1 h2 m=>by
    rw[fit,AS,h1,h2,RZ,RC];constructor
    .rintro(⟨a,b,_⟩ | ⟨a,b,_⟩)
     .exact⟨a,b⟩
     .exact⟨a,b⟩
    .rintro⟨a,b⟩;by_cases h:m.testBit kk=true
     .exact .inl ⟨a,b,h⟩
     .exact .inr ⟨a,b,h⟩
   have nod:∀{M L2:A0 Nat},M.Nodup->L2.Nodup->(∀m,m∈M↔I v.length A B m/\KP (g ||| 2^kk) b1 m)->(∀m,m∈L2↔I v.length A B m/\KP g (b1 ||| 2^kk) m)->(M++L2).Nodup:=fun n1 n2 h1 h2=>FO.mpr ⟨n1,n2,fun a ha b hb e=>by
    subst e;exact(RC.mp ((h2 a).mp hb).2).2 (RZ.mp ((h1 a).mp ha).2).2⟩
   refine hN7 _ _ (B7 fun N8 hN8=>?_);refine A5 rfl (A5 rfl (A5 rfl (A5 rfl (A5 rfl (B9 rfl rfl ?_)))));refine A5 rfl (A5 rfl ⟨x,c,l,v,A,B,L,g ||| 2^kk,b1,X,by dsimp only;rw[R5];rfl,R1,lo1.or k0,Z,by omega,J,lf,fun M nd1 m1=>⟨fun H2 le2 k2 M2 el2=>?_,fun gt=>?_⟩⟩)
   .refine hN8 _ _ ?_;refine A5 rfl (A5 rfl (A5 rfl (A5 rfl (A5 rfl (A5 rfl (B9 rfl rfl ?_))))));refine A5 rfl ⟨x,c,l,v,A,B,L,g,b1 ||| 2^kk,X++M,by dsimp only;rw[R5];rfl,M2,lo1,Z.or k0,by omega,el2,by rw[BJ];exact le2,fun L2 O m2=>⟨fun H3 le3 k3 M3 el3=>?_,fun gt=>?_⟩⟩
    .rw[BJ]at le3;rw[BM]at el3;exact(q (M++L2) (nod nd1 O m1 m2) (mem m1 m2)).1 H3 (by rw[BJ];omega) (Y.trans (k2.trans k3)) M3 el3
    .rw[BJ]at gt;exact((q (M++L2) (nod nd1 O m1 m2) (mem m1 m2)).2 (by rw[BJ];omega))
   .obtain⟨L2,O,m2⟩:=Pf (n:=v.length) (fun m=>I v.length A B m/\KP g (b1 ||| 2^kk) m) fun m h=>tl _ _ _ _ h.1;exact((q (M++L2) (nod nd1 O m1 m2) (mem m1 m2)).2 (by rw[BJ];omega))
def Je:Sp:=fun _ _ _ _=>False
theorem Tq{f:A2}{a:JK}{ps:A0 Str}{CX:SD}{n:Nat}:JC P w K mg base CX n f a ps Je:=⟨fun _ _ _ _ h=>h.elim,fun _ _ _ _ _ _ _ _ _ _ _ _ _ h=>h.elim⟩
theorem Gn(T:Tx K mg){f:A2}{g:JK}{a:UG}{n:Nat}(b:∀n A B m,a n A B m->MD n m)(G:JC P w K mg base KB n f g ["marks", "chosen", "barred"] (Bb T.aa a))(c:PySem.W.keepIn K (.ref f)=true)(d:Binds K g ["marks", "chosen", "barred"] [])(h1:1<=n) :
  ∀k,JC P w K mg base KB (n+1+k) T.au.f T.au.fd ["marks", "settle", "greatest", "chosen", "barred", "found"] (Y2 T.aa f a k)
 | 0=>Cl T b G c d h1 Tq fun h e=>by omega
 | k+1=>Cl (n:=n+1+k) T b (G.mono (by omega)) c d (by omega) (Gn T b G c d h1 k) fun h e=>by cases e;rfl
end
def KG(n:Nat)(A B:A0 Nat)(m:Nat):Prop:=LH n A B m/\∀j,P8 n A B m j->m.testBit j=true
def Oj{n:Nat}{A B:A0 Nat}{m a j:Nat}(s:Sub m a)(h:P8 n A B m j):P8 n A B a j:=⟨h.1,fun b c=>let⟨k,d,e⟩:=h.2 b c;⟨k,s k d,e⟩⟩
section
variable{P:A6}{w:F1}{K:PySem.W.Frag}{mg:Str->A4 A1}{base:IV}
theorem Cs:IT ["self", "some"] ["self", "some"] (B5 OF):=LC
def Ul(C:A2):Sp:=fun d H Q _=>∃(x c:A2) (a:A0 Str) (A B:A0 Nat) (L m:Nat),d = [.ref x,.int (m:Int)]/\JD C H x c a A B L/\∀(r:Nat) b,Sm [c] H b->JD C b x c a A B L->(∀j,r.testBit j=true↔P8 a.length A B m j)->Q (.int (r:Int)) b
theorem Cm(T:Tx K mg):JC P w K mg base KB 4 T.aG.f T.aG.fd ["self", "some"] (Ul T.aa):=by
 refine T.aG.F.o1 Cs fun v A n s H U Q E i h=>?_
 .obtain⟨x,c,o,A,B,L,m,rfl,g,q⟩:=h;obtain⟨p,a,b,d,V,t,_⟩:=g.ex;refine⟨_,(B3 (C0 (D0 Ku (QC K (pv 0)) (F0 (pv 0) T.ac T.ae.m (J0 T) (Rm i) T.ae.b .nil M6 (A8 (F0 (pv 0) T.ac T.ai.m (O2 T) (Rm i) T.ai.b .nil M6 (A8 (pv 1) B0)) B0))))),?_⟩;refine A5 rfl ⟨x,T.aa,p,_,A5 rfl ⟨t,T.ac,T.aF,rfl,A5 rfl ⟨x,p,A5 rfl ⟨t,rfl,A5 rfl ⟨x,p,A5 rfl ⟨t,rfl,A5 rfl ⟨x,c,o,A,B,L,m,rfl,g,fun y W C D u=>?_⟩⟩⟩⟩⟩⟩⟩;refine⟨x,c,o,A,B,L,y,rfl,D,fun r G I J i=>?_⟩;obtain⟨z,M,N⟩:=zEu (2^o.length-1) r fun j l=>by
   obtain⟨k,_,e⟩:=(i j).mp l;exact(O4 _ _).mpr (g.net.lt k j e).2
  refine⟨_,_,rfl,rfl,?_⟩;dsimp only;rw[M];refine q z G (C.trans I) J fun j=>?_;rw[N,O4,i];constructor
  .rintro⟨l,O⟩;refine⟨l,fun b R=>?_⟩;have e:=(g.net.tr j b).mp R;by_cases c:Ej B m b
   .exact c
   .exact absurd ⟨b,(u b).mpr ⟨(g.net.lt b j e).1,c⟩,e⟩ O
  .rintro⟨l,h⟩;exact⟨l,fun⟨k,S,e⟩=>((u k).mp S).2 (h k ((g.net.tr j k).mpr e))⟩
theorem KA:IT ["marks", "chosen", "barred", "more"] ["marks", "chosen", "barred"] (B5 NH):=LC
set_option maxHeartbeats 2000000 in
theorem At(T:Tx K mg):JC P w K mg base KB 5 T.ar.f T.ar.fd ["marks", "chosen", "barred"] (Bb T.aa KG):=by
 refine T.ar.F.o1 KA fun cdv A outer s H vs Q E hr h=>?_
 .obtain⟨x,c,o,A,B,L,M,N,rfl,hM,loc,lob,q⟩:=h;have net:=hM.net;refine⟨_,(B3 (Kk PassesOwn.never (M0 P1) (B2 (m9 (C9 T.aC (Z0 T) (Rm hr) (A8 (pv 0) (A8 (pv 1) (A8 (pv 2) B0)))) (RY K (n:=2) (C8 (D6 (i:=1) KA.nd rfl (.inl rfl)) (C8 (D6 (i:=2) KA.nd rfl (.inl rfl)) M5))))
   (B2 (C3 (i:=3) KA.nd rfl (.inl rfl) (D0 Y6 (pv 1) (F0 (pv 0) T.ac T.aG.m (Cm T) (Rm hr) T.aG.b .nil M6 (A8 (pv 1) B0))))
   (B2 (G8 (PW.pt (u7 (C2 N9 (pv 3) (pv 1) (C5 _)) (S6 (UT K (D0 Q2 (pv 1) (pv 2)))))) (B3 (C0 (M8 (A8 (pv 1) (A8 (pv 2) B0))))) C7)
   (B3 (C3 (i:=1) KA.nd rfl (.inl rfl) (pv 3)))))))),?_⟩
  refine⟨fun k σ G=>∃(g O:Nat) (S:A4 V),σ = [some (.ref x),some (.int (g:Int)),some (.int (O:Int)),S]/\k=2^o.length-g/\MD o.length g/\MD o.length O/\Sub M g/\Sub N O/\Sm [c] H G/\JD T.aa G x c o A B L/\∀m,KG o.length A B m->KP M N m->KP g O m,⟨_,M,N,_,rfl,rfl,loc,lob,fun j h=>h,fun j h=>h,Sm.refl _ _,hM,fun m _ h=>h⟩,?_⟩;rintro k σ G ⟨g,O,S,rfl,rfl,lo1,lo2,u,v,kG,MG,U⟩;refine⟨_,rfl,Rs ⟨fun σ' G'=>∃(C l:Nat) (S:A4 V),σ' = [some (.ref x),some (.int (C:Int)),some (.int (l:Int)),S]/\g<C/\MD o.length C/\MD o.length l/\Sub M C/\Sub N l/\Sm [c] H G'/\JD T.aa G' x c o A B L/\∀m,KG o.length A B m->KP M N m->KP C l m,?_,?_⟩⟩
  .rintro σ' G' ⟨C,l,S,rfl,lt,p,h⟩;have:=p.lt;exact⟨2^o.length-C,by omega,C,l,_,rfl,rfl,p,h⟩
  refine B7 fun N1 hN1=>?_;refine A5 rfl (A5 rfl (A5 rfl ⟨x,c,o,A,B,L,g,O,rfl,MG,lo1,lo2,fun t l G1 k1 M1 et p D W st=>?_⟩));refine⟨t,_,rfl,KQ.of et,rfl,_,_,rfl,_,_,rfl,rfl,?_⟩;have I:∀m,KG o.length A B m->KP M N m->KP g l m:=fun m X hf=>W m X.1 (U m X hf);refine hN1 _ _ (B7 fun N2 hN2=>?_);obtain⟨dx,a,b,d,kb,e1,_⟩:=M1.ex;refine A5 rfl (A5 rfl ⟨x,dx,A5 rfl ⟨e1,rfl,A5 rfl ⟨x,c,o,A,B,L,g,rfl,M1,fun r G2 k2 M2 hr=>?_⟩⟩⟩);refine B9 rfl rfl ?_;dsimp only;rw[R5];have k2:=kG.trans (k1.trans k2);generalize hmo:(g ||| r)=J;have hm:∀j,J.testBit j=true↔g.testBit j=true\/P8 o.length A B g j:=fun j=>by rw[<-hmo,CH,DP,hr]
  have ret:(J=g\/∃j,g.testBit j=true/\l.testBit j=true)->∀R Y,CM G2 Y->Y R=some (.tup [.int (g:Int),.int (l:Int)])->Q (.ref R) Y:=fun hc R Y s3 et'=>by
   refine q R g l Y (k2.trans s3.sm) (M2.same s3) et' lo1 p u (fun j h=>D j (v j h)) I fun Z all=>⟨Mo net lo1 st Z all,fun j hj=>?_⟩;rcases hc with e | ⟨i,h1,h2⟩
   .rw[<-e];exact(hm j).mpr (.inr hj)
   .exact absurd h2 (Z i h1)
  have tup:(J=g\/∃j,g.testBit j=true/\l.testBit j=true)->Wq (zEp (V9 (Dr 1) (V9 (Dr 2) Jh))) { nx:=fun _ H'=>Q .non H',rt:=Q } [some (.ref x),some (.int (g:Int)),some (.int (l:Int)),some (.int (J:Int))] G2:=fun hc =>
   A5 rfl (A5 rfl ⟨by show 2<=sizeLine;decide,fun R ht'=>ret hc R _ (CM.new ht') A9⟩)
  refine hN2 _ _ (B7 fun N3 hN3=>?_);refine A5 rfl (A5 rfl ⟨rfl,_,rfl,Q6 (fun eq=>?_) (fun ne=>?_)⟩)
  .exact Rs (tup (.inl (by have:=V.int.inj (BL eq);omega)))
  .refine A5 rfl (A5 rfl (B9 rfl rfl ⟨_,rfl,Q6 (fun cm=>?_) (fun cm=>?_)⟩))
   .exact tup (.inr ((Eg g l).mp cm))
   .have ne:J≠g:=fun z=>ne (AK (by rw[z]));have sb:Sub g J:=fun j h=>(hm j).mpr (.inl h);refine hN3 _ _ ?_;refine A5 rfl ⟨J,l,_,rfl,FB (Nat.le_of_testBit sb) (Ne.symm ne),fun j h=>((hm j).mp h).elim (lo1 j) (·.1),p,fun j h=>sb j (u j h),fun j h=>D j (v j h),k2,M2,fun m X hf=>?_⟩;have f1:=I m X hf;exact⟨fun j h=>((hm j).mp h).elim (f1.1 j) fun y=>X.2 j (Oj f1.1 y),f1.2⟩
end
def Jb(Z:Nat->JZ)(v:Nat->V){N:Nat}(b:∀i j,i<N->j<N->Z i=Z j->i=j):∀n,n<=N->∀i,i<N->R9 ((List.range n).map fun k=>(Z k,v k)) (Z i)=if i<n then some (v i)else none
 | 0,_,i,_=>rfl
 | n+1,h,i,f=>by
  have a:=Jb Z v b n (by omega) i f;unfold R9 at a⊢;rw[EM,AL,List.find?_append];by_cases c:i<n
  .rw[AU c]at a;rw[AU (by omega)];cases e:(List.find? (fun d:JZ×V=>decide (d.1=Z i)) ((List.range n).map fun k=>(Z k,v k)))with
   | none=>rw[e]at a;cases a
   | some q=>rw[e]at a;rw[Option.some_or];exact a
  .rw[AO c]at a;cases e:(List.find? (fun d:JZ×V=>decide (d.1=Z i)) ((List.range n).map fun k=>(Z k,v k)))with
   | some q=>rw[e]at a;cases a
   | none =>
    rw[Option.none_or,BB,EX];by_cases g:i=n
    .subst g;rw[AK rfl,AU (by omega)];rfl
    .rw[AX fun z=>g (b n i (by omega) f z).symm,AO (by omega)];rfl
def Ol(Z:Nat->JZ)(v:Nat->V){N:Nat}(a:∀i j,i<N->j<N->Z i=Z j->i=j){n:Nat}(h:n<N):Lf ((List.range n).map fun k=>(Z k,v k)) (Z n) (v n) =(List.range (n+1)).map fun k=>(Z k,v k):=by
 rw[Ty _ (by rw[Jb Z v a n (by omega) n h,AO (by omega)]),EM,AL];rfl
def Lj:∀n,(((List.range n).map fun k=>((2^k:Nat):Int)).sum) =((2^n-1:Nat):Int)
 | 0=>rfl
 | n+1=>by
  rw[EM,AL,List.sum_append,Lj n];have:0<2^n:=Nat.pow_pos (by decide);simp only[BB,HI,List.sum_cons,List.sum_nil,Nat.pow_succ];omega
def Kj(l:A0 Nat):((l.map fun k=>((2^k:Nat):Int)).sum) =(((l.map fun k=>2^k).sum:Nat):Int):=by
 induction l with
 | nil=>rfl
 | cons a r b=>rw[BB,List.sum_cons,b,BB,List.sum_cons];omega
def Gk{ns:A0 Str}{y:Str}(h:y∈ns):ns[ns.idxOf y]?=some y:=by
 rw[AC (List.idxOf_lt_length_of_mem h),List.getElem_idxOf]
def ML(ns:A0 Str)(g:Str->A0 Str):A0 Nat:=ns.map fun n=>((g n).map fun y=>2^ns.idxOf y).sum
def zAl{ns:A0 Str}{g:Str->A0 Str}{i:Nat}{n:Str}(h:ns[i]?=some n):(ML ns g).getD i 0 =(((g n).map fun y=>ns.idxOf y).map fun k=>2^k).sum:=by
 unfold ML;rw[BK,AG,h,BO];rfl
def zBi{ns:A0 Str}{g:Str->A0 Str}{ks:A0 (Str×Str)}(p:ns.Nodup)(q:∀n∈ns,(g n).Nodup)(h:∀n∈ns,∀y,y∈g n↔(n,y)∈ks)(c:∀k∈ks,k.1∈ns/\k.2∈ns):MB ns ks (ML ns g):=by
 refine⟨by unfold ML;rw[AB],fun i j=>?_⟩;cases l:ns[i]? with
 | none =>
  have e:(ML ns g).getD i 0=0:=by unfold ML;rw[BK,AG,l];rfl
  rw[e,DG];exact⟨fun z=>(by cases z),fun⟨k,_,z,_⟩=>(by cases z)⟩
 | some n =>
  have d:=AM l;have r:((g n).map fun y=>ns.idxOf y).Nodup:=by
   refine BX.mpr (GJ (fun{a b} s t u e=>u ?_) (q n d));have o:=Gk (c _ ((h n d a).mp s)).2;have v:=Gk (c _ ((h n d b).mp t)).2;rw[e,v]at o;exact(BA o).symm
  rw[zAl l,Hy r,AI];constructor
  .rintro⟨y,w,rfl⟩;have f:=(h n d y).mp w;exact⟨_,f,rfl,Gk (c _ f).2⟩
  .rintro⟨k,f,m,x⟩;have m:=BA m;refine⟨k.2,(h n d k.2).mpr (by rw[m];exact f),?_⟩;exact T3 p (Gk (c _ f).2) x
def Kb{J:It}{a D:A2}{ns:A0 Str}{H:Hp}{Q:St->Hp->Prop}(as:LA J (ns.map V.str) a H){j l:TE}{r:St}{m:A4 V}(M:A0 Nat)(t:ns.length<=1000)(o:H D=none)
  (u:∀i n G (R:VK),ns[i]?=some n->CM H G->R (J1 (2^i)) G->j (some (.str n)::r) G R)
  (w:∀i n G (R:VK),ns[i]?=some n->CM H G->(∀f,CM G f->R (J1 (M.getD i 0)) f)->l (some (.str n)::r) G R)
  (q:∀σ G,CM H G->G D=some (.dK (bK M ns.length))->Q σ G):Y7 (J7 0) X4 (Rk D j l) J (m::r) (IU H D (.dK [])) Q:=by
 refine G7 as (fun i σ G=>(∃v,σ=v::r)/\CM H G/\G D=some (.dK (bK M i))) ⟨⟨_,rfl⟩,CM.new o,A9⟩ (fun i σ G _ h=>h.2.1.at a) ?_ ?_
 .rintro i σ G v N p ⟨⟨m,rfl⟩,c,d⟩ x;rw[AG]at p;obtain⟨n,g,rfl⟩:=AZ.mp p;have y:=(AD.mp g).1;refine Q4 (u i n G _ g c (w i n G _ g c fun f s=>?_));refine⟨bK M i,.inl ((2^i:Nat):Int),s _ _ d,rfl,by unfold bK;rw[AB,CA,sizeLine_eq];omega,x _ _ ⟨⟨_,rfl⟩,(c.trans s).upd o,?_⟩⟩;rw[A9];unfold bK;rw[Ol (fun k=>(Sum.inl ((2^k:Nat):Int):JZ)) (fun k=>J1 (M.getD k 0)) (N:=i+1) (fun a b _ _ e=>Sz (Sum.inl.inj e)) (FU i)]
 .rintro σ G ⟨_,c,d⟩;rw[AB]at d;exact q σ G c d
def JV.smx{C M:A2}{H H':Hp}{x w g:A2}{ns:A0 Str}{qs:A0 JI}(h:JV C H w ns qs)(i:H x=some (.ins M g []))(s:Sm [x] H H'):JV C H' w ns qs:=by
 obtain⟨j,m,a,b,c,d,p,r,t,u,y,A,B,D,E,F⟩:=h;have k:∀{b:A2} {o:HO},H b=some o->o≠ .ins M g []->H' b=some o:=fun e n=>s _ _ e fun z=>n (by rw[AH.mp z,i]at e;exact(BA e).symm);exact⟨j,m,a,b,c,d,p,r,k t (by unfold wf;intro z;cases z),k u (by intro z;cases z),k y (by intro z;cases z),fun q G=>k (A q G) (by intro z;cases z),k B (by intro z;cases z),k D (by intro z;cases z),fun n f=>let⟨l,v,e⟩:=E n f;⟨l,v,k e (by intro z;cases z)⟩,fun n f=>let⟨l,v,e⟩:=F n f;⟨l,v,k e (by intro z;cases z)⟩⟩
def Ey{qs:A0 JI}{n y:Str}:y∈B4 qs n↔(n,y)∈(qs.map fun q=>q.2).map fun k=>(k.2,k.1):=by
 unfold B4;rw[BO,AI,AI];constructor
 .rintro⟨q,h,rfl⟩;obtain⟨a,b⟩:=BI.mp h;exact⟨q,a,Prod.ext (BL b) rfl⟩
 .rintro⟨q,h,e⟩;exact⟨q,BI.mpr ⟨h,AK (congrArg Prod.fst e)⟩,congrArg Prod.snd e⟩
def Ia{qs:A0 JI}{n y:Str}:y∈C1 qs n↔(n,y)∈qs.map fun q=>q.2:=by
 unfold C1;rw[AI,AI];constructor
 .rintro⟨q,h,rfl⟩;obtain⟨a,b⟩:=BI.mp h;exact⟨q,a,Prod.ext (BL b) rfl⟩
 .rintro⟨q,h,e⟩;exact⟨q,BI.mpr ⟨h,AK (congrArg Prod.fst e)⟩,congrArg Prod.snd e⟩
def Iy{qs:A0 JI}(h:(qs.map fun q=>q.2).Nodup)(n:Str):(B4 qs n).Nodup:=by
 unfold B4;refine BX.mpr (GJ (fun{a b} c d f e=>f ?_) ((BX.mp h).sublist DE));exact Prod.ext e ((BL (BI.mp c).2).trans (BL (BI.mp d).2).symm)
def Oh{qs:A0 JI}(h:(qs.map fun q=>q.2).Nodup)(n:Str):(C1 qs n).Nodup:=by
 unfold C1;refine BX.mpr (GJ (fun{a b} c d f e=>f ?_) ((BX.mp h).sublist DE));exact Prod.ext ((BL (BI.mp c).2).trans (BL (BI.mp d).2).symm) e
def RN(ns:A0 Str)(i:Nat):A0 (JZ×V):=(List.range i).map fun k=>((Sum.inr (ns.getD k ""):JZ),J1 (2^k))
def Dc{ns:A0 Str}{i:Nat}{n:Str}(h:ns[i]?=some n):ns.getD i "" = n:=by rw[BK,h];rfl
def Wj{ns:A0 Str}(c:ns.Nodup):∀i j,i<ns.length->j<ns.length->(Sum.inr (ns.getD i ""):JZ)=Sum.inr (ns.getD j "")->i=j:=fun i j a b e=>by
 have e:=Sum.inr.inj e;rw[Dc (AC a),Dc (AC b)]at e;exact T3 c (AC a) (by rw[AC b,e])
def Jy{ns:A0 Str}(b:ns.Nodup){i:Nat}{n:Str}(h:ns[i]?=some n):R9 (RN ns ns.length) (.inr n)=some (J1 (2^i)):=by
 have a:=(AD.mp h).1;have:=Jb (fun k=>(Sum.inr (ns.getD k ""):JZ)) (fun k=>J1 (2^k)) (Wj b) ns.length (Nat.le_refl _) i a;rw[AU a]at this;rw[Dc h]at this;exact this
section
variable{P:A6}{w:F1}{K:PySem.W.Frag}{mg:Str->A4 A1}{base:IV}
theorem Kn{G:Hp}{b l:A2}{ns ys:A0 Str}{R:VK}(m:ns.Nodup)(n:G b=some (.dK (RN ns ns.length)))(q:G l=some (.lst (ys.map V.str)))(r:∀y∈ys,y∈ns)(s:ys.length<=1000)(t:∀f,CM G f->R (.int ((((ys.map fun y=>ns.idxOf y).map fun k=>2^k).sum:Nat):Int)) f) :
  ∀D,G D=none->Y7 (J7 0) X4 (T7 D (zBj (Dr 1) (Dr 0))) (UW K l) [none,some (.ref b)] (IU G D (.lst [])) fun _ g=>∃(p:A2) (h:A0 Int),[V.ref D] = [.ref p]/\IW K g p (h.map V.int)/\R (.int h.sum) g:=fun D u=>by
 refine Jm (fun y=>J1 (2^ns.idxOf y)) (ND (IW.of q)) (fun _=>true) (by omega) u (fun y i a c M d=>d a fun b o e=>e) (fun y i a c M d=>?_) fun σ a c j=>?_
 .exact A5 rfl (A5 rfl ⟨b,_,rfl,.inl ⟨_,.inr y,.inl (c _ _ n),rfl,(Jy m (Gk (r y i))).symm⟩,d⟩)
 .rw[GL.mpr fun _ _=>rfl]at j;refine⟨D,(ys.map fun y=>ns.idxOf y).map fun k=>((2^k:Nat):Int),rfl,IW.of (by rw[j,BO,BO];rfl),?_⟩;rw[Kj];exact t a c
theorem LY:IT ["self", "web", "bits"] ["self", "web"] (B5 MI):=LC
def X6(e g:A2):Sp:=fun h H Q _=>∃(x i f:A2) (a:A0 Str) (b:A0 JI),h = [.ref x,.ref f]/\H x=some (.ins e i [])/\JV g H f a b /\
 ∀(c:A2) (A B:A0 Nat) (L:Nat) d,H c=none->Sm [x] H d->JD e d x c a A B L->MB a ((b.map fun q=>q.2).map fun k=>(k.2,k.1)) A->MB a (b.map fun q=>q.2) B->Q .non d
set_option maxHeartbeats 4000000 in
theorem Dy(T:Tx K mg):JC P w K mg base KB 3 T.bh T.bf ["self", "web"] (X6 T.aa T.ab):=by
 refine T.bt.o1 LY fun cdv A outer s H vs Q E hr h=>?_
 .obtain⟨x,e,wb,ns,r,rfl,hx,hW,q⟩:=h;have hu:=t8 hr;have u:=hW.ok;have ln:=u.len;have U:=u.nd;refine⟨_,(B2 (SX K (pv 0) (Z7 (pv 1) T.ah T.ad.m (I0 T) (Rm hr) T.ad.b .nil M6))
   (B2 (C3 (i:=2) LY.nd rfl (.inr rfl) (Np (N':=["place", "name"]) (cap:=[none,none]) (cl:=[]) (G0 trivial trivial) rfl (piE K T.aU (A8 (QC K (pv 0)) B0)) (fun _ _ _ _=>by exact⟨(RY K (n:=2) (C8 (LR 0) (C8 (LR 1) M5))),D8,(pv 1),(D0 By B8 (pv 0))⟩)))
   (B2 (SX K (pv 0) (D4 Yi T.bq Lk (A8 (Qo (pv 2)) B0)))
   (B2 (SX K (pv 0) (pv 2))
   (B2 (SX K (pv 0) (Np (N':=["name", "bits", "web"]) (cap:=[none,some 2,some 1]) (cl:=[("web",_),("bits",_)]) (G0 ⟨⟨rfl,rfl,rfl,rfl⟩,⟨⟨rfl,rfl,rfl,rfl⟩,trivial⟩⟩ ⟨rfl,⟨rfl,trivial⟩⟩) rfl (MQ K (QC K (pv 0))) (fun _ _ _ _=>by exact⟨(LR 0),D8,(K0 hu (pv 1) (pv 0) (fun _ _=>rfl)),(D4 (Si K) T.bq Lk (A8 (K6 (N':=["one", "bits"]) (cap:=[none,some 1]) (cl:=[("bits",_)]) (G0 ⟨⟨rfl,rfl,rfl,rfl⟩,trivial⟩ ⟨rfl,trivial⟩) rfl (MQ K (F0 (pv 2) T.ah T.ag.m (K4 T) (Rm hr) T.ag.b .nil M6 (A8 (pv 0) B0))) (fun _ _ _ _=>by exact⟨(LR 0),D8,(K0 hu (pv 1) (pv 0) (fun _ _=>rfl))⟩)) B0))⟩)))
   (B2 (SX K (pv 0) (Np (N':=["name", "bits", "web"]) (cap:=[none,some 2,some 1]) (cl:=[("web",_),("bits",_)]) (G0 ⟨⟨rfl,rfl,rfl,rfl⟩,⟨⟨rfl,rfl,rfl,rfl⟩,trivial⟩⟩ ⟨rfl,⟨rfl,trivial⟩⟩) rfl (MQ K (QC K (pv 0))) (fun _ _ _ _=>by exact⟨(LR 0),D8,(K0 hu (pv 1) (pv 0) (fun _ _=>rfl)),(D4 (Si K) T.bq Lk (A8 (K6 (N':=["one", "bits"]) (cap:=[none,some 1]) (cl:=[("bits",_)]) (G0 ⟨⟨rfl,rfl,rfl,rfl⟩,trivial⟩ ⟨rfl,trivial⟩) rfl (MQ K (F0 (pv 2) T.ah T.as.m (Z8 T) (Rm hr) T.as.b .nil M6 (A8 (pv 0) B0))) (fun _ _ _ _=>by exact⟨(LR 0),D8,(K0 hu (pv 1) (pv 0) (fun _ _=>rfl))⟩)) B0))⟩)))
   (B3 (SX K (pv 0) (D4 (Si K) T.bq Lk (A8 (K6 (N':=["bit", "self"]) (cap:=[none,some 0]) (cl:=[("self",_)]) (G0 ⟨⟨rfl,rfl,rfl,rfl⟩,trivial⟩ ⟨rfl,trivial⟩) rfl (zCh (Qo (pv 2))) (fun _ _ _ _=>by exact⟨(LR 0),(P9 (UT K (D0 Q2 (pv 0) (K0 hu (QC K (pv 1)) (pv 0) (fun _ _=>rfl))))),(pv 0)⟩)) B0)))))))))),?_⟩
  have f:∀{b:A2},b≠x->b∉[x]:=fun h z=>h (AH.mp z);refine B7 fun Z1 hZ1=>?_;obtain⟨_,dw,_,_,_,_,_,_,ew,_⟩:=id hW;refine A5 rfl ⟨wb,dw,A5 rfl ⟨ew,rfl,wb,ns,r,rfl,hW,fun a hl1=>?_⟩⟩;have C:x≠a:=B1 hx hl1;refine A5 rfl ⟨x,T.aa,e,[],rfl,(B6 C).trans hx,T.ac,T.aD,by decide,?_⟩;have k1:Sm [x] H (IU (IU H a (.lst (ns.map V.str))) x (.ins T.aa e (O7 "names" (.ref a) []))):=(Sm.new (Sm.refl _ _) hl1).upd (by simp);have a1:(IU (IU H a (.lst (ns.map V.str))) x (.ins T.aa e (O7 "names" (.ref a) []))) a=some (.lst (ns.map V.str)):=(B6 C.symm).trans A9;have x1:(IU (IU H a (.lst (ns.map V.str))) x (.ins T.aa e (O7 "names" (.ref a) []))) x=some (.ins T.aa e [("names",.ref a)]):=by rw[A9];rfl
  generalize IU (IU H a (.lst (ns.map V.str))) x (.ins T.aa e (O7 "names" (.ref a) []))=H1 at k1 a1 x1⊢;refine hZ1 _ _ (B7 fun Z2 hZ2=>?_);refine A5 rfl ⟨x,T.aa,e,_,A5 rfl ⟨x1,T.ac,T.aD,rfl,a,A5 rfl ⟨IW.of a1,fun b hb=>?_⟩⟩⟩;refine X2 (n:=ns.length) (fun i σ G=>(∃v0 v1,σ = [v0,v1])/\CM H1 G/\G b=some (.dK (RN ns i))) ⟨⟨_,_,rfl⟩,CM.new hb,A9⟩ ?_ ?_ ?_ ?_
  .rintro i σ G W ⟨_,p,_⟩;exact⟨_,_,(p.at a).seqL (IW.of a1),by rw[AG,AC W];rfl⟩
  .rintro σ G ⟨_,p,_⟩;exact⟨_,(p.at a).seqL (IW.of a1),by rw[AB]⟩
  .rintro i σ G y H' N W ⟨⟨v0,v1,rfl⟩,p,eG⟩ ⟨t,y,rfl,ht,rfl,O⟩ hN;have O:=O _ ((p.at a).seqL (IW.of a1));have hi':ns[i]?=some ns[i]:=AC W;rw[AG,hi']at O;cases O;refine⟨t,A5 rfl ⟨KQ.of A9,rfl,_,A5 rfl (B9 rfl rfl (Iv ?_))⟩⟩;refine A5 rfl (A5 rfl (B9 rfl rfl ⟨⟨by omega,by omega,by decide⟩,?_⟩));dsimp only;rw[UN];have st:=p.trans (CM.new (o:=.tup [.int i,.str ns[i]]) ht);refine⟨RN ns i,.inr ns[i],(B6 (B1 eG ht)).trans eG,rfl,by unfold RN;rw[AB,CA,sizeLine_eq];omega,hN _ _ ⟨⟨_,_,rfl⟩,st.upd hb,?_⟩⟩;rw[A9];have:=Ol (fun k=>(Sum.inr (ns.getD k ""):JZ)) (fun k=>J1 (2^k)) (Wj U) W;rw[Dc hi']at this;exact congrArg (fun z=>some (HO.dK z)) this
  rintro σ2 H2 ⟨_,s2,b2⟩;have F:x≠b:=B1 x1 hb;have x2:=s2 _ _ x1;have a2:=s2 _ _ a1;have k2:=k1.trans s2.sm;refine hZ2 _ _ (B7 fun Z3 hZ3=>?_);refine A5 rfl ⟨b,_,rfl,b2,fun v hv=>?_⟩;have I:=CM.new (o:=Lx v b) hv;have fv:(IU H2 v (Lx v b)) v=some (Lx v b):=A9;generalize IU H2 v (Lx v b)=X at I fv⊢;refine⟨v,b,RN ns ns.length,(List.range ns.length).map fun k=>((2^k:Nat):Int),rfl,fv,I _ _ b2,by unfold RN;rw[BO,BO];rfl,?_⟩;rw[Lj];have x2:=I _ _ x2;have a2:=I _ _ a2;have b2:=I _ _ b2;have k2:=k2.trans I.sm;refine A5 rfl ⟨x,T.aa,e,_,rfl,x2,T.ac,T.aF,by simp,?_⟩;have k3:Sm [x] X (IU X x (.ins T.aa e (O7 "full" (.int ((2^ns.length-1:Nat):Int)) [("names",.ref a)]))):=(Sm.refl _ _).upd (by simp);have x3:(IU X x (.ins T.aa e (O7 "full" (.int ((2^ns.length-1:Nat):Int)) [("names",.ref a)]))) x=some (.ins T.aa e [("names",.ref a),("full",J1 (2^ns.length-1))]):=by rw[A9];rfl
  generalize IU X x (.ins T.aa e (O7 "full" (.int ((2^ns.length-1:Nat):Int)) [("names",.ref a)]))=H3 at k3 x3⊢;have a3:=k3 _ _ a2 (f C.symm);have b3:=k3 _ _ b2 (f F.symm);have k3:=k2.trans k3;refine hZ3 _ _ (B7 fun Z4 hZ4=>?_);refine A5 rfl (A5 rfl ⟨x,T.aa,e,_,rfl,x3,T.ac,T.bl,by simp,?_⟩);have k4:Sm [x] H3 (IU H3 x (.ins T.aa e (O7 "bit_of" (.ref b) [("names",.ref a),("full",J1 (2^ns.length-1))]))):=(Sm.refl _ _).upd (by simp);have x4:(IU H3 x (.ins T.aa e (O7 "bit_of" (.ref b) [("names",.ref a),("full",J1 (2^ns.length-1))]))) x=some (.ins T.aa e [("names",.ref a),("full",J1 (2^ns.length-1)),("bit_of",.ref b)]):=by rw[A9];rfl
  generalize IU H3 x (.ins T.aa e (O7 "bit_of" (.ref b) [("names",.ref a),("full",J1 (2^ns.length-1))]))=H4 at k4 x4⊢;have a4:=k4 _ _ a3 (f C.symm);have b4:=k4 _ _ b3 (f F.symm);have k4:=k3.trans k4;refine hZ4 _ _ (B7 fun Z5 hZ5=>?_);have mA:=zBi (ns:=ns) (g:=B4 r) (ks:=(r.map fun q=>q.2).map fun k=>(k.2,k.1)) U (fun n _=>Iy u.ndq n) (fun n _ y=>Ey) fun k hk=>by
   rw[BO]at hk;obtain⟨q,hq,rfl⟩:=AI.mp hk;exact⟨(u.mem q hq).2,(u.mem q hq).1⟩
  have mB:=zBi (ns:=ns) (g:=C1 r) (ks:=r.map fun q=>q.2) U (fun n _=>Oh u.ndq n) (fun n _ y=>Ia) fun k hk=>by
   obtain⟨q,hq,rfl⟩:=AI.mp hk;exact u.mem q hq
  have S:VI ns.length (ML ns (B4 r)) (ML ns (C1 r)):=MB.net mA mB;have W4:=hW.smx hx k4;have ins1:∀{n:Str} (y:Str),y∈B4 r n->y∈ns:=fun y O=>by
   obtain⟨q,hq,rfl⟩:=AI.mp O;exact(u.mem q (BI.mp hq).1).1
  have ins2:∀{n:Str} (y:Str),y∈C1 r n->y∈ns:=fun y O=>by
   obtain⟨q,hq,rfl⟩:=AI.mp O;exact(u.mem q (BI.mp hq).1).2
  have lq:=u.lenq;have SM:∀n,(B4 r n).length<=1000:=fun n=>by unfold B4;rw[AB];have:=BR (fun q:JI=>decide (q.2.2=n)) r;omega
  have RP:∀n,(C1 r n).length<=1000:=fun n=>by unfold C1;rw[AB];have:=BR (fun q:JI=>decide (q.2.1=n)) r;omega
  refine A5 rfl ⟨x,T.aa,e,_,A5 rfl ⟨x4,T.ac,T.aD,rfl,a,rfl,⟨_,IW.of a4⟩,fun c hc=>?_⟩⟩;refine Kb (ND (IW.of a4)) (ML ns (B4 r)) (by omega) hc (fun i n G R Y p hR=>?_) (fun i n G R Y p hR=>?_) fun σ5 H5 s5 c5=>?_
  .exact A5 rfl (A5 rfl ⟨b,_,rfl,.inl ⟨_,.inr n,.inl (p _ _ b4),rfl,(Jy U Y).symm⟩,hR⟩)
  .have WG:=W4.same p;obtain⟨_,dw,_,_,_,_,_,_,ew,_⟩:=id WG;refine A5 rfl ⟨wb,dw,A5 rfl ⟨ew,rfl,A5 rfl ⟨wb,n,ns,r,rfl,WG,AM Y,fun l hl=>?_⟩⟩⟩;have ul:=CM.new (o:=.lst ((B4 r n).map V.str)) hl;refine⟨l,rfl,⟨_,IW.of A9⟩,Kn U (ul _ _ (p _ _ b4)) A9 (fun y O=>ins1 y O) (SM n) fun G' s'=>?_⟩;have:=hR G' (ul.trans s');rw[zAl Y]at this;exact this
  generalize ML ns (B4 r)=A at mA S c5;have hc0:H c=none:=k4.none (f (B1 x4 hc).symm) hc;have nxc:x≠c:=B1 x4 hc;have x5:=s5 _ _ x4;have a5:=s5 _ _ a4;have b5:=s5 _ _ b4;have bc:b≠c:=B1 b4 hc;have k5:=k4.trans s5.sm;refine A5 rfl ⟨x,T.aa,e,_,rfl,x5,T.ac,T.ax,by simp,?_⟩;have k6:Sm [x] H5 (IU H5 x (.ins T.aa e (O7 "strikers_of" (.ref c) [("names",.ref a),("full",J1 (2^ns.length-1)),("bit_of",.ref b)]))):=(Sm.refl _ _).upd (by simp);have x6:(IU H5 x (.ins T.aa e (O7 "strikers_of" (.ref c) [("names",.ref a),("full",J1 (2^ns.length-1)),("bit_of",.ref b)]))) x=some (.ins T.aa e [("names",.ref a),("full",J1 (2^ns.length-1)),("bit_of",.ref b),("strikers_of",.ref c)]):=by rw[A9];rfl
  generalize IU H5 x (.ins T.aa e (O7 "strikers_of" (.ref c) [("names",.ref a),("full",J1 (2^ns.length-1)),("bit_of",.ref b)]))=H6 at k6 x6⊢;have a6:=k6 _ _ a5 (f C.symm);have b6:=k6 _ _ b5 (f F.symm);have c6:=k6 _ _ c5 (f nxc.symm);have k6:=k5.trans k6;have W6:=hW.smx hx k6;refine hZ5 _ _ (B7 fun Z6 hZ6=>?_);refine A5 rfl ⟨x,T.aa,e,_,A5 rfl ⟨x6,T.ac,T.aD,rfl,a,rfl,⟨_,IW.of a6⟩,fun d hd=>?_⟩⟩;refine Kb (ND (IW.of a6)) (ML ns (C1 r)) (by omega) hd (fun i n G R Y p hR=>?_) (fun i n G R Y p hR=>?_) fun σ7 H7 s7 d7=>?_
  .exact A5 rfl (A5 rfl ⟨b,_,rfl,.inl ⟨_,.inr n,.inl (p _ _ b6),rfl,(Jy U Y).symm⟩,hR⟩)
  .have WG:=W6.same p;obtain⟨_,dw,_,_,_,_,_,_,ew,_⟩:=id WG;refine A5 rfl ⟨wb,dw,A5 rfl ⟨ew,rfl,A5 rfl ⟨wb,n,ns,r,rfl,WG,AM Y,fun l hl=>?_⟩⟩⟩;have ul:=CM.new (o:=.lst ((C1 r n).map V.str)) hl;refine⟨l,rfl,⟨_,IW.of A9⟩,Kn U (ul _ _ (p _ _ b6)) A9 (fun y O=>ins2 y O) (RP n) fun G' s'=>?_⟩;have:=hR G' (ul.trans s');rw[zAl Y]at this;exact this
  generalize ML ns (C1 r)=B at mB S d7;have nxd:x≠d:=B1 x6 hd;have x7:=s7 _ _ x6;have a7:=s7 _ _ a6;have b7:=s7 _ _ b6;have c7:=s7 _ _ c6;have dc:d≠c:=(B1 c6 hd).symm;have k7:=k6.trans s7.sm;refine A5 rfl ⟨x,T.aa,e,_,rfl,x7,T.ac,T.be,by simp,?_⟩;have k8:Sm [x] H7 (IU H7 x (.ins T.aa e (O7 "struck_of" (.ref d) [("names",.ref a),("full",J1 (2^ns.length-1)),("bit_of",.ref b),("strikers_of",.ref c)]))):=(Sm.refl _ _).upd (by simp);have x8:(IU H7 x (.ins T.aa e (O7 "struck_of" (.ref d) [("names",.ref a),("full",J1 (2^ns.length-1)),("bit_of",.ref b),("strikers_of",.ref c)]))) x=some (.ins T.aa e [("names",.ref a),("full",J1 (2^ns.length-1)),("bit_of",.ref b),("strikers_of",.ref c),("struck_of",.ref d)]):=by rw[A9];rfl
  generalize IU H7 x (.ins T.aa e (O7 "struck_of" (.ref d) [("names",.ref a),("full",J1 (2^ns.length-1)),("bit_of",.ref b),("strikers_of",.ref c)]))=H8 at k8 x8⊢;have a8:=k8 _ _ a7 (f C.symm);have b8:=k8 _ _ b7 (f F.symm);have c8:=k8 _ _ c7 (f nxc.symm);have d8:=k8 _ _ d7 (f nxd.symm);have k8:=k7.trans k8;refine hZ6 _ _ ?_;refine A5 rfl ⟨b,_,rfl,b8,fun v hv=>?_⟩;have I:=CM.new (o:=Lx v b) hv;have fv:(IU H8 v (Lx v b)) v=some (Lx v b):=A9;generalize IU H8 v (Lx v b)=H9 at I fv⊢;refine⟨v,b,_,rfl,fv,I _ _ b8,fun o D hD=>?_⟩;have nDb:D≠b:=fun z=>by rw[z,A9]at hD;cases hD
  have kz:Sm [b] H9 (IU H9 b (.frz o (.dK (RN ns ns.length)))):=(Sm.refl _ _).upd (by simp);have fz:(IU H9 b (.frz o (.dK (RN ns ns.length)))) b=some (.frz o (.dK (RN ns ns.length))):=A9;have hb0:H b=none:=k1.none (f F.symm) hb;have kx:Sm [x] H (IU H9 b (.frz o (.dK (RN ns ns.length)))):=(k8.trans I.sm).updN hb0;have nb:∀{b':A2},b'≠b->b'∉[b]:=fun h z=>h (AH.mp z);have nab:a≠b:=B1 a1 hb;have x9:=kz _ _ (I _ _ x8) (nb F);have a9:=kz _ _ (I _ _ a8) (nb nab);have c9:=kz _ _ (I _ _ c8) (nb bc.symm);have nbd:d≠b:=(B1 b6 hd).symm;have d9:=kz _ _ (I _ _ d8) (nb nbd);generalize IU H9 b (.frz o (.dK (RN ns ns.length)))=H10 at kz fz kx hD x9 a9 c9 d9⊢;have lb:(RN ns ns.length).length=ns.length:=by unfold RN;rw[AB,CA]
  refine X2 (n:=ns.length) (fun i σ G=>(∃v0,σ = [v0,some (.ref x)])/\CM H10 G/\G D=some (.lst (((List.range i).filter fun k=>(A.getD k 0).testBit k).map fun k=>J1 (2^k)))) ⟨⟨_,rfl⟩,CM.new hD,A9⟩ ?_ ?_ ?_ ?_
  .rintro i σ G W ⟨_,p,_⟩;exact⟨p _ _ fz,by rw[lb];exact W⟩
  .rintro σ G ⟨_,p,_⟩;exact⟨p _ _ fz,by rw[lb];exact Nat.le_refl _⟩
  .rintro i σ G y H' N W ⟨⟨v0,rfl⟩,p,eG⟩ ⟨rfl,k,hk⟩ hN;unfold RN at hk;rw[AG,List.getElem?_range W]at hk;obtain⟨_,rfl⟩:=Prod.mk.inj (BA hk);refine A5 rfl (A5 rfl ⟨x,T.aa,e,_,A5 rfl ⟨p _ _ x9,T.ac,T.ax,rfl,A5 rfl ⟨c,_,rfl,.inl ⟨_,.inl ((2^i:Nat):Int),.inl (p _ _ c9),rfl,(Kv A W).symm⟩,B9 rfl rfl ⟨_,rfl,?_⟩⟩⟩⟩);dsimp only;rw[Iu];have hl:=BR (fun k=>(A.getD k 0).testBit k) (List.range i);rw[CA]at hl;refine Q6 (fun z=>A5 rfl ⟨_,eG,by rw[AB,sizeLine_eq];omega,hN _ _ ⟨⟨_,rfl⟩,p.upd hD,?_⟩⟩) (fun z=>hN _ _ ⟨⟨_,rfl⟩,p,?_⟩)
   .rw[A9,EM,DN,CU,AU z,AL];rfl
   .rw[EM,DN,CU,AO z,EY,CV];exact eG
  rintro σ11 Z ⟨_,J,e11⟩;generalize hLl:(List.range ns.length).filter (fun k=>(A.getD k 0).testBit k)=Ll at e11;refine⟨D,Ll.map fun k=>((2^k:Nat):Int),rfl,IW.of (by rw[e11,BO];rfl),?_⟩;rw[Kj];have hL:∀j,((Ll.map fun k=>2^k).sum).testBit j=true↔(A.getD j 0).testBit j=true:=fun j=>by
   rw[Hy (by rw[<-hLl];exact DE.nodup HK),<-hLl,BI,CB];exact⟨(·.2),fun h=>⟨(S.lt j j ((S.tr j j).mp h)).1,h⟩⟩
  generalize (Ll.map fun k=>2^k).sum=L at hL;have x11:=J _ _ x9;refine A5 rfl ⟨x,T.aa,e,_,rfl,x11,T.ac,T.bo,by simp,?_⟩;have M:Sm [x] Z (IU Z x (.ins T.aa e (O7 "loops" (.int (L:Int)) [("names",.ref a),("full",J1 (2^ns.length-1)),("bit_of",.ref b),("strikers_of",.ref c),("struck_of",.ref d)]))):=(Sm.refl _ _).upd (by simp);have x12:(IU Z x (.ins T.aa e (O7 "loops" (.int (L:Int)) [("names",.ref a),("full",J1 (2^ns.length-1)),("bit_of",.ref b),("strikers_of",.ref c),("struck_of",.ref d)]))) x=some (.ins T.aa e (mf a b c d ns.length L)):=by rw[A9];rfl
  generalize IU Z x (.ins T.aa e (O7 "loops" (.int (L:Int)) [("names",.ref a),("full",J1 (2^ns.length-1)),("bit_of",.ref b),("strikers_of",.ref c),("struck_of",.ref d)]))=H12 at M x12⊢;refine q c A B L H12 hc0 ((kx.trans J.sm).trans M) ⟨⟨e,a,b,d,RN ns ns.length,x12,M _ _ (J _ _ a9) (f C.symm),.inr ⟨o,M _ _ (J _ _ fz) (f F.symm)⟩,fun i n h=>Jy U h,.inl (M _ _ (J _ _ c9) (f nxc.symm)),M _ _ (J _ _ d9) (f nxd.symm),dc,bc⟩,S,U,ln,hL⟩ mA mB
end
structure UH(H0 H:Hp)(ts:A0 (A2×A0 Str)):Prop where
 at_:∀t∈ts,H t.1=some (.lst (t.2.map V.str))
 nd:(ts.map fun t=>t.1).Nodup
 new:∀t∈ts,H0 t.1=none
def Kl{J:It}{l D:A2}{H:Hp}{ns:A0 Str}{k:A0 Nat}{r:St}{w:A4 V}{x:TE}{Q:St->Hp->Prop}(as:LA J (k.map J1) l H)(I:k.length<=5000)(A:H D=none)
  (step:∀m G (R:VK),CM H G->(∀z n,G z=none->CM G n->n z=some (.lst ((JX ns m).map V.str))->R (.ref z) n)->x (some (J1 m)::r) G R)
  (q:∀σ G (c:A0 (A2×A0 Str)),CM H G->G D=some (.lst (c.map fun t=>V.ref t.1))->UH H G c->(∀t∈c,t.1≠D)->(c.map fun t=>t.2)=k.map (JX ns)->Q σ G):Y7 (J7 0) X4 (T7 D x) J (w::r) (IU H D (.lst [])) Q:=by
 refine G7 as (fun i σ G=>(∃v,σ=v::r)/\CM H G/\∃c:A0 (A2×A0 Str),G D=some (.lst (c.map fun t=>V.ref t.1))/\UH H G c/\(∀t∈c,t.1≠D)/\(c.map fun t=>t.2) =(k.take i).map (JX ns)) ⟨⟨_,rfl⟩,CM.new A,[],A9,⟨fun t h=>absurd h BH,GQ,fun t h=>absurd h BH⟩,fun t h=>absurd h BH,rfl⟩ (fun i σ G _ h=>h.2.1.at l) ?_ ?_
 .rintro i σ G y N B ⟨⟨w,rfl⟩,g,c,o,f,p,j⟩ K;rw[AG]at B;obtain⟨m,C,rfl⟩:=AZ.mp B;have O:=(AD.mp C).1;have P:c.length=i:=by
   have:=congrArg List.length j;rw[AB,AB,AR]at this;omega
  refine Q4 (step m G _ g fun z n s u L=>?_);have E:z≠D:=(B1 o s).symm;refine⟨_,u _ _ o,by rw[AB,sizeLine_eq];omega,K _ _ ⟨⟨_,rfl⟩,(g.trans u).upd A,c ++ [(z,JX ns m)],?_,⟨fun t d=>?_,?_,fun t d=>?_⟩,fun t d=>?_,?_⟩⟩
  .rw[A9,AL];rfl
  .rcases AS.mp d with h | h
   .rw[B6 (p t h)];exact u _ _ (f.at_ t h)
   .rw[AH.mp h,B6 E];exact L
  .rw[AL];refine FO.mpr ⟨f.nd,ED _ _,fun a M b F e=>?_⟩;obtain⟨t,d,rfl⟩:=AI.mp M;rw[GW,AH]at F;rw[F]at e;have:=f.at_ t d;rw[e,s]at this;cases this
  .rcases AS.mp d with h | h
   .exact f.new t h
   .rw[AH.mp h];exact g.free s
  .rcases AS.mp d with h | h
   .exact p t h
   .rw[AH.mp h];exact E
  .rw[AL,j,I_ C,AL];rfl
 .rintro σ G ⟨_,g,c,o,f,p,j⟩;rw[AB,BP]at j;exact q σ G c g o f p j
section
variable{P:A6}{w:F1}{K:PySem.W.Frag}{mg:Str->A4 A1}{base:IV}
def Ky(j f:A2)(l:UG):Sp:=fun n H Q E=>∃(i:A2) (c:A0 Str) (h:A0 JI),n = [.ref i,.ref f,.bl false]/\JV j H i c h/\c.length<=10 /\
 ∀(A B d:A0 Nat),MB c ((h.map fun q=>q.2).map fun k=>(k.2,k.1)) A->MB c (h.map fun q=>q.2) B->d.Nodup->(∀m,m∈d↔l c.length A B m) ->
  (∀r (e:A0 (A2×A0 Str)) g,d.length<=300->CM H g->H r=none->g r=some (.lst (e.map fun t=>V.ref t.1))->UH H g e->(∀t∈e,t.1≠r)->(e.map fun t=>t.2).Perm (d.map (JX c))->e.Pairwise (fun a b=>TS.JU (TS.NZ b.2) (TS.NZ a.2)=false)->Q (.ref r) g)/\(300<d.length->False)
theorem MP:IT ["web", "settle", "greatest", "marks", "found"] ["web", "settle", "greatest"] (B5 PD):=LC
set_option maxHeartbeats 4000000 in
theorem Fi(T:Tx K mg){f:A2}{C:UG}(tl:∀n A B m,C n A B m->MD n m)(tq:∀n A B m,C n A B m->JL B m){g:Nat}(hg:3<=g)(u:JC P w K mg base KB (g+1) T.au.f T.au.fd ["marks", "settle", "greatest", "chosen", "barred", "found"] (Y2 T.aa f C 10)) :
  JC P w K mg base KB (g+2) T.aI.f T.aI.fd ["web", "settle", "greatest"] (Ky T.ab f C):=by
 have k:JC P w K mg base KB g T.bh T.bf ["self", "web"] (X6 T.aa T.ab):=(Dy T).mono hg;have p:JC P w K mg base KB (g+1) T.al.f T.al.fd ["self", "some"] (Av T.aa):=(l8 T).mono (by omega);refine T.aI.F.o1 MP fun cdv A outer s H vs Q E hr h=>?_
 .obtain⟨wb,ns,qs,rfl,hW,ln,q⟩:=h;refine⟨_,(B2 (C3 (i:=3) MP.nd rfl (.inr rfl) (Rc T.bH k (hr.mono (Nat.le_refl _)) rfl T.bG T.bu .nil M6 (A8 (pv 0) B0)))
   (B2 (C3 (i:=4) MP.nd rfl (.inl rfl) (K8 B0))
   (B2 (E8 (C9 T.au u (hr.mono (Nat.le_refl _)) (@A8 _ _ _ _ _ (pv 3) (@A8 _ _ _ _ _ (pv 1) (@A8 _ _ _ _ _ (pv 2) (@A8 _ _ _ _ _ B8 (@A8 _ _ _ _ _ (QC K (pv 3)) (@A8 _ _ _ _ _ (pv 4) B0 (by rfl)) (by rfl)) (by rfl)) (by rfl)) (by rfl)) (by rfl))))
   (B3 (C0 (D4 (Do K hr.units) T.ao G9 (A8 (K6 (N':=["some", "marks"]) (cap:=[none,some 3]) (cl:=[("marks",_)]) (G0 ⟨⟨rfl,rfl,rfl,rfl⟩,trivial⟩ ⟨rfl,trivial⟩) rfl (MQ K (pv 4)) (fun _ _ _ _=>by exact⟨(LR 0),D8,(F0 (pv 1) T.ac T.al.m p (hr.mono (Nat.le_refl _)) T.al.b .nil M6 (A8 (pv 0) B0))⟩)) B0))))))),?_⟩
  refine B7 fun N1 hN1=>?_;refine A5 rfl ?_;intro x dx nx ndx nex;have s0:CM H (IU (IU H dx (.own x)) x (.ins T.aa dx [])):=fun b o e=>by
   rw[B6 (B1 e nx),B6 (B1 e ndx)];exact e
  refine⟨x,dx,wb,ns,qs,rfl,A9,hW.same s0,fun c A B L H1 hc k1 M1 mA mB=>⟨rfl,?_⟩⟩;have s1:CM H H1:=fun b o e=>k1 b o (s0 b o e) (by simpa using B1 e nx);have hcn:H c=none:=s0.free hc;refine hN1 _ _ (B7 fun N2 hN2=>?_);refine⟨CK _,fun l hl=>?_⟩;have ul:=CM.new (o:=.lst []) hl;have fl:(IU H1 l (.lst [])) l=some (.lst (([]:A0 Nat).map J1)):=A9;have hln:H l=none:=s1.free hl;have R2:JD T.aa (er (IU H1 l (.lst [])) l) x c ns A B L:=M1.same fun b o e=>by
   have:b≠l:=B1 e hl;rw[Zl this,B6 this];exact e
  generalize IU H1 l (.lst [])=H2 at ul fl R2⊢;have s2:=s1.trans ul;have O:=R2.same (Ea H2 l);obtain⟨Ms,I,mM⟩:=Pf (n:=ns.length) (fun m=>C ns.length A B m) fun m h=>tl _ _ _ _ h;obtain⟨q1,q2⟩:=q A B Ms mA mB I mM;have v:∀m,C ns.length A B m/\KP 0 L m↔C ns.length A B m:=fun m=>⟨(·.1),fun h=>⟨h,fun j z=>(by rw[DG]at z;cases z),fun j z y=>tq _ _ _ _ h j j z z ((O.net.tr j j).mp ((O.loops j).mp y))⟩⟩;refine hN2 _ _ (B7 fun N3 hN3=>?_);obtain⟨J,a,b,d,kb,e1,_⟩:=O.ex;refine A5 rfl (A5 rfl (A5 rfl (A5 rfl ⟨x,T.aa,J,_,A5 rfl ⟨e1,T.ac,T.bo,rfl,A5 rfl ⟨x,c,l,ns,A,B,L,0,L,[],rfl,R2,MD.zero _,fun j hj=>(O.net.lt j j ((O.net.tr j j).mp ((O.loops j).mp hj))).1,Nat.le_trans List.countP_le_length (by rw[CA];exact ln),fl,by decide,fun Ls S mL=>⟨fun H3 U k3 R3 M=>?_,fun gt=>?_⟩⟩⟩⟩)))
  .have pm:Ls.Perm Ms:=(EU S I).mpr fun m=>by rw[mL,mM,v]
   rw[List.nil_append]at M;rw[IA,ER]at U;have M3:=R3.same (Ea H3 l);have s3:CM H H3:=fun b o e=>k3 b o (s2 b o e) (by
    intro z;rcases AV.mp z with rfl | z
    .rw[hcn]at e;cases e
    .rw[AH.mp z,hln]at e;cases e)
   refine hN3 _ _ ?_;refine A5 rfl ⟨l,rfl,⟨_,IW.of M⟩,fun D hD=>?_⟩;refine Kl (ns:=ns) (ND (IW.of M)) (by omega) hD (fun m G R sG hR=>?_) fun σ' G ts sG eG W nG mG=>?_
   .have MG:=M3.same sG;obtain⟨J,a,b,d,kb,e1,_⟩:=MG.ex;exact A5 rfl ⟨x,J,A5 rfl ⟨e1,rfl,A5 rfl ⟨x,c,ns,A,B,L,m,rfl,MG,fun z G' hz s' ez=>hR z G' hz s' ez⟩⟩⟩
   .refine⟨D,ts,rfl,IW.of eG,W.at_,fun r X N Y srt=>?_⟩;have ur:=CM.new (o:=.lst (X.map fun t=>V.ref t.1)) N;have hrn:H r=none:=(s3.trans sG).free N;refine q1 r X _ (by rw[<-pm.length_eq];exact U) ((s3.trans sG).trans ur) hrn A9 ⟨fun t Z=>ur _ _ (W.at_ t (Y.mem_iff.mp Z)),(Y.map _).nodup_iff.mpr W.nd,fun t Z=>s3.free (W.new t (Y.mem_iff.mp Z))⟩ (fun t Z=>B1 (W.at_ t (Y.mem_iff.mp Z)) N) ?_ srt;refine(Y.map fun t=>t.2).trans ?_;rw[mG];exact pm.map _
  .rw[IA,ER]at gt;have pm:Ls.Perm Ms:=(EU S I).mpr fun m=>by rw[mL,mM,v]
   exact q2 (by rw[<-pm.length_eq];exact gt)
def Xz(i:A2)(j:UG):Sp:=fun l H Q E=>∃(h:A2) (c:A0 Str) (g:A0 JI),l = [.ref h]/\JV i H h c g/\c.length<=10 /\
 ∀(A B d:A0 Nat),MB c ((g.map fun q=>q.2).map fun k=>(k.2,k.1)) A->MB c (g.map fun q=>q.2) B->d.Nodup->(∀m,m∈d↔j c.length A B m) ->
  (∀r (e:A0 (A2×A0 Str)) f,d.length<=300->CM H f->H r=none->f r=some (.lst (e.map fun t=>V.ref t.1))->UH H f e->(∀t∈e,t.1≠r)->(e.map fun t=>t.2).Perm (d.map (JX c))->e.Pairwise (fun a b=>TS.JU (TS.NZ b.2) (TS.NZ a.2)=false)->Q (.ref r) f)/\(300<d.length->False)
theorem Dw:IT ["web"] ["web"] (B5 N_):=LC
theorem Y4(T:Tx K mg):JC P w K mg base KB 18 T.aM.f T.aM.fd ["web"] (Xz T.ab KG):=by
 have a:JC P w K mg base KB 17 T.aI.f T.aI.fd ["web", "settle", "greatest"] (Ky T.ab T.ar.f KG) :=
  Fi T (fun _ _ _ _ h=>h.1.1) (fun _ _ _ _ h=>h.1.2.1) (g:=15) (by decide) (Gn T (fun _ _ _ _ h=>h.1.1) (At T) T.ar.F.kp T.ar.b (by decide) 10)
 refine T.aM.F.o1 Dw fun d A c s H o Q E e h=>?_
 .obtain⟨i,j,k,rfl,l,n,q⟩:=h;refine⟨_,(B3 (C0 (C9 T.aI a (Rm e) (A8 (pv 0) (A8 (zDo T.ar.m) (A8 P1 B0)))))),?_⟩;exact A5 rfl ⟨i,j,k,rfl,l,n,q⟩
end
def wrd(qs:A0 JI)(ss:A0 Str)(n:Str):Str:=I9 ss (ss.flatMap (C1 qs)) n
def U5(ns:A0 Str)(qs:A0 JI)(ss:A0 Str):A0 (Str×Str):=ns.map fun n=>(n,wrd qs ss n)
def Ws{qs:A0 JI}{ss a:A0 Str}{n:Str}(h:∀y,y∈a↔∃n∈ss,y∈C1 qs n):I9 ss a n=wrd qs ss n:=by
 have e:(n∈ss.flatMap (C1 qs)) =(n∈a):=propext (List.mem_flatMap.trans (h n).symm);unfold wrd I9;simp only[e]
def few{n:Nat}{a:A0 Nat}(b:a.Nodup)(h:∀m∈a,MD n m):a.length<=2^n:=by
 classical
 have c:a.Perm ((List.range (2^n)).filter fun m=>decide (m∈a)):=(EU b (DE.nodup HK)).mpr fun m=>by
  rw[BI,CB,BD];exact⟨fun z=>⟨(h m z).lt,z⟩,(·.2)⟩
 rw[c.length_eq];exact Nat.le_trans (BR _ _) (by rw[CA];exact Nat.le_refl _)
def E4{H H':Hp}{q:LP}(h:K_ H q)(s:CM H H'):K_ H' q:=⟨s _ _ h.1,J5 s h.2⟩
def Fr{H:Hp}{q:LP}{D:A2}{xs:A0 V}{o:HO}(h:K_ H q)(n:q.1≠D)(e:H D=some (.lst xs)):K_ (IU H D o) q :=
 ⟨by rw[B6 n];exact h.1,fun r a=>by
  have:=h.2 r a;unfold E2 at this⊢;rw[B6 (U6 this e (by intro z;cases z))];exact this⟩
structure LPn(H0 H:Hp)(ts:A0 LP):Prop where
 at_:∀t∈ts,K_ H t
 nd:(ts.map fun t=>t.1).Nodup
 new:∀t∈ts,H0 t.1=none
def Kp{α:Type}{J:It}{l D:A2}{H:Hp}{xs:A0 α}{g:α->V}{f:α->A0 (Str×Str)}{r:St}{C:A4 V}{E:TE}{Q:St->Hp->Prop}(as:LA J (xs.map g) l H)(M:xs.length<=7000)(F:H D=none)
  (step:∀x∈xs,∀G (R:VK),CM H G->(∀z p (ps:A0 JI),G z=none->CM G p->K_ p (z,ps)->nw ps=f x->R (.ref z) p)->E (some (g x)::r) G R)
  (q:∀σ G (c:A0 LP),CM H G->G D=some (.lst (c.map fun t=>V.ref t.1))->LPn H G c->(∀t∈c,t.1≠D)->(c.map fun t=>nw t.2)=xs.map f->Q σ G):Y7 (J7 0) X4 (T7 D E) J (C::r) (IU H D (.lst [])) Q:=by
 refine G7 as (fun i σ G=>(∃v,σ=v::r)/\CM H G/\∃c:A0 LP,G D=some (.lst (c.map fun t=>V.ref t.1))/\LPn H G c/\(∀t∈c,t.1≠D)/\(c.map fun t=>nw t.2) =(xs.take i).map f) ⟨⟨_,rfl⟩,CM.new F,[],A9,⟨fun t h=>absurd h BH,GQ,fun t h=>absurd h BH⟩,fun t h=>absurd h BH,rfl⟩ (fun i σ G _ h=>h.2.1.at l) ?_ ?_
 .rintro i σ G y N I ⟨⟨C,rfl⟩,n,c,s,k,u,o⟩ O;rw[AG]at I;obtain⟨m,w,rfl⟩:=AZ.mp I;have U:=(AD.mp w).1;have W:c.length=i:=by
   have:=congrArg List.length o;rw[AB,AB,AR]at this;omega
  refine Q4 (step m (AM w) G _ n fun z p ps A B P S=>?_);have K:z≠D:=(B1 s A).symm;have d:=B _ _ s;refine⟨_,d,by rw[AB,sizeLine_eq];omega,O _ _ ⟨⟨_,rfl⟩,(n.trans B).upd F,c ++ [(z,ps)],?_,⟨fun t j=>?_,?_,fun t j=>?_⟩,fun t j=>?_,?_⟩⟩
  .rw[A9,AL];rfl
  .rcases AS.mp j with h | h
   .exact Fr (E4 (k.at_ t h) B) (u t h) d
   .rw[AH.mp h];exact Fr P K d
  .rw[AL];refine FO.mpr ⟨k.nd,ED _ _,fun a T b L e=>?_⟩;obtain⟨t,j,rfl⟩:=AI.mp T;rw[GW,AH]at L;rw[L]at e;have:=(k.at_ t j).1;rw[e,A]at this;cases this
  .rcases AS.mp j with h | h
   .exact k.new t h
   .rw[AH.mp h];exact n.free A
  .rcases AS.mp j with h | h
   .exact u t h
   .rw[AH.mp h];exact K
  .rw[AL,o,I_ w,AL,GW,GW,S]
 .rintro σ G ⟨_,n,c,s,k,u,o⟩;rw[AB,BP]at o;exact q σ G c n s k u o
section
variable{P:A6}{w:F1}{K:PySem.W.Frag}{mg:Str->A4 A1}{base:IV}
def Hu(C:A2):Sp:=fun i H Q _=>∃(h:A2) (c:A0 Str) (e:A0 JI),i = [.ref h]/\JV C H h c e/\c.length<=10 /\
 ∀(A B f:A0 Nat),MB c ((e.map fun q=>q.2).map fun k=>(k.2,k.1)) A->MB c (e.map fun q=>q.2) B->f.Nodup->(∀m,m∈f↔KG c.length A B m)->f.length<=300 /\
  ∀r (d:A0 LP) g,CM H g->H r=none->g r=some (.lst (d.map fun t=>V.ref t.1))->LPn H g d->(∀t∈d,t.1≠r)->(d.map fun t=>nw t.2).Perm (f.map fun m=>U5 c e (JX c m))->d.Pairwise (fun a b=>TS.JU (TS.NE (nw b.2)) (TS.NE (nw a.2))=false)->Q (.ref r) g
theorem Hz:IT ["web"] ["web"] (B5 PQ):=LC
theorem Be(T:Tx K mg):JC P w K mg base KB 19 T.aX.f T.aX.fd ["web"] (Hu T.ab):=by
 refine T.aX.F.o1 Hz fun X A u s H vs Q E v h=>?_
 .obtain⟨J,b,k,rfl,L,ln,q⟩:=h;refine⟨_,(B3 (C0 (D4 (Gw K v.units) T.ao G9 (A8 (K6 (N':=["some", "web"]) (cap:=[none,some 0]) (cl:=[("web",_)]) (G0 ⟨⟨rfl,rfl,rfl,rfl⟩,trivial⟩ ⟨rfl,trivial⟩) rfl (MQ K (C9 T.aM (Y4 T) (Rm v) (A8 (pv 0) B0))) (fun _ _ _ _=>by exact⟨(LR 0),D8,(C9 T.aW (Af T) (Rm v) (A8 (pv 1) (A8 (pv 0) B0)))⟩)) B0)))),?_⟩;refine A5 rfl ⟨J,b,k,rfl,L,by omega,fun A B x M N O S=>⟨fun r Y H1 Z y hr0 c LL nr C srt=>?_,fun gt=>?_⟩⟩
  .refine⟨r,rfl,⟨_,IW.of c⟩,fun D hD=>?_⟩;refine Kp (xs:=Y) (f:=fun t=>U5 b k t.2) (ND (IW.of c)) (by have:=C.length_eq;rw[AB,AB]at this;omega) hD (fun t a G R p hR=>?_) fun σ' G us p eG d nG mG=>?_
   .have eT:=p _ _ (LL.at_ t a);refine A5 rfl (A5 rfl ⟨J,t.1,t.2,b,k,rfl,L.same (y.trans p),.inl (IW.of eT),fun n hn=>?_,fun l hs G' hl s' hh WG=>?_⟩)
    .have:t.2∈x.map (JX b):=C.mem_iff.mp (AI.mpr ⟨t,a,rfl⟩);obtain⟨m,_,e⟩:=AI.mp this;exact(P2 b m).subset (e▸hn)
    .obtain⟨ps,e1,e2,e3⟩:=WG;exact hR l G' ps hl s' ⟨e1,e2⟩ (e3.trans (EV fun n _=>by rw[Ws hh]))
   .refine⟨D,us,rfl,IW.of eG,d.at_,fun z g I i j=>?_⟩;have U:=CM.new (o:=.lst (g.map fun t=>V.ref t.1)) I;have W:=y.trans p;refine(q A B x M N O S).2 z g _ (W.trans U) (W.free I) A9 ⟨fun t a=>E4 (d.at_ t (i.mem_iff.mp a)) U,(i.map _).nodup_iff.mpr d.nd,fun t a=>y.free (d.new t (i.mem_iff.mp a))⟩ (fun t a=>B1 (d.at_ t (i.mem_iff.mp a)).1 I) ?_ j;refine(i.map fun t=>nw t.2).trans ?_;rw[mG];have:=C.map (U5 b k);rw[BO,BO]at this;exact this
  .exact absurd (q A B x M N O S).1 (by omega)
end
def NO{qs:A0 JI}{a b:Str}:f7 qs a b↔(a,b)∈qs.map fun q=>q.2:=by
 unfold f7;rw[AI];constructor
 .rintro⟨q,h,rfl,rfl⟩;exact⟨q,h,rfl⟩
 .rintro⟨q,h,e⟩;exact⟨q,h,congrArg Prod.fst e,congrArg Prod.snd e⟩
def w6{ns:A0 Str}{ps:A0 JI}{B:A0 Nat}(M:MB ns (ps.map fun q=>q.2) B){i j:Nat}{x y:Str}(hi:ns[i]?=some x)(a:ns[j]?=some y):(B.getD i 0).testBit j=true↔f7 ps x y:=by
 rw[M.bit,NO];constructor
 .rintro⟨k,h,b,c⟩;rw[hi]at b;rw[a]at c;rw[BA b,BA c];exact h
 .intro h;exact⟨(x,y),h,hi,a⟩
def Cy{ns:A0 Str}{ks:A0 (Str×Str)}{B:A0 Nat}(M:MB ns ks B){i j:Nat}(h:(B.getD i 0).testBit j=true):∃x y,ns[i]?=some x/\ns[j]?=some y:=by
 obtain⟨k,_,a,b⟩:=(M.bit i j).mp h;exact⟨_,_,a,b⟩
def Hf{ns:A0 Str}{ps:A0 JI}{A:A0 Nat}(M:MB ns ((ps.map fun q=>q.2).map fun k=>(k.2,k.1)) A){i j:Nat}{x y:Str}(hi:ns[i]?=some x)(a:ns[j]?=some y):(A.getD i 0).testBit j=true↔f7 ps y x:=by
 rw[M.bit,NO];constructor
 .rintro⟨k,h,b,c⟩;obtain⟨d,f,rfl⟩:=AI.mp h;rw[hi]at b;rw[a]at c;have e:d =(y,x):=Prod.ext (BA c).symm (BA b).symm;rw[<-e];exact f
 .intro h;exact⟨(x,y),AI.mpr ⟨(y,x),h,rfl⟩,hi,a⟩
def Po{ns c:A0 Str}{ps:A0 JI}{B:A0 Nat}{m:Nat}(M:MB ns (ps.map fun q=>q.2) B)(d:c.Perm (JX ns m)){j:Nat}{y:Str}(e:ns[j]?=some y):Ej B m j↔∃x∈c,f7 ps x y:=by
 constructor
 .rintro⟨k,b,f⟩;obtain⟨x,i,a,l⟩:=Cy M f;refine⟨x,d.mem_iff.mpr (KN.mpr ⟨k,b,a⟩),(w6 M a e).mp f⟩
 .rintro⟨x,g,h⟩;obtain⟨k,b,a⟩:=KN.mp (d.mem_iff.mp g);exact⟨k,b,(w6 M a e).mpr h⟩
def Va{ns f:A0 Str}{ps:A0 JI}{A B:A0 Nat}{m:Nat}(c:MB ns ((ps.map fun q=>q.2).map fun k=>(k.2,k.1)) A)(M:MB ns (ps.map fun q=>q.2) B)(g:f.Perm (JX ns m))(d:∀x y,f7 ps x y->x∈ns){j:Nat}{y:Str}(e:ns[j]?=some y) :
  P8 ns.length A B m j↔∀x,f7 ps x y->∃z∈f,f7 ps z x:=by
 constructor
 .rintro⟨_,h⟩ x a;obtain⟨i,l⟩:=EK.mp (d x y a);exact(Po M g l).mp (h i ((Hf c e l).mpr a))
 .intro h;refine⟨(AD.mp e).1,fun b n=>?_⟩;obtain⟨_,x,_,a⟩:=Cy c n;exact(Po M g a).mpr (h x ((Hf c e a).mp n))
def Gj{ns:A0 Str}{ps:A0 JI}{B:A0 Nat}{m:Nat}(M:MB ns (ps.map fun q=>q.2) B):Bv ps (JX ns m)↔JL B m:=by
 constructor
 .intro h i j c d e;obtain⟨x,y,a,b⟩:=Cy M e;exact h x (KN.mpr ⟨i,c,a⟩) y (KN.mpr ⟨j,d,b⟩) ((w6 M a b).mp e)
 .intro h x f y g k;obtain⟨i,c,a⟩:=KN.mp f;obtain⟨j,d,b⟩:=KN.mp g;exact h i j c d ((w6 M a b).mpr k)
def As{ns:A0 Str}{ps:A0 JI}{A B:A0 Nat}{m:Nat}(l:ns.Nodup)(o:MB ns ((ps.map fun q=>q.2).map fun k=>(k.2,k.1)) A)(M:MB ns (ps.map fun q=>q.2) B)(lo:MD ns.length m)(f:∀x y,f7 ps x y->x∈ns):KG ns.length A B m↔Li ns ps (JX ns m):=by
 have c:∀{j:Nat} {y:Str},ns[j]?=some y->(m.testBit j=true↔y∈JX ns m):=fun{j y} a=>by
  rw[KN];refine⟨fun h=>⟨j,h,a⟩,fun⟨k,p,e⟩=>?_⟩;have:=(List.getElem?_inj (AD.mp a).1 l).mp (a.trans e.symm);rw[this];exact p
 have g:∀{j:Nat} {y:Str},ns[j]?=some y->(P8 ns.length A B m j↔Vi ps (JX ns m) y):=fun a=>Va o M (GM _) f a;constructor
 .rintro⟨⟨_,q,b⟩,k⟩;refine⟨⟨(Gj M).mpr q,fun x n i r=>?_⟩,fun n i=>?_⟩
  .obtain⟨j,a,e⟩:=KN.mp i;exact(g e).mp (b j a) x r
  .obtain⟨j,e⟩:=EK.mp i;rw[<-c e,<-g e];exact⟨b j,k j⟩
 .rintro⟨⟨q,b⟩,k⟩;have d:∀j,j<ns.length->(m.testBit j=true↔P8 ns.length A B m j):=fun j a=>by
   have e:ns[j]?=some ns[j]:=AC a;rw[c e,g e];exact k _ (EI a)
  exact⟨⟨lo,(Gj M).mp q,fun j a=>(d j (lo j a)).mp a⟩,fun j a=>(d j a.1).mpr a⟩
def NF{ns:A0 Str}{qs:A0 JI}{ks:A0 (Str×Str)}:R8 ns qs ks=true↔((ks.map fun k=>k.1)=ns/\∀k∈ks,k.2∈W3)/\∀n∈ns,(PK ks n = "in" ↔∀x,f7 qs x n->PK ks x = "out")/\(PK ks n = "out" ↔∃x,f7 qs x n/\PK ks x = "in"):=by
 unfold R8;rw[BU,KC,CI];refine and_congr Iff.rfl (forall_congr' fun n=>forall_congr' fun _=>?_);unfold SS VC ag2;rw[BU,beq_iff_eq,beq_iff_eq];refine and_congr ?_ ?_
 .rw[B_,BD,CI];refine Iff.intro (fun h=>h.trans ?_) (fun h=>h.trans ?_)
  .exact⟨fun h x b=>BL (h x (JG.mpr b)),fun h x b=>AK (h x (JG.mp b))⟩
  .exact⟨fun h x b=>AK (h x (JG.mp b)),fun h x b=>BL (h x (JG.mpr b))⟩
 .rw[B_,BD,BD,AI];have:(∃a,a∈B4 qs n/\PK ks a = "in")↔∃x,f7 qs x n/\PK ks x = "in":=⟨fun⟨x,h,e⟩=>⟨x,JG.mp h,e⟩,fun⟨x,h,e⟩=>⟨x,JG.mpr h,e⟩⟩;rw[this]
abbrev TF(ns ss a:A0 Str):A0 (Str×Str):=ns.map fun n=>(n,I9 ss a n)
def Lr(ns ss a:A0 Str):((TF ns ss a).map fun k=>k.1)=ns:=by
 unfold TF;rw[BO];exact List.map_id' ns
def W9{ns ss a:A0 Str}(b:ns.Nodup){n:Str}(c:n∈ns):PK (TF ns ss a) n=I9 ss a n :=
 Bw (k:=(n,I9 ss a n)) (by rw[Lr];exact b) (AI.mpr ⟨n,c,rfl⟩)
def ME{ss a:A0 Str}{n:Str}:I9 ss a n = "in" ↔n∈ss:=by
 unfold I9;by_cases h:n∈ss
 .rw[AU h];exact⟨fun _=>h,fun _=>rfl⟩
 .rw[AO h];by_cases b:n∈a
  .rw[AU b];exact⟨fun z=>absurd z (by decide),fun z=>absurd z h⟩
  .rw[AO b];exact⟨fun z=>absurd z (by decide),fun z=>absurd z h⟩
def l7{ss a:A0 Str}{n:Str}(q:n∈ss->n∉a):I9 ss a n = "out" ↔n∈a:=by
 unfold I9;by_cases h:n∈ss
 .rw[AU h];exact⟨fun z=>absurd z (by decide),fun z=>absurd z (q h)⟩
 .rw[AO h];by_cases b:n∈a
  .rw[AU b];exact⟨fun _=>b,fun _=>rfl⟩
  .rw[AO b];exact⟨fun z=>absurd z (by decide),fun z=>absurd z b⟩
def Qx(ss a:A0 Str)(n:Str):I9 ss a n∈W3:=by
 unfold I9;by_cases h:n∈ss
 .rw[AU h];decide
 .rw[AO h];by_cases b:n∈a
  .rw[AU b];decide
  .rw[AO b];decide
def i9{ns ss j:A0 Str}{qs:A0 JI}(d:ns.Nodup)(l:∀q∈qs,q.2.1∈ns/\q.2.2∈ns)(sub:∀n∈ss,n∈ns)(f:∀y,y∈j↔∃n∈ss,y∈C1 qs n)(p:Bv qs ss):R8 ns qs (TF ns ss j)=true↔Li ns qs ss:=by
 have f:∀y,y∈j↔∃n∈ss,f7 qs n y:=fun y=>(f y).trans ⟨fun⟨n,h,e⟩=>⟨n,h,JM.mp e⟩,fun⟨n,h,e⟩=>⟨n,h,JM.mpr e⟩⟩;have o:∀y,y∈ss->y∉j:=fun y h z=>by
  obtain⟨m,g,e⟩:=(f y).mp z;exact p m g y h e
 have a:∀{x y},f7 qs x y->x∈ns:=fun⟨q,h,e,_⟩=>e▸(l q h).1;rw[NF];constructor
 .rintro⟨_,h⟩;have b:∀n∈ns,n∈ss↔Vi qs ss n:=fun n c=>by
   have:=(h n c).1;rw[W9 d c,ME]at this;rw[this];refine forall_congr' fun x=>forall_congr' fun i=>?_;rw[W9 d (a i),l7 (o x),f]
  exact⟨⟨p,fun x n c i=>(b n (sub n c)).mp c x i⟩,b⟩
 .rintro⟨_,b⟩;refine⟨⟨Lr ..,fun k r=>?_⟩,fun n c=>⟨?_,?_⟩⟩
  .obtain⟨n,_,rfl⟩:=AI.mp r;exact Qx ..
  .rw[W9 d c,ME,b n c];refine forall_congr' fun x=>forall_congr' fun i=>?_;rw[W9 d (a i),l7 (o x),f]
  .rw[W9 d c,l7 (o n),f];exact⟨fun⟨m,g,e⟩=>⟨m,e,by rw[W9 d (a e)];exact ME.mpr g⟩,fun⟨m,e,g⟩=>⟨m,ME.mp (by rw[W9 d (a e)]at g;exact g),e⟩⟩
def Yt{ns ss p:A0 Str}{qs:A0 JI}{ks:A0 (Str×Str)}(w:ns.Nodup)(g:∀q∈qs,q.2.1∈ns/\q.2.2∈ns)(r:(ks.map fun k=>k.1)=ns)(I:∀k∈ks,k.2∈W3)(D:ss =(ks.filter fun k=>decide (k.2 =("in":Str))).map fun k=>k.1)(A:∀y,y∈p↔∃n∈ss,y∈C1 qs n) :
  R8 ns qs ks=true↔Li ns qs ss/\TF ns ss p=ks:=by
 have B:(ks.map fun k=>k.1).Nodup:=r▸w;have s:∀k∈ks,PK ks k.1=k.2:=fun k h=>Bw B h;have d:∀n∈ns,n∈ss↔PK ks n = "in":=fun n j=>by
  rw[<-r]at j;obtain⟨k,f,rfl⟩:=AI.mp j;rw[s k f,D,AI];constructor
  .rintro⟨J,C,e⟩;obtain⟨K,L⟩:=BI.mp C;have:=s J K;rw[e,s k f]at this;rw[this];exact BL L
  .intro e;exact⟨k,BI.mpr ⟨f,AK e⟩,rfl⟩
 have sub:∀n∈ss,n∈ns:=fun n h=>by
  rw[D]at h;obtain⟨k,C,rfl⟩:=AI.mp h;rw[<-r];exact AI.mpr ⟨k,(BI.mp C).1,rfl⟩
 have u:∀{x y},f7 qs x y->x∈ns/\y∈ns:=fun⟨q,h,e,M⟩=>⟨e▸(g q h).1,M▸(g q h).2⟩;constructor
 .intro t;obtain⟨_,h⟩:=NF.mp t;have N:Bv qs ss:=fun m E n j e=>by
   have a:=(d n (sub n j)).mp j;have b:=(h n (sub n j)).2.mpr ⟨m,e,(d m (sub m E)).mp E⟩;rw[a]at b;exact absurd b (by decide)
  have e:TF ns ss p=ks:=by
   have F:ks.map (fun k=>(k.1,I9 ss p k.1))=ks.map id:=EV fun k f=>by
    refine Prod.ext rfl ?_;have G:k.1∈ns:=r▸AI.mpr ⟨k,f,rfl⟩;show I9 ss p k.1=k.2;have o:=(h k.1 G).2;rw[s k f]at o;have i:=d k.1 G;rw[s k f]at i;have l:k.1∈p↔k.2 = "out":=by
     rw[A,o];exact⟨fun⟨n,j,e⟩=>⟨n,JM.mp e,(d n (sub n j)).mp j⟩,fun⟨x,e,O⟩=>⟨x,(d x (u e).1).mpr O,JM.mpr e⟩⟩
    unfold I9;by_cases c:k.1∈ss
    .rw[AU c,i.mp c]
    .rw[AO c];by_cases v:k.1∈p
     .rw[AU v,l.mp v]
     .rw[AO v];rcases AV.mp (I k f)with z | z
      .exact absurd (i.mpr z) c
      .rcases AV.mp z with z | z
       .exact absurd (l.mpr z) v
       .exact(AH.mp z).symm
   rw[List.map_id]at F;unfold TF;rw[<-r,BO];exact F
  exact⟨(i9 w g sub A N).mp (by rw[e];exact t),e⟩
 .rintro⟨H,e⟩;rw[<-e];exact(i9 w g sub A H.1.1).mpr H
def o0{a b:Str}(h:a.cps.toList=b.cps.toList):a=b:=Classical.byContradiction fun z=>TS.QN z h
def Os:∀{a b:A0 (Str×Str)},TS.NE a=TS.NE b->a=b
 | [],[],_=>rfl
 | [],_::_,h=>by cases h
 | _::_,[],h=>by cases h
 | p::a,q::b,h=>by
  have h:p.1.cps.toList::p.2.cps.toList::TS.NE a=q.1.cps.toList::q.2.cps.toList::TS.NE b:=h;obtain⟨c,d⟩:=FS h;obtain⟨e,f⟩:=FS d;rw[Os f,Prod.ext (o0 c) (o0 e)]
def j4{ns ss:A0 Str}(sub:ss.Sublist ns)(f:ns.Nodup):(ns.filter fun n=>decide (n∈ss))=ss:=by
 induction sub with
 | slnil=>rfl
 | @cons l₁ l₂ a s b =>
  obtain⟨c,d⟩:=DV.mp f;rw[CU,AO (by simpa using fun z=>c (s.subset z)),b d]
 | @cons_cons l₁ l₂ a s b =>
  obtain⟨c,d⟩:=DV.mp f;rw[CU,AU (by simp)];congr 1;refine Eq.trans (List.filter_congr fun n g=>?_) (b d);rw[B_,BD,BD,AV];exact⟨fun z=>z.resolve_left fun e=>c (e▸g),.inr⟩
def Ts{ns ss a:A0 Str}(sub:ss.Sublist ns)(b:ns.Nodup):((TF ns ss a).filter fun k=>decide (k.2 =("in":Str))).map (fun k=>k.1)=ss:=by
 unfold TF;rw[List.filter_map,BO];have e:ns.filter ((fun k:Str×Str=>decide (k.2 =("in":Str)))∘fun n=>(n,I9 ss a n))=ns.filter fun n=>decide (n∈ss):=List.filter_congr fun n _=>by
  show decide (I9 ss a n = "in")=_;rw[B_,BD,BD];exact ME
 rw[e];show(ns.filter fun n=>decide (n∈ss)).map (fun n=>n)=ss;rw[List.map_id'];exact j4 sub b
def Ot{ns:A0 Str}{m j:Nat}{y:Str}(b:ns.Nodup)(a:ns[j]?=some y):m.testBit j=true↔y∈JX ns m:=by
 rw[KN];refine⟨fun h=>⟨j,h,a⟩,fun⟨k,c,e⟩=>?_⟩;rw[(List.getElem?_inj (AD.mp a).1 b).mp (a.trans e.symm)];exact c
def Oc(p:Nat->Prop):∀n,∃m,MD n m/\∀j,j<n->(m.testBit j=true↔p j)
 | 0=>⟨0,MD.zero 0,fun j h=>absurd h (GY _)⟩
 | n+1=>by
  obtain⟨m,lo,h⟩:=Oc p n;by_cases c:p n
  .refine⟨m ||| 2^n,fun j a=>?_,fun j a=>?_⟩
   .rcases(U7 m n j).mp a with z | z
    .exact CS (lo j z)
    .omega
   .rw[U7];by_cases e:j=n
    .subst e;exact⟨fun _=>c,fun _=>.inr rfl⟩
    .rw[h j (by omega)];exact⟨fun z=>z.resolve_right e,.inl⟩
  .refine⟨m,fun j a=>CS (lo j a),fun j a=>?_⟩;by_cases e:j=n
   .subst e;exact⟨fun z=>absurd (lo j z) (CQ _),fun z=>absurd z c⟩
   .exact h j (by omega)
def Yp{ns ss:A0 Str}(b:ns.Nodup)(sub:ss.Sublist ns):∃m,MD ns.length m/\JX ns m=ss:=by
 obtain⟨m,lo,h⟩:=Oc (fun j=>∃y∈ss,ns[j]?=some y) ns.length;refine⟨m,lo,?_⟩;rw[<-j4 (P2 ns m) b]
 conv=>rhs;rw[<-j4 sub b]
 refine List.filter_congr fun y d=>?_;obtain⟨j,a⟩:=EK.mp d;rw[B_,BD,BD,<-Ot b a,h j (AD.mp a).1];refine⟨fun⟨z,c,e⟩=>?_,fun c=>⟨y,c,a⟩⟩;rw[a]at e;cases e;exact c
def Ha{ns:A0 Str}{qs:A0 JI}{A B f:A0 Nat}(b:ns.Nodup)(a:∀q∈qs,q.2.1∈ns/\q.2.2∈ns)(g:MB ns ((qs.map fun q=>q.2).map fun k=>(k.2,k.1)) A)(M:MB ns (qs.map fun q=>q.2) B)(i:∀m,m∈f↔KG ns.length A B m)(ks:A0 (Str×Str)) :
  (ks∈f.map fun m=>U5 ns qs (JX ns m))↔R8 ns qs ks=true:=by
 have c:∀x y,f7 qs x y->x∈ns:=fun x y ⟨q,h,e,_⟩=>e▸(a q h).1;have j:∀(ss:A0 Str) (y:Str),y∈ss.flatMap (C1 qs)↔∃n∈ss,y∈C1 qs n:=fun ss y=>List.mem_flatMap;rw[AI];constructor
 .rintro⟨m,r,rfl⟩;have l:=(i m).mp r;have d:=(As b g M l.1.1 c).mp l;exact(i9 b a (fun n s=>(P2 ns m).subset s) (j _) d.1.1).mpr d
 .intro h;obtain⟨⟨o,t⟩,_⟩:=NF.mp h;have:=(Yt (ss:=(ks.filter fun k=>decide (k.2 =("in":Str))).map fun k=>k.1) b a o t rfl (j _)).mp h;obtain⟨d,e⟩:=this;have sub:((ks.filter fun k=>decide (k.2 =("in":Str))).map fun k=>k.1).Sublist ns:=by
   rw[<-o];exact DE.map _
  obtain⟨m,lo,p⟩:=Yp b sub;refine⟨m,(i m).mpr ((As b g M lo c).mpr (p▸d)),?_⟩;rw[p];exact e
section
variable{P:A6}{w:F1}{K:PySem.W.Frag}{mg:Str->A4 A1}{base:IV}
def Gy(f:A0 Str->A0 Nat->A0 Nat->Nat->Prop):Sp:=fun c H Q _=>∃(p v:A2) (m:Nat) (a:A0 Str) (d:A0 (Str×Str)) (A B:A0 Nat),c = [.ref v,.int (m:Int)]/\KO H p v a d A B/\a.length<=100 /\
 ∀b:Bool,(b=true↔f a A B m)->Q (.bl b) H
theorem Y9:IT ["_law_view", "_law_mask"] ["_law_view", "_law_mask"] (B5 OA):=⟨rfl,rfl,rfl,by decide +kernel,rfl,by decide +kernel,by decide +kernel⟩
theorem Dg(T:Tx K mg):JC P w K mg base KB 3 T.a0.f T.a0.fd ["_law_view", "_law_mask"] (Gy fun ns A B m=>JL B m/\∀j,m.testBit j=true->P8 ns.length A B m j):=by
 have i:=P3 (P:=P) (w:=w) (base:=base) T;have k:=Ay (P:=P) (w:=w) (base:=base) T;have I:=Y9;refine T.a0.F.ok Y9 (fun D H Q E h=>?_) (fun G A l s H D Q E r h=>?_)
 .obtain⟨p,n,a,J,L,A,B,rfl,_⟩:=h;rfl
 .obtain⟨p,v,m,ns,t,A,B,rfl,u,x,q⟩:=h;refine⟨_,(B3 (C0 (S0 (C9 T.av i (r.mono (by decide)) (A8 (pv 0) (A8 (pv 1) B0))) (U2 (D9 N9 (D0 Q2 (pv 1) (Yl Xo (C9 T.aZ k (r.mono (by decide)) (A8 (pv 0) (A8 (pv 1) B0))))) B8 (C5 _)))))),?_⟩;refine A5 rfl (A5 rfl ⟨p,v,m,ns,t,A,B,rfl,u,x,fun b y=>⟨b,rfl,?_⟩⟩);refine Q6 (fun c=>?_) (fun c=>?_)
  .refine A5 rfl (A5 rfl (A5 rfl (Vk (a:=p) (b:=v) (c:=m) (d:=ns) (e:=t) (f:=A) (g:=B) rfl u x fun M C=>?_)));refine A5 rfl (B9 rfl rfl ⟨rfl,?_⟩);refine q _ ?_;dsimp only;rw[o8];exact⟨fun h=>⟨y.mp c,fun j o=>(C j).mp (h j o)⟩,fun h j o=>(C j).mpr (h.2 j o)⟩
  .exact q false ⟨fun z=>(by cases z),fun h=>absurd (y.mpr h.1) c⟩
end
def pB(p:Prop):Bool:=@decide p (Classical.propDecidable p)
def QD{p:Prop}:pB p=true↔p:=@BD p (Classical.propDecidable p)
def Yq{p:Prop}{b:Bool}(h:b=true↔p):b=pB p:=B_.mpr (h.trans QD.symm)
def JL.sub{B:A0 Nat}{m a:Nat}(h:JL B m)(s:Sub a m):JL B a:=fun i j b c=>h i j (s i b) (s j c)
def zDu{i m a:Nat}(h:MD i m)(h':MD i a)(e:m ||| 2^i=a ||| 2^i):m=a:=CN fun j=>by
 by_cases c:j=i
 .subst c;rw[BQ.mpr fun z=>CQ _ (h j z),BQ.mpr fun z=>CQ _ (h' j z)]
 .have:=congrArg (fun z=>z.testBit j) e;rw[CH,CH,EJ,AX fun z=>c z.symm,HX,HX]at this;exact this
def Nl{B f:A0 Nat}{i:Nat}(p:f.Nodup)(g:∀m,m∈f↔MD i m/\JL B m):(f ++(f.filter fun m=>pB (JL B (m ||| 2^i))).map fun m=>m ||| 2^i).Nodup/\∀m,m∈(f ++(f.filter fun m=>pB (JL B (m ||| 2^i))).map fun m=>m ||| 2^i)↔MD (i+1) m/\JL B m:=by
 have r:∀m,(m ||| 2^i).testBit i=true:=fun m=>by rw[CH,GI,Bool.or_true]
 constructor
 .refine FO.mpr ⟨p,BX.mpr (GJ (fun{a b} l n s e=>s (zDu ((g a).mp (BI.mp l).1).1 ((g b).mp (BI.mp n).1).1 e)) (p.sublist DE)),fun a l b n e=>?_⟩;obtain⟨c,_,rfl⟩:=AI.mp n;have:=((g a).mp l).1 i (by rw[e];exact r c);omega
 .intro m;rw[AS,g,AI];constructor
  .rintro(⟨k,d⟩ | ⟨q,h,rfl⟩)
   .exact⟨fun j o=>CS (k j o),d⟩
   .obtain⟨k,d⟩:=BI.mp h;refine⟨fun j o=>?_,QD.mp d⟩;rcases(U7 q i j).mp o with z | z
    .exact CS (((g q).mp k).1 j z)
    .omega
  .rintro⟨k,d⟩;by_cases c:m.testBit i=true
   .have e:m % 2^i ||| 2^i=m:=CN fun j=>by
     rw[CH,IE,EJ,B_,DP,BU,BD,BD];constructor
     .rintro(⟨_,z⟩ | rfl)
      .exact z
      .exact c
     .intro z;by_cases t:j<i
      .exact .inl ⟨t,z⟩
      .have:=k j z;exact .inr (by omega)
    have u:Sub (m % 2^i) m:=fun j z=>by
     rw[IE,BU]at z;exact z.2
    refine .inr ⟨m % 2^i,BI.mpr ⟨(g _).mpr ⟨fun j z=>?_,d.sub u⟩,QD.mpr (by rw[e];exact d)⟩,e⟩;rw[IE,BU,BD]at z;exact z.1
   .refine .inl ⟨fun j z=>?_,d⟩;have:=k j z;rcases Nat.lt_or_ge j i with y | y
    .exact y
    .exact absurd (show m.testBit i=true by rw[show i=j by omega];exact z) c
section
variable{P:A6}{w:F1}{K:PySem.W.Frag}{mg:Str->A4 A1}{base:IV}
theorem JW:IT ["_law_view", "_law_found", "_law_k", "_law_mask"] ["_law_view"] (B5 LQ):=LC
def Al:Sp:=fun d H Q _=>∃(p v:A2) (b:A0 Str) (e:A0 (Str×Str)) (A B:A0 Nat),d = [.ref v]/\KO H p v b e A B/\b.length<=10 /\
 ∀l (a:A0 Nat) c,H l=none->CM H c->c l=some (.lst (a.map J1))->a.Nodup->(∀m,m∈a↔LH b.length A B m)->a.length<=1024->Q (.ref l) c
set_option maxHeartbeats 2000000 in
theorem X0(T:Tx K mg):JC P w K mg base KB 4 T.ay.f T.ay.fd ["_law_view"] Al:=by
 refine T.ay.F.o1 JW fun cdv A U s H vs Q E hr h=>?_
 .obtain⟨p,v,N,ks,A,B,rfl,W,ln,q⟩:=h;obtain⟨⟨a,s,u,X,e2,e3,e4,_⟩,mA,mB⟩:=id W;refine⟨_,(B2 (C3 (i:=1) JW.nd rfl (.inl rfl) (K8 (A8 B8 B0)))
   (B2 (K2 PassesOwn.never rfl (UB T.aO (A8 (D4 (J6 K) T.aj J3 (A8 (K3 (OL K) (pv 0) B8 (fun _ _=>rfl)) B0)) B0)) (D6 (i:=2) JW.nd rfl (.inl rfl))
   (B3 (K2 PassesOwn.never rfl (MQ K (Tm (Ef K) T.aV X1 (A8 (pv 1) B0))) (D6 (i:=3) JW.nd rfl (.inl rfl))
   (B3 (G8 (M0 (C9 T.av (P3 T) (Rm hr) (A8 (pv 0) (A8 (D0 Y6 (pv 3) (D0 By B8 (pv 2))) B0)))) (B3 (E8 (Hh K PySem.F.plainAttrs_list PySem.F.slot_list_append PySem.F.type_list_append J2 (pv 1) (A8 (D0 Y6 (pv 3) (D0 By B8 (pv 2))) B0)))) C7)))))
   (B3 (C0 (K6 (N':=["_law_mask", "_law_view"]) (cap:=[none,some 0]) (cl:=[("_law_view",_)]) (G0 ⟨⟨rfl,rfl,rfl,rfl⟩,trivial⟩ ⟨rfl,trivial⟩) rfl (MQ K (pv 1)) (fun _ _ _ _=>by exact⟨(LR 0),(P9 (M0 (C9 T.a0 (Dg T) (Rm hr) (A8 (pv 1) (A8 (pv 0) B0))))),(pv 0)⟩)))))),?_⟩
  refine B7 fun N1 Y=>?_;refine⟨by show 1<=sizeLine;decide,fun l O=>?_⟩;have Z:=O;have R:=CM.new (o:=.lst [.int 0]) O;have fl:(IU H l (.lst [.int 0])) l=some (.lst ([0].map J1)):=A9;generalize IU H l (.lst [.int 0])=H1 at R fl⊢;refine Y _ _ (B7 fun N2 hN2=>?_);refine A5 rfl ⟨v,_,B9 rfl rfl ⟨IW.of (R _ _ X),rfl,B9 (a:=a) rfl (.inl (IW.of (R _ _ e2))) (A5 rfl ⟨?_,?_,?_⟩)⟩⟩
  .omega
  .rw[AB];omega
  rw[AB,CC];have lz:∀m,m∈[0]↔MD 0 m/\JL B m:=fun m=>by
   rw[AH];constructor
   .rintro rfl;exact⟨MD.zero _,fun i j h=>by rw[DG]at h;cases h⟩
   .rintro⟨h,_⟩;exact CN fun j=>by rw[DG];exact BQ.mpr fun z=>absurd (h j z) (GY _)
  refine O8 (fun i σ G=>(∃v2 g,σ = [some (.ref v),some (.ref l),v2,g])/\CM H G/\∃d:A0 Nat,G l=some (.lst (d.map J1))/\d.Nodup/\(∀m,m∈d↔MD i m/\JL B m)/\d.length<=2^i) ⟨⟨_,_,rfl⟩,R,[0],fl,ED _ _,lz,by decide⟩ ?_ ?_
  .rintro i σ G hi ⟨⟨v2,g,rfl⟩,k,d,n,nG,mG,lG⟩ D1 hD1 _;rw[IM];have p2:2^i<=2^9:=HH (by decide) (by omega);refine A5 rfl ⟨l,_,rfl,.inl (IW.of n),fun c hc=>?_⟩;have uc:=CM.new (o:=.lst (d.map J1)) hc;have C:(IU G c (.lst (d.map J1))) c=some (.lst (d.map J1)):=A9;have ncl:c≠l:=(B1 n hc).symm;generalize IU G c (.lst (d.map J1))=I at uc C⊢;have r:=k.trans uc;have hc0:H c=none:=k.free hc;refine⟨c,rfl,⟨_,IW.of C⟩,O1 (ND (IW.of C)) (fun j σ t=>(∃g,σ = [some (.ref v),some (.ref l),some (.int (i:Int)),g])/\CM H t/\t c=some (.lst (d.map J1))/\t l=some (.lst ((d ++((d.take j).filter fun m=>pB (JL B (m ||| 2^i))).map fun m=>m ||| 2^i).map J1))) ⟨⟨_,rfl⟩,r,C,by rw[List.take_zero,EY,HI,CV];exact uc _ _ n⟩ (fun j σ t _ h o e=>by rw[C]at e;cases e;exact h.2.2.1) ?_ ?_⟩
   .rintro j σ t y hy ⟨⟨g,rfl⟩,J,c2,x⟩ D2 L _;rw[AG]at hy;obtain⟨m,S,rfl⟩:=AZ.mp hy;have lj:=(AD.mp S).1;refine A5 rfl (A5 rfl (A5 rfl (B9 rfl rfl ⟨⟨by omega,by omega,by decide⟩,B9 rfl rfl ?_⟩)));dsimp only;rw[UN,show J1 m=V.int (m:Int)from rfl];refine⟨p,v,m ||| 2^i,N,ks,A,B,by rw[R5];rfl,W.same J,by omega,fun b hb=>⟨_,rfl,?_⟩⟩;have eb:=Yq hb;have hs:(d.take (j+1)).filter (fun m=>pB (JL B (m ||| 2^i))) =(d.take j).filter (fun m=>pB (JL B (m ||| 2^i)))++if pB (JL B (m ||| 2^i))=true then [m]else []:=by
     rw[I_ S,DN,CU,EY]
    have O:=BR (fun m=>pB (JL B (m ||| 2^i))) (d.take j);rw[AR]at O;refine Q6 (fun z=>?_) (fun z=>L _ _ ⟨⟨_,rfl⟩,J,c2,?_⟩)
    .refine A5 rfl ⟨.inl ⟨rfl,_,IW.of x⟩,A5 rfl (A5 rfl (B9 rfl rfl ⟨⟨by omega,by omega,by decide⟩,B9 rfl rfl ?_⟩))⟩;dsimp only;rw[UN];refine⟨l,_,_,rfl,by rw[R5],x,by rw[AB,BJ,AB,sizeLine_eq];omega,L _ _ ⟨⟨_,rfl⟩,J.upd Z,(B6 ncl).trans c2,?_⟩⟩;rw[A9,hs,AU (by rw[<-eb];exact z)];simp only[AL,BB,HI,BM];rfl
    .rw[hs,AO (by rw[<-eb];exact z),CV];exact x
   .rintro σ t ⟨⟨g,rfl⟩,J,c2,x⟩;rw[AB,BP]at x;obtain⟨n2,m2⟩:=Nl nG mG;refine hD1 _ _ ⟨⟨_,_,rfl⟩,J,_,x,n2,m2,?_⟩;have:=BR (fun m=>pB (JL B (m ||| 2^i))) d;rw[BJ,AB,Nat.pow_succ];omega
  .rintro σ G ⟨⟨v2,g,rfl⟩,k,d,n,nG,mG,lG⟩;have p2:2^N.length<=2^10:=HH (by decide) ln;refine hN2 _ _ ?_;refine A5 rfl ⟨l,rfl,⟨_,IW.of n⟩,fun D hD=>?_⟩;refine Jm J1 (ND (IW.of n)) (fun m=>pB (JL B m/\∀j,m.testBit j=true->P8 N.length A B m j)) (by omega) hD (fun m S I r M hM=>?_) (fun m S I r M hM=>A5 rfl hM) fun σ' I r X=>?_
   .exact A5 rfl (A5 rfl ⟨p,v,m,N,ks,A,B,rfl,(W.same k).same r,by omega,fun b hb=>⟨_,rfl,by rw[Yq hb];exact hM I fun b o e=>e⟩⟩)
   .refine q D _ I (k.free hD) (k.trans r) X (nG.sublist DE) (fun m=>?_) (Nat.le_trans (BR ..) (by omega));rw[BI,mG,QD];exact⟨fun h=>⟨h.1.1,h.2⟩,fun h=>⟨⟨h.1,h.2.1⟩,h.2⟩⟩
end
def zCy(a b:Nat):decide (V.int (a:Int)=V.int (b:Int))=true↔∀j,a.testBit j=true↔b.testBit j=true:=by
 rw[BD];constructor
 .intro e j;injection e with e;rw[Int.ofNat.inj e]
 .intro h;rw[CN fun j=>B_.mpr (h j)]
section
variable{P:A6}{w:F1}{K:PySem.W.Frag}{mg:Str->A4 A1}{base:IV}
theorem Az:IT ["_law_view", "_law_mask"] ["_law_view", "_law_mask"] (B5 NJ):=LC
theorem y7(T:Tx K mg):JC P w K mg base KB 3 T.aQ.f T.aQ.fd ["_law_view", "_law_mask"] (Gy fun ns A B m=>JL B m/\∀j,m.testBit j=true↔P8 ns.length A B m j):=by
 refine T.aQ.F.o1 Az fun u A i s H x Q E k h=>?_
 .obtain⟨p,v,m,ns,l,A,B,rfl,n,o,q⟩:=h;refine⟨_,(B3 (C0 (S0 (C9 T.av (P3 T) (Rm k) (A8 (pv 0) (A8 (pv 1) B0))) (U2 (D9 N9 (pv 1) (C9 T.aZ (Ay T) (Rm k) (A8 (pv 0) (A8 (pv 1) B0))) (C5 _)))))),?_⟩;refine⟨_,rfl,_,rfl,p,v,m,ns,l,A,B,rfl,n,o,fun b r=>⟨b,rfl,?_⟩⟩;refine Q6 (fun c=>?_) (fun c=>?_)
  .refine A5 rfl (A5 rfl (A5 rfl (Vk (a:=p) (b:=v) (c:=m) (d:=ns) (e:=l) (f:=A) (g:=B) rfl n o fun y t=>?_)));refine⟨rfl,q _ ?_⟩;rw[zCy];exact⟨fun h=>⟨r.mp c,fun j=>(h j).trans (t j)⟩,fun h j=>(h.2 j).trans (t j).symm⟩
  .exact q false ⟨fun z=>(by cases z),fun h=>absurd (r.mpr h.1) c⟩
theorem Ik:IT ["_law_view", "_law_masks_here"] ["_law_view", "_law_masks_here"] (B5 PU):=LC
def Wc:Sp:=fun g H Q _=>∃(p v l:A2) (e:A0 Str) (h:A0 (Str×Str)) (A B f:A0 Nat),g = [.ref v,.ref l]/\KO H p v e h A B/\e.length<=100/\H l=some (.lst (f.map J1))/\f.length<=5000 /\
 ∀r (c:A0 (A2×A0 Str)) d,CM H d->H r=none->d r=some (.lst (c.map fun t=>V.ref t.1))->UH H d c->(∀t∈c,t.1≠r)->(c.map fun t=>t.2).Perm (f.map (JX e))->c.Pairwise (fun a b=>TS.JU (TS.NZ b.2) (TS.NZ a.2)=false)->Q (.ref r) d
theorem Iq(T:Tx K mg):JC P w K mg base KB 2 T.bc.f T.bc.fd ["_law_view", "_law_masks_here"] Wc:=by
 refine T.bc.F.o1 Ik fun x A i s H Z Q E k h=>?_
 .obtain⟨p,v,l,ns,y,A,B,Ms,rfl,C,I,n,J,q⟩:=h;refine⟨_,(B3 (C0 (D4 (Do K k.units) T.ao G9 (A8 (K6 (N':=["_law_mask", "_law_view"]) (cap:=[none,some 0]) (cl:=[("_law_view",_)]) (G0 ⟨⟨rfl,rfl,rfl,rfl⟩,trivial⟩ ⟨rfl,trivial⟩) rfl (MQ K (pv 1)) (fun _ _ _ _=>by exact⟨(LR 0),D8,(C9 T.aY (Cr T) (Rm k) (A8 (pv 1) (A8 (pv 0) B0)))⟩)) B0)))),?_⟩;refine A5 rfl ⟨l,rfl,⟨_,IW.of n⟩,fun D L=>?_⟩;refine Kl (ns:=ns) (ND (IW.of n)) J L (fun m G R g M=>?_) fun σ' G N g O b nG S=>?_
  .exact A5 rfl (A5 rfl ⟨p,v,m,ns,y,A,B,rfl,C.same g,I,fun z U W X Y=>M z U W X Y⟩)
  .refine⟨D,N,rfl,IW.of O,b.at_,fun r c a d j=>?_⟩;have u:=CM.new (o:=.lst (c.map fun t=>V.ref t.1)) a;refine q r c _ (g.trans u) (g.free a) A9 ⟨fun t e=>u _ _ (b.at_ t (d.mem_iff.mp e)),(d.map _).nodup_iff.mpr b.nd,fun t e=>b.new t (d.mem_iff.mp e)⟩ (fun t e=>B1 (b.at_ t (d.mem_iff.mp e)) a) ?_ j;refine(d.map fun t=>t.2).trans ?_;rw[S]
end
def Xb(a b:Bool):decide (V.bl a=V.bl b) =(a == b):=by cases a<;>cases b<;>simp
def Zq{D:A2}{H:Hp}{k:Nat}{r:St}{e:A4 V}{g:TT}{h:TE}{Q:St->Hp->Prop}(p:Nat->Bool)(f:Nat->V)(u:k<=1000)(l:H D=none)(s:∀j,j<k->∀G (M:Bool->Hp->Prop),CM H G->M (p j) G->g (some (.int (j:Int))::r) G M)
  (step:∀j,j<k->∀G (R:VK),CM H G->R (f j) G->h (some (.int (j:Int))::r) G R)
  (q:∀σ G,CM H G->G D=some (.lst (((List.range k).filter p).map f))->Q σ G):Y7 (J7 0) g (T7 D h) (TB 0 k) (e::r) (IU H D (.lst [])) Q:=by
 refine X2 (n:=k) (fun i σ G=>(∃v,σ=v::r)/\CM H G/\G D=some (.lst (((List.range i).filter p).map f))) ⟨⟨_,rfl⟩,CM.new l,A9⟩ (fun i σ G b _=>b) (fun σ G _=>Nat.le_refl _) ?_ ?_
 .rintro i σ G x w N b ⟨⟨e,rfl⟩,a,d⟩ ⟨rfl,rfl⟩ m;rw[IM];refine s i b _ _ a ?_;have t:=BR p (List.range i);rw[CA]at t;have o:((List.range (i+1)).filter p).map f =((List.range i).filter p).map f++if p i=true then [f i]else []:=by
   rw[EM,DN,CU,EY,AL];cases p i<;>rfl
  refine Q6 (fun c=>step i b _ _ a ⟨_,d,by rw[AB,sizeLine_eq];omega,m _ _ ⟨⟨_,rfl⟩,a.upd l,?_⟩⟩) (fun c=>m _ _ ⟨⟨_,rfl⟩,a,?_⟩)
  .rw[A9,o,AU c]
  .rw[d,o,AO c,CV]
 .rintro σ G ⟨_,a,d⟩;exact q σ G a d
section
variable{ns:A0 Str}{qs:A0 JI}{ks kw:A0 (Str×Str)}{A:A0 Nat}
def RM(kw:A0 (Str×Str)):A0 Str:=kw.map fun k=>k.2
theorem Oz(kw:A0 (Str×Str)):(RM kw).length=kw.length:=AB ..
def SK(A:A0 Nat)(a:A0 Str)(k:Nat):A0 Str:=((List.range a.length).filter fun j=>(A.getD k 0).testBit j).map fun j=>a.getD j ""
theorem Yf(t:ns.Nodup)(p:MB ns (ks.map fun k=>(k.2,k.1)) A)(r:∀k,k∈ks↔k∈qs.map fun q=>q.2)(g:∀q∈qs,q.2.1∈ns)(i:(kw.map fun k=>k.1)=ns){k:Nat}{n:Str}(c:ns[k]?=some n)(y:Str) :
  y∈SK A (RM kw) k↔∃x∈B4 qs n,PK kw x=y:=by
 have D:kw.length=ns.length:=by rw[<-i,AB]
 have d:∀{j:Nat} {x:Str},ns[j]?=some x->PK kw x =(RM kw).getD j "":=fun{j x} a=>by
  have u:=(AD.mp a).1;have l:kw[j]?=some kw[j]:=AC (by omega);have v:kw[j].1=x:=by
   rw[<-i,AG,l]at a;exact BA a
  rw[<-v,Bw (by rw[i];exact t) (AM l),BK];unfold RM;rw[AG,l];rfl
 unfold SK;rw[AI];constructor
 .rintro⟨j,a,rfl⟩;obtain⟨a,b⟩:=BI.mp a;obtain⟨E,m,f,w⟩:=(p.bit k j).mp b;obtain⟨z,B,rfl⟩:=AI.mp m;have f:ns[k]?=some z.2:=f;rw[c]at f;obtain rfl:=BA f;refine⟨z.1,JG.mpr (NO.mpr ((r z).mp B)),d w⟩
 .rintro⟨x,C,rfl⟩;have s:=JG.mp C;have z:=(r (x,n)).mpr (NO.mp s);have o:x∈ns:=let⟨q,h,e,_⟩:=s;e▸g q h;obtain⟨j,a⟩:=EK.mp o;have u:=(AD.mp a).1;exact⟨j,BI.mpr ⟨CB.mpr (by rw[Oz];omega),(p.bit k j).mpr ⟨_,AI.mpr ⟨_,z,rfl⟩,c,a⟩⟩,(d a).symm⟩
theorem zDq(g:ns.Nodup)(i:MB ns (ks.map fun k=>(k.2,k.1)) A)(j:∀k,k∈ks↔k∈qs.map fun q=>q.2)(c:∀q∈qs,q.2.1∈ns)(b:(kw.map fun k=>k.1)=ns){k:Nat}{n:Str}(a:ns[k]?=some n) :
  SS qs (PK kw) n =((decide ((RM kw).getD k "" =("in":Str)) ==(SK A (RM kw) k).all fun y=>decide (y =("out":Str))) &&(decide ((RM kw).getD k "" =("out":Str)) == decide (("in":Str)∈SK A (RM kw) k))):=by
 have t:kw.length=ns.length:=by rw[<-b,AB]
 have lk:=(AD.mp a).1;have l:PK kw n =(RM kw).getD k "":=by
  have d:kw[k]?=some kw[k]:=AC (by omega);have o:kw[k].1=n:=by
   rw[<-b,AG,d]at a;exact BA a
  rw[<-o,Bw (by rw[b];exact g) (AM d),BK];unfold RM;rw[AG,d];rfl
 have m:=Yf (A:=A) g i j c b a;unfold SS VC ag2;rw[l];have p:((B4 qs n).all fun m=>decide (PK kw m = "out")) =(SK A (RM kw) k).all fun y=>decide (y =("out":Str)):=by
  rw[B_,CI,CI];exact⟨fun h y r=>let⟨x,f,e⟩:=(m y).mp r;e▸h x f,fun h x f=>h _ ((m _).mpr ⟨x,f,rfl⟩)⟩
 have s:decide (("in":Str)∈(B4 qs n).map (PK kw))=decide (("in":Str)∈SK A (RM kw) k):=by
  rw[B_,BD,BD,AI,m]
 rw[p,s]
end
section
variable{K:PySem.W.Frag}
theorem zCq{b D:A2}{ps:A0 JI}{H:Hp}{c:St}{j k:A4 V}{o:TT}{s:TE}{Q:St->Hp->Prop}(f:JI->V)(p:JI->Bool)(A:H b=some (.lst (J4 ps)))(B:∀q∈ps,E2 H q)(C:ps.length<=5000)(t:H D=none)
  (E:∀y∈ps,∀G,CM H G->∀M:Bool->Hp->Prop,(∀a,CM G a->M (p y) a)->o (some (.str y.2.1)::some (.str y.2.2)::c) G M) (F:∀y∈ps,∀G,CM H G->∀M:VK,(∀a,CM G a->M (f y) a)->s (some (.str y.2.1)::some (.str y.2.2)::c) G M)
  (q:∀σ G,CM H G->G D=some (.lst ((ps.filter p).map f))->Q σ G) :
  Y7 (UL K 2 (Ee (J7 0) (Ee (J7 1) UX))) o (T7 D s) (UW K b) (j::k::c) (IU H D (.lst [])) Q:=by
 refine G7 (ND (IW.of A)) (fun i σ G=>(∃j k,σ=j::k::c)/\CM H G/\G D=some (.lst (((ps.take i).filter p).map f))) ⟨⟨_,_,rfl⟩,CM.new t,A9⟩ (fun i σ G _ h=>h.2.1.at b) ?_ ?_
 .rintro i σ G v N m ⟨⟨j,k,rfl⟩,d,e⟩ u;unfold J4 at m;rw[AG]at m;obtain⟨r,w,rfl⟩:=AZ.mp m;have n:=AM w;refine⟨r.1,_,rfl,KQ.of (d _ _ (B r n)),rfl,⟨_,_,rfl,⟨_,_,rfl,⟨rfl,?_⟩⟩⟩⟩;refine E r n G d _ fun a l=>?_;have x:((ps.take (i+1)).filter p).map f =((ps.take i).filter p).map f++if p r=true then [f r]else []:=by
   rw[I_ w,DN,CU,EY,AL];cases p r<;>rfl
  have I:=BR p (ps.take i);rw[AR]at I;have g:=l _ _ e;refine Q6 (fun c=>F r n a (d.trans l) _ fun J z=>⟨_,z _ _ g,by rw[AB,sizeLine_eq];omega,u _ _ ⟨⟨_,_,rfl⟩,(d.trans (l.trans z)).upd t,?_⟩⟩) (fun c=>u _ _ ⟨⟨_,_,rfl⟩,d.trans l,?_⟩)
  .rw[A9,x,AU c]
  .rw[x,AO c,CV];exact g
 .rintro σ G ⟨_,d,e⟩;unfold J4 at e;rw[AB,BP]at e;exact q σ G d e
end
section
variable{P:A6}{w:F1}{K:PySem.W.Frag}{mg:Str->A4 A1}{base:IV}
theorem LM:IT ["_law_view", "_law_words", "_law_marks", "_law_k", "_law_some"] ["_law_view", "_law_words"] (B5 OU):=LC
def Pa:Sp:=fun g H Q _=>∃(p v d:A2) (a:A0 Str) (e:A0 (Str×Str)) (A B:A0 Nat) (c b:A0 JI),g = [.ref v,.ref d]/\KO H p v a e A B/\Tg a c/\(∀k,k∈e↔k∈c.map fun q=>q.2)/\H d=some (.lst (J4 b))/\(∀q∈b,E2 H q)/\P5 a (b.map fun q=>q.2)=true /\
 ∀f,CM H f->Q (.bl (R8 a c (b.map fun q=>q.2))) f
set_option maxHeartbeats 4000000 in
theorem S3(T:Tx K mg):JC P w K mg base KB 1 T.aJ.f T.aJ.fd ["_law_view", "_law_words"] Pa:=by
 refine T.aJ.F.o1 LM fun cdv A outer s H vs Q E hr h=>?_
 .obtain⟨p,v,d,J,ks,A,B,qs,O,rfl,hV,m,hk,ed,pin,hw,q⟩:=h;obtain⟨⟨a,s,t,e1,e2,e3,e4,_⟩,mA,mB⟩:=id hV;refine⟨_,(B2 (C3 (i:=2) LM.nd rfl (.inr rfl) (K6 (N':=["_law_name", "_law_word"]) (cap:=[none,none]) (cl:=[]) (G0 trivial trivial) rfl (MQ K (pv 1)) (fun _ _ _ _=>by exact⟨(RY K (n:=2) (C8 (LR 0) (C8 (LR 1) M5))),D8,(pv 1)⟩)))
   (B2 (K2 PassesOwn.never rfl (UB T.aO (A8 (D4 (J6 K) T.aj J3 (A8 (pv 2) B0)) B0)) (D6 (i:=3) LM.nd rfl (.inr rfl))
   (B2 (Lu (i:=4) (N':=["_law_j", "_law_marks", "_law_k", "_law_view"]) (cap:=[none,some 2,some 3,some 0]) (cl:=[("_law_view",_),("_law_marks",_),("_law_k",_)]) LM.nd rfl (.inl rfl) (G0 ⟨⟨rfl,rfl,rfl,rfl⟩,⟨⟨rfl,rfl,rfl,rfl⟩,⟨⟨rfl,rfl,rfl,rfl⟩,trivial⟩⟩⟩ ⟨rfl,⟨rfl,⟨rfl,trivial⟩⟩⟩) rfl (UB T.aO (A8 (D4 (J6 K) T.aj J3 (A8 (pv 2) B0)) B0)) (fun _ _ _ _=>by exact⟨(LR 0),(P9 (C2 N9 (D0 Q2 (D0 Th (K3 (OL K) (K3 (OL K) (pv 3) B8 (fun _ _=>rfl)) (pv 2) (fun _ _=>rfl)) (pv 0)) B8) B8 (C5 _))),(K3 (OL K) (pv 1) (pv 0) (fun _ _=>rfl))⟩))
   (B2 (G8 (C2 r9 (D9 N9 (K3 (OL K) (pv 2) (pv 3) (fun _ _=>rfl)) K1 (C5 _)) (D4 (Y3 K) T.aR Y8 (A8 (K6 (N':=["_law_word"]) (cap:=[none]) (cl:=[]) (G0 trivial trivial) rfl (MQ K (pv 4)) (fun _ _ _ _=>by exact⟨(LR 0),D8,(D9 N9 (pv 0) K1 (C5 _))⟩)) B0)) (C5 _)) (B3 (C0 P1)) C7)
   (B3 (G8 (C2 r9 (D9 N9 (K3 (OL K) (pv 2) (pv 3) (fun _ _=>rfl)) K1 (C5 _)) (D9 (Hg K) K1 (pv 4) rfl) (C5 _)) (B3 (C0 P1)) C7)))))
   (B3 (C0 P1)))),?_⟩
  refine B7 fun N1 hN1=>?_;refine A5 rfl ⟨d,rfl,⟨_,IW.of ed⟩,fun D hD=>?_⟩;have l200:O.length<=200:=by
   have h1:=congrArg List.length (KC.mp hw).1;rw[AB,AB]at h1;have:=m.len;omega
  obtain⟨hn,w3⟩:=KC.mp hw;refine zCq (fun r=>V.str r.2.2) (fun _=>true) ed pin (by omega) hD (fun r _ G L M u=>u G fun b o e=>e) (fun r _ G L M u=>A5 rfl (u G fun b o e=>e)) fun σ1 H1 s1 N=>?_;rw[GL.mpr fun _ _=>rfl]at N;have N:H1 D=some (.lst ((RM (O.map fun q=>q.2)).map V.str)):=by rw[N];unfold RM;rw[BO,BO];rfl
  have lw:(RM (O.map fun q=>q.2)).length=J.length:=by rw[Oz,<-hn];simp only[AB]
  have ln:=m.len;have g:∀{k:Nat} {n:Str},J[k]?=some n->_:=fun{k n} h=>zDq (qs:=qs) m.nd mA hk (fun q hq=>(m.mem q hq).1) hn h;have tb:R8 J qs (O.map fun q=>q.2)=J.all (SS qs (PK (O.map fun q=>q.2))):=by unfold R8;rw[hw,FH]
  rw[tb]at q;generalize RM (O.map fun q=>q.2)=x at N lw g;generalize SS qs (PK (O.map fun q=>q.2))=ag at q g;refine hN1 _ _ (B7 fun N2 hN2=>?_);refine A5 rfl (B9 (a:=D) rfl (.inl (IW.of N)) ⟨_,rfl,by omega,by rw[AB];omega,?_⟩);rw[AB,CC];refine O8 (fun i σ G=>(∃v3 v4,σ = [some (.ref v),some (.ref d),some (.ref D),v3,v4])/\CM H1 G/\∀j n,j<i->J[j]?=some n->ag n=true) ⟨⟨_,_,rfl⟩,CM.refl _,fun j n z=>absurd z (GY _)⟩ ?_ ?_
  .rintro i σ G hi ⟨⟨v3,v4,rfl⟩,L,al⟩ D1 hD1 W;rw[IM];have X:J[i]?=some (J[i]'(by omega)):=AC (by omega);have lA:i<A.length:=by rw[mA.len];omega
   refine Od fun M1 hM1=>?_;refine A5 rfl (B9 (a:=D) rfl (.inl (IW.of (L _ _ N))) ⟨_,rfl,by omega,by rw[AB];omega,fun C hC=>?_⟩);rw[AB,CC];refine Zq (fun j=>(A.getD i 0).testBit j) (fun j=>V.str (x.getD j "")) (by omega) hC (fun j z G2 M Y u=>?_) (fun j z G2 R Y hR=>?_) fun σ2 G2 Y U=>?_
   .have I:=s1.trans (L.trans Y);refine A5 rfl ⟨v,_,B9 rfl rfl ⟨IW.of (I _ _ e1),rfl,?_⟩⟩;refine A5 rfl ⟨s,_,_,_,rfl,rfl,IW.of (I _ _ e3),Bf lA,?_⟩;refine A5 rfl (B9 rfl rfl ⟨(show(0:Int)<=(j:Int) by omega),B9 rfl rfl ⟨rfl,_,rfl,?_⟩⟩);dsimp only;rw[Qb];exact u
   .exact A5 rfl (A5 rfl ⟨D,_,_,_,rfl,rfl,IW.of ((L.trans Y) _ _ N),S4 (by rw[AG,AC z,BK,AC z];rfl),hR⟩)
   have U:G2 C=some (.lst ((SK A x i).map V.str)):=by rw[U];unfold SK;rw[BO];rfl
   have S:=L.trans Y;have lS:(SK A x i).length<=100:=by
    unfold SK;rw[AB];have:=BR (fun j=>(A.getD i 0).testBit j) (List.range x.length);rw[CA]at this;omega
   have Z:=g X;generalize SK A x i=sw at U Z lS;refine hM1 _ _ (B7 fun M2 hM2=>?_);have atm:SR (x.map V.str) (i:Int)=some (.str (x.getD i "")):=S4 (by rw[AG,AC hi,BK,AC hi];rfl);have f2:=S _ _ N;have no:ag (J[i]'(by omega))=false->∀G,CM H G->Q (.bl false) G:=fun h G s'=>by
    have:=q G s';rw[List.all_eq_false.mpr ⟨_,EI _,by rw[h];exact BC⟩]at this;exact this
   refine A5 rfl (A5 rfl ⟨D,_,_,_,rfl,rfl,IW.of f2,atm,⟨rfl,?_⟩⟩);refine A5 rfl ⟨C,rfl,⟨_,IW.of U⟩,fun D3 hD3=>?_⟩;refine Jm (fun y=>V.bl (decide (y =("out":Str)))) (ND (IW.of U)) (fun _=>true) (by omega) hD3 (fun y _ G3 I M u=>u G3 fun b o e=>e) (fun y _ G3 I M u=>A5 rfl ⟨rfl,?_⟩) fun σ' G3 I e6=>?_
   .rw[Q0];exact u
   rw[GL.mpr fun _ _=>rfl]at e6;have e6:G3 D3=some (.lst ((sw.map fun y=>decide (y =("out":Str))).map V.bl)):=by rw[e6,BO];rfl
   refine⟨D3,_,rfl,IW.of e6,?_⟩;rw[GV,Q0];rw[show(sw.all (id∘fun y=>decide (y =("out":Str))))=sw.all fun y=>decide (y =("out":Str))from rfl];refine⟨rfl,_,rfl,?_⟩;rw[Xb];have s13:=s1.trans (S.trans I);refine Q6 (fun c=>?_) (fun c=>?_)
   .show D1.rt _ _;rw[W];refine no ?_ _ s13;have c1:(decide (x.getD i "" =("in":Str)) == sw.all fun y=>decide (y =("out":Str)))=false:=by simpa using c
    rw[Z,c1];rfl
   have c1:(decide (x.getD i "" =("in":Str)) == sw.all fun y=>decide (y =("out":Str)))=true:=by simpa using c
   refine hM2 _ _ ?_;have f3:=I _ _ f2;refine A5 rfl (A5 rfl ⟨D,_,_,_,rfl,rfl,IW.of f3,atm,⟨rfl,?_⟩⟩);refine A5 rfl (S8 (.inl (IW.of (I _ _ U))) ⟨rfl,_,rfl,?_⟩);rw[Q0,Xb];rw[c1,FH]at Z;refine Q6 (fun c=>?_) (fun c=>?_)
   .show D1.rt _ _;rw[W];refine no ?_ _ s13;rw[Z];simpa using c
   .refine hD1 _ _ ⟨⟨_,_,rfl⟩,S.trans I,fun j n z l=>?_⟩;by_cases e:j=i
    .subst e;rw[X]at l;rw[<-BA l,Z];simpa using c
    .exact al j n (by omega) l
  .rintro σ G ⟨⟨v3,v4,rfl⟩,L,al⟩;have hq:=q G (s1.trans L);rw[CI.mpr fun n l=>?_]at hq
   .exact hN2 _ _ hq
   .obtain⟨j,z⟩:=EK.mp l;exact al j n (by have:=(AD.mp z).1;omega) z
end
def Ip(a:A0 Str)(t:LP):Prop:=((nw t.2).map fun k=>k.1)=a/\∀k∈nw t.2,k.2∈W3
section
variable{P:A6}{w:F1}{K:PySem.W.Frag}{mg:Str->A4 A1}{base:IV}
theorem JN:IT ["_law_names_here", "_law_found", "_law_name", "_law_longer", "_law_one"] ["_law_names_here"] (B5 MZ):=LC
def Vj:Sp:=fun e H Q _=>∃(a:A2) (c:A0 Str),e = [.ref a]/\H a=some (.lst (c.map V.str))/\c.length<=5 /\
 ∀r (d:A0 LP) b,CM H b->b r=some (.lst (d.map fun t=>V.ref t.1))->(∀t∈d,K_ b t/\Ip c t)->d.length<=243->Q (.ref r) b
set_option maxHeartbeats 4000000 in
theorem r6(T:Tx K mg):JC P w K mg base KB 1 T.aL.f T.aL.fd ["_law_names_here"] Vj:=by
 refine T.aL.F.o1 JN fun cdv A outer s H vs Q E hr h=>?_
 .obtain⟨a,ns,rfl,ea,ln,q⟩:=h;refine⟨_,(B2 (C3 (i:=1) JN.nd rfl (.inl rfl) (K8 (A8 (K8 B0) B0)))
   (B2 (K2 PassesOwn.never rfl (MQ K (pv 0)) (D6 (i:=2) JN.nd rfl (.inr rfl))
   (B2 (C3 (i:=3) JN.nd rfl (.inl rfl) (K8 B0))
   (B2 (K2 PassesOwn.never rfl (MQ K (pv 1)) (D6 (i:=4) JN.nd rfl (.inr rfl))
   (B3 (E8 (Hh K PySem.F.plainAttrs_list PySem.F.slot_list_extend PySem.F.type_list_extend Ny (pv 3) (A8 (K6 (N':=["_law_word", "_law_one", "_law_name"]) (cap:=[none,some 4,some 2]) (cl:=[("_law_one",_),("_law_name",_)]) (G0 ⟨⟨rfl,rfl,rfl,rfl⟩,⟨⟨rfl,rfl,rfl,rfl⟩,trivial⟩⟩ ⟨rfl,⟨rfl,trivial⟩⟩) rfl (piT K (M8 (A8 K1 (A8 K1 (A8 K1 B0))))) (fun _ _ _ _=>by exact⟨(LR 0),D8,(D0 Tl (pv 1) (K8 (A8 (M8 (A8 (pv 2) (A8 (pv 0) B0))) B0)))⟩)) B0)))))
   (B3 (C3 (i:=1) JN.nd rfl (.inl rfl) (pv 3))))))
   (B3 (C0 (pv 1))))),?_⟩
  refine B7 fun N1 hN1=>?_;refine⟨CK _,fun z hz=>⟨by show 1<=sizeLine;decide,fun f hf=>?_⟩⟩;have uz:=CM.new (o:=.lst []) hz;have uf:=CM.new (o:=.lst [.ref z]) hf;have I:(IU (IU H z (.lst [])) f (.lst [.ref z])) f=some (.lst ([((z,[]):LP)].map fun t=>V.ref t.1)):=A9;have ez:K_ (IU (IU H z (.lst [])) f (.lst [.ref z])) (z,[]):=⟨uf _ _ A9,fun r y=>absurd y BH⟩;have s1:=uz.trans uf;generalize IU (IU H z (.lst [])) f (.lst [.ref z])=H1 at I ez s1⊢;refine hN1 _ _ (B7 fun N2 hN2=>?_);have Z:=s1 _ _ ea;have p3:∀i,i<=5->3^i<=243:=fun i hi=>HH (n:=3) (by decide) hi;refine A5 rfl ⟨a,rfl,⟨_,IW.of Z⟩,O1 (ND (K:=K) (IW.of Z)) (fun i σ G=>∃(f:A2) (c:A0 LP) (v2 v3 J:A4 V),σ = [some (.ref a),some (.ref f),v2,v3,J]/\CM H1 G/\G f=some (.lst (c.map fun t=>V.ref t.1))/\(∀t∈c,K_ G t/\Ip (ns.take i) t)/\c.length<=3^i) ⟨f,[(z,[])],_,_,_,rfl,CM.refl _,I,fun t b=>by rw[AH.mp b];exact⟨ez,rfl,fun k y=>absurd y BH⟩,Nat.le_refl _⟩ (fun i σ G _ ⟨_,_,_,_,_,_,X,_⟩=>X.at a) ?_ ?_⟩
  .rintro i σ G v hv ⟨f,c,v2,v3,J,rfl,X,I,L,lt⟩ D1 hD1 hrt;rw[AG]at hv;obtain⟨n,hn,rfl⟩:=AZ.mp hv;have li:=(AD.mp hn).1;refine Od fun M1 hM1=>?_;refine⟨CK _,fun l hl=>?_⟩;have ul:=CM.new (o:=.lst []) hl;have el0:(IU G l (.lst [])) l=some (.lst []):=A9;have m:=ul _ _ I;have M:∀t∈c,K_ (IU G l (.lst [])) t/\Ip (ns.take i) t:=fun t b=>⟨E4 (L t b).1 ul,(L t b).2⟩;have nl0:∀t∈c,t.1≠l:=fun t b=>B1 (L t b).1.1 hl;have nfl:f≠l:=B1 I hl;have N:H1 l=none:=X.free hl;have sG1:=X.trans ul;generalize IU G l (.lst [])=G1 at el0 m M sG1⊢;refine hM1 _ _ (B7 fun M2 hM2=>?_);refine⟨_,rfl,⟨f,rfl,⟨_,IW.of m⟩,O1 (ND (K:=K) (IW.of m)) (fun j σ d=>∃(C:A0 LP) (J:A4 V),σ = [some (.ref a),some (.ref f),some (.str n),some (.ref l),J]/\CM H1 d/\d f=some (.lst (c.map fun t=>V.ref t.1))/\(∀t∈c,K_ d t)/\d l=some (.lst (C.map fun t=>V.ref t.1))/\(∀t∈C,K_ d t/\Ip (ns.take (i+1)) t/\t.1≠l)/\C.length<=3*j) ⟨[],_,rfl,sG1,m,fun t b=>(M t b).1,el0,fun t b=>absurd b BH,Nat.le_refl _⟩ (fun j σ d _ ⟨_,_,_,_,e,_⟩=>fun o eo=>by rw[m]at eo;rw[e];exact eo) ?_ ?_⟩⟩
   .rintro j σ d v hv ⟨C,J,rfl,O,ef2,at2,p,au,lu⟩ D2 hD2 hrt2;rw[AG]at hv;obtain⟨t,b,rfl⟩:=AZ.mp hv;have mt:=AM b;have lj:=(AD.mp b).1;obtain⟨wn,w3⟩:=(M t mt).2;have lt2:t.2.length<=5:=by
     have h1:=congrArg List.length wn;rw[AB,AB,AR]at h1;omega
    have lts:c.length<=243:=Nat.le_trans lt (p3 i (by omega));refine A5 rfl ⟨.inl ⟨rfl,_,IW.of p⟩,?_⟩;refine⟨by show 3<=sizeLine;decide,fun Y htp=>?_⟩;have ut:=CM.new (o:=.tup [.str "in",.str "open",.str "out"]) htp;have f3:(IU d Y (.tup [.str "in",.str "open",.str "out"])) Y=some (.tup (([("in":Str), "open", "out"]).map V.str)):=A9;have S:=ut _ _ p;have ef3:=ut _ _ ef2;have U:∀t∈c,K_ (IU d Y (.tup [.str "in",.str "open",.str "out"])) t:=fun t b=>E4 (at2 t b) ut;have au3:∀t∈C,K_ (IU d Y (.tup [.str "in",.str "open",.str "out"])) t/\Ip (ns.take (i+1)) t/\t.1≠l:=fun t b=>⟨E4 (au t b).1 ut,(au t b).2⟩;have sG3:=O.trans ut;generalize IU d Y (.tup [.str "in",.str "open",.str "out"])=G3 at f3 S ef3 U au3 sG3⊢;refine⟨Y,rfl,⟨_,KQ.of f3⟩,fun D hD=>?_⟩;refine Kp (xs:=[("in":Str), "open", "out"]) (g:=V.str) (f:=fun y=>nw t.2 ++ [(n,y)]) (asT (KQ.of f3)) (by decide) hD (fun y hy G4 R W hR=>?_) fun σ' G4 ws W e4 LG nD mW=>?_
    .have et:=E4 (U t mt) W;refine A5 rfl (A5 rfl (A5 rfl ⟨by show 2<=sizeLine;decide,fun pr hpr=>⟨by show 1<=sizeLine;decide,fun l1 N=>?_⟩⟩));have u1:=CM.new (o:=.tup [.str n,.str y]) hpr;have u2:=CM.new (o:=.lst [.ref pr]) N;have e1:=E4 et (u1.trans u2);refine⟨t.1,l1,_,_,rfl,rfl,e1.1,A9,by rw[AB,sizeLine_eq];show t.2.length+1<=_;omega,fun l2 hl2=>?_⟩;have u3:=CM.new (o:=.lst ((t.2.map fun r=>V.ref r.1) ++ [.ref pr])) hl2;refine hR l2 _ (t.2 ++ [(pr,n,y)]) (u1.free (u2.free hl2)) ((u1.trans u2).trans u3) ⟨by rw[A9,AL];rfl,fun r hr'=>?_⟩ (by unfold nw;rw[AL];rfl);rcases AS.mp hr' with z | z
     .exact u3 _ _ (e1.2 r z)
     .rw[AH.mp z];exact u3 _ _ (u2 _ _ A9)
    .have lws:ws.length=3:=by
      have h1:=congrArg List.length mW;rw[AB,AB]at h1;exact h1
     have B:=W _ _ S;refine⟨l,D,_,_,rfl,rfl,B,e4,by rw[AB,AB,lws,sizeLine_eq];omega,?_⟩;refine hD2 _ _ ⟨C++ws,_,rfl,(sG3.trans W).upd N,by rw[B6 nfl];exact W _ _ ef3,fun t b=>Fr (E4 (U t b) W) (nl0 t b) B,by rw[A9,AL],fun u hu=>?_,by rw[BJ,lws];omega⟩;rcases AS.mp hu with z | z
     .obtain⟨b1,b2,b3⟩:=au3 u z;exact⟨Fr (E4 b1 W) b3 B,b2,b3⟩
     .have n1:u.1≠l:=fun e=>by
       have:=LG.new u z;rw[e,S]at this;cases this
      refine⟨Fr (LG.at_ u z) n1 B,?_,n1⟩;have:nw u.2∈([("in":Str), "open", "out"]).map fun y=>nw t.2 ++ [(n,y)]:=mW▸AI.mpr ⟨u,z,rfl⟩;obtain⟨y,hy,e⟩:=AI.mp this;refine⟨?_,fun k hk=>?_⟩
      .rw[<-e,AL,wn,I_ hn];rfl
      .rw[<-e]at hk;rcases AS.mp hk with x | x
       .exact w3 k x
       .rw[AH.mp x];simp only[AV,BH,or_false]at hy⊢;rcases hy with rfl | rfl | rfl<;>simp
   .rintro σ d ⟨C,J,rfl,O,ef2,at2,p,au,lu⟩;rw[AB]at lu;refine hM2 _ _ (A5 rfl (hD1 _ _ ⟨l,C,_,_,_,rfl,O,p,fun t b=>⟨(au t b).1,(au t b).2.1⟩,?_⟩));rw[Nat.pow_succ];omega
  .rintro σ G ⟨f,c,v2,v3,J,rfl,X,I,L,lt⟩;rw[AB]at lt L;rw[BP]at L;exact hN2 _ _ (A5 rfl (q f c G (s1.trans X) I L (Nat.le_trans lt (p3 _ ln))))
end
def Hq{H H':Hp}{p:A2}{c:Int}{t:LP}(h:K_ H t)(L:JE H p c)(k:Sm [p] H H'):K_ H' t :=
 ⟨PH k h.1 (L.neP (ss:=t.2) h.1),fun r a=>Tk (h.2 r a) L k⟩
def Fx(y:Str):A0 Str:=[("in":Str), "out", "open"].filter fun z=>!decide (z=y)
def Rf{y:Str}(a:y∈W3){d:Nat}(c:d<2):∃z∈W3,(Fx y)[d]?=some z:=by
 have h:∀y∈W3,(Fx y).length=2/\∀z∈Fx y,z∈W3:=by decide
 obtain⟨e,b⟩:=h y a;exact⟨_,b _ (EI (by omega)),AC (by omega:d <(Fx y).length)⟩
def zAv{xs:A0 V}{k:Nat}(h:k<=xs.length):Wx xs none (some (k:Int))=xs.take k:=by
 unfold Wx;rw[HT.RX,HT.QY,EL h];rfl
def Tj{xs:A0 V}{k:Nat}(h:k<=xs.length):Wx xs (some (k:Int)) none=xs.drop k:=by
 unfold Wx;rw[HT.RX,HT.QY,EL h];exact CY (by rw[DF];omega)
section
variable{P:A6}{w:F1}{K:PySem.W.Frag}{mg:Str->A4 A1}{base:IV}
theorem LE:IT ["_law_left_here", "_law_words", "_law_at", "_law_name", "_law_word", "_law_other"] ["_law_left_here", "_law_words"] (B5 P6):=LC
def Uu:Sp:=fun d H Q _=>∃(p:A2) (c:Int) (t:LP) (b:A0 Str),d = [.ref p,.ref t.1]/\JE H p c/\c<=900000/\K_ H t/\Ip b t/\t.2≠[]/\t.2.length<=100 /\
 ∀(u:LP) a,Sm [p] H a->JE a p (c+2)->K_ a u->Ip b u->Q (.ref u.1) a
set_option maxHeartbeats 4000000 in
theorem Ht(T:Tx K mg):JC P w K mg base KB 3 T.bd.f T.bd.fd ["_law_left_here", "_law_words"] Uu:=by
 refine T.bd.F.o1 LE fun cdv A v s H vs Q E hr h=>?_
 .obtain⟨p,c,t,ns,rfl,L,hc,hT,⟨wn,B⟩,ne,lt,q⟩:=h;refine⟨_,(B2 (C3 (i:=2) LE.nd rfl (.inl rfl) (C9 T.ak (E6 T) (Rm hr) (A8 (pv 0) (A8 (D4 (J6 K) T.aj J3 (A8 (pv 1) B0)) B0))))
   (B2 (m9 (K3 (OL K) (pv 1) (pv 2) (fun _ _=>rfl)) (RY K (n:=2) (C8 (D6 (i:=3) LE.nd rfl (.inl rfl)) (C8 (D6 (i:=4) LE.nd rfl (.inr rfl)) M5))))
   (B2 (C3 (i:=5) LE.nd rfl (.inl rfl) (K3 (OL K) (K6 (N':=["_law_one", "_law_word"]) (cap:=[none,some 4]) (cl:=[("_law_word",_)]) (G0 ⟨⟨rfl,rfl,rfl,rfl⟩,trivial⟩ ⟨rfl,trivial⟩) rfl (piT K (M8 (A8 K1 (A8 K1 (A8 K1 B0))))) (fun _ _ _ _=>by exact⟨(LR 0),(P9 (C2 r9 (pv 0) (pv 1) (C5 _))),(pv 0)⟩)) (C9 T.ak (E6 T) (Rm hr) (A8 (pv 0) (A8 B8 B0))) (fun _ _=>rfl)))
   (B3 (C0 (D0 Tl (D0 Tl (Ld (slL K) (pv 1) Pd (Sr (pv 2))) (K8 (A8 (M8 (A8 (pv 3) (A8 (pv 5) B0))) B0))) (Ld (slL K) (pv 1) (Sr (D0 U4 (pv 2) B8)) Pd))))))),?_⟩
  have l0:0<t.2.length:=List.length_pos_iff.mpr ne;refine B7 fun N1 C=>?_;refine A5 rfl (A5 rfl (B9 (a:=t.1) rfl (.inl (IW.of hT.1)) (Ab (a:=p) rfl L (by omega) (by rw[AB];omega) (by rw[AB];omega) fun d H1 hd k1 L1=>?_)));rw[AB]at hd;have b:d<t.2.length:=by omega
  have g:=Hq hT L k1;have ed:t.2[d]?=some t.2[d]:=AC b;have pd:=g.2 _ (EI b);have md:t.2[d].2∈nw t.2:=AI.mpr ⟨_,EI b,rfl⟩;refine C _ _ (B7 fun N2 I=>?_);refine A5 rfl (A5 rfl ⟨t.1,_,_,_,rfl,rfl,IW.of g.1,S4 (by rw[AG,ed];rfl),?_⟩);refine⟨t.2[d].1,_,rfl,KQ.of pd,rfl,_,_,rfl,_,_,rfl,rfl,?_⟩;refine I _ _ (B7 fun N3 J=>?_);refine⟨by show 3<=sizeLine;decide,fun N O=>?_⟩;have l:=CM.new (o:=.tup [.str "in",.str "out",.str "open"]) O;have f3:(IU H1 N (.tup [.str "in",.str "out",.str "open"])) N=some (.tup (([("in":Str), "out", "open"]).map V.str)):=A9;refine⟨N,rfl,⟨_,KQ.of f3⟩,fun D hD=>?_⟩;have y3:t.2[d].2.2∈W3:=B _ md;generalize hy:t.2[d].2.2=y at y3;refine Jm V.str (asT (KQ.of f3)) (fun z=>!decide (z=y)) (by decide) hD (fun z _ G3 s3 M R=>A5 rfl (A5 rfl ⟨rfl,_,rfl,?_⟩)) (fun z _ G3 s3 M R=>A5 rfl R) fun σ' G S U=>?_
  .rw[Q0];exact R G3 (CM.refl _)
  have U:G D=some (.lst ((Fx y).map V.str)):=U;have L2:=(L1.same l).same S;have kG:=(k1.trans l.sm).trans S.sm;have nD:D≠p:=by
   obtain⟨_,_,e0,_⟩:=L1.same l;exact(B1 e0 hD).symm
  have W:=E4 (E4 g l) S;refine A5 rfl (Ab (a:=p) rfl L2 (by omega) (by decide) (by decide) fun d2 G2 hd2 X L3=>?_);obtain⟨z,z3,ez⟩:=Rf y3 (d:=d2) (by omega);have e:=Hq W L2 X;refine⟨D,_,_,_,rfl,rfl,IW.of (PH X U nD),S4 (by rw[AG,ez];rfl),?_⟩;refine J _ _ ?_;have lm:(t.2.map fun r=>V.ref r.1).length=t.2.length:=AB ..;refine A5 rfl (A5 rfl ⟨_,rfl,t.1,_,rfl,IW.of e.1,fun b1 Y=>?_⟩);rw[zAv (by rw[lm];omega),<-List.map_take];have u1:=CM.new (o:=.lst ((t.2.take d).map fun r=>V.ref r.1)) Y;refine A5 rfl (A5 rfl ⟨by show 2<=sizeLine;decide,fun m Z=>⟨by show 1<=sizeLine;decide,fun b2 hb2=>?_⟩⟩);have u2:=CM.new (o:=.tup [.str t.2[d].2.1,.str z]) Z;have u3:=CM.new (o:=.lst [.ref m]) hb2;refine⟨b1,b2,_,_,rfl,rfl,u3 _ _ (u2 _ _ A9),A9,by rw[AB,AR,sizeLine_eq];show _+1<=_;omega,fun b3 hb3=>?_⟩;have u4:=CM.new (o:=.lst (((t.2.take d).map fun r=>V.ref r.1) ++ [.ref m])) hb3;have s4:=(u1.trans u2).trans (u3.trans u4);have hT4:=E4 e s4;refine A5 rfl (A5 rfl ⟨_,_,rfl,rfl,_,rfl,t.1,_,rfl,IW.of hT4.1,fun b4 hb4=>?_⟩);rw[show((d:Int)+1) =((d+1:Nat):Int) by omega,Tj (by rw[lm];omega),<-List.map_drop];have u5:=CM.new (o:=.lst ((t.2.drop (d+1)).map fun r=>V.ref r.1)) hb4;refine⟨b3,b4,_,_,rfl,rfl,u5 _ _ A9,A9,by rw[BJ,AB,AB,AR,DF,sizeLine_eq];show _+1+_<=_;omega,fun b5 hb5=>?_⟩;have u6:=CM.new (o:=.lst ((((t.2.take d).map fun r=>V.ref r.1) ++ [.ref m]) ++(t.2.drop (d+1)).map fun r=>V.ref r.1)) hb5;have u:=s4.trans (u5.trans u6);have e6:=(u3.trans u4).trans (u5.trans u6);refine q (b5,t.2.take d ++ [(m,t.2[d].2.1,z)]++t.2.drop (d+1)) _ ((kG.trans X).trans u.sm) ((L3.cast (by omega)).same u) ⟨by rw[AL,AL];exact A9,fun r j=>?_⟩ ⟨?_,fun k hk=>?_⟩
  .rcases AS.mp j with x | x
   .rcases AS.mp x with x | x
    .exact u _ _ (e.2 r (CJ x))
    .rw[AH.mp x];exact e6 _ _ A9
   .exact u _ _ (e.2 r (EE x))
  .rw[<-wn];have h1:t.2=t.2.take d ++ [t.2[d]]++t.2.drop (d+1):=by rw[BM];show t.2=t.2.take d ++(t.2[d]::t.2.drop (d+1));rw[<-CO b,BW]
   conv=>rhs;rw[h1]
   unfold nw;simp only[AL,BB,HI]
  .obtain⟨r,j,rfl⟩:=AI.mp hk;rcases AS.mp j with x | x
   .rcases AS.mp x with x | x
    .exact B _ (AI.mpr ⟨r,CJ x,rfl⟩)
    .rw[AH.mp x];exact z3
   .exact B _ (AI.mpr ⟨r,EE x,rfl⟩)
end
def Uw{K:PySem.W.Frag}{x:Str}{H:Hp}{Q:VK}(o:PySem.PyData.strOk x=true)(q:Q (.bl true) H):zGf K (.str x) (.str x) H Q:=by
 have e:Rp K H (.str x) (.str x):=by simp only[Rp]
 have p:Pl (.str x):=⟨by rw[PyData.canLay0];exact o,by rw[PyData.depth];decide⟩;exact⟨_,_,e,e,p,p,by rw[PySem.SeqAt.eqv_refl _ p.1];exact q⟩
def tyB(b:Bool):A1:=.type (bif b then "list" else "tuple")
def zCn{K:PySem.W.Frag}:∀b,PySem.W.kitOne K (tyB b) (.type "list")=some b
 | true=>rfl
 | false=>rfl
def zEh{K:PySem.W.Frag}:∀b,PySem.W.kitOne K (tyB b) (.type "tuple")=some !b
 | true=>rfl
 | false=>rfl
def zFx{K:PySem.W.Frag}:∀b,PySem.W.kitAny K (tyB b) (["list", "tuple"].map Value.type)=some true
 | true=>rfl
 | false=>rfl
def zDs(b:Bool):(!decide (V.bl b=V.bl b))=false:=congrArg _ (AK rfl)
def LT(b:Bool)(xs:A0 V):HO:=bif b then .lst xs else .tup xs
def Nz{K:PySem.W.Frag}{H:Hp}{l:A2}{xs:A0 V}:∀{b:Bool},H l=some (LT b xs)->NN K H (.ref l) (tyB b)
 | true,h=>.lst h
 | false,h=>.tup h
def zCw{H:Hp}{l:A2}{xs:A0 V}:∀{b:Bool},H l=some (LT b xs)->H l=some (.lst xs)\/H l=some (.tup xs)
 | true,h=>.inl h
 | false,h=>.inr h
def sqB(K:PySem.W.Frag)(b:Bool):Hp->A2->A0 V->Prop:=bif b then IW K else KQ K
def Nc{K:PySem.W.Frag}{H:Hp}{l:A2}{xs:A0 V}:∀{b:Bool},H l=some (LT b xs)->sqB K b H l xs
 | true,h=>IW.of h
 | false,h=>KQ.of h
def Xm{K:PySem.W.Frag}{H:Hp}{l:A2}{xs:A0 V}{b:Bool}(h:H l=some (LT b xs)):RO K H l xs:=(zCw h).imp IW.of KQ.of
def zCl{K:PySem.W.Frag}{H:Hp}{l m:A2}{xs ys:A0 V}{R:It->Hp->Prop}:∀{b:Bool},H l=some (LT b xs)->H m=some (LT b ys)->R (UK (sqB K b) l m) H->zGj K R l m xs ys H
 | true,h,a,q=>.inl ⟨IW.of h,IW.of a,q⟩
 | false,h,a,q=>.inr ⟨KQ.of h,KQ.of a,q⟩
section
variable{P:A6}{w:F1}{K:PySem.W.Frag}{mg:Str->A4 A1}{base:IV}
theorem Hi:IT ["_law_found", "_law_due"] ["_law_found", "_law_due"] (B5 PV):=LC
theorem zAj{f:A2}{a:JK}{ps:A0 Str}:JC P w K mg base KB 0 f a ps Je:=⟨fun _ _ _ _ h=>h.elim,fun _ _ _ _ _ _ _ _ _ _ _ _ _ h=>h.elim⟩
def Dk(S:Sp):Sp:=fun g H Q _=>(∃a:Str,g = [.str a,.str a]/\PySem.PyData.strOk a=true/\∀c,CM H c->Q (.bl true) c) \/
 ∃(l m:A2) (b:Bool) (e f:A0 V),g = [.ref l,.ref m]/\H l=some (LT b e)/\H m=some (LT b f)/\e.length=f.length/\e.length<=1000 /\
  (∀(i:Nat) (x y:V) (c:Hp) (h:VK) (E:XK),e[i]?=some x->f[i]?=some y->CM H c->(∀d,CM c d->h (.bl true) d)->S [x,y] c h E)/\∀c,CM H c->Q (.bl true) c
theorem S5(T:Tx K mg){n:Nat}{S:Sp}(c:JC P w K mg base KB n T.aw.f T.aw.fd ["_law_found", "_law_due"] S):JC P w K mg base KB (n+1) T.aw.f T.aw.fd ["_law_found", "_law_due"] (Dk S):=by
 refine T.aw.F.ok Hi (fun Z H Q E h=>?_) (fun cdv A C s H Z Q E z h=>?_)
 .rcases h with⟨a,rfl,_⟩ | ⟨l,m,b,v,O,rfl,_⟩
  .rfl
  .rfl
 .refine⟨_,(B2 (G8 (M0 (D4 (Uh K) T.af C6 (A8 (pv 1) (A8 (M8 (A8 (U9 T.aV X1) (A8 (U9 T.bk y4) B0))) B0)))) (B2 (G8 (PW.pt (u7 (C2 r9 (D4 (M7 K) T.af C6 (A8 (pv 0) (A8 (U9 T.aV X1) B0))) (D4 (M7 K) T.af C6 (A8 (pv 1) (A8 (U9 T.aV X1) B0))) (C5 _)) (S6 (C2 r9 (D4 (M7 K) T.af C6 (A8 (pv 0) (A8 (U9 T.bk y4) B0))) (D4 (M7 K) T.af C6 (A8 (pv 1) (A8 (U9 T.bk y4) B0))) (C5 _))))) (B3 (C0 P1)) C7)
   (B3 (C0 (S0 (D9 N9 (D4 (J6 K) T.aj J3 (A8 (pv 0) B0)) (D4 (J6 K) T.aj J3 (A8 (pv 1) B0)) (C5 _)) (U2 (D4 (Y3 K) T.aR Y8 (A8 (K6 (N':=["_law_one", "_law_other"]) (cap:=[none,none]) (cl:=[]) (G0 trivial trivial) rfl (zHv K T.bB (A8 (pv 0) (A8 (pv 1) B0))) (fun _ _ _ _=>by exact⟨(RY K (n:=2) (C8 (LR 0) (C8 (LR 1) M5))),D8,(C9 T.aw c (z.mono (Nat.le_refl _)) (A8 (pv 0) (A8 (pv 1) B0)))⟩)) B0))))))) C7)
   (B2 (G8 (PW.pt (u7 (C2 zEk (pv 1) zCi (C5 _)) (S6 (M0 (D4 (M7 K) T.af C6 (A8 (pv 1) (A8 (U9 T.br Lc) B0))))))) (B3 (C0 (S0 (D9 (Vs K z.units) (pv 0) (pv 1) (C5 _)) (U2 (D9 N9 (D4 (M7 K) T.af C6 (A8 (pv 0) (A8 (U9 T.br Lc) B0))) (D4 (M7 K) T.af C6 (A8 (pv 1) (A8 (U9 T.br Lc) B0))) (C5 _)))))) C7)
   (B2 (G8 (M0 (D4 (M7 K) T.af C6 (A8 (pv 1) (A8 (U9 T.bs Hm) B0)))) (B3 (C0 (S0 (D4 (M7 K) T.af C6 (A8 (pv 0) (A8 (U9 T.bs Hm) B0))) (U2 (D9 (Vs K z.units) (pv 0) (pv 1) (C5 _)))))) C7)
   (B3 (C0 (S0 (D4 (M7 K) T.af C6 (A8 (pv 0) (A8 (U9 T.bD Wn) B0))) (S0 (zEd (D4 (M7 K) T.af C6 (A8 (pv 0) (A8 (U9 T.bs Hm) B0)))) (U2 (D9 (Vs K z.units) (pv 0) (pv 1) (C5 _)))))))))),?_⟩
  rcases h with⟨b,rfl,ob,q⟩ | ⟨l,m,b,v,O,rfl,hl,hm,B,len,hS,q⟩
  .refine A5 rfl ⟨by show 2<=sizeLine;decide,fun t G=>?_⟩;have j:=CM.new (o:=.tup [.ty "list",.ty "tuple"]) G;refine⟨.str b,t,["list", "tuple"],_,false,rfl,A9,.str b,.inl ⟨b,rfl⟩,rfl,?_⟩;generalize IU H t (.tup [.ty "list",.ty "tuple"])=R at j⊢;refine A5 rfl (T8 ?_);refine A5 rfl ⟨rfl,A5 rfl (T8 ?_)⟩;refine A5 rfl ⟨.str b, "str",_,true,rfl,.str b,rfl,A5 rfl (Rs ?_)⟩;refine A5 rfl (A5 rfl (Uw ob ⟨_,rfl,Rs ?_⟩));refine A5 rfl ⟨.str b, "str",_,true,rfl,.str b,rfl,A5 rfl ⟨.str b, "str",_,true,rfl,.str b,rfl,?_⟩⟩;exact⟨rfl,q _ j⟩
  .refine A5 rfl ⟨by show 2<=sizeLine;decide,fun t G=>?_⟩;have j:=CM.new (o:=.tup [.ty "list",.ty "tuple"]) G;have p:=j _ _ hl;have g:=j _ _ hm;refine⟨.ref m,t,["list", "tuple"],_,true,rfl,A9,Nz g,.inr ⟨m,_,rfl,zCw g⟩,zFx b,?_⟩;generalize IU H t (.tup [.ty "list",.ty "tuple"])=R at j p g⊢;refine A5 rfl (Rs ?_);refine A5 rfl ⟨.ref l, "list",_,b,rfl,Nz p,zCn b,A5 rfl ⟨.ref m, "list",_,b,rfl,Nz g,zCn b,rfl,?_⟩⟩;refine⟨false,congrArg V.bl (zDs b),T8 ?_⟩;refine A5 rfl ⟨.ref l, "tuple",_,_,rfl,Nz p,zEh b,A5 rfl ⟨.ref m, "tuple",_,_,rfl,Nz g,zEh b,rfl,?_⟩⟩;refine⟨false,congrArg V.bl (zDs !b),T8 ?_⟩;refine A5 rfl (B9 (a:=l) rfl (Xm p) (A5 rfl (B9 (a:=m) rfl (Xm g) ⟨rfl,A5 rfl ?_⟩)));refine Q6 (fun _=>?_) (fun h=>absurd (AK (congrArg (fun k:Nat=>V.int k) B)) h);refine A5 rfl (A5 rfl ⟨l,m,v,O,?_⟩);refine⟨rfl,zCl p g fun D U=>?_⟩;refine X2 (n:=v.length) (fun i σ r=>(∃W X,σ = [W,X])/\CM R r/\r D=some (.lst ((List.replicate i true).map V.bl))) ⟨⟨_,_,rfl⟩,CM.new U,A9⟩ ?_ ?_ ?_ ?_
   .rintro i σ r I ⟨_,d,_⟩;exact⟨_,_,_,_,Nc (d _ _ p),Nc (d _ _ g),Nat.le_of_eq B,AC I,AC (B▸I)⟩
   .rintro σ r ⟨_,d,_⟩;exact⟨_,_,Nc (d _ _ p),Nc (d _ _ g),Nat.le_of_eq B,rfl⟩
   .rintro i σ r x H3 N I ⟨⟨W,X,rfl⟩,d,J⟩ ⟨u,x,y,rfl,hu,rfl,L,hy⟩ hN;have M:=CM.new (o:=.tup [x,y]) hu;refine⟨u,A5 rfl ⟨KQ.of A9,rfl,_,A5 rfl (B9 rfl rfl ?_)⟩⟩;refine A5 rfl (A5 rfl (hS i x y _ _ _ (L _ (Nc (d _ _ p))) (hy _ (Nc (d _ _ g))) ((j.trans d).trans M) fun H4 Y=>?_));refine⟨_,Y _ _ (M _ _ J),by rw[AB,List.length_replicate,sizeLine_eq];omega,hN _ _ ⟨⟨_,_,rfl⟩,((d.trans M).trans Y).upd U,?_⟩⟩;rw[A9,List.replicate_succ',AL];rfl
   .rintro σ r ⟨_,d,J⟩;have e:(List.replicate v.length true).all id=true:=CI.mpr fun x L=>(List.mem_replicate.mp L).2;have q':Q (.bl ((List.replicate v.length true).all id)) r:=e.symm▸q _ (j.trans d);exact⟨D,_,rfl,IW.of J,q'⟩
def Fe:Sp:=fun d H Q _=>∃(l m:A2) (a b:A0 (A2×A0 Str)),d = [.ref l,.ref m]/\H l=some (.lst (a.map fun t=>V.ref t.1))/\H m=some (.lst (b.map fun t=>V.ref t.1))/\(∀t∈a,H t.1=some (.lst (t.2.map V.str)))/\(∀t∈b,H t.1=some (.lst (t.2.map V.str))) /\
 (a.map fun t=>t.2) =(b.map fun t=>t.2)/\(∀t∈a,t.2.length<=100/\∀y∈t.2,PySem.PyData.strOk y=true)/\a.length<=1000/\∀c,CM H c->Q (.bl true) c
theorem Su{vs:A0 V}{H:Hp}{Q:VK}{E:XK}(h:Fe vs H Q E):Dk (Dk (Dk Je)) vs H Q E:=by
 obtain⟨l,m,F,G,rfl,p,r,d,v,e,j,f,q⟩:=h;have le:=congrArg List.length e;rw[AB,AB]at le;refine .inr ⟨l,m,true,_,_,rfl,p,r,by rw[AB,AB,le],by rw[AB];exact f,fun i x y I J E b c s w=>?_,q⟩;rw[AG]at b c;obtain⟨t,k,rfl⟩:=AZ.mp b;obtain⟨u,n,rfl⟩:=AZ.mp c;have A:t.2=u.2:=by
  have o:=congrArg (fun z:A0 (A0 Str)=>z[i]?) e;rw[AG,AG,k,n]at o;exact BA o
 have mt:=AM k;refine .inr ⟨t.1,u.1,true,t.2.map V.str,t.2.map V.str,rfl,s _ _ (d t mt),A▸s _ _ (v u (AM n)),rfl,by rw[AB];have:=(j t mt).1;omega,fun i x y B C E b c K g=>?_,w⟩;cases BA (b.symm.trans c);rw[AG]at b;obtain⟨a,D,rfl⟩:=AZ.mp b;exact .inl ⟨a,rfl,(j t mt).2 a (AM D),g⟩
theorem Dz(T:Tx K mg):JC P w K mg base KB 3 T.aw.f T.aw.fd ["_law_found", "_law_due"] Fe :=
 (S5 T (S5 T (S5 T zAj))).imp fun _ _ _ _ h=>Su h
end
def Ti:∀{a b:A0 Str},TS.NZ a=TS.NZ b->a=b
 | [],[],_=>rfl
 | [],_::_,h=>by cases h
 | _::_,[],h=>by cases h
 | x::a,y::b,h=>by
  obtain⟨c,d⟩:=FS h;rw[Wv c,Ti d]
def Ou{a b:A0 (A0 Str)}(h1:a.Pairwise fun x y=>TS.JU (TS.NZ y) (TS.NZ x)=false)(h2:b.Pairwise fun x y=>TS.JU (TS.NZ y) (TS.NZ x)=false)(h:a.Perm b):a=b :=
 HZ (fun x y _ _ h1 h2=>Ti (TS.MU _ _ h2 h1)) h1 h2 h
def MB.one{ns:A0 Str}{ks:A0 (Str×Str)}{A a:A0 Nat}(h:MB ns ks A)(h':MB ns ks a)(i:Nat):A.getD i 0=a.getD i 0:=CN fun j=>B_.mpr ((h.bit i j).trans (h'.bit i j).symm)
def LH.ext{n m:Nat}{A a B b:A0 Nat}(c:∀i,A.getD i 0=a.getD i 0)(d:∀i,B.getD i 0=b.getD i 0):LH n A B m↔LH n a b m:=by
 unfold LH JL P8 Ej;simp only[c,d]
def KG.ext{n m:Nat}{A a B b:A0 Nat}(c:∀i,A.getD i 0=a.getD i 0)(d:∀i,B.getD i 0=b.getD i 0):KG n A B m↔KG n a b m:=by
 unfold KG;rw[LH.ext c d];unfold P8 Ej;simp only[c,d]
def U_(a:A0 (A0 Str)):PyData:=.list (a.map sd)
def Wo{K:PySem.W.Frag}{H:Hp}{r:A2}{a:A0 (A2×A0 Str)}(b:H r=some (.lst (a.map fun t=>V.ref t.1)))(c:∀t∈a,H t.1=some (.lst (t.2.map V.str))):Rp K H (U_ (a.map fun t=>t.2)) (.ref r):=by
 unfold U_;simp only[Rp];refine⟨r,_,rfl,IW.of b,?_⟩;clear b
 induction a with
 | nil=>simp[PL]
 | cons t a d =>
  show PL K H (sd t.2 ::(a.map fun t=>t.2).map sd) (V.ref t.1::a.map fun t=>V.ref t.1);simp only[PL];exact⟨_,_,rfl,Hn (IW.of (c t (BG ..))),d fun u e=>c u (A_ _ e)⟩
def zDk{c:A0 (A0 Str)}(h:∀l∈c,∀y∈l,O6 y=true):Pl (U_ c):=by
 have e:∀c:A0 (A0 Str),(∀l∈c,∀y∈l,O6 y=true)->PyData.canLayAll0 (c.map sd)=true/\PyData.depthAll (c.map sd)<=10:=fun c=>by
  induction c with
  | nil=>exact fun _=>⟨rfl,by simp[PyData.depthAll]⟩
  | cons l c f =>
   intro h;obtain⟨g,j⟩:=f fun u i=>h u (A_ _ i);have p:=Jn (h l (BG ..));have d:(sd l).depth<=10:=by
    unfold sd;rw[PyData.depth];have:=g7 l;omega
   rw[BB,PyData.canLayAll0,PyData.depthAll,p.1,g];exact⟨rfl,by omega⟩
 obtain⟨a,b⟩:=e c h;refine⟨by unfold U_;rw[PyData.canLay0];exact a,?_⟩;unfold U_;rw[PyData.depth];omega
def TJ(a:A0 (A0 (Str×Str))):PyData:=.list (a.map fun b=>.list (b.map pd))
def Kw{K:PySem.W.Frag}{H:Hp}{r:A2}{a:A0 LP}(b:H r=some (.lst (a.map fun t=>V.ref t.1)))(c:∀t∈a,K_ H t):Rp K H (TJ (a.map fun t=>nw t.2)) (.ref r):=by
 unfold TJ;simp only[Rp];refine⟨r,_,rfl,IW.of b,?_⟩;clear b
 induction a with
 | nil=>simp[PL]
 | cons t a d =>
  show PL K H (.list ((nw t.2).map pd) ::(a.map fun t=>nw t.2).map fun e=>.list (e.map pd)) (V.ref t.1::a.map fun t=>V.ref t.1);simp only[PL];refine⟨_,_,rfl,?_,d fun u f=>c u (A_ _ f)⟩;have h:=c t (BG ..);have:=y0 (K:=K) (ps:=t.2) h.1 h.2;unfold nw;rw[BO];exact this
def Wp{e:A0 (A0 (Str×Str))}(h:∀l∈e,∀k∈l,PySem.PyData.strOk k.1=true/\PySem.PyData.strOk k.2=true):Pl (TJ e):=by
 have n:∀l:A0 (Str×Str),(∀k∈l,PySem.PyData.strOk k.1=true/\PySem.PyData.strOk k.2=true)->PyData.canLayAll0 (l.map pd)=true/\PyData.depthAll (l.map pd)<=5:=fun l=>by
  induction l with
  | nil=>exact fun _=>⟨rfl,by simp[PyData.depthAll]⟩
  | cons k l f =>
   intro h;obtain⟨g,o⟩:=f fun u i=>h u (A_ _ i);have m:=h k (BG ..);have d:(pd k).depth<=5:=by simp[pd,PyData.depth,PyData.depthAll]
   rw[BB,PyData.canLayAll0,PyData.depthAll,Ko m.1 m.2,g];exact⟨rfl,by omega⟩
 have p:∀e:A0 (A0 (Str×Str)),(∀l∈e,∀k∈l,PySem.PyData.strOk k.1=true/\PySem.PyData.strOk k.2=true)->PyData.canLayAll0 (e.map fun j=>PyData.list (j.map pd))=true/\PyData.depthAll (e.map fun j=>PyData.list (j.map pd))<=10:=fun e=>by
  induction e with
  | nil=>exact fun _=>⟨rfl,by simp[PyData.depthAll]⟩
  | cons l e f =>
   intro h;obtain⟨g,o⟩:=f fun u i=>h u (A_ _ i);obtain⟨q,r⟩:=n l (h l (BG ..));have c:PyData.canLay0 (.list (l.map pd))=true:=by rw[PyData.canLay0];exact q
   have d:(PyData.list (l.map pd)).depth<=10:=by rw[PyData.depth];omega
   rw[BB,PyData.canLayAll0,PyData.depthAll,c,g];exact⟨rfl,by omega⟩
 obtain⟨a,b⟩:=p e h;refine⟨by unfold TJ;rw[PyData.canLay0];exact a,?_⟩;unfold TJ;rw[PyData.depth];omega
def Yb{α:Type}{J:It}{l D:A2}{H:Hp}{xs:A0 α}{g:α->V}{f:α->A0 Str}{r:St}{B:A4 V}{C:TE}{Q:St->Hp->Prop}(as:LA J (xs.map g) l H)(L:xs.length<=7000)(E:H D=none)
  (step:∀x∈xs,∀G (R:VK),CM H G->(∀z o,G z=none->CM G o->o z=some (.lst ((f x).map V.str))->R (.ref z) o)->C (some (g x)::r) G R)
  (q:∀σ G (c:A0 (A2×A0 Str)),CM H G->G D=some (.lst (c.map fun t=>V.ref t.1))->UH H G c->(∀t∈c,t.1≠D)->(c.map fun t=>t.2)=xs.map f->Q σ G):Y7 (J7 0) X4 (T7 D C) J (B::r) (IU H D (.lst [])) Q:=by
 refine G7 as (fun i σ G=>(∃v,σ=v::r)/\CM H G/\∃c:A0 (A2×A0 Str),G D=some (.lst (c.map fun t=>V.ref t.1))/\UH H G c/\(∀t∈c,t.1≠D)/\(c.map fun t=>t.2) =(xs.take i).map f) ⟨⟨_,rfl⟩,CM.new E,[],A9,⟨fun t h=>absurd h BH,GQ,fun t h=>absurd h BH⟩,fun t h=>absurd h BH,rfl⟩ (fun i σ G _ h=>h.2.1.at l) ?_ ?_
 .rintro i σ G y N F ⟨⟨B,rfl⟩,k,c,p,j,s,n⟩ M;rw[AG]at F;obtain⟨m,u,rfl⟩:=AZ.mp F;have S:=(AD.mp u).1;have T:c.length=i:=by
   have:=congrArg List.length n;rw[AB,AB,AR]at this;omega
  refine Q4 (step m (AM u) G _ k fun z o w A O=>?_);have I:z≠D:=(B1 p w).symm;refine⟨_,A _ _ p,by rw[AB,sizeLine_eq];omega,M _ _ ⟨⟨_,rfl⟩,(k.trans A).upd E,c ++ [(z,f m)],?_,⟨fun t d=>?_,?_,fun t d=>?_⟩,fun t d=>?_,?_⟩⟩
  .rw[A9,AL];rfl
  .rcases AS.mp d with h | h
   .rw[B6 (s t h)];exact A _ _ (j.at_ t h)
   .rw[AH.mp h,B6 I];exact O
  .rw[AL];refine FO.mpr ⟨j.nd,ED _ _,fun a P b K e=>?_⟩;obtain⟨t,d,rfl⟩:=AI.mp P;rw[GW,AH]at K;rw[K]at e;have:=j.at_ t d;rw[e,w]at this;cases this
  .rcases AS.mp d with h | h
   .exact j.new t h
   .rw[AH.mp h];exact k.free w
  .rcases AS.mp d with h | h
   .exact s t h
   .rw[AH.mp h];exact I
  .rw[AL,n,I_ u,AL];rfl
 .rintro σ G ⟨_,k,c,p,j,s,n⟩;rw[AB,BP]at n;exact q σ G c k p j s n
def Bp:∀a b:A0 (Str×Str),PyData.eqvAll (a.map pd) (b.map pd)=decide (a=b)
 | [],[]=>by simp[PyData.eqvAll]
 | [],_::_=>by simp[PyData.eqvAll]
 | _::_,[]=>by simp[PyData.eqvAll]
 | x::a,y::b=>by
  rw[BB,BB,PyData.eqvAll,Bp a b,Xk];by_cases d:x=y
  .by_cases c:a=b
   .rw[AK c,d,c];simp
   .rw[AX c];simp[c]
  .simp[d]
def Pw(a b:A0 (Str×Str)):PyData.eqv (.list (a.map pd)) (.list (b.map pd))=decide (a=b):=by
 rw[PyData.eqv,Bp]
def Vv{a b:A0 (A0 (Str×Str))}(h1:a.Pairwise fun x y=>TS.JU (TS.NE y) (TS.NE x)=false)(h2:b.Pairwise fun x y=>TS.JU (TS.NE y) (TS.NE x)=false)(h:a.Perm b):a=b :=
 HZ (fun x y _ _ h1 h2=>Os (TS.MU _ _ h2 h1)) h1 h2 h
def Oe(k:A0 (Str×Str)):∀a:A0 (A0 (Str×Str)),((a.map fun l=>PyData.list (l.map pd)).any fun z=>PyData.eqv z (.list (k.map pd)))=decide (k∈a)
 | []=>by simp
 | l::r=>by
  rw[BB,GH,Pw,Oe k r];by_cases h:l=k
  .subst h;simp
  .rw[AX h,HU];exact IS.mpr ⟨A_ _,fun z=>(AV.mp z).resolve_left fun y=>h y.symm⟩
def Yj{K:PySem.W.Frag}{H:Hp}{t:LP}(h:K_ H t):Rp K H (.list ((nw t.2).map pd)) (.ref t.1):=by
 have a:(nw t.2).map pd=t.2.map fun q=>pd q.2:=by unfold nw;rw[BO];rfl
 rw[a];exact y0 h.1 h.2
def zAm{ks:A0 (Str×Str)}(h:∀k∈ks,PySem.PyData.strOk k.1=true/\PySem.PyData.strOk k.2=true):Pl (.list (ks.map pd)):=by
 have c:∀l:A0 (Str×Str),(∀k∈l,PySem.PyData.strOk k.1=true/\PySem.PyData.strOk k.2=true)->PyData.canLayAll0 (l.map pd)=true/\PyData.depthAll (l.map pd)<=5:=fun l=>by
  induction l with
  | nil=>exact fun _=>⟨rfl,by simp[PyData.depthAll]⟩
  | cons k l d =>
   intro h;obtain⟨e,g⟩:=d fun u f=>h u (A_ _ f);obtain⟨a,b⟩:=h k (BG ..);rw[BB,PyData.canLayAll0,PyData.depthAll,e];refine⟨by simp[pd,PyData.canLay0,PyData.canLayAll0,a,b],?_⟩;have:(pd k).depth<=3:=by simp[pd,PyData.depth,PyData.depthAll]
   omega
 obtain⟨a,b⟩:=c ks h;refine⟨by rw[PyData.canLay0];exact a,?_⟩;rw[PyData.depth];omega
section
variable{P:A6}{w:F1}{K:PySem.W.Frag}{mg:Str->A4 A1}{base:IV}
theorem zEy{J:It}{a D:A2}{ps:A0 JI}{H:Hp}{Q:St->Hp->Prop}(as:LA J (J4 ps) a H)(o:∀q∈ps,E2 H q)(p:ps.length<=200)(f:H D=none)
  (q:∀σ G,CM H G->G D=some (.lst ((((ps.map fun q=>q.2).filter fun k=>decide (k.2 =("in":Str))).map fun k=>k.1).map V.str))->Q σ G) :
  Y7 (UL K 2 (Ee (J7 0) (Ee (J7 1) UX))) (zAp (UQ rEq (Dr 1) (tC (.str "in")))) (T7 D (Dr 0)) J [none,none] (IU H D (.lst [])) Q:=by
 refine G7 as (fun i σ G=>(∃g j,σ = [g,j])/\CM H G/\G D=some (.lst (((ps.take i).filter fun r=>decide (r.2.2 =("in":Str))).map fun r=>V.str r.2.1))) ⟨⟨_,_,rfl⟩,CM.new f,A9⟩ (fun i σ G _ h=>h.2.1.at a) ?_ ?_
 .rintro i σ G v N e ⟨⟨g,j,rfl⟩,d,b⟩ l;unfold J4 at e;rw[AG]at e;obtain⟨r,m,rfl⟩:=AZ.mp e;refine⟨r.1,_,rfl,KQ.of (d _ _ (o r (AM m))),rfl,⟨_,_,rfl,⟨_,_,rfl,⟨rfl,?_⟩⟩⟩⟩;refine A5 rfl ⟨rfl,_,rfl,?_⟩;have n:(ps.take (i+1)).filter (fun r=>decide (r.2.2 =("in":Str))) =(ps.take i).filter (fun r=>decide (r.2.2 =("in":Str)))++if decide (r.2.2 =("in":Str))=true then [r]else []:=by
   rw[I_ m,DN,CU,EY]
  have s:=BR (fun r:JI=>decide (r.2.2 =("in":Str))) (ps.take i);rw[AR]at s;rw[Q0];refine Q6 (fun c=>A5 rfl ⟨_,b,by rw[AB,sizeLine_eq];omega,l _ _ ⟨⟨_,_,rfl⟩,d.upd f,?_⟩⟩) (fun c=>l _ _ ⟨⟨_,_,rfl⟩,d,?_⟩)
  .rw[A9,n,AU c,AL];rfl
  .rw[n,AO c,CV];exact b
 .rintro σ G ⟨_,d,b⟩;unfold J4 at b;rw[AB,BP]at b;refine q σ G d ?_;rw[b,List.filter_map,BO,BO];rfl
theorem JS:IT ["_law_left_here", "_law_web", "_law_view", "_law_due", "_law_sets_here", "_law_told", "_law_some", "_law_words", "_law_bent_here"] ["_law_left_here", "_law_web", "_law_view"] (B5 OV):=LC
def Rz(C:A2):Sp:=fun f H Q _=>∃(p x v:A2) (c:Int) (a:A0 Str) (b:A0 (Str×Str)) (d:A0 JI) (A B:A0 Nat),f = [.ref p,.ref x,.ref v]/\JE H p c/\c<=800000/\JV C H x a d/\KO H p v a b A B/\(∀y∈a,O6 y=true)/\a.length<=10/\(∀k,k∈b↔k∈d.map fun q=>q.2) /\
 ∀e,Sm [p] H e->Q (.bl true) e
set_option maxHeartbeats 8000000 in
theorem Fd(T:Tx K mg):JC P w K mg base KB 20 T.a5.f T.a5.fd ["_law_left_here", "_law_web", "_law_view"] (Rz T.ab):=by
 refine T.a5.F.o1 JS fun cdv A outer s H vs Q E J h=>?_
 .obtain⟨p,x,v,c,d,ks,U,A,B,rfl,L0,hc,W0,V0,nm,ln,hk,q⟩:=h;have okw:=W0.1;have nd:=okw.nd;obtain⟨_,mA0,mB0⟩:=id V0;have mA:=mA0.mono (ks':=(U.map fun q=>q.2).map fun k=>(k.2,k.1)) fun k=>by rw[AI,AI];exact⟨fun⟨j,h,e⟩=>⟨j,(hk j).mp h,e⟩,fun⟨j,h,e⟩=>⟨j,(hk j).mpr h,e⟩⟩
  have mB:=mB0.mono hk;refine⟨_,(B2 (C3 (i:=3) JS.nd rfl (.inl rfl) (C9 T.bc (Iq T) (Rm J) (A8 (pv 2) (A8 (K6 (N':=["_law_mask", "_law_view"]) (cap:=[none,some 2]) (cl:=[("_law_view",_)]) (G0 ⟨⟨rfl,rfl,rfl,rfl⟩,trivial⟩ ⟨rfl,trivial⟩) rfl (MQ K (C9 T.ay (X0 T) (Rm J) (A8 (pv 2) B0))) (fun _ _ _ _=>by exact⟨(LR 0),(P9 (M0 (C9 T.aQ (y7 T) (Rm J) (A8 (pv 1) (A8 (pv 0) B0))))),(pv 0)⟩)) B0))))
   (B2 (G8 (C2 zBs (D4 (J6 K) T.aj J3 (A8 (pv 3) B0)) B8 (C5 _)) (B3 (C0 P1)) C7)
   (B2 (C3 (i:=4) JS.nd rfl (.inl rfl) (C9 T.aM (Y4 T) (Rm J) (A8 (pv 1) B0)))
   (B2 (C3 (i:=5) JS.nd rfl (.inl rfl) (C9 T.aX (Be T) (Rm J) (A8 (pv 1) B0)))
   (B2 (G8 (PW.pt (u7 (U1 (M0 (C9 T.aw (Dz T) (Rm J) (A8 (pv 4) (A8 (pv 3) B0))))) (u7 (C2 r9 (D4 (J6 K) T.aj J3 (A8 (pv 5) B0)) (D4 (J6 K) T.aj J3 (A8 (pv 3) B0)) (C5 _)) (S6 (C2 (Ys K J.units) (pv 5) (D4 (Gw K J.units) T.ao G9 (A8 (pv 5) B0)) (C5 _)))))) (B3 (C0 P1)) C7)
   (B2 (G8 (C2 (Ys K J.units) (D4 (Do K J.units) T.ao G9 (A8 (K6 (N':=["_law_words"]) (cap:=[none]) (cl:=[]) (G0 trivial trivial) rfl (MQ K (pv 5)) (fun _ _ _ _=>by exact⟨(LR 0),D8,(K6 (N':=["_law_name", "_law_word"]) (cap:=[none,none]) (cl:=[]) (G0 trivial trivial) rfl (MQ K (pv 0)) (fun _ _ _ _=>by exact⟨(RY K (n:=2) (C8 (LR 0) (C8 (LR 1) M5))),(P9 (C2 N9 (pv 1) K1 (C5 _))),(pv 0)⟩))⟩)) B0)) (pv 3) (C5 _)) (B3 (C0 P1)) C7)
   (B2 (K2 PassesOwn.never rfl (MQ K (pv 4)) (D6 (i:=6) JS.nd rfl (.inl rfl))
   (B2 (C3 (i:=7) JS.nd rfl (.inl rfl) (C9 T.aW (Af T) (Rm J) (A8 (pv 1) (A8 (pv 6) B0))))
   (B3 (G8 (PW.pt (u7 (C2 (u9 K J.units) (pv 7) (pv 5) rfl) (S6 (C2 Pc (C9 T.a9 (Jo T) (Rm J) (A8 (pv 1) (A8 (pv 6) B0))) P1 (C5 _))))) (B3 (C0 P1)) C7))))
   (B2 (K2 PassesOwn.never rfl (MQ K (pv 5)) (D6 (i:=7) JS.nd rfl (.inl rfl))
   (B2 (G8 (PW.pt (u7 (C2 Pc (C9 T.aB (Q8 T) (Rm J) (A8 (pv 1) (A8 (pv 7) B0))) P1 (C5 _)) (S6 (U1 (M0 (C9 T.aJ (S3 T) (Rm J) (A8 (pv 2) (A8 (pv 7) B0)))))))) (B3 (C0 P1)) C7)
   (B3 (G8 (C2 (Ys K J.units) (pv 7) (K8 B0) (C5 _)) (B2 (C3 (i:=8) JS.nd rfl (.inl rfl) (C9 T.bd (Ht T) (Rm J) (A8 (pv 0) (A8 (pv 7) B0))))
   (B3 (G8 (C2 r9 (C9 T.aB (Q8 T) (Rm J) (A8 (pv 1) (A8 (pv 8) B0))) (C9 T.aJ (S3 T) (Rm J) (A8 (pv 2) (A8 (pv 8) B0))) (C5 _)) (B3 (C0 P1)) C7))) C7))))
   (B3 (C0 P1)))))))))),?_⟩
  refine B7 fun N1 hN1=>?_;refine A5 rfl ?_;refine A5 rfl ⟨p,v,d,ks,A,B,rfl,V0,ln,fun l0 Ms0 H0 hl0 s0 el0 nd0 mm0 lM0=>?_⟩;refine⟨l0,rfl,⟨_,IW.of el0⟩,fun D hD=>?_⟩;refine Jm J1 (ND (IW.of el0)) (fun m=>pB (JL B m/\∀j,m.testBit j=true↔P8 d.length A B m j)) (by omega) hD (fun m hm G1 X M hM=>?_) (fun m hm G1 X M hM=>A5 rfl hM) fun σ' G1 X e1=>?_
  .refine A5 rfl (A5 rfl ⟨p,v,m,d,ks,A,B,rfl,(V0.same s0).same X,by omega,fun b hb=>⟨b,rfl,?_⟩⟩);rw[Yq hb];exact hM G1 fun b o e=>e
  have X:=s0.trans X;have nd1:=nd0.sublist (DE (p:=fun m=>pB (JL B m/\∀j,m.testBit j=true↔P8 d.length A B m j)));have mm1:∀m,m∈Ms0.filter (fun m=>pB (JL B m/\∀j,m.testBit j=true↔P8 d.length A B m j))↔KG d.length A B m:=fun m=>by
   rw[BI,mm0,QD];exact⟨fun h=>⟨h.1,fun j y=>(h.2.2 j).mpr y⟩,fun h=>⟨h.1,h.1.2.1,fun j=>⟨fun y=>h.1.2.2 j y,h.2 j⟩⟩⟩
  have lM1:=Nat.le_trans (BR (fun m=>pB (JL B m/\∀j,m.testBit j=true↔P8 d.length A B m j)) Ms0) lM0;generalize Ms0.filter (fun m=>pB (JL B m/\∀j,m.testBit j=true↔P8 d.length A B m j))=Ms at e1 nd1 mm1 lM1;refine⟨p,v,D,d,ks,A,B,Ms,rfl,V0.same X,by omega,e1,by omega,fun r ts H2 s2 hr2 er2 LL2 nr2 pm2 srt2=>?_⟩;have s2:=X.trans s2;have ldue:ts.length=Ms.length:=by have:=pm2.length_eq;rw[AB,AB]at this;exact this
  refine hN1 _ _ (B7 fun N2 hN2=>?_);refine A5 rfl (B9 (a:=r) rfl (.inl (IW.of er2)) (B9 rfl rfl ⟨_,rfl,?_⟩));rw[AB];refine Q6 (fun c1=>q _ s2.sm) (fun c1=>?_);have l300:Ms.length<=300:=by
   have:¬(ts.length:Int)>300:=fun y=>c1 (AK y);omega
  refine hN2 _ _ (B7 fun N3 hN3=>?_);have pmX:∀{A' B' Ms':A0 Nat},MB d ((U.map fun q=>q.2).map fun k=>(k.2,k.1)) A'->MB d (U.map fun q=>q.2) B'->Ms'.Nodup->(∀m,m∈Ms'↔KG d.length A' B' m)->Ms'.Perm Ms:=fun L N O S=>(EU O nd1).mpr fun m=>by rw[S,mm1];exact KG.ext (L.one mA) (N.one mB)
  refine A5 rfl ⟨x,d,U,rfl,W0.same s2,ln,fun A' B' Ms' L N O S=>⟨fun r2 ts2 H3 le2 s3 hr3 er3 LL3 nr3 pm3 srt3=>?_,fun gt=>absurd (pmX L N O S).length_eq (by omega)⟩⟩;have Z:(ts2.map fun t=>t.2)=ts.map fun t=>t.2:=Ou (BX.mpr srt3) (BX.mpr srt2) (pm3.trans (((pmX L N O S).map _).trans pm2.symm));clear pm3 srt3 L N O S;have s3':=s2.trans s3;refine hN3 _ _ (B7 fun N4 hN4=>?_);refine A5 rfl ⟨x,d,U,rfl,W0.same s3',ln,fun A' B' Ms' L N O S=>⟨by rw[(pmX L N O S).length_eq];exact l300,fun r3 Y H4 W hr4 er4 LL4 nr4 pm4 srt4=>?_⟩⟩;have pm5:=pm4.trans ((pmX L N O S).map fun m=>U5 d U (JX d m));clear pm4 L N O S hN3 hN2 hN1;have sH4:=s3'.trans W;have er2':=(s3.trans W) _ _ er2;have er3':=W _ _ er3;have at2:∀t∈ts,H4 t.1=some (.lst (t.2.map V.str)):=fun t g=>(s3.trans W) _ _ (LL2.at_ t g);have at3:∀t∈ts2,H4 t.1=some (.lst (t.2.map V.str)):=fun t g=>W _ _ (LL3.at_ t g);have at4:=LL4.at_;have lus:Y.length=Ms.length:=by have:=pm5.length_eq;rw[AB,AB]at this;exact this
  have lts2:ts2.length=Ms.length:=by have:=congrArg List.length Z;rw[AB,AB,ldue]at this;exact this
  have setsIn:∀t:A2×A0 Str,t.2∈ts.map (fun t=>t.2)->∃m,m∈Ms/\t.2=JX d m:=fun t g=>by
   obtain⟨m,hm,e⟩:=AI.mp (pm2.mem_iff.mp g);exact⟨m,hm,e.symm⟩
  have in2:∀t∈ts2,∃m,m∈Ms/\t.2=JX d m:=fun t g=>setsIn t (Z▸AI.mpr ⟨t,g,rfl⟩);have tmem:∀ks',ks'∈Y.map (fun t=>nw t.2)↔R8 d U ks'=true:=fun ks'=>by
   rw[pm5.mem_iff];exact Ha nd (fun q hq=>okw.mem q hq) mA mB mm1 ks'
  have wok:∀t∈Y,P5 d (nw t.2)=true:=fun t g=>by
   have:=(tmem (nw t.2)).mp (AI.mpr ⟨t,g,rfl⟩);unfold R8 at this;rw[BU]at this;exact this.1
  have sok:∀ks':A0 (Str×Str),P5 d ks'=true->∀k∈ks',PySem.PyData.strOk k.1=true/\PySem.PyData.strOk k.2=true:=fun ks' h k hk'=>by
   obtain⟨a1,a2⟩:=KC.mp h;exact⟨T2 (nm _ (a1▸AI.mpr ⟨k,hk',rfl⟩)),Xw _ (a2 k hk')⟩
  have W4:=W0.same sH4;have V4:=V0.same sH4;have L4:=L0.same sH4;have q4:∀H',Sm [p] H4 H'->Q (.bl true) H':=fun H' k=>q H' (sH4.sm.trans k);clear q LL2 LL3 LL4 hr2 hr3 hr4 s0 X s2 s3 s3' sH4 V0 W0 L0 e1 el0 hl0 hD mm0 nd0 lM0 er2 er3;refine hN4 _ _ (B7 fun N5 hN5=>?_);refine A5 rfl (A5 rfl ⟨r2,r,ts2,ts,rfl,er3',er2',at3,at2,Z,fun t g=>?_,by omega,fun H5 s5=>⟨true,rfl,T8 ?_⟩⟩)
  .obtain⟨m,_,e⟩:=in2 t g;have sub:=P2 d m;rw[e];exact⟨Nat.le_trans sub.length_le (by omega),fun y hy=>T2 (nm y (sub.subset hy))⟩
  refine A5 rfl (B9 (a:=r3) rfl (.inl (IW.of (s5 _ _ er4))) (A5 rfl (B9 (a:=r) rfl (.inl (IW.of (s5 _ _ er2'))) ⟨rfl,_,rfl,?_⟩)));rw[AB,AB,lus,ldue,AK rfl];refine T8 ?_;have at5:∀t∈Y,K_ H5 t:=fun t g=>E4 (at4 t g) s5;refine A5 rfl (A5 rfl ⟨r3,Y,rfl,IW.of (s5 _ _ er4),at5,fun l C hl pt srt'=>?_⟩);have u6:=CM.new (o:=.lst (C.map fun t=>V.ref t.1)) hl;have eus:(C.map fun t=>nw t.2)=Y.map fun t=>nw t.2:=Vv (BX.mpr srt') (BX.mpr srt4) (pt.map _);have I:(IU H5 l (.lst (C.map fun t=>V.ref t.1))) l=some (.lst (C.map fun t=>V.ref t.1)):=A9;have s6:=s5.trans u6;have at6:∀t∈Y,K_ (IU H5 l (.lst (C.map fun t=>V.ref t.1))) t:=fun t g=>E4 (at5 t g) u6;generalize IU H5 l (.lst (C.map fun t=>V.ref t.1))=H6 at I s6 at6⊢;have rp1:=Kw (K:=K) (s6 _ _ er4) at6;have rp2:=Kw (K:=K) I fun t g=>at6 t (pt.mem_iff.mp g);rw[eus]at rp2;have plT:Pl (TJ (Y.map fun t=>nw t.2)):=Wp fun l hl=>by
   obtain⟨t,g,rfl⟩:=AI.mp hl;exact sok _ (wok t g)
  refine Pg rp1 rp2 plT ⟨_,rfl,T8 (hN5 _ _ (B7 fun N6 hN6=>?_))⟩;clear hN5 hN4 rp1 rp2 I eus srt' pt;have W6:=W4.same s6;have V6:=V4.same s6;have L6:=L4.same s6;have I:=s6 _ _ er4;have ed6:=s6 _ _ er2';have es6:=s6 _ _ er3';have at7:∀t∈ts,H6 t.1=some (.lst (t.2.map V.str)):=fun t g=>s6 _ _ (at2 t g);have at8:∀t∈ts2,H6 t.1=some (.lst (t.2.map V.str)):=fun t g=>s6 _ _ (at3 t g);have q6:∀H',Sm [p] H6 H'->Q (.bl true) H':=fun H' k=>q4 H' (s6.sm.trans k);clear q4 W4 V4 L4 at4 at5 at2 at3 er4 er2' er3' s5 u6 s6;have tl:∀t∈Y,t.2.length<=10:=fun t g=>by
   have:=congrArg List.length (KC.mp (wok t g)).1;unfold nw at this;rw[AB,AB]at this;omega
  refine A5 rfl ⟨r3,rfl,⟨_,IW.of I⟩,fun D hD=>?_⟩;refine Yb (xs:=Y) (f:=fun t=>((nw t.2).filter fun k=>decide (k.2 =("in":Str))).map fun k=>k.1) (ND (IW.of I)) (by omega) hD (fun t mt G4 R W hR=>?_) fun σ' G4 vs' W eU LU nU mU=>?_
  .have LP4:=E4 (at6 t mt) W;refine A5 rfl ⟨t.1,rfl,⟨_,IW.of LP4.1⟩,fun E3 hE3=>?_⟩;exact zEy (ND (IW.of LP4.1)) LP4.2 (Nat.le_trans (tl t mt) (by decide)) hE3 fun σ' G5 s5 e5=>hR E3 G5 hE3 s5 e5
  refine⟨D,vs',rfl,IW.of eU,LU.at_,fun z C hz pu srtu=>?_⟩;have uz:=CM.new (o:=.lst (C.map fun t=>V.ref t.1)) hz;have ez:(IU G4 z (.lst (C.map fun t=>V.ref t.1))) z=some (.lst (C.map fun t=>V.ref t.1)):=A9;have aU:∀t∈C,(IU G4 z (.lst (C.map fun t=>V.ref t.1))) t.1=some (.lst (t.2.map V.str)):=fun t g=>uz _ _ (LU.at_ t (pu.mem_iff.mp g));have W:=W.trans uz;generalize IU G4 z (.lst (C.map fun t=>V.ref t.1))=G5 at W ez aU⊢;have pU:(C.map fun t=>t.2).Perm (Ms.map (JX d)):=by
   refine(pu.map _).trans ?_;rw[mU];have h1:(Y.map fun t=>((nw t.2).filter fun k=>decide (k.2 =("in":Str))).map fun k=>k.1) =(Y.map fun t=>nw t.2).map fun ks=>(ks.filter fun k=>decide (k.2 =("in":Str))).map fun k=>k.1:=by rw[BO];rfl
   rw[h1];refine(pm5.map _).trans ?_;rw[BO];refine IB (EV fun m _=>?_);exact Ts (P2 d m) nd
  have el:(C.map fun t=>t.2)=ts.map fun t=>t.2:=Ou (BX.mpr srtu) (BX.mpr srt2) (pU.trans pm2.symm);have nml:∀l∈C.map (fun t=>t.2),∀y∈l,O6 y=true:=fun l hl y hy=>by
   obtain⟨m,_,rfl⟩:=AI.mp (pU.mem_iff.mp hl);exact nm y ((P2 d m).mem hy)
  have q1:=Wo (K:=K) ez aU;have q2:=Wo (K:=K) (W _ _ ed6) fun t g=>W _ _ (at7 t g);rw[<-el]at q2;refine A5 rfl (Pg q1 q2 (zDk nml) ⟨_,rfl,T8 (hN6 _ _ ?_)⟩);clear hN6 q1 q2 nml el pU aU ez uz pu srtu mU nU LU eU hz at7 ed6;refine B7 fun N7 hN7=>?_;refine A5 rfl ⟨r2,rfl,⟨_,IW.of (W _ _ es6)⟩,O1 (ND (IW.of (W _ _ es6))) (fun j σ G=>(∃v6 v7,σ = [some (.ref p),some (.ref x),some (.ref v),some (.ref r),some (.ref r2),some (.ref r3),v6,v7,none])/\CM G5 G) ⟨⟨_,_,rfl⟩,fun b o e=>e⟩ (fun j σ G _ h=>h.2.at r2) ?_ ?_⟩
  .rintro j σ G y hy ⟨⟨v6,v7,rfl⟩,sG⟩ D1 hD1 _;rw[AG]at hy;obtain⟨t,g,rfl⟩:=AZ.mp hy;have mt:=AM g;obtain⟨m,hm,em⟩:=in2 t mt;have sub:=P2 d m;rw[<-em]at sub;refine Od fun M1 hM1=>?_;have s7:=W.trans sG;have e7:=s7 _ _ (at8 t mt);refine A5 rfl (A5 rfl ⟨x,t.1,t.2,d,U,rfl,W6.same s7,.inl (IW.of e7),fun y hy=>sub.subset hy,fun l hs G1 hl X hhs hw=>?_⟩);have ek:(d.map fun n=>(n,I9 t.2 hs n))=U5 d U t.2:=EV fun n _=>by rw[Ws hhs]
   rw[ek]at hw;obtain⟨ps,el,pin,ep⟩:=hw;have LPl:K_ G1 (l,ps):=⟨el,pin⟩;have nwe:nw ps=U5 d U t.2:=ep;refine hM1 _ _ ?_;have s8:=s7.trans X;have mem:nw ps∈Y.map fun t=>nw t.2:=by rw[nwe,em];exact pm5.mem_iff.mpr (AI.mpr ⟨m,hm,rfl⟩)
   have wps:P5 d (nw ps)=true:=by
    obtain⟨t',ht',e'⟩:=AI.mp mem;rw[<-e'];exact wok t' ht'
   have rB:=Kw (K:=K) (s8 _ _ I) fun t g=>E4 (at6 t g) s8;have pT:=plT.1;unfold TJ at rB pT;rw[PyData.canLay0]at pT;refine A5 rfl (A5 rfl ⟨_,_,Yj (t:=(l,ps)) LPl,.inl rB,zAm (sok _ wps),pT,?_⟩);rw[AU rfl,Oe,AK mem];refine⟨_,rfl,T8 ?_⟩;refine A5 rfl (A5 rfl ⟨x,t.1,t.2,d,U,rfl,W6.same s8,.inl (IW.of (X _ _ e7)),fun y hy=>sub.subset hy,Nat.le_trans sub.length_le (by omega),nd.sublist sub,nm,fun b G2 hb s2=>?_⟩);have hbt:b=true:=hb.mpr (by rw[em];exact(As nd mA mB ((mm1 m).mp hm).1.1 fun x y ⟨q,h,e,_⟩=>e▸(okw.mem q h).1).mp ((mm1 m).mp hm));subst hbt;exact⟨_,_,rfl,rfl,⟨_,rfl,T8 (hD1 _ _ ⟨⟨_,_,rfl⟩,sG.trans (X.trans s2)⟩)⟩⟩
  rintro σ G ⟨⟨v6,v7,rfl⟩,sG⟩;refine hN7 _ _ (B7 fun N8 hN8=>?_);have s7:=W.trans sG;have nr:r3≠p:=fun e=>by
   obtain⟨a,b,e0,_⟩:=id L6;rw[e,e0]at I;have h:=HO.lst.inj (BA I);cases Y with
   | nil=>cases h
   | cons t Y=>cases(FS h).1
  refine A5 rfl ⟨r3,rfl,⟨_,IW.of (s7 _ _ I)⟩,O1 (ND (IW.of (s7 _ _ I))) (fun j σ G=>(∃v6 v7 v8,σ = [some (.ref p),some (.ref x),some (.ref v),some (.ref r),some (.ref r2),some (.ref r3),v6,v7,v8])/\Sm [p] H6 G/\∃c',JE G p c'/\c'<=c+2 *(j:Int)) ⟨⟨_,_,_,rfl⟩,s7.sm,c,L6.same s7,by omega⟩ (fun j σ G _ h o e=>by rw[s7 _ _ I]at e;cases e;exact h.2.1 _ _ I (by simpa using nr)) ?_ ?_⟩
  .rintro j σ G y hy ⟨⟨v6,v7,v8,rfl⟩,k,c',LG,hc'⟩ D1 hD1 _;have hj:j<Y.length:=by
    have:=(AD.mp hy).1
    rwa [AB]at this
   rw[AG]at hy;obtain⟨t,g,rfl⟩:=AZ.mp hy;have mt:=AM g;refine Od fun M1 hM1=>?_;have LPt:=Hq (at6 t mt) L6 k;have wt:=wok t mt;have tb:R8 d U (nw t.2)=true:=(tmem _).mp (AI.mpr ⟨t,mt,rfl⟩);have WG:=W6.sm L6 k;have VG:=V6.sm k;refine A5 rfl (A5 rfl ⟨x,t.1,d,U,t.2,rfl,WG,nm,⟨.inl LPt.1,LPt.2,fun q hq=>sok _ wt q.2 (AI.mpr ⟨q,hq,rfl⟩),Nat.le_trans (tl t mt) (by decide)⟩,fun G1 X=>?_⟩);have e1:R8 d U (t.2.map fun q=>q.2)=true:=tb;rw[e1];refine⟨_,_,rfl,rfl,⟨_,rfl,T8 ?_⟩⟩;have LP1:=E4 LPt X;refine A5 rfl (A5 rfl ⟨p,v,t.1,d,ks,A,B,U,t.2,rfl,VG.same X,okw,hk,LP1.1,LP1.2,wt,fun G2 s2=>?_⟩);rw[e1];refine⟨_,rfl,T8 (hM1 _ _ ?_)⟩;have LP2:=E4 LP1 s2;have s12:=X.trans s2;refine A5 rfl ⟨CK _,fun z hz=>⟨_,.list [],Yj (K:=K) (E4 LP2 (CM.new hz)),by simp only[Rp,PL];exact⟨z,_,rfl,IW.of A9,rfl⟩,zAm (sok _ wt),⟨rfl,by simp[PyData.depth,PyData.depthAll]⟩,?_⟩⟩;rw[show PyData.eqv (.list ((nw t.2).map pd)) (.list [])=decide (nw t.2 = [])from Pw (nw t.2) []];have s3:=s12.trans (CM.new (o:=.lst []) hz);have LP3:=E4 LP2 (CM.new (o:=.lst []) hz);generalize IU G2 z (.lst [])=G3 at s3 LP3⊢;refine⟨_,rfl,Q6 (fun c1=>?_) fun c1=>?_⟩
   .have ne:t.2≠[]:=fun e=>by
     have:nw t.2 = []:=by rw[e];rfl
     rw[AK this]at c1;exact absurd c1 (by decide)
    refine B7 fun M2 hM2=>?_;refine A5 rfl (A5 rfl ⟨p,c',t,d,rfl,LG.same s3,by omega,LP3,KC.mp wt,ne,Nat.le_trans (tl t mt) (by decide),fun u G4 k4 L4 LPu Wu=>?_⟩);have wu:P5 d (nw u.2)=true:=KC.mpr Wu;have lu:u.2.length<=200:=by
     have:=congrArg List.length Wu.1;unfold nw at this;rw[AB,AB]at this;omega
    have k5:Sm [p] H6 G4:=k.trans (s3.sm.trans k4);refine hM2 _ _ ?_;refine A5 rfl (A5 rfl ⟨x,u.1,d,U,u.2,rfl,W6.sm L6 k5,nm,⟨.inl LPu.1,LPu.2,fun q hq=>sok _ wu q.2 (AI.mpr ⟨q,hq,rfl⟩),lu⟩,fun G5 s5=>?_⟩);have LPu5:=E4 LPu s5;refine A5 rfl (A5 rfl ⟨p,v,u.1,d,ks,A,B,U,u.2,rfl,(V6.sm k5).same s5,okw,hk,LPu5.1,LPu5.2,wu,fun G6 s6=>⟨rfl,?_⟩⟩);rw[AK rfl];exact⟨_,rfl,T8 (hD1 _ _ ⟨⟨_,_,_,rfl⟩,k5.trans (s5.trans s6).sm,c'+2,L4.same (s5.trans s6),by omega⟩)⟩
   .exact hD1 _ _ ⟨⟨_,_,_,rfl⟩,k.trans s3.sm,c',LG.same s3,by omega⟩
  rintro σ G ⟨_,k,_⟩;exact hN8 _ _ (q6 _ k)
theorem MO:IT ["_law_script", "_law_k", "_law_left_here", "_law_names_here", "_law_strikes_here", "_law_view", "_law_web", "_law_told", "_law_words"] ["_law_script"] (B5 OY):=LC
def Kq(K:PySem.W.Frag):Sp:=fun b H Q _=>∃(u:A2) (a:A0 Int),b = [.ref u]/\IW K H u (a.map V.int)/\a.length<=63/\∀c,Q (.bl true) c
set_option maxHeartbeats 8000000 in
theorem zBk(T:Tx K mg){f:A2}{fd:JK}(F:SB K "law" "law" OY f fd):JC P w K mg base KB 21 f fd ["_law_script"] (Kq K):=by
 refine F.o1 MO fun cdv A outer s H vs Q E J h=>?_
 .obtain⟨u,xs,rfl,hS,hlen,q⟩:=h;refine⟨_,(B2 (K2 PassesOwn.never rfl (UB T.aO (A8 (D0 U4 (D4 (Oy rfl) T.bN zBh (A8 B8 (A8 (D4 (J6 K) T.aj J3 (A8 (pv 0) B0)) B0))) B8) B0)) (D6 (i:=1) MO.nd rfl (.inl rfl))
   (B2 (C3 (i:=2) MO.nd rfl (.inl rfl) (C9 T.ba (Iw T) (Rm J) (A8 (pv 0) (A8 (pv 1) B0))))
   (B2 (m9 (D0 U4 (K3 (OL K) (pv 2) B8 (fun _ _=>rfl)) B8) (Ek (pv 2) B8 b9))
   (B2 (C3 (i:=3) MO.nd rfl (.inl rfl) (C9 T.a3 (Hc T) (Rm J) (A8 (pv 2) (A8 (C9 T.bb (Hk T) (Rm J) (A8 (pv 2) B0)) B0))))
   (B2 (C3 (i:=4) MO.nd rfl (.inl rfl) (C9 T.aT (Bn T) (Rm J) (A8 (pv 2) (A8 (pv 3) B0))))
   (B2 (C3 (i:=5) MO.nd rfl (.inl rfl) (C9 T.a4 (Et T) (Rm J) (A8 (pv 3) (A8 (pv 4) B0))))
   (B2 (C3 (i:=6) MO.nd rfl (.inl rfl) (Rc T.bL (Hl T) (Rm J) rfl T.bK T.bz .nil M6 (A8 (pv 3) (A8 (pv 4) B0))))
   (B2 (G8 (U1 (M0 (C9 T.a5 (Fd T) (Rm J) (A8 (pv 2) (A8 (pv 6) (A8 (pv 5) B0)))))) (B3 (C0 P1)) C7)
   (B3 (G8 (C2 zDh (D4 (J6 K) T.aj J3 (A8 (pv 3) B0)) B8 (C5 _)) (B2 (C3 (i:=7) MO.nd rfl (.inl rfl) (C9 T.aX (Be T) (Rm J) (A8 (pv 6) B0)))
   (B3 (K2 PassesOwn.never rfl (MQ K (C9 T.aL (r6 T) (Rm J) (A8 (D4 (Db K) T.ao G9 (A8 (pv 3) B0)) B0))) (D6 (i:=8) MO.nd rfl (.inl rfl))
   (B3 (G8 (PW.pt (u7 (C2 r9 (C9 T.aB (Q8 T) (Rm J) (A8 (pv 6) (A8 (pv 8) B0))) (D9 (zAb K J.units) (pv 8) (pv 7) rfl) (C5 _)) (S6 (C2 r9 (D9 (zAb K J.units) (pv 8) (pv 7) rfl) (C9 T.aJ (S3 T) (Rm J) (A8 (pv 5) (A8 (pv 8) B0))) (C5 _))))) (B3 (C0 P1)) C7))))) C7))))))))))
   (B3 (C0 P1))),?_⟩
  refine⟨_,rfl,u,_,rfl,.inl hS,_,_,rfl,?_⟩;have hz:∀l:Int,0<=l->∃z:Nat,(if l <(6:Int)then l else 6)+1 =(z:Int)/\z<=11:=fun l h0=>by
   by_cases h1:l <(6:Int)
   .rw[AU h1];exact⟨l.toNat+1,by omega,by omega⟩
   .rw[AO h1];exact⟨7,by decide,by decide⟩
  obtain⟨z,ez,hz⟩:=hz ((xs.map V.int).length:Int) (by omega);refine B9 rfl rfl (A5 (a:=(z:Int)) (congrArg (fun t=>[V.int t]) ez) ⟨by omega,by omega,?_⟩);rw[CC];refine O8 (fun i σ H1=>(∃v1 v2 v3 v4 v5 v6 v7 v8,σ = [some (.ref u),v1,v2,v3,v4,v5,v6,v7,v8])/\CM H H1) ?_ ?_ ?_
  .exact⟨⟨_,_,_,_,_,_,_,_,rfl⟩,fun b o e=>e⟩
  .rintro i σ H0 hi ⟨⟨v1,v2,v3,v4,v5,v6,v7,v8,rfl⟩,s0⟩ D1 hD1 _;rw[IM];refine Od fun N1 hN1=>?_;refine A5 rfl (A5 rfl ⟨u,xs,i,rfl,(s0.at u).seqL hS,by omega,fun p H1 hp Y L1=>?_⟩);refine hN1 _ _ (B7 fun N2 hN2=>?_);obtain⟨Z,L,e1,_⟩:=L1;refine A5 rfl ⟨p,_,B9 rfl rfl ⟨IW.of e1,rfl,_,_,rfl,rfl,A5 rfl ⟨p,_,_,1,rfl,rfl,e1,rfl,?_⟩⟩⟩;have s2:CM H0 (IU H1 p (.lst (List.set [V.int Z,V.int L,V.int 0] 1 (V.int (L+700))))):=Y.upd hp;have L2:JE (IU H1 p (.lst (List.set [V.int Z,V.int L,V.int 0] 1 (V.int (L+700))))) p 0:=⟨Z,L+700,A9,Int.le_refl _⟩;refine hN2 _ _ (B7 fun N3 hN3=>?_);refine A5 rfl (A5 rfl ⟨p,0,rfl,L2,by decide,fun sz H3 hsz k3 L3=>?_⟩);refine⟨p,_,sz,rfl,L3,by omega,by omega,fun n ss H4 hn k4 e4 l4 N4 L4=>?_⟩;have k4:CM H0 H4:=fun b o e=>k4 b o (k3 b o (s2 b o e) (by simpa using B1 e hp)) (by simpa using B1 e hp);refine hN3 _ _ (B7 fun N4' hN4=>?_);refine A5 rfl (A5 rfl ⟨p,n,_,ss,rfl,L4,by omega,e4,N4,by omega,fun a ps c6 G ha k6 eG R O5 hc6 S=>?_⟩);have e5:=PH k6 e4 (L4.ne e4);have s4:CM H0 G:=fun b o e=>k6 b o (k4 b o e) (by simpa using B1 e hp);refine hN4 _ _ (B7 fun N5 hN5=>?_);refine A5 rfl (A5 rfl (zFt (a:=n) (b:=a) (c:=ss) (d:=ps) rfl e5 N4 eG R O5 fun v C A B H5 hv s5 pm srt V5=>?_));obtain⟨ll1,ll2,elp,_⟩:=id S;have V5:=V5 p _ elp;have L5:=S.same s5;have e6:=s5 _ _ e5;have a6:=s5 _ _ eG;have pin6:=J5 s5 R;have s5:=s4.trans s5;clear S L4 L3 L2 k6 k4 k3 e5 elp;refine hN5 _ _ (B7 fun N6 hN6=>?_);refine A5 rfl (A5 rfl ?_);intro x dx nx ndx nex;have sx:CM H5 (IU (IU H5 dx (.own x)) x (.ins T.ab dx [])):=fun b o e=>by
    rw[B6 (B1 e nx),B6 (B1 e ndx)];exact e
   refine zFr (a:=x) (b:=dx) (c:=n) (d:=ss) (e:=a) (f:=ps) rfl A9 (sx _ _ e6) N4 (sx _ _ a6) (J5 sx pin6) O5 fun ns U H6 pn srn pq srq k6 W6=>⟨rfl,?_⟩;have s6:CM H5 H6:=fun b o e=>k6 b o (sx b o e) (by simpa using B1 e nx);have en:C=ns:=i7 srt srn (pm.trans pn.symm);subst en;have V6:=V5.same s6;have S:=L5.same s6;have e6:=s6 _ _ e6;have s6:=s5.trans s6;have ln:C.length<=10:=by rw[pm.length_eq];omega
   have nmn:∀y∈C,O6 y=true:=fun y hy=>N4.1 y (pm.mem_iff.mp hy);have kp:∀k,k∈ps.map (fun q=>q.2)↔k∈U.map fun q=>q.2:=fun k=>(pq.map _).mem_iff.symm;have okw:=W6.ok;refine hN6 _ _ (B7 fun N7 hN7=>?_);refine A5 rfl (A5 rfl (A5 rfl ⟨p,x,v,c6,C,_,U,A,B,rfl,S,by omega,W6,V6,nmn,ln,kp,fun H7 k7=>?_⟩));have W7:=W6.sm S k7;have V7:=V6.sm k7;have e7:=PH k7 e6 (S.ne e6);have s7:CM H0 H7:=fun b o e=>k7 b o (s6 b o e) (by simpa using B1 e hp);refine⟨_,rfl,T8 (hN7 _ _ ?_)⟩;clear S V6 W6 V5 L5 k7 k6;refine A5 rfl (B9 (a:=n) rfl (.inl (IW.of e7)) (B9 rfl rfl ⟨_,rfl,Q6 (fun c1=>?_) fun c1=>hD1 _ _ ⟨⟨_,_,_,_,_,_,_,_,rfl⟩,s0.trans s7⟩⟩));have l5:C.length<=5:=by
    have h:=BL c1;rw[AB,<-pm.length_eq]at h;omega
   have W:∀{A B Ms:A0 Nat},Ms.Nodup->(∀m,m∈Ms↔KG C.length A B m)->Ms.length<=300:=fun{A B Ms} M mm=>by
    have:=few M fun m hm=>((mm m).mp hm).1.1;have:2^C.length<=2^5:=HH (by decide) l5;omega
   refine B7 fun N8 hN8=>?_;refine A5 rfl ⟨x,C,U,rfl,W7,ln,fun A' B' Ms mA mB M mm=>⟨W M mm,fun r us H8 s8 hr8 er8 LL8 nr8 pm8 srt8=>?_⟩⟩;have X:∀D,D∈us.map (fun t=>nw t.2)↔R8 C U D=true:=fun D=>by
    rw[pm8.mem_iff];exact Ha okw.nd (fun q hq=>okw.mem q hq) mA mB mm D
   have lus:us.length<=300:=by
    have:=pm8.length_eq;rw[AB,AB]at this;have:=W M mm;omega
   have sok:∀D:A0 (Str×Str),P5 C D=true->∀k∈D,PySem.PyData.strOk k.1=true/\PySem.PyData.strOk k.2=true:=fun D h k hk'=>by
    obtain⟨a1,a2⟩:=KC.mp h;exact⟨T2 (nmn _ (a1▸AI.mpr ⟨k,hk',rfl⟩)),Xw _ (a2 k hk')⟩
   have plT:Pl (TJ (us.map fun t=>nw t.2)):=Wp fun l hl=>by
    have h:=(X l).mp hl;unfold R8 at h;rw[BU]at h;exact sok _ h.1
   have W8:=W7.same s8;have V8:=V7.same s8;have e8:=s8 _ _ e7;have s8:=s7.trans s8;refine hN8 _ _ ?_;refine A5 rfl ⟨n,ss,rfl,IW.of e8,fun m I hm pm2 sr2=>?_⟩;have en2:I=C:=i7 sr2 srn (pm2.trans pm.symm);subst en2;have um:=CM.new (o:=.lst (I.map V.str)) hm;refine⟨m,I,rfl,A9,l5,fun g ws H9 s9 e9 al lw=>?_⟩;have s9:=um.trans s9;refine⟨g,rfl,⟨_,IW.of e9⟩,O1 (ND (IW.of e9)) (fun j σ G=>(∃v8,σ = [some (.ref u),some (.int (i:Int)),some (.ref p),some (.ref n),some (.ref a),some (.ref v),some (.ref x),some (.ref r),v8])/\CM H9 G) ⟨⟨_,rfl⟩,fun b o e=>e⟩ (fun j σ G _ h=>h.2.at g) ?_ ?_⟩
   .rintro j σ G y hy ⟨⟨v8,rfl⟩,sG⟩ D2 hD2 _;rw[AG]at hy;obtain⟨t,ht,rfl⟩:=AZ.mp hy;have mt:=AM ht;obtain⟨l9,w9⟩:=al t mt;have wt:P5 I (nw t.2)=true:=KC.mpr w9;have lt:t.2.length<=200:=by
     have:=congrArg List.length w9.1;unfold nw at this;rw[AB,AB]at this;omega
    have N:=s9.trans sG;have O:=E4 l9 sG;have hin:∀{H2:Hp} {Q:VK},CM G H2->Q (.bl (R8 I U (t.2.map fun q=>q.2))) H2->Xn K false (.ref t.1) (.ref r) H2 Q:=fun{H2 Q} s q=>by
     have rB:=Kw (K:=K) ((N.trans s) _ _ er8) fun t ht=>E4 (LL8.at_ t ht) (N.trans s);have pT:=plT.1;unfold TJ at rB pT;rw[PyData.canLay0]at pT;refine⟨_,_,Yj (E4 O s),.inl rB,zAm (sok _ wt),pT,?_⟩;rw[AO (by decide),Oe];have:decide (nw t.2∈us.map fun t=>nw t.2)=R8 I U (t.2.map fun q=>q.2):=by
      rw[B_,BD];exact X _
     rw[this];exact q
    refine A5 rfl (A5 rfl ⟨x,t.1,I,U,t.2,rfl,W8.same N,nmn,⟨.inl O.1,O.2,fun q hq=>sok _ wt q.2 (AI.mpr ⟨q,hq,rfl⟩),lt⟩,fun G1 Y=>?_⟩);refine A5 rfl (A5 rfl (hin Y ⟨rfl,?_⟩));rw[AK rfl];refine⟨_,rfl,T8 ?_⟩;refine A5 rfl (A5 rfl (hin Y ?_));have LP1:=E4 O Y;refine A5 rfl (A5 rfl ⟨p,v,t.1,I,_,A,B,U,t.2,rfl,V8.same (N.trans Y),okw,kp,LP1.1,LP1.2,wt,fun G2 s2=>⟨rfl,?_⟩⟩);rw[AK rfl];exact⟨_,rfl,T8 (hD2 _ _ ⟨⟨_,rfl⟩,sG.trans (Y.trans s2)⟩)⟩
   .rintro σ G ⟨⟨v8,rfl⟩,sG⟩;exact hD1 _ _ ⟨⟨_,_,_,_,_,_,_,_,rfl⟩,s0.trans (s8.trans (s9.trans sG))⟩
  .rintro σ H1 _;exact q H1
end
section
variable{K:PySem.W.Frag}{h:IV}{mg:Str->A4 A1}
theorem SM{us:A0 A1}(h:us.length=1):∃a,us = [a]:=List.length_eq_one_iff.mp h
theorem RP{us:A0 A1}(h:us.length=2):∃a b,us = [a,b]:=by
 cases us with
 | nil=>cases h
 | cons a r=>obtain⟨b,rfl⟩:=SM (Nat.succ.inj h);exact⟨a,b,rfl⟩
theorem TL{us:A0 A1}(h:us.length=3):∃a b c,us = [a,b,c]:=by
 cases us with
 | nil=>cases h
 | cons a r=>obtain⟨b,c,rfl⟩:=RP (Nat.succ.inj h);exact⟨a,b,c,rfl⟩
theorem TK{us:A0 A1}(h:us.length=4):∃a b c d,us = [a,b,c,d]:=by
 cases us with
 | nil=>cases h
 | cons a r=>obtain⟨b,c,d,rfl⟩:=TL (Nat.succ.inj h);exact⟨a,b,c,d,rfl⟩
theorem SL{us:A0 A1}(h:us.length=5):∃a b c d e,us = [a,b,c,d,e]:=by
 cases us with
 | nil=>cases h
 | cons a r=>obtain⟨b,c,d,e,rfl⟩:=TK (Nat.succ.inj h);exact⟨a,b,c,d,e,rfl⟩
theorem VA{us:A0 A1}(h:us.length=6):∃a b c d e f,us = [a,b,c,d,e,f]:=by
 cases us with
 | nil=>cases h
 | cons a r=>obtain⟨b,c,d,e,f,rfl⟩:=SL (Nat.succ.inj h);exact⟨a,b,c,d,e,f,rfl⟩
def JJ{x:Str}{st:JF}{ps:A0 Str}{f:A2}{p:A1}{q m:A4 A2}{n:A7 (A4 A1)}{kV i o g ct:A1}(X:K.In h)(G:h.Ns mainGlobals mg)(a:PySem.W.nsIn K mainGlobals x=some (some (.ref f)))
  (l:K.lookup f=some ⟨p,q,.func (PySem.W.fnOf x x (Q1 st) (M9 st) (B5 st) .none kV i o m g ct),n⟩) (c:PySem.W.codeIn K g x=true) (k:PySem.W.keepIn K (.ref f)=true)
  (r:∀(kV i o:A1) (m:A4 A2) (g ct:A1) (us:A0 A1),us.length=ps.length->bindArgs (PySem.W.fnOf x x (Q1 st) (M9 st) (B5 st) .none kV i o m g ct) ⟨us,[]⟩=pure (ps.zip us):=by intro _ _ _ _ _ _ us j;first | (obtain rfl:=GP.mp j;rfl) | (obtain⟨a,rfl⟩:=Sw.SM j;rfl) | (obtain⟨a,b,rfl⟩:=Sw.RP j;rfl) | (obtain⟨a,b,c,rfl⟩:=Sw.TL j;rfl) | (obtain⟨a,b,c,d,rfl⟩:=Sw.TK j;rfl) | (obtain⟨a,b,c,d,e,rfl⟩:=Sw.SL j;rfl) | (obtain⟨a,b,c,d,e,f,rfl⟩:=Sw.VA j;rfl)):Fn K mg x st ps :=
 ⟨f,_,MV l c k,(MV l c k).binds r,PySem.W.mg_of X G a⟩
def MJ{C:A2}{x q:Str}{st:JF}{ps:A0 Str}{f:A2}{p:A1}{r m:A4 A2}{n:A7 (A4 A1)}{kV h o g ct:A1}(a:PySem.W.findIn K (.ref C) x=some (some (.ref f)))(i:PySem.W.isFn K (.ref f)=true)
  (l:K.lookup f=some ⟨p,r,.func (PySem.W.fnOf x q (Q1 st) (M9 st) (B5 st) .none kV h o m g ct),n⟩) (c:PySem.W.codeIn K g q=true) (k:PySem.W.keepIn K (.ref f)=true)
  (s:∀(kV h o:A1) (m:A4 A2) (g ct:A1) (us:A0 A1),us.length=ps.length->bindArgs (PySem.W.fnOf x q (Q1 st) (M9 st) (B5 st) .none kV h o m g ct) ⟨us,[]⟩=pure (ps.zip us):=by intro _ _ _ _ _ _ us j;first | (obtain rfl:=GP.mp j;rfl) | (obtain⟨a,rfl⟩:=Sw.SM j;rfl) | (obtain⟨a,b,rfl⟩:=Sw.RP j;rfl) | (obtain⟨a,b,c,rfl⟩:=Sw.TL j;rfl) | (obtain⟨a,b,c,d,rfl⟩:=Sw.TK j;rfl) | (obtain⟨a,b,c,d,e,rfl⟩:=Sw.SL j;rfl) | (obtain⟨a,b,c,d,e,f,rfl⟩:=Sw.VA j;rfl)):Mt K C x q st ps :=
 ⟨f,_,MV l c k,(MV l c k).binds s,⟨a,i,k⟩⟩
theorem UD{x z:Str}{v:A1}(X:K.In h)(G:h.Ns mainGlobals mg)(a:PySem.W.nsIn K mainGlobals x=some (some v))(e:∃t,v = .str z t):∃t,mg x=some (.str z t):=by
 obtain⟨t,rfl⟩:=e;exact⟨t,PySem.W.mg_of X G a⟩
theorem SN{x:Str}{z:Int}{v:A1}(X:K.In h)(G:h.Ns mainGlobals mg)(a:PySem.W.nsIn K mainGlobals x=some (some v))(e:∃t,v = .int z t):∃t,mg x=some (.int z t):=by
 obtain⟨t,rfl⟩:=e;exact⟨t,PySem.W.mg_of X G a⟩
theorem KD{C:A2}{f:Str}(h:PySem.W.findIn K (.ref C) f=some none):KH K C f:=h
end
def UF{l:PySem.W.OpenLaw}{w:F1}{K:PySem.W.Frag}{h:IV}{d:Str->A4 A1}{m f:A2}{q:A1}{r n:A4 A2}{i:A7 (A4 A1)}{kV g o b ct:A1}(X:K.In h)(G:h.Ns mainGlobals d)(j:d "law" = some (.ref m))
  (T:Tx K d) (a:PySem.W.nsIn K mainGlobals "law" = some (some (.ref f))) (lk:K.lookup f=some ⟨q,r,.func (PySem.W.fnOf "law" "law" (Q1 OY) (M9 OY) (B5 OY) .none kV g o n b ct),i⟩) (c:PySem.W.codeIn K b "law" = true) (k:PySem.W.keepIn K (.ref f)=true) :
  ∃p:JK,(∀(s:A3) (v:A1),BindsTo s p ⟨[v],[]⟩ [("_law_script",v)])/\∀base:IV,K.In base->base.Ns mainGlobals d->JC l.prog w K d base KB 21 m p ["_law_script"] (Kq K):=by
 have e:=j.symm.trans (PySem.W.mg_of X G a);cases e;exact⟨PySem.W.fnOf "law" "law" (Q1 OY) (M9 OY) (B5 OY) .none kV g o n b ct,fun s v=>.of_eq rfl,fun base _ _=>zBk T (MV lk c k)⟩
def walk{l:PySem.W.OpenLaw}{q:A6}{b:A0 Str}{m:(Str->A4 A1)->IV->Prop}{g:F1->IV->Prop}{d:DefRec}{K:Params->PySem.W.Frag}(o:l.most=some 63)(e:d.params.defaults = [])
  (p:∀(w:F1) (h:IV),g w h->(K w.params).In h)
  (F:∀(w:F1) (c:Str->A4 A1) (i:A2) (h:IV),(K w.params).In h->h.Ns mainGlobals c->c d.name=some (.ref i) ->
   ∃j:JK,(∀(s:A3) (u:A1),BindsTo s j ⟨[u],[]⟩ [("_law_script",u)])/\∀base:IV,(K w.params).In base->base.Ns mainGlobals c->JC l.prog w (K w.params) c base KB 21 i j ["_law_script"] (Kq (K w.params))) :
  PySem.W.WalkO q b m g l.row.toRowW d [] (fun f vs=>PySem.call f vs) :=
 L2.TD (n:=63) (k:=21) (x := "_law_script") (CX:=fun _=>KB) (sp:=fun w=>Kq (K w.params)) o (by decide) e ⟨rfl,by decide,by decide⟩ p F (fun _ _ a r t _ v=>⟨a,r,rfl,v,t,fun _=>rfl⟩) fun _ _ _ _ _ z=>z
end Sw
open PySem PySem.W PyProof.Rows
set_option maxRecDepth 100000 in
set_option maxHeartbeats 0 in
theorem PySem.Challenge.cw_strikeweave_k81_whole_tellings_and_whole_holds : PySem.Challenge.rw_strikeweave_k81_whole_tellings_and_whole.Holds := by
 w_on;o_law;k_head;(case hw=>w_witness2)
 k_fill
 refine Sw.walk (l:=PySem.Challenge.rw_strikeweave_k81_whole_tellings_and_whole) rfl rfl (fun w h Y=>PySem.W.kIn_of Y) ?F
 case F =>
  intro w mg fa h KX G hmg;refine' Sw.UF KX G hmg (Sw.Tx.mk (Sw.JJ KX G ?a1 ?l2 ?c3 ?k4)
   (Sw.JJ KX G ?a5 ?l6 ?c7 ?k8)
   (Sw.JJ KX G ?a9 ?l10 ?c11 ?k12)
   (Sw.JJ KX G ?a13 ?l14 ?c15 ?k16)
   (Sw.JJ KX G ?a17 ?l18 ?c19 ?k20)
   (Sw.JJ KX G ?a21 ?l22 ?c23 ?k24)
   (Sw.JJ KX G ?a25 ?l26 ?c27 ?k28)
   (Sw.JJ KX G ?a29 ?l30 ?c31 ?k32)
   (Sw.JJ KX G ?a33 ?l34 ?c35 ?k36)
   (Sw.JJ KX G ?a37 ?l38 ?c39 ?k40)
   (Sw.JJ KX G ?a41 ?l42 ?c43 ?k44)
   (Sw.JJ KX G ?a45 ?l46 ?c47 ?k48)
   (Sw.JJ KX G ?a49 ?l50 ?c51 ?k52)
   (Sw.JJ KX G ?a53 ?l54 ?c55 ?k56)
   (Sw.JJ KX G ?a57 ?l58 ?c59 ?k60)
   (Sw.JJ KX G ?a61 ?l62 ?c63 ?k64)
   (Sw.JJ KX G ?a65 ?l66 ?c67 ?k68)
   (Sw.JJ KX G ?a69 ?l70 ?c71 ?k72)
   (Sw.JJ KX G ?a73 ?l74 ?c75 ?k76)
   (Sw.JJ KX G ?a77 ?l78 ?c79 ?k80)
   (Sw.JJ KX G ?a81 ?l82 ?c83 ?k84)
   (Sw.JJ KX G ?a85 ?l86 ?c87 ?k88)
   (Sw.JJ KX G ?a89 ?l90 ?c91 ?k92)
   (Sw.JJ KX G ?a93 ?l94 ?c95 ?k96)
   (Sw.JJ KX G ?a97 ?l98 ?c99 ?k100)
   (Sw.JJ KX G ?a101 ?l102 ?c103 ?k104)
   (Sw.JJ KX G ?a105 ?l106 ?c107 ?k108)
   (Sw.JJ KX G ?a109 ?l110 ?c111 ?k112)
   (Sw.JJ KX G ?a113 ?l114 ?c115 ?k116)
   (Sw.JJ KX G ?a117 ?l118 ?c119 ?k120)
   (Sw.JJ KX G ?a121 ?l122 ?c123 ?k124)
   (Sw.JJ KX G ?a125 ?l126 ?c127 ?k128)
   (Sw.JJ KX G ?a129 ?l130 ?c131 ?k132)
   (Sw.JJ KX G ?a133 ?l134 ?c135 ?k136)
   (Sw.JJ KX G ?a137 ?l138 ?c139 ?k140)
   (Sw.JJ KX G ?a141 ?l142 ?c143 ?k144)
   (Sw.JJ KX G ?a145 ?l146 ?c147 ?k148)
   (Sw.JJ KX G ?a149 ?l150 ?c151 ?k152)
   (Sw.JJ KX G ?a153 ?l154 ?c155 ?k156)
   (Sw.JJ KX G ?a157 ?l158 ?c159 ?k160)
   (Sw.JJ KX G ?a161 ?l162 ?c163 ?k164)
   (Sw.JJ KX G ?a165 ?l166 ?c167 ?k168)
   (Sw.JJ KX G ?a169 ?l170 ?c171 ?k172)
   _
   ⟨?g174,?g175,?g176,?g177⟩
   (PySem.W.mg_of KX G ?q173)
   (Sw.KD ?n178)
   (Sw.KD ?n179)
   (Sw.KD ?n180)
   (Sw.KD ?n181)
   (Sw.KD ?n182)
   (Sw.KD ?n183)
   _
   _
   (L2.MV ?l186 ?c187 ?k188)
   (L2.SB.binds (L2.MV ?l186 ?c187 ?k188) (fun _ _ _ _ _ _ us hl=>by obtain⟨a,b,rfl⟩:=Sw.RP hl;rfl))
   ⟨?g189,?a184,?i185,?k190⟩
   (Sw.MJ ?a191 ?i192 ?l193 ?c194 ?k195)
   (Sw.MJ ?a196 ?i197 ?l198 ?c199 ?k200)
   (Sw.MJ ?a201 ?i202 ?l203 ?c204 ?k205)
   (Sw.MJ ?a206 ?i207 ?l208 ?c209 ?k210)
   (Sw.MJ ?a211 ?i212 ?l213 ?c214 ?k215)
   (Sw.MJ ?a216 ?i217 ?l218 ?c219 ?k220)
   (Sw.MJ ?a221 ?i222 ?l223 ?c224 ?k225)
   (Sw.MJ ?a226 ?i227 ?l228 ?c229 ?k230)
   _
   ⟨?g232,?g233,?g234,?g235⟩
   (PySem.W.mg_of KX G ?q231)
   (Sw.KD ?n236)
   (Sw.KD ?n237)
   (Sw.KD ?n238)
   (Sw.KD ?n239)
   _
   _
   (L2.MV ?l242 ?c243 ?k244)
   (L2.SB.binds (L2.MV ?l242 ?c243 ?k244) (fun _ _ _ _ _ _ us hl=>by obtain⟨a,b,c,rfl⟩:=Sw.TL hl;rfl))
   ⟨?g245,?a240,?i241,?k246⟩
   (Sw.MJ ?a247 ?i248 ?l249 ?c250 ?k251)
   (Sw.MJ ?a252 ?i253 ?l254 ?c255 ?k256)
   (Sw.MJ ?a257 ?i258 ?l259 ?c260 ?k261)
   (Sw.MJ ?a262 ?i263 ?l264 ?c265 ?k266)
   (Sw.MJ ?a267 ?i268 ?l269 ?c270 ?k271)
   _
   (PySem.W.mg_of KX G ?v272)
   (L2.TR ?l273 ?y274)
   (Sw.SN KX G ?v275 ?e276)
   (Sw.UD KX G ?v277 ?e278)
   (Sw.SN KX G ?v279 ?e280)
   (PySem.W.mg_none_of KX G ?z281)
   (PySem.W.mg_none_of KX G ?z282)
   (PySem.W.mg_none_of KX G ?z283)
   (PySem.W.mg_none_of KX G ?z284)
   (PySem.W.mg_none_of KX G ?z285)
   (PySem.W.mg_none_of KX G ?z286)
   (PySem.W.mg_none_of KX G ?z287)
   (PySem.W.mg_none_of KX G ?z288)
   (PySem.W.mg_none_of KX G ?z289)
   (PySem.W.mg_none_of KX G ?z290)
   (PySem.W.mg_none_of KX G ?z291)
   (PySem.W.mg_none_of KX G ?z292)
   (PySem.W.mg_none_of KX G ?z293)
   (PySem.W.mg_none_of KX G ?z294)
   (PySem.W.mg_none_of KX G ?z295)
   (PySem.W.mg_none_of KX G ?z296)
   (PySem.W.mg_none_of KX G ?z297)
   (PySem.W.mg_none_of KX G ?z298)) ?aL ?lL ?cL ?kL
  case a1|l2|c3|k4|a5|l6|c7|k8|a9|l10|c11|k12|a13|l14|c15|k16|a17|l18|c19|k20|a21|l22|c23|k24|a25|l26|c27|k28|a29|l30|c31|k32|a33|l34|c35|k36|a37|l38|c39|k40|a41|l42|c43|k44|a45|l46|c47|k48|a49|l50|c51|k52|a53|l54|c55|k56|a57|l58|c59|k60|a61|l62|c63|k64|a65|l66|c67|k68|a69|l70|c71|k72|a73|l74|c75|k76|a77|l78|c79|k80|a81|l82|c83|k84|a85|l86|c87|k88|a89|l90|c91|k92|a93|l94|c95|k96|a97|l98|c99|k100|a101|l102|c103|k104|a105|l106|c107|k108|a109|l110|c111|k112|a113|l114|c115|k116|a117|l118|c119|k120|a121|l122|c123|k124|a125|l126|c127|k128|a129|l130|c131|k132|a133|l134|c135|k136|a137|l138|c139|k140|a141|l142|c143|k144|a145|l146|c147|k148|a149|l150|c151|k152|a153|l154|c155|k156|a157|l158|c159|k160|a161|l162|c163|k164|a165|l166|c167|k168|a169|l170|c171|k172|q173|g174|g175|g176|g177|n178|n179|n180|n181|n182|n183|a184|i185|l186|c187|k188|g189|k190|a191|i192|l193|c194|k195|a196|i197|l198|c199|k200|a201|i202|l203|c204|k205|a206|i207|l208|c209|k210|a211|i212|l213|c214|k215|a216|i217|l218|c219|k220|a221|i222|l223|c224|k225|a226|i227|l228|c229|k230|q231|g232|g233|g234|g235|n236|n237|n238|n239|a240|i241|l242|c243|k244|g245|k246|a247|i248|l249|c250|k251|a252|i253|l254|c255|k256|a257|i258|l259|c260|k261|a262|i263|l264|c265|k266|a267|i268|l269|c270|k271|v272|l273=>k_is
  case y274=>exact⟨_,_,_,_,rfl,rfl⟩
  case v275=>k_is
  case e276=>exact⟨_,rfl⟩
  case v277=>k_is
  case e278=>exact⟨_,rfl⟩
  case v279=>k_is
  case e280=>exact⟨_,rfl⟩
  case z281|z282|z283|z284|z285|z286|z287|z288|z289|z290|z291|z292|z293|z294|z295|z296|z297|z298|aL|lL|cL|kL=>k_is
