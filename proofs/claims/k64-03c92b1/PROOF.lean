import PyProof.Rows.All
import Wide.All
import OpenK.AllK
import Wide.FinOn
import PyProof.Rows.SortShellK
import KE.KSortTup
import Lean
import PyProof.EqAt
import PyProof.EqKinds
import PyProof.TupleCall
import PyProof.SetRoads
import PyProof.DictRoadsH
import PyProof.IsRules
import PyProof.CollectWalk
import PyProof.FactsAll.set
import PyProof.NeData
import PyProof.P3In
import PyProof.TupleOfSeq
import PyProof.ZipIter
import PyProof.Rows.ZipGen
import KE.KDictOf
import PyProof.AttrMissHeap
import PyProof.Rows.SumAny
import PyProof.DictIter
import PyProof.DictWalks
import PyProof.DictValues
import PyProof.ListRange
import PyProof.ListStr
import PyProof.DictTruth
import PySem.Challenge.RW_strikeweave_k64_strikes_put_and_taken
set_option autoImplicit false
set_option genSizeOf false
set_option genSizeOfSpec false
set_option bootstrap.genMatcherCode false
set_option compiler.extract_closed false
set_option linter.all false
set_option maxRecDepth 100000
abbrev VA:=@PySem.W.Frag
def VB:=@False.elim
def VC:=@True.intro
def VD:=@Nat.le_refl
def VE:=@Nat.le_trans
def VF:=@Nat.le_of_eq
def VG:=@PySem.F.plainAttrs_list
def VH:=@PySem.F.slot_list_append
def VI:=@PySem.F.type_list_append
def VJ:=@PySem.F.slot_list_index
def VL:=@PySem.F.type_list_index
def VM:=@PySem.W.mg_none_of
def VN:=@PySem.F.slot_tuple_add
def VO:=@PySem.F.entry_tuple_add
def VP:=@PyProof.Rows.callWith_type1
def VQ:=@PySem.W.kia_one
def VR:=@PySem.W.kia_tup
section
open PySem PySem.Spec PyProof.Rows
abbrev A0:=@List
abbrev A2:=Value
abbrev A3:=Addr
def PySem.W.Fast:=Nat where
 tw13628980008991857444:=A3
 tw2905450513351877270:=A3
 tw17141746804660592150:=A3
 tw2641963850287455708:=A3
 tw5942088076631899367:=A3
 tw7242218284674509296:=A3
 tw9878416136111839065:=A3
 tw2867989928889228930:=A3
 tw4140199491041806602:=A3
 tw12013476078688899164:=A3
 tw15401872027319299036:=A3
 tw1247681979306762525:=A3
 tw8013113226110803127:=A3
 tw9960829194739315683:=A3
 tw8096819281941592758:=A3
 tw261599773005827166:=A3
 tw14025879498007495570:=A3
 tw11105157192612409432:=A3
 tw9252182887651006057:=A3
 tw11846699876131516611:=A3
 tw11106249634387251208:=A3
 tw16346848387717819337:=A3
 tw2271186910030518216:=A3
 tw17997704811005353986:=A3
 tw10323521037662015351:=A3
 tw9470770476674000285:=A3
 tw2207007406459269636:=A3
 tw1801099805335551383:=A3
 tw8616683178326559708:=A3
 tw8258108373478722227:=A3
 tw11727677573837133571:=A3
 tw7110455627077397660:=A3
 tw3058525053754575165:=A3
 tw9178492766677342960:=A3
 tw7672398187695018485:=A3
 tw6842688459708515142:=A3
 tw9311148868574006994:=A3
 tw16809828744788511821:=A3
 tw11125855898408634726:=A3
 tw4570910333254838089:=A3
 tw202115175063191503:=A3
 tw5694655750230196363:=A3
 tw2890539874549822826:=A3
 tw5211722560005847888:=A3
 tw2495662318253035768:=A3
 tw13639694867064874786:=A3
 tw9602838310425910109:=A3
 tw2922196135496172741:=A3
 tw3340344960299710202:=A3
 tw14429252500994413595:=A3
 tw2016359560069581627:=A3
 tw10029199130108669025:=A3
 tw9577860294732908625:=A3
 tw2334567918730766473:=A3
 tw11449296481488368070:=A3
 tw6777668367742781497:=A3
 tw3461967124846483493:=A3
 tw6797784698715427774:=A3
 tw3365145392650578287:=A3
 tw10807922274200781201:=A3
 tw4644802900137697695:=A3
 tw14513351865136139328:=A3
 tw1742833657961511398:=A3
 tw8384077842519550497:=A3
 tw10599066365105808563:=A3
 tw6169066246762809145:=A3
 tw9387959205262274925:=A3
 tw16841634102172089540:=A3
 tw3252531043302564926:=A3
 tw9333960709694126390:=A3
 tw1546493081115472260:=A3
 tw7889168460842894609:=A3
 tw13403112668354350125:=A3
 tw10329390463296872889:=A3
 tw3944632967927039483:=A3
 tw6246640627089158993:=A3
 tw3709802745046838653:=A3
 tw18070643216074677657:=A3
 tw17865128937690604122:=A3
 tw6951909095997812809:=A3
 tw4707496678638677143:=A3
 tw10842350513486407937:=A3
 tw5793903075131435484:=A3
 tw2410184831474116844:=A3
 tw9506383684335803514:=A3
 tw3300537621646998483:=A3
 tw13198167197429287672:=A3
 tw9679874606725892587:=A3
 tw29808384215810139:=A3
 tw4118310119071369049:=A3
 tw6736918737204036534:=A3
 tw16315504652754497278:=A3
 tw4174243761394180571:=A3
 tw13965904596545420828:=A3
 tw2340333961980764324:=A3
 tw969892051858034001:=A3
 tw4100679534214177293:=A3
 tw16806235876122496456:=A3
 tw5070586295804846936:=A3
 tw12976112605198693315:=A3
 tw7363852800827011598:=A3
 tw9519317590994477461:=A3
 tw10839858444732676499:=A3
 tw15366758419635149499:=A3
 tw11243743920331087308:=A3
 tw15248342530221839028:=A3
 tw5254344675261965655:=A3
 tw15433338807246685504:=A3
 tw819320027576497494:=A3
 tw143469155782869228:=A3
 tw11941172828119815413:=A3
 tw6813181899701054893:=A3
 tw3931291881115287682:=A3
 tw15749789942499780636:=A3
 tw6482024700589960309:=A3
 tw3093257522460833167:=A3
 tw6590726022529950202:=A3
 tw15336051747574891592:=A3
 tw740928789030843371:=A3
 tw1562419277638643946:=A3
 tw12939394524211894060:=A3
 tw12116878619121296335:=A3
 tw10924554950475047781:=A3
 tw13898595560830431883:=A3
 tw12947256895684160999:=A3
 tw2757093388980673933:=A3
 tw14142304284952660306:=A3
 tw13081319142369739436:=A3
 tw15353254029121597638:=A3
 tw3667278993688139607:=A3
 tw5295477693755838456:=A3
 tw15063954330557152875:=A3
 tw10833061958039861972:=A3
 tw15127685831726067688:=A3
 tw7498116762590496078:=A3
 tw1419954288330703637:=A3
 tw6006388704756480429:=A3
 tw4437021410036168553:=A3
 tw14607850730972337325:=A3
 tw8680985388800215359:=A3
 tw4916642943588679941:=A3
 tw16350309287394714928:=A3
 tw15776495931798056650:=A3
 tw16694739919628032696:=A3
 tw6010766879581412456:=A3
 tw9154181132457237841:=A3
 tw17684443953388161879:=A3
 tw15908014237316105691:=A3
 tw3156743268551903637:=A3
 tw2188826792713665390:=A3
 tw16511567940272851774:=A3
 tw17125191362099627229:=A3
 tw3460459252901695784:=A3
 tw32202524961283685:=A3
 tw16503172836282655913:=A3
 tw5146994412520521481:=A3
 tw10458057426339211954:=A3
 tw9877287563262922579:=A3
 tw16273237499679405312:=A3
 tw3489401102490716095:=A3
 tw17983914279538847013:=A3
 tw2027983474855399752:=A3
 tw500725960956252660:=A3
 tw7895242861405019741:=A3
 tw1032812617057675540:=A3
 tw7138009418254433262:=A3
 tw1453529915522905577:=A3
 tw5189447917640541993:=A3
 tw15268870103226433231:=A3
 tw7026875148279942480:=A3
 tw393211966830191298:=A3
 tw7690173680478843313:=A3
 tw12277073385428816558:=A3
 tw17411572603473530075:=A3
 tw8736791667251520727:=A3
 tw2082403796241348604:=A3
 tw10428207146132184290:=A3
 tw8562248550571691598:=A3
 tw7923511992984731649:=A3
 tw8357060066866828901:=A3
 tw3913869725656045233:=A3
 tw8738509478408661919:=A3
 tw7852675750760706753:=A3
 tw4526786461792949503:=A3
 tw5840851032073273116:=A3
 tw8192326575901150323:=A3
 tw946564414315947568:=A3
 tw1253878977451413519:=A3
 tw9504379770757372218:=A3
 tw16301133510670375428:=A3
 tw12426203593905160838:=A3
 tw8295560047236792187:=A3
 tw1095598051206326802:=A3
 tw622816737552064783:=A3
 tw5051468351126958731:=A3
 tw3962497320342906961:=A3
 tw5357761268169292732:=A3
 tw8549721514651873288:=A3
 tw3674400294088455673:=A3
 tw9172398782830070218:=A3
 tw15870397758630909085:=A3
 tw2905698157388464343:=A3
 tw7322256480926947999:=A3
 tw5637454571245399293:=A3
 tw7502649359743290395:=A3
 tw8271687081836897279:=A3
 tw18072590856756883425:=A3
 tw15485575680310014003:=A3
 tw18439704501202981980:=A3
 tw17366926166074119400:=A3
 tw4552253074554684089:=A3
 tw11746301327268297527:=A3
 tw245634844260042094:=A3
 tw5737518157176030502:=A3
 tw15766127096456338940:=A3
 tw8926414651077399172:=A3
 tw11353511896173017488:=A3
 tw10787325413467274211:=A3
 tw1708783787769484780:=A3
 tw3705484025551477913:=A3
 tw1493381923542151037:=A3
 tw9241722902335422787:=A3
 tw9438185254576208455:=A3
 tw3470800244535131497:=A3
 tw2104467365964840369:=A3
 tw631394167039913489:=A3
 tw15271968823485520364:=A3
 tw4881330298342591212:=A3
 tw11813666216683788881:=A3
 tw8032586673903149610:=A3
 tw3087809886705227066:=A3
 tw9970849603500274397:=A3
 tw1555911092963539734:=A3
 tw5761056607161337413:=A3
 tw14613771576793654177:=A3
 tw6861969978610201789:=A3
 tw10325109618187706595:=A3
 tw5554949446784371317:=A3
 tw8669710159984188960:=A3
 tw12883540416992817663:=A3
 tw9191803569202267390:=A3
 tw8624363982471930623:=A3
 tw1147520892531765600:=A3
 tw15714487967025345105:=A3
 tw8356320882214919583:=A3
 tw4440784003298918124:=A3
 tw11505264831988007388:=A3
 tw10219277962375912959:=A3
 tw15760068734162317183:=A3
 tw10605649452348109043:=A3
 tw12255159593960111485:=A3
 tw2561759163006967681:=A3
 tw9547473750036402424:=A3
 tw8161212278185982566:=A3
 tw12651730733252179009:=A3
 tw15870074484533424474:=A3
 tw2907590222573772611:=A3
 tw14003793289379329552:=A3
 tw200927097506720185:=A3
 tw13900950811386320733:=A3
 tw5271689133256421436:=A3
 tw15433920283356403821:=A3
 tw15938275374256007227:=A3
 tw2661851381810126120:=A3
 tw18140354469456980291:=A3
 tw6207556585349932235:=A3
 tw2104980423763629511:=A3
 tw3712785200048588532:=A3
 tw12571699983529020373:=A3
 tw12940004931575037944:=A3
 tw14652328864817391377:=A3
 tw1412359762198118353:=A3
 tw7288806783713157251:=A3
 tw12440659279465408975:=A3
 tw4496288967456700784:=A3
 tw9775203515577088714:=A3
 tw12026027250510425093:=A3
 tw5163363671732660082:=A3
 tw11245256197290403037:=A3
 tw8077231753762201774:=A3
 tw2288210949357755535:=A3
 tw5030764314556042565:=A3
 tw5204284388945261730:=A3
 tw3474441471759113415:=A3
 tw1527737208293728176:=A3
 tw14255051236703437317:=A3
 tw4770304518052098819:=A3
 tw16313049892155148080:=A3
 tw11045431033717673363:=A3
 tw3585890087992601742:=A3
 tw574418089948626451:=A3
 tw3542885456617178723:=A3
 tw12191204252891997825:=A3
 tw17257394374596126961:=A3
 tw6867257216445235282:=A3
 tw18299563369490849941:=A3
 tw4584631839553154490:=A3
 tw5155816512893455718:=A3
 tw7494465491541063186:=A3
 tw17745606254153941854:=A3
 tw18286605720425833660:=A3
 tw6046169019414924357:=A3
 tw2918848613924101128:=A3
 tw5050277611959242111:=A3
 tw5506156664453081017:=A3
 tw2852223199540379947:=A3
 tw5821043332780107290:=A3
 tw10073708274831805968:=A3
 tw15397010701882587042:=A3
 tw6018137867969492466:=A3
 tw9640747336124439963:=A3
 tw1872714056036235840:=A3
 tw2817517009565042965:=A3
 tw8554423214246409174:=A3
 tw8197401247040571569:=A3
 tw14657863118194806925:=A3
 tw7791128052887646108:=A3
 tw1189976447766181403:=A3
 tw8398695121230631132:=A3
 tw9313259143186131014:=A3
 tw14460632696320572694:=A3
 tw8852714541053207038:=A3
 tw10776631634756118651:=A3
 tw7005356937647053289:=A3
 tw14581060666320648281:=A3
 tw12995976791313403017:=A3
 tw4262566822367514520:=A3
 tw1357968663062153788:=A3
 tw18168053431348275258:=A3
 tw8049233618093762644:=A3
 tw3891140566960717527:=A3
 tw17558987855481584399:=A3
 tw4827804396771227087:=A3
 tw16615108262816613323:=A3
 tw9653763072656431646:=A3
 tw6349555225089376422:=A3
 tw11689721586706842553:=A3
 tw1213414700851656262:=A3
 tw10035643632614137056:=A3
 tw11182530485160461291:=A3
 tw13497819595963618892:=A3
 tw2234707485402559144:=A3
 tw13842346697625520727:=A3
 tw4848226527953235438:=A3
 tw17761241681530521928:=A3
 tw14203413426550801008:=A3
 tw11728091709445532662:=A3
 tw2692040495143138614:=A3
 tw18390026111012108775:=A3
 tw12679740314039901825:=A3
 tw527975382201888192:=A3
 tw16813079814694459405:=A3
 tw16229446773046052630:=A3
 tw13000305031298548998:=A3
 tw17736603020463867771:=A3
 tw10721903739036607640:=A3
 tw17915509656240370426:=A3
 tw6150537145353727556:=A3
 tw17313592371552132084:=A3
 tw4491001936232775130:=A3
 tw10748741458732416600:=A3
 tw7224560498579421492:=A3
 tw14537477275959926696:=A3
 tw11734185151136942794:=A3
 tw14177905876304830552:=A3
 tw12243717267789647872:=A3
 tw1765957219577528672:=A3
 tw14086743048526617498:=A3
 tw10123273482026169779:=A3
 tw17025272111729814776:=A3
 tw9738802430643585007:=A3
 tw14773069094158115653:=A3
 tw9285359198319673087:=A3
 tw2298584333916119943:=A3
 tw10299849312952310849:=A3
 tw14011865490731331246:=A3
 tw13938676758807233564:=A3
 tw10721444866847857657:=A3
 tw16711434492567561792:=A3
 tw13756326944312361052:=A3
 tw14946319670594246807:=A3
 tw15533005294690334184:=A3
 tw7180714094147282711:=A3
 tw11455626503897758792:=A3
 tw16733410724232895211:=A3
 tw2125038308308890125:=A3
 tw15606753033658308304:=A3
 tw16042166713102890276:=A3
 tw8287921182618116111:=A3
 tw8503310597012701514:=A3
 tw6105061817356305463:=A3
 tw2592485832214673993:=A3
 tw37265983543392527:=A3
 tw14650441024007361192:=A3
 tw6268926470407978196:=A3
 tw13344261723593425734:=A3
 tw6683032031404508246:=A3
 tw107083070297294664:=A3
 tw8047770680162054194:=A3
 tw3234462736797500062:=A3
 tw1267957345362123972:=A3
 tw4769055495183572784:=A3
 tw434143181666809792:=A3
 tw4285640131432072052:=A3
 tw7530878164453299261:=A3
 tw12580868078259281311:=A3
 tw1884659229993808872:=A3
 tw2377950825112016942:=A3
 tw3003630013745837780:=A3
 tw546300943192061294:=A3
 tw17843182807574997206:=A3
 tw13013522925713593494:=A3
 tw2189142826516935238:=A3
 tw90319525632590112:=A3
 tw13497284437455141169:=A3
 tw11234913448655086148:=A3
 tw11689249779764357549:=A3
 tw3367127872979509859:=A3
 tw5209339975453933497:=A3
 tw17696619519466570795:=A3
 tw17815264049303987501:=A3
 tw7358093875229599989:=A3
 tw4350119335170259783:=A3
 tw16827707621925611009:=A3
 tw1179244929039722056:=A3
 tw6911421164345332843:=A3
 tw14011682000178036173:=A3
 tw5249250830655297754:=A3
 tw9789389066210556539:=A3
 tw13288979650958222286:=A3
 tw14134360451671128938:=A3
 tw1990765318328645468:=A3
 tw18059453712388209308:=A3
 tw4139437655749762965:=A3
 tw5250061583009904125:=A3
 tw3356174190054947744:=A3
 tw433224670511750330:=A3
 tw3095734456175481635:=A3
 tw14073497365615540433:=A3
 tw12957339064167742664:=A3
 tw13713381735667576277:=A3
 tw9130993875551717082:=A3
 tw9307753288654235470:=A3
 tw16087445083608838488:=A3
 tw14607886913961790248:=A3
 tw871280335619750252:=A3
 tw5559235003930684745:=A3
 tw4173102205725072360:=A3
 tw10758306664701168086:=A3
 tw2713850162749398000:=A3
 tw11826549071441755464:=A3
 tw6801594416085847774:=A3
 tw1122462907451898312:=A3
 tw3245192639417227817:=A3
 tw8435924448295103393:=A3
 tw3273486032608515218:=A3
 tw9790818866866003575:=A3
 tw18313724360318620727:=A3
 tw13912019563529695506:=A3
 tw10819441641215674256:=A3
 tw7514402360006829615:=A3
 tw9689423747295894289:=A3
 tw16818250329423620800:=A3
 tw1815019328608515501:=A3
 tw10452724057995108445:=A3
 tw3576816470710726347:=A3
 tw15067655155280258708:=A3
 tw867829667206235953:=A3
 tw12518605387070543897:=A3
 tw5775032544828943693:=A3
 tw15058497231407232923:=A3
 tw1113299667461998177:=A3
 tw14811366956034070325:=A3
 tw3237037758787448712:=A3
 tw16331210360612647802:=A3
 tw8441105463617299530:=A3
 tw9722626215364089291:=A3
 tw15158413265892506326:=A3
 tw2340507504087265410:=A3
 tw11689757217850313883:=A3
 tw11816223653556666992:=A3
 tw15668799523644287735:=A3
 tw1228516976749007143:=A3
 tw12703434615393774910:=A3
 tw16327966837396564886:=A3
 tw8536958210548974333:=A3
 tw12161958099580969734:=A3
 tw877525618493558329:=A3
 tw15205033818475339145:=A3
 tw16582944049206836434:=A3
 tw5757963027241471432:=A3
 tw17393183406007748055:=A3
 tw12578392505403568291:=A3
abbrev A4:=Shared
abbrev A5:=@Option
abbrev HU:=@Array
abbrev HV:=Program
abbrev HW:=Keyed
abbrev HX:=World
abbrev HZ:=SortSt
abbrev H_:=Heap
abbrev IA:=Around
abbrev IC:=Expr
abbrev II:=SetTable
abbrev IL:=Stmt
abbrev IT:=FuncData
abbrev JP:=SortKind
abbrev KM:=Scope
abbrev NX:=NameKind
abbrev QS:=Env
end
section
open PySem PySem.Spec PyProof.Rows
def AA:=@wpAny_bind
def AB:=@List.length_map
def AC:=@Heap.get?_push_of_some
def AD:=@wpAny_pure
def AE:=@List.mem_singleton
def AF:=@List.getElem?_eq_getElem
def AG:=@Heap.lt_size
def AH:=@List.getElem?_map
def AI:=@if_neg
def AJ:=@List.getElem?_eq_some_iff
def AK:=@List.map_append
def AL:=@List.mem_cons_of_mem
def AM:=@decide_eq_false
def AN:=@if_pos
def AO:=@List.mem_append
def AQ:=@List.size_toArray
def AR:=@List.mem_cons
def AS:=@decide_eq_true
def AU:=@Array.length_toList
def AV:=@List.length_append
def AW:=@Heap.get?_push_size
def AX:=@List.mem_cons_self
def AY:=@List.mem_filter
def AZ:=@List.length_take
def A_:=@List.not_mem_nil
def BA:=@Nat.ne_of_lt
def BB:=@List.mem_of_getElem?
def BC:=@List.length_filter_le
def BD:=@Bool.false_eq_true
def BE:=@Bool.false_ne_true
def BF:=@Option.map_eq_some_iff
def BG:=@List.append_assoc
def BH:=@Heap.get?_update_other
def BI:=@Nat.lt_of_lt_of_le
def BJ:=@Array.getElem?_toList
def BK:=@List.mem_map
def BL:=@of_decide_eq_true
def BM:=@List.map_cons
def BN:=@List.mem_append_right
def BO:=@List.filter_cons
def BP:=@wpAny_holding
def BQ:=@List.length_cons
def BR:=@List.take_length
def BS:=@List.map_map
def BT:=@Array.toList_append
def BU:=@Option.some.inj
def BV:=@wpAny_newObj_type
def BW:=@List.append_nil
def BX:=@List.take_append_drop
def BZ:=@Heap.get?_update_self
def B_:=@wpAny_mono
def CA:=@List.getD_eq_getElem?_getD
def CB:=@Nat.zero_le
def CC:=@wpAny_field
def CD:=@wpAny_setState_of
def CF:=@wpAny_call_entry
def CG:=@wpAny_callSpecial?_slot
def CH:=@Int.toNat_natCast
def CI:=@List.nodup_append
def CJ:=@Nat.le_of_ble_eq_true
def CL:=@List.nodup_cons
def CM:=@List.filter_append
def CN:=@Array.getD_eq_getD_getElem?
def CO:=@if_false
def CP:=@List.pairwise_append
def CQ:=@List.mem_append_left
def CS:=@List.pairwise_map
def CT:=@Heap.size_push
def CU:=@Array.getElem?_eq_some_iff
def CV:=@List.perm_append_comm
def CY:=@List.Perm.append_left
def CZ:=@wpAny_truthy_bool
def C_:=@Nat.lt_irrefl
def DA:=@List.replicate_succ
def DB:=@List.mem_range
def DC:=@Bool.and_eq_true
def DD:=@Array.toList_push
def DE:=@List.mem_of_mem_take
def DF:=@wpAny_rule
def DG:=@wpAny_setField_rec
def DH:=@codeAny_builtin
def DI:=@wpAny_ite_false
def DJ:=@List.length_drop
def DK:=@List.getElem?_take_of_lt
def DL:=@List.getElem_mem
def DM:=@Nat.le_succ
def DN:=@Heap.SameBut.update
def DP:=@Bool.false_and
def DQ:=@List.filter_nil
def DR:=@Nat.le_of_lt
def DT:=@List.Perm.append_right
def DU:=@List.take_of_length_le
def DV:=@List.drop_eq_getElem_cons
def DW:=@List.filter_sublist
def DX:=@List.length_range
def DY:=@List.getElem?_toArray
def DZ:=@wpAny_seqItems
def D_:=@List.nodup_nil
def EA:=@List.mem_iff_getElem
def EB:=@wpAny_setField
def EC:=@Array.getElem?_eq_none
def ED:=@Nat.add_le_add_left
def EE:=@wpAny_of_eq
def EF:=@List.extract_eq_take_drop
def EG:=@Array.getElem?_eq_getElem
def EH:=@List.Pairwise.and_mem
def EI:=@Nat.le_add_right
def EJ:=@List.all_eq_true
def EK:=@decide_eq_decide
def EL:=@Nat.zero_add
def EM:=@Bool.not_true
def EN:=@List.filterMap_cons_some
def EO:=@List.mem_of_mem_drop
def EQ:=@List.drop_zero
def ER:=@Array.toList_extract
def ES:=@List.take_sublist
def ET:=@Bool.eq_false_iff
def EU:=@Nat.lt_succ_of_lt
def EV:=@wpAny_execs_nil
def EW:=@List.filterMap_cons
def EX:=@List.drop_eq_nil_of_le
def EY:=@wpAny_typeOf
def EZ:=@wpAny_standAt
def E_:=@Nat.succ_le_succ
def FA:=@Nat.lt_succ_self
def FB:=@List.drop_drop
def FC:=@Int.emod_lt_of_pos
def FD:=@wpAny_ite_true
def FE:=@List.Perm.of_eq
def FF:=@wpAny_passesOwn
def FG:=@List.drop_sublist
def FH:=@Array.toList_reverse
def FI:=@List.ext_getElem?
def FJ:=@wpAny_pyIter_list
def FK:=@codeAny_mono
def FM:=@List.flatten_cons
def FN:=@Option.isSome_iff_exists
def FO:=@List.length_eq_zero_iff
def FP:=@wpAny_isInstance
def FQ:=@Nat.zero_lt_succ
def FR:=@Nat.zero_testBit
def FS:=@Nat.lt_of_le_of_ne
def FT:=@Nat.eq_zero_of_not_pos
def FU:=@List.getElem?_drop
def FV:=@Array.size_extract
def FW:=@wpAny_pyIter_tuple
def FX:=@wpAny_Call_Name_kw
def FY:=@List.map_nil
def FZ:=@Nat.min_eq_left
def F_:=@List.nil_append
def GA:=@Bool.eq_iff_iff
def GB:=@List.find?_cons
def GC:=@wpAny_specialOf
def GD:=@Int.emod_nonneg
def GE:=@List.filter_map
def GF:=@wpAny_attempt
def GG:=@List.any_cons
def GH:=@List.getElem?_eq_none
def GI:=@List.length_replicate
def GJ:=@List.length_singleton
def GK:=@if_true
def GL:=@Nat.lt_of_succ_lt
def GM:=@List.drop_take
def GN:=@List.getElem?_append_right
def GO:=@wpAny_newTuple
def GP:=@List.getElem?_set_ne
def GQ:=@Heap.size_update
def GR:=@Nat.ne_of_gt
def GS:=@List.any_eq_true
def GT:=@wpAny_askSetting
def GU:=@List.getElem?_append_left
def GV:=@List.getElem?_eq_none_iff
def GX:=@List.reverse_append
def GY:=@List.map_eq_nil_iff
def GZ:=@Array.size_setIfInBounds
def G_:=@List.filterMap_cons_none
def HB:=@Nat.zero_lt_one
def HC:=@List.foldl_cons
def HD:=@Option.map_some
def HE:=@of_decide_eq_false
def HF:=@Nat.sub_pos_of_lt
def HG:=@Array.size_map
def HH:=@List.getElem?_set_self
def HI:=@Bool.and_false
def HJ:=@Bool.not_false
def HK:=@wpAny_storeSet_of
def HL:=@wpAny_pyIter_enum
def HM:=@List.le_antisymm
def HN:=@wpAny_execs_cons
def HP:=@Heap.ExtBut.push
def HQ:=@wpAny_pyIter_zip
def HR:=@List.drop_length
def HS:=@Bool.true_and
end
noncomputable section
namespace TS
def zAa{k x l r:Nat}(h:l<r)(a:r-l<=k-x):(l+r) / 2-l<=k-(x+1) :=
 VE (Nat.le_pred_of_lt (Nat.sub_lt_sub_right ((Nat.le_div_iff_mul_le (by decide)).mpr (by rw[Nat.mul_two];exact ED (DR h) l)) ((Nat.div_lt_iff_lt_mul (by decide)).mpr (by rw[Nat.mul_two];exact Nat.add_lt_add_right h r)))) (Nat.pred_le_pred a)
def Wx{n x l r m:Nat}(h:l<=m)(a:r-l<=n-x):r-(m+1)<=n-(x+1):=VE (Nat.sub_le_sub_left (E_ h) r) (Nat.pred_le_pred a)
def Zw{k x l r:Nat}(h:l<r)(a:r-l<=k-x):r-((l+r) / 2+1)<=k-(x+1) :=
 Wx ((Nat.le_div_iff_mul_le (by decide)).mpr (by rw[Nat.mul_two];exact ED (DR h) l)) a
def zEb{n x l r:Nat}(h:l<r)(a:r-l<=n-x):l +(r-l) / 2-l<=n-(x+1):=by
 rw[Nat.add_sub_cancel_left];exact VE (Nat.le_pred_of_lt (Nat.div_lt_self (HF h) (by decide))) (Nat.pred_le_pred a)
def zHg{lo x q k:Nat}(h:q+1<=x)(a:lo+x-(q+1)<=k):x-(q+1)<=k-lo:=Nat.le_sub_of_add_le' (by rw[Nat.add_sub_assoc h]at a;exact a)
open PySem PyProof.Rows
def kk(Z:KeyKind)(p:HW):Z.α:=(Z.keyOf p.1).getD Z.dflt
def RA(Z:KeyKind)(p:HW):Prop:=∃a,Z.keyOf p.1=some a
def le(Z:KeyKind)(p q:HW):Prop:=Z.kle (kk Z p) (kk Z q)
def KY(Z:KeyKind)(l:A0 HW):Prop:=l.Pairwise (le Z)
structure QO(prog:HV)(w:HX)(A:IA)(s:A4)(Z:KeyKind)(kd:JP):Prop where
 lt:∀(x y:A2) (a b:Z.α) (Q:Bool->A4->Prop) (E:A2->A4->Prop),Z.keyOf x=some a->Z.keyOf y=some b->Q (Z.blt a b) s->wpAny (model prog w) A (keyLt' kd x y) Q E s
section
variable{prog:HV}{w:HX}{A:IA}{E:A2->A4->Prop}{s:A4}{Z:KeyKind}{kd:JP}
theorem Ie(C:QO prog w A s Z kd){st:HZ}{x y:HW}{Q:A5 Bool->HZ->Prop}(e:kindOf st=kd)(f:RA Z x)(g:RA Z y)
  (h:Q (some (Z.blt (kk Z x) (kk Z y))) st):wpS (model prog w) A E s (lt' x y) Q st:=by
 obtain⟨a,c⟩:=f;obtain⟨b,d⟩:=g;have i:kk Z x=a:=by unfold kk;rw[c];rfl
 have j:kk Z y=b:=by unfold kk;rw[d];rfl
 rw[i,j]at h;rw[lt'_eq];refine wpS_bind (wpS_get ?_);rw[e];refine wpS_bind (wpS_lift (GF (C.lt x.1 y.1 a b _ _ c d ⟨rfl,?_⟩)));exact wpS_pure h
theorem E9{st:HZ}{a:HU HW}{i:Nat}{p:HW}{Q:HW->HZ->Prop}(hi:a[i]?=some p)(h:Q p st):wpS (model prog w) A E s (elem' a i) Q st:=by
 rw[elem'_eq,hi];exact wpS_pure h
def V0:Bool->HW->HU HW->Nat->Nat->Nat->StateT HZ Sem (A5 Nat):=sortPriv% PySem.Builtin.gallop
def SF(left:Bool)(a:HW)(b:HU HW)(bs:Nat)(i:Nat):StateT HZ Sem (A5 Bool):=do
 let x <-elem' b (bs+i)
 if left then lt' x a else return(<-lt' a x).map (!·)
theorem Oj(left:Bool)(c:HW)(d:HU HW)(bs n b:Nat):V0 left c d bs n b =(do
  let mut la:=0
  let mut a:=1
  let mut lo:=0
  let mut hi:=0
  let some g <-SF left c d bs b | return none
  if g then
   let e:=n-b
   for _ in [0:n] do
    if a ≥ e then break
    let some f <-SF left c d bs (b+a) | return none
    if !f then break
    la:=a
    a:=2*a+1
   lo:=b+la+1
   hi:=b+min a e
  else
   let e:=b+1
   for _ in [0:n] do
    if a ≥ e then break
    let some h <-SF left c d bs (b-a) | return none
    if h then break
    la:=a
    a:=2*a+1
   lo:=b+1-min a e
   hi:=b-la
  for _ in [0:n] do
   if lo ≥ hi then break
   let m:=lo +(hi-lo) / 2
   let some f <-SF left c d bs m | return none
   if f then lo:=m+1 else hi:=m
  return some hi):=rfl
def PB(Z:KeyKind)(left:Bool)(a:HW)(p:HW):Bool:=if left then Z.blt (kk Z p) (kk Z a)else !Z.blt (kk Z a) (kk Z p)
theorem Zg(C:QO prog w A s Z kd){st:HZ}{left:Bool}{b p:HW}{c:HU HW}{bs i:Nat}{Q:A5 Bool->HZ->Prop}(d:kindOf st=kd)(a:RA Z b)(e:RA Z p)(hi:c[bs+i]?=some p)
  (h:Q (some (PB Z left b p)) st):wpS (model prog w) A E s (SF left b c bs i) Q st:=by
 unfold SF;refine wpS_bind (E9 hi ?_);cases left with
 | true=>exact Ie C d e a h
 | false =>
  simp only[BD,CO];refine wpS_bind (Ie C d a e ?_);exact wpS_pure h
theorem Ms(C:QO prog w A s Z kd){st:HZ}{left:Bool}{L:HW}{O:HU HW}{bs n g:Nat}{Q:A5 Nat->HZ->Prop}(hk:kindOf st=kd)(R:RA Z L)
  (P:Nat->Bool) (hP:∀i,i<n->∃p,O[bs+i]?=some p/\RA Z p/\PB Z left L p=P i) (o:∀i j,i<=j->j<n->P j=true->P i=true) (T:g<n)
  (h:∀k,k<=n->(∀i,i<k->P i=true)->(∀i,k<=i->i<n->P i=false)->Q (some k) st):wpS (model prog w) A E s (V0 left L O bs n g) Q st:=by
 have B:∀{a:HZ} {i:Nat} {Q:A5 Bool->HZ->Prop},a=st->i<n->Q (some (P i)) a->wpS (model prog w) A E s (SF left L O bs i) Q a:=by
  intro a i Q e hi q;subst e;obtain⟨p,U,V,W⟩:=hP i hi;exact Zg C hk R V U (by rw[W];exact q)
 have m:∀i j,i<=j->j<n->P i=false->P j=false:=by
  intro i j X hj hi;cases e:P j with
  | false=>rfl
  | true=>rw[o i j X hj e]at hi;cases hi
 rw[Oj];dsimp only;refine wpS_bind (B rfl T ?_);dsimp only;have S:∀{lo hi:Nat} {f:Nat->(A5 (A5 Nat)×Nat×Nat)->StateT HZ Sem (ForInStep (A5 (A5 Nat)×Nat×Nat))},
   (∀x l h,wpS (model prog w) A E s (f x (none,l,h)) (λr a=>a=st/\(if h<=l then r = .done (none,l,h)else if P (l +(h-l) / 2)=true then r = .yield (none,l +(h-l) / 2+1,h)else r = .yield (none,l,l +(h-l) / 2))) st\/¬(h<=l\/l +(h-l) / 2<n)) ->
   lo<=hi->hi<=n->(∀i,i<lo->P i=true)->(∀i,hi<=i->i<n->P i=false) ->
   wpS (model prog w) A E s (forIn [0:n] (none,lo,hi) f) (λc a=>a=st/\∃k,c =(none,k,k)/\k<=n/\(∀i,i<k->P i=true)/\(∀i,k<=i->i<n->P i=false)) st:=by
  intro lo hi f hf U V W h4;refine wpS_forRange (I:=λx c a=>a=st/\∃l r,c =(none,l,r)/\l<=r/\r<=n/\r-l<=n-x/\(∀i,i<l->P i=true)/\(∀i,r<=i->i<n->P i=false)) ?_ ?_ ⟨rfl,lo,hi,rfl,U,V,by lia,W,h4⟩
  .rintro x c a _ hx ⟨rfl,l,r,rfl,hl,K,Y,M,N⟩;have hin:r<=l\/l +(r-l) / 2<n:=by lia
   rcases hf x l r with q | q
   .refine wpS_mono q λz st2 ⟨e,F⟩=>?_;subst e;by_cases b:r<=l
    .rw[AN b]at F;subst F;have:l=r:=by lia
     subst this;exact⟨rfl,l,rfl,K,M,N⟩
    .rw[AI b]at F;cases u:P (l +(r-l) / 2)with
     | true =>
      rw[AN u]at F;subst F;exact⟨rfl,_,_,rfl,by lia,by lia,Wx (EI ..) Y,λi hi=>o i (l +(r-l) / 2) (by lia) (by lia) u,N⟩
     | false =>
      rw[AI (by rw[u];exact BE)]at F;subst F;exact⟨rfl,_,_,rfl,by lia,by lia,zEb (Nat.lt_of_not_le b) Y,M,λi G y=>m (l +(r-l) / 2) i G y u⟩
   .exact absurd hin q
  .rintro c a ⟨rfl,l,r,rfl,hl,K,Y,M,N⟩;have:l=r:=by lia
   subst this;exact⟨rfl,l,rfl,K,M,N⟩
 cases K:P g with
 | true =>
  rw[AN rfl];refine wpS_bind (wpS_mono (wpS_forRange (I:=λx c a=>a=st/\∃la d,c =(none,la,d)/\la<d/\x+1<=d/\g+la<n/\P (g+la)=true)
   (Q:=λc a=>a=st/\∃la d,c =(none,la,d)/\la<d/\g+la<n/\P (g+la)=true/\(n-g<=d\/(g+d<n/\P (g+d)=false))) ?st ?en ⟨rfl,0,1,rfl,by lia,by lia,by lia,K⟩) ?po)
  case en =>
   rintro c a ⟨rfl,la,d,rfl,D,a2,v,t⟩;exact⟨rfl,la,d,rfl,D,v,t,.inl (by lia)⟩
  case st =>
   rintro x c a _ hx ⟨rfl,la,d,rfl,D,a2,v,t⟩;dsimp only;by_cases b:d ≥ n-g
   .rw[AN b];exact wpS_pure ⟨rfl,la,d,rfl,D,v,t,.inl b⟩
   .rw[AI b];refine wpS_bind (B rfl (show g+d<n by lia) ?_);cases u:P (g+d)with
    | true=>exact wpS_pure ⟨rfl,d,2*d+1,rfl,by lia,by lia,by lia,u⟩
    | false=>exact wpS_pure ⟨rfl,la,d,rfl,D,v,t,.inr ⟨by lia,u⟩⟩
  case po =>
   rintro c a ⟨rfl,la,d,rfl,D,v,t,H⟩;dsimp only;refine wpS_bind (wpS_mono (S (lo:=g+la+1) (hi:=g+min d (n-g)) (λx l J=>by
    dsimp only;by_cases b:J<=l
    .refine .inl ?_;rw[AN b];exact wpS_pure ⟨rfl,by rw[AN b]⟩
    .by_cases hn:l +(J - l) / 2<n
     .refine .inl ?_;rw[AI b];refine wpS_bind (B rfl hn ?_);dsimp only;cases u:P (l +(J - l) / 2)with
      | true =>
       simp only[GK];exact wpS_pure ⟨rfl,by rw[AI b]⟩
      | false =>
       simp only[BD,CO];exact wpS_pure ⟨rfl,by rw[AI b]⟩
     .exact .inr (by lia)) (by lia) (by lia) (λi hi=>o i (g+la) (by lia) v t) λi G y=>?_) λc a ⟨e,k,e2,b1,b2,b3⟩=>?_)
   .rcases H with H | ⟨H,a6⟩
    .lia
    .exact m (g+d) i (by lia) y a6
   .subst e e2;exact wpS_pure (h k b1 b2 b3)
 | false =>
  rw[AI BE];refine wpS_bind (wpS_mono (wpS_forRange (I:=λx c a=>a=st/\∃la d,c =(none,la,d)/\la<d/\x+1<=d/\la<=g/\P (g-la)=false)
   (Q:=λc a=>a=st/\∃la d,c =(none,la,d)/\la<d/\la<=g/\P (g-la)=false/\(g+1<=d\/(d<=g/\P (g-d)=true))) ?st ?en ⟨rfl,0,1,rfl,by lia,by lia,by lia,K⟩) ?po)
  case en =>
   rintro c a ⟨rfl,la,d,rfl,D,a2,v,t⟩;exact⟨rfl,la,d,rfl,D,v,t,.inl (by lia)⟩
  case st =>
   rintro x c a _ hx ⟨rfl,la,d,rfl,D,a2,v,t⟩;dsimp only;by_cases b:d ≥ g+1
   .rw[AN b];exact wpS_pure ⟨rfl,la,d,rfl,D,v,t,.inl b⟩
   .rw[AI b];refine wpS_bind (B rfl (show g-d<n by lia) ?_);cases u:P (g-d)with
    | false=>exact wpS_pure ⟨rfl,d,2*d+1,rfl,by lia,by lia,by lia,u⟩
    | true=>exact wpS_pure ⟨rfl,la,d,rfl,D,v,t,.inr ⟨by lia,u⟩⟩
  case po =>
   rintro c a ⟨rfl,la,d,rfl,D,v,t,H⟩;dsimp only;refine wpS_bind (wpS_mono (S (lo:=g+1-min d (g+1)) (hi:=g-la) (λx l J=>by
    dsimp only;by_cases b:J<=l
    .refine .inl ?_;rw[AN b];exact wpS_pure ⟨rfl,by rw[AN b]⟩
    .by_cases hn:l +(J - l) / 2<n
     .refine .inl ?_;rw[AI b];refine wpS_bind (B rfl hn ?_);dsimp only;cases u:P (l +(J - l) / 2)with
      | true =>
       simp only[GK];exact wpS_pure ⟨rfl,by rw[AI b]⟩
      | false =>
       simp only[BD,CO];exact wpS_pure ⟨rfl,by rw[AI b]⟩
     .exact .inr (by lia)) (by lia) (by lia) (λi hi=>?_) λi G y=>m (g-la) i (by lia) y t) λc a ⟨e,k,e2,b1,b2,b3⟩=>?_)
   .rcases H with H | ⟨H,a6⟩
    .lia
    .exact o i (g-d) (by lia) (by lia) a6
   .subst e e2;exact wpS_pure (h k b1 b2 b3)
end
end TS
namespace TS
open PySem PyProof.Rows
section
variable{Z:KeyKind}
theorem RJ(p:HW):le Z p p:=KeyOrd.kle_refl _
theorem I7{p q r:HW}(h1:le Z p q)(h2:le Z q r):le Z p r:=KeyOrd.kle_trans h1 h2
structure ML(Z:KeyKind)(a b:A0 HW)(o:A0 HW)(i j:Nat):Prop where
 perm:o.Perm (a.take i++b.take j)
 sor:KY Z o
 la:∀x∈o,∀y∈a.drop i,le Z x y
 lb:∀x∈o,∀y∈b.drop j,le Z x y
theorem ML.sym{a b o:A0 HW}{i j:Nat}(m:ML Z a b o i j):ML Z b a o j i:=⟨m.perm.trans CV,m.sor,m.lb,m.la⟩
theorem Gm{l:A0 HW}(k:Nat)(h:KY Z l):∀x∈l.take k,∀y∈l.drop k,le Z x y:=by
 have a:KY Z (l.take k++l.drop k):=by rw[BX];exact h
 exact(CP.mp a).2.2
theorem ML.addA{a b o:A0 HW}{i j:Nat}(m:ML Z a b o i j)(e:KY Z a)(k:Nat)(f:∀y∈(a.drop i).take k,∀z∈b.drop j,le Z y z):ML Z a b (o ++(a.drop i).take k) (i+k) j:=by
 have d:KY Z (a.drop i):=e.sublist (FG _ _);refine⟨?_,?_,λx hx y c=>?_,λx hx y c=>?_⟩
 .rw[List.take_add];refine(DT _ m.perm).trans ?_;rw[BG,BG];exact CY _ CV
 .refine CP.mpr ⟨m.sor,d.sublist (ES _ _),λx hx y c=>m.la x hx y (DE c)⟩
 .rw[<-FB]at c;rcases AO.mp hx with hx | hx
  .exact m.la x hx y (EO c)
  .exact Gm k d x hx y c
 .rcases AO.mp hx with hx | hx
  .exact m.lb x hx y c
  .exact f x hx y c
theorem ML.addB{a b o:A0 HW}{i j:Nat}(m:ML Z a b o i j)(c:KY Z b)(k:Nat)(d:∀y∈(b.drop j).take k,∀z∈a.drop i,le Z y z):ML Z a b (o ++(b.drop j).take k) i (j+k) :=
 (m.sym.addA c k d).sym
theorem ML.endA{a b o:A0 HW}{i j:Nat}(m:ML Z a b o i j)(e:KY Z a)(f:KY Z b)(h:∀y∈a.drop i,∀z∈b.drop j,le Z y z):KY Z (o++a.drop i++b.drop j)/\(o++a.drop i++b.drop j).Perm (a++b):=by
 refine⟨?_,?_⟩
 .refine CP.mpr ⟨CP.mpr ⟨m.sor,e.sublist (FG _ _),m.la⟩,f.sublist (FG _ _),λx hx y c=>?_⟩;rcases AO.mp hx with hx | hx
  .exact m.lb x hx y c
  .exact h x hx y c
 .have g:(o++a.drop i++b.drop j).Perm ((a.take i++b.take j)++a.drop i++b.drop j):=DT _ (DT _ m.perm);refine g.trans ?_;have d:((a.take i++b.take j)++a.drop i++b.drop j).Perm ((a.take i++a.drop i) ++(b.take j++b.drop j)):=by
   rw[BG,BG,BG];refine CY _ ?_;rw[<-BG,<-BG];exact DT _ CV
  rw[BX,BX]at d;exact d
theorem ML.endB{a b o:A0 HW}{i j:Nat}(m:ML Z a b o i j)(c:KY Z a)(d:KY Z b)(h:∀y∈b.drop j,∀z∈a.drop i,le Z y z):KY Z (o++b.drop j++a.drop i)/\(o++b.drop j++a.drop i).Perm (a++b) :=
 ⟨(m.sym.endA d c h).1,(m.sym.endA d c h).2.trans CV⟩
structure MH(Z:KeyKind)(a b:A0 HW)(o:A0 HW)(i j:Nat):Prop where
 perm:o.Perm (a.drop i++b.drop j)
 sor:KY Z o
 la:∀x∈o,∀y∈a.take i,le Z y x
 lb:∀x∈o,∀y∈b.take j,le Z y x
theorem MH.sym{a b o:A0 HW}{i j:Nat}(m:MH Z a b o i j):MH Z b a o j i:=⟨m.perm.trans CV,m.sor,m.lb,m.la⟩
theorem MH.addA{a b o:A0 HW}{i j:Nat}(m:MH Z a b o i j)(g:KY Z a)(k:Nat)(d:k<=i)(h:∀y∈(a.take i).drop k,∀z∈b.take j,le Z z y):MH Z a b ((a.take i).drop k++o) k j:=by
 have f:KY Z (a.take i):=g.sublist (ES _ _);have e:a.drop k =(a.take i).drop k++a.drop i:=by
  conv=>lhs;rw[<-BX i a]
  rw[List.drop_append];by_cases l:i<=a.length
  .rw[AZ,FZ l,Nat.sub_eq_zero_of_le d,EQ]
  .have:a.drop i = []:=EX (by lia);rw[this,List.drop_nil]
 have n:(a.take i).take k=a.take k:=by rw[List.take_take,FZ d]
 refine⟨?_,?_,λx hx y c=>?_,λx hx y c=>?_⟩
 .rw[e,BG];exact CY _ m.perm
 .exact CP.mpr ⟨f.sublist (FG _ _),m.sor,λx hx y c=>m.la y c x (EO hx)⟩
 .rw[<-n]at c;rcases AO.mp hx with hx | hx
  .exact Gm k f y c x hx
  .exact m.la x hx y (DE c)
 .rcases AO.mp hx with hx | hx
  .exact h x hx y c
  .exact m.lb x hx y c
theorem MH.addB{a b o:A0 HW}{i j:Nat}(m:MH Z a b o i j)(d:KY Z b)(k:Nat)(c:k<=j)(e:∀y∈(b.take j).drop k,∀z∈a.take i,le Z z y):MH Z a b ((b.take j).drop k++o) i k :=
 (m.sym.addA d k c e).sym
theorem MH.endA{a b o:A0 HW}{i j:Nat}(m:MH Z a b o i j)(e:KY Z a)(f:KY Z b)(h:∀y∈a.take i,∀z∈b.take j,le Z y z):KY Z (a.take i++b.take j++o)/\(a.take i++b.take j++o).Perm (a++b):=by
 refine⟨?_,?_⟩
 .refine CP.mpr ⟨CP.mpr ⟨e.sublist (ES _ _),f.sublist (ES _ _),h⟩,m.sor,λx hx y c=>?_⟩;rcases AO.mp hx with hx | hx
  .exact m.la y c x hx
  .exact m.lb y c x hx
 .have g:(a.take i++b.take j++o).Perm (a.take i++b.take j ++(a.drop i++b.drop j)):=CY _ m.perm;refine g.trans ?_;have d:(a.take i++b.take j ++(a.drop i++b.drop j)).Perm ((a.take i++a.drop i) ++(b.take j++b.drop j)):=by
   rw[BG,BG];refine CY _ ?_;rw[<-BG,<-BG];exact DT _ CV
  rw[BX,BX]at d;exact d
theorem MH.endB{a b o:A0 HW}{i j:Nat}(m:MH Z a b o i j)(c:KY Z a)(d:KY Z b)(h:∀y∈b.take j,∀z∈a.take i,le Z y z):KY Z (b.take j++a.take i++o)/\(b.take j++a.take i++o).Perm (a++b) :=
 ⟨(m.sym.endA d c h).1,(m.sym.endA d c h).2.trans CV⟩
end
section
variable{prog:HV}{w:HX}{A:IA}{E:A2->A4->Prop}{s:A4}{Z:KeyKind}{kd:JP}
def Cd(g:Nat):StateT HZ Sem Unit:=modify λs=>SortSt.mk' (kindOf s) (arrOf s) (pendingOf s) g (failedOf s)
def Ej:HU HW->HU HW->StateT HZ Sem (HU HW):=sortPriv% PySem.Builtin.mergeLo
theorem Ja(a b:HU HW):Ej a b =(do
  rule "list.sort.merge-lo"
  let e:=a.size+b.size
  let d (o:HU HW) (i j:Nat):=o++a.extract i a.size++b.extract j b.size
  let h (o:HU HW) (i j:Nat):=o++b.extract j b.size++a.extract i a.size
  let mut o:HU HW:=#[<-elem' b 0]
  let mut i:=0
  let mut j:=1
  if j == b.size then return d o i j
  if i+1 == a.size then return h o i j
  let mut c:=gallopOf (<-get)
  for _ in [0:e] do
   let mut f:=0
   let mut g:=0
   for _ in [0:e] do
    let some l <-lt' (<-elem' b j) (<-elem' a i) | return d o i j
    if l then
     o:=o.push (<-elem' b j);j:=j+1;g:=g+1;f:=0
     if j == b.size then return d o i j
     if g ≥ c then break
    else
     o:=o.push (<-elem' a i);i:=i+1;f:=f+1;g:=0
     if i+1 == a.size then return h o i j
     if f ≥ c then break
   rule "list.sort.gallop"
   c:=c+1
   for _ in [0:e] do
    if c>1 then c:=c-1
    Cd c
    let some k <-V0 false (<-elem' b j) a i (a.size-i) 0 | return d o i j
    f:=k
    if k>0 then
     o:=o++a.extract i (i+k);i:=i+k
     if i+1 == a.size then return h o i j
     if i == a.size then return d o i j
    o:=o.push (<-elem' b j);j:=j+1
    if j == b.size then return d o i j
    let some k <-V0 true (<-elem' a i) b j (b.size-j) 0 | return d o i j
    g:=k
    if k>0 then
     o:=o++b.extract j (j+k);j:=j+k
     if j == b.size then return d o i j
    o:=o.push (<-elem' a i);i:=i+1
    if i+1 == a.size then return h o i j
    if f<7&&g<7 then break
   c:=c+1
   Cd c
  unsupported "internal:list.sort.merge-bound"):=rfl
def Sm(st a:HZ):Prop:=kindOf a=kindOf st/\arrOf a=arrOf st/\pendingOf a=pendingOf st/\failedOf a=failedOf st
theorem Sm.refl(st:HZ):Sm st st:=⟨rfl,rfl,rfl,rfl⟩
theorem Y1{st st0:HZ}{g:Nat}{Q:Unit->HZ->Prop}(b:Sm st0 st)(h:∀a,Sm st0 a->Q () a):wpS (model prog w) A E s (Cd g) Q st :=
 wpS_modify (h _ ⟨b.1,b.2.1,b.2.2.1,b.2.2.2⟩)
theorem Ed{l:A0 HW}{i k:Nat}{y:HW}(h:y∈(l.drop i).take k):∃t,t<k/\l[i+t]?=some y:=by
 obtain⟨t,a,e⟩:=EA.mp h;rw[AZ,DJ]at a;refine⟨t,by lia,?_⟩;rw[List.getElem_take,List.getElem_drop]at e;rw[<-e];exact AF (by lia)
theorem Kg{l:A0 HW}{i:Nat}{y:HW}(h:y∈l.drop i):∃t,i+t<l.length/\l[i+t]?=some y:=by
 obtain⟨t,a,e⟩:=EA.mp h;rw[DJ]at a;refine⟨t,by lia,?_⟩;rw[List.getElem_drop]at e;rw[<-e];exact AF (by lia)
theorem Oe{l:A0 HW}{i:Nat}{y:HW}(h:y∈l.take i):∃t,t<i/\t<l.length/\l[t]?=some y:=by
 obtain⟨t,a,e⟩:=EA.mp h;rw[AZ]at a;refine⟨t,by lia,by lia,?_⟩;rw[List.getElem_take]at e;rw[<-e];exact AF (by lia)
theorem Xi{l:A0 HW}{i k:Nat}{y:HW}(h:y∈(l.take i).drop k):∃t,k<=t/\t<i/\l[t]?=some y:=by
 obtain⟨t,b,a⟩:=Kg h;rw[AZ]at b;rw[DK (by lia)]at a;exact⟨k+t,by lia,by lia,a⟩
theorem Aj{l:A0 HW}(h:KY Z l){i j:Nat}{p q:HW}(a:i<=j)(b:l[i]?=some p)(c:l[j]?=some q):le Z p q:=by
 obtain⟨d,rfl⟩:=AJ.mp b;obtain⟨e,rfl⟩:=AJ.mp c;rcases Nat.lt_or_eq_of_le a with z | z
 .exact List.pairwise_iff_getElem.mp h i j d e z
 .subst z;exact RJ _
theorem Fh{l:A0 HW}(h:KY Z l){i:Nat}{p:HW}(a:l[i]?=some p):∀z∈l.drop i,le Z p z:=λz b=>by
 obtain⟨t,_,e⟩:=Kg b;exact Aj h (EI _ _) a e
theorem IE{a:HU HW}{i:Nat}{p:HW}:a[i]?=some p↔a.toList[i]?=some p:=by rw[BJ]
theorem i5{a:HU HW}{i:Nat}(h:i<a.size):∃p,a[i]?=some p:=⟨a[i],getElem?_pos a i h⟩
theorem Ra{l:A0 HW}{i:Nat}{p:HW}(h:l[i]?=some p):(l.drop i).take 1 = [p]:=by
 obtain⟨a,rfl⟩:=AJ.mp h;rw[DV a];rfl
theorem Ep(a:HU HW)(i k:Nat):(a.extract i (i+k)).toList =(a.toList.drop i).take k:=by
 rw[ER,EF,Nat.add_sub_cancel_left]
theorem w9(a:HU HW)(i:Nat):(a.extract i a.size).toList=a.toList.drop i:=by
 rw[ER,EF,DU];rw[DJ,AU];exact VD _
theorem y6(a:HU HW)(i:Nat):(a.extract 0 i).toList=a.toList.take i:=by
 rw[ER,EF,EQ,Nat.sub_zero]
def Rm(Z:KeyKind)(a b r:HU HW):Prop:=KY Z r.toList/\r.toList.Perm (a.toList++b.toList)
structure MY(Z:KeyKind)(a b:HU HW):Prop where
 sa:KY Z a.toList
 sb:KY Z b.toList
 ka:∀(i:Nat) p,a[i]?=some p->RA Z p
 kb:∀(i:Nat) p,b[i]?=some p->RA Z p
 na:1<=a.size
 nb:1<=b.size
 first:∀q,b[0]?=some q->∀z∈a.toList,le Z q z
 last:∀p,a[a.size-1]?=some p->∀z∈b.toList,le Z z p
section
variable{a b o:HU HW}{i j k:Nat}{p q:HW}
theorem MY.pushB(P:MY Z a b)(m:ML Z a.toList b.toList o.toList i j)(c:b[j]?=some q)(h:∀z∈a.toList.drop i,le Z q z):ML Z a.toList b.toList (o.push q).toList i (j+1):=by
 have d:=m.addB P.sb 1 (by rw[Ra (IE.mp c)];intro y e;rw[AE.mp e];exact h);rw[Ra (IE.mp c)]at d;rw[DD];exact d
theorem MY.pushA(P:MY Z a b)(m:ML Z a.toList b.toList o.toList i j)(c:a[i]?=some p)(h:∀z∈b.toList.drop j,le Z p z):ML Z a.toList b.toList (o.push p).toList (i+1) j:=by
 have d:=m.addA P.sa 1 (by rw[Ra (IE.mp c)];intro y e;rw[AE.mp e];exact h);rw[Ra (IE.mp c)]at d;rw[DD];exact d
theorem MY.extA(P:MY Z a b)(m:ML Z a.toList b.toList o.toList i j)(h:∀y∈(a.toList.drop i).take k,∀z∈b.toList.drop j,le Z y z):ML Z a.toList b.toList (o++a.extract i (i+k)).toList (i+k) j:=by
 rw[BT,Ep];exact m.addA P.sa k h
theorem MY.extB(P:MY Z a b)(m:ML Z a.toList b.toList o.toList i j)(h:∀y∈(b.toList.drop j).take k,∀z∈a.toList.drop i,le Z y z):ML Z a.toList b.toList (o++b.extract j (j+k)).toList i (j+k):=by
 rw[BT,Ep];exact m.addB P.sb k h
theorem MY.doneB(P:MY Z a b)(m:ML Z a.toList b.toList o.toList i j)(d:j=b.size):Rm Z a b (o++a.extract i a.size++b.extract j b.size):=by
 unfold Rm;rw[BT,BT,w9,w9];refine m.endA P.sa P.sb λy _ z c=>?_;rw[EX (by rw[AU];lia)]at c;exact absurd c (by simp)
theorem MY.doneA(P:MY Z a b)(m:ML Z a.toList b.toList o.toList i j)(hi:i=a.size):Rm Z a b (o++a.extract i a.size++b.extract j b.size):=by
 unfold Rm;rw[BT,BT,w9,w9];refine m.endA P.sa P.sb λy c z _=>?_;rw[EX (by rw[AU];lia)]at c;exact absurd c (by simp)
theorem MY.lastA(P:MY Z a b)(m:ML Z a.toList b.toList o.toList i j)(hi:i+1=a.size):Rm Z a b (o++b.extract j b.size++a.extract i a.size):=by
 unfold Rm;rw[BT,BT,w9,w9];refine m.endB P.sa P.sb λy d z f=>?_;obtain⟨t,g,c⟩:=Kg f;rw[AU]at g;have e:i+t=a.size-1:=by lia
 rw[e]at c;exact P.last z (IE.mpr c) y (EO d)
end
theorem Sm.knd{st a:HZ}(h:Sm st a){k:JP}(b:kindOf st=k):kindOf a=k:=h.1.trans b
theorem y9(C:QO prog w A s Z kd){st:HZ}{left:Bool}{d:HW}{b:HU HW}{bs n e:Nat}{Q:A5 Nat->HZ->Prop}(D:kindOf st=kd)(f:RA Z d)
  (hsz:bs+n<=b.size) (F:∀(i:Nat) p,b[i]?=some p->RA Z p) (G:∀(u v:Nat) p q,u<=v->v<n->b[bs+u]?=some p->b[bs+v]?=some q->le Z p q) (g:e<n)
  (h:∀k,k<=n->(∀(t:Nat) p,t<k->b[bs+t]?=some p->PB Z left d p=true)->(∀(t:Nat) p,k<=t->t<n->b[bs+t]?=some p->PB Z left d p=false)->Q (some k) st) :
  wpS (model prog w) A E s (V0 left d b bs n e) Q st:=by
 have c:∀t,t<n->∃p,b[bs+t]?=some p:=λt e=>i5 (by lia);refine Ms C D f (λt=>match b[bs+t]? with | some p=>PB Z left d p | none=>false) (λi H=>?_) (λi j m y a=>?_) g λk o I J=>?_
 .obtain⟨p,a⟩:=c i H;exact⟨p,a,F _ p a,by rw[a]⟩
 .obtain⟨p,z⟩:=c i (by lia);obtain⟨q,B⟩:=c j y;rw[B]at a;rw[z];have l:=G i j p q m y z B;dsimp only at a⊢;unfold PB at a⊢;cases left with
  | true =>
   simp only[GK]at a⊢;exact KeyOrd.klt_of_kle_of_klt l a
  | false =>
   simp only[BD,CO,Bool.not_eq_true']at a⊢;exact KeyOrd.kle_trans l a
 .refine h k o (λt p e a=>?_) λt p r x a=>?_
  .have:=I t e;rw[a]at this;exact this
  .have:=J t r x;rw[a]at this;exact this
theorem Fk{a p:HW}(h:PB Z false a p=true):le Z p a:=by
 unfold PB at h;show Z.blt (kk Z a) (kk Z p)=false;simpa using h
theorem Ch{a p:HW}(h:PB Z false a p=false):Z.klt (kk Z a) (kk Z p):=by
 unfold PB at h;show Z.blt (kk Z a) (kk Z p)=true;simpa using h
theorem Jc{a p:HW}(h:PB Z true a p=true):Z.klt (kk Z p) (kk Z a):=by
 unfold PB at h;show Z.blt (kk Z p) (kk Z a)=true;simpa using h
theorem Fr{a p:HW}(h:PB Z true a p=false):le Z a p:=by
 unfold PB at h;show Z.blt (kk Z p) (kk Z a)=false;simpa using h
section
variable{α:Type}{Q:α->HZ->Prop}{st:HZ}
theorem T8{c:Prop}{_:Decidable c}{t e:StateT HZ Sem α}(h1:c->wpS (model prog w) A E s t Q st)(h2:¬c->wpS (model prog w) A E s e Q st):wpS (model prog w) A E s (if c then t else e) Q st:=by
 split
 .rename_i h;exact h1 h
 .rename_i h;exact h2 h
theorem P8{x y:Nat}{t e:StateT HZ Sem α}(h1:x=y->wpS (model prog w) A E s t Q st)(h2:x≠y->wpS (model prog w) A E s e Q st):wpS (model prog w) A E s (if(x == y)=true then t else e) Q st :=
 T8 (λh=>h1 (eq_of_beq h)) λh=>h2 λz=>h (beq_iff_eq.mpr z)
theorem Rx{c:Prop}{_:Decidable c}{t:StateT HZ Sem α}{F:Nat->StateT HZ Sem α}(x:Nat){y:Nat}(h:∀g,wpS (model prog w) A E s (F g) Q st)(e:t=F x):wpS (model prog w) A E s (if c then t else F y) Q st:=by
 subst e;exact T8 (λ_=>h _) λ_=>h _
theorem Ex{c:Prop}{_:Decidable c}{t:StateT HZ Sem α}{F:HU HW->Nat->StateT HZ Sem α}{o:HU HW}{i:Nat}(R:HU HW->Nat->Prop)(h:∀o i,R o i->wpS (model prog w) A E s (F o i) Q st)
  (a:(∀o i,R o i->wpS (model prog w) A E s (F o i) Q st)->c->wpS (model prog w) A E s t Q st) (b:¬c->R o i):wpS (model prog w) A E s (if c then t else F o i) Q st:=T8 (a h) λz=>h _ _ (b z)
end
theorem Qf{α β:Type}{h:Sem Unit}{i:StateT HZ Sem HW}{x0:HW}{b e:Prop}{_:Decidable b}{_:Decidable e}{j k:HW->StateT HZ Sem α}{d:HW->HZ->β}{n:Nat}{f:Nat->β->StateT HZ Sem (ForInStep β)}{g:β->StateT HZ Sem α}{Q:α->HZ->Prop}{st:HZ}
  (m:∀R:Unit->HZ->Prop,R () st->wpS (model prog w) A E s (liftM h:StateT HZ Sem Unit) R st) (o:∀R:HW->HZ->Prop,R x0 st->wpS (model prog w) A E s i R st) (h1:b->wpS (model prog w) A E s (j x0) Q st) (h2:¬b->e->wpS (model prog w) A E s (k x0) Q st)
  (p:¬b->¬e->wpS (model prog w) A E s (forIn [0:n] (d x0 st) f) (λc a=>wpS (model prog w) A E s (g c) Q a) st) :
  wpS (model prog w) A E s ((liftM h:StateT HZ Sem Unit) >>= λ_=>i >>= λx=>if b then j x else if e then k x else get >>= λa=>forIn [0:n] (d x a) f >>= g) Q st :=
 wpS_bind (m _ (wpS_bind (o _ (T8 h1 λl=>T8 (h2 l) λq=>wpS_bind (wpS_get (wpS_bind (p l q)))))))
def MR(Z:KeyKind)(a b:HU HW)(st:HZ){β:Type}(c:A5 (HU HW)×β)(d:HZ):Prop:=Sm st d/\∃r,c.1=some r/\Rm Z a b r
theorem MR.mk{a b r:HU HW}{st d:HZ}{β:Type}{c:β}(e:Sm st d)(h:Rm Z a b r):MR Z a b st (some r,c) d:=⟨e,r,rfl,h⟩
structure PX(Z:KeyKind)(a b:HU HW)(n:Nat)(o:HU HW)(i j:Nat):Prop where
 m:ML Z a.toList b.toList o.toList i j
 hi:i+1<a.size
 hj:j<b.size
 hn:n<=i+j
theorem PX.putB{a b o c:HU HW}{n i j:Nat}(h:PX Z a b n o i j)(m:ML Z a.toList b.toList c.toList i (j+1))(e:j+1≠b.size):PX Z a b (n+1) c i (j+1):=⟨m,h.hi,FS h.hj e,E_ h.hn⟩
theorem PX.putA{a b o c:HU HW}{n i j:Nat}(h:PX Z a b n o i j)(m:ML Z a.toList b.toList c.toList (i+1) j)(e:i+1+1≠a.size):PX Z a b (n+1) c (i+1) j:=⟨m,FS h.hi e,h.hj,by rw[Nat.add_right_comm];exact E_ h.hn⟩
theorem PX.mono{a b o:HU HW}{n c i j:Nat}(h:PX Z a b n o i j)(l:c<=n):PX Z a b c o i j:=⟨h.m,h.hi,h.hj,VE l h.hn⟩
def zHf(Z:KeyKind)(a b:HU HW)(st:HZ)(n:Nat)(c:A5 (HU HW)×HU HW×Nat×Nat×Nat)(d:HZ):Prop:=Sm st d/\∃o i j e,c =(none,o,i,j,e)/\PX Z a b n o i j
def PK(Z:KeyKind)(a b:HU HW)(st:HZ)(n:Nat)(c:A5 (HU HW)×HU HW×Nat×Nat×Nat×Nat)(d:HZ):Prop:=Sm st d/\∃o i j e f,c =(none,o,i,j,e,f)/\PX Z a b n o i j
def PY(Z:KeyKind)(a b:HU HW)(st:HZ)(n:Nat)(c:A5 (HU HW)×HU HW×Nat×Nat×Nat×Nat×Nat)(d:HZ):Prop:=Sm st d/\∃o i j e f g,c =(none,o,i,j,e,f,g)/\PX Z a b n o i j
theorem PK.mk{a b o:HU HW}{st c:HZ}{n i j d e:Nat}(f:Sm st c)(h:PX Z a b n o i j):PK Z a b st n (none,o,i,j,d,e) c:=⟨f,_,_,_,_,_,rfl,h⟩
theorem PY.mk{a b o:HU HW}{st c:HZ}{n i j d e f:Nat}(g:Sm st c)(h:PX Z a b n o i j):PY Z a b st n (none,o,i,j,d,e,f) c:=⟨g,_,_,_,_,_,_,rfl,h⟩
theorem Ka(C:QO prog w A s Z kd){st:HZ}{a b:HU HW}{Q:HU HW->HZ->Prop}(hk:kindOf st=kd)(P:MY Z a b)
  (h:∀r d,Sm st d->Rm Z a b r->Q r d):wpS (model prog w) A E s (Ej a b) Q st:=by
 rw[Ja];obtain⟨b0,O⟩:=i5 (a:=b) (i:=0) P.nb;have m0:ML Z a.toList b.toList (#[]:HU HW).toList 0 0:=⟨by simp,List.Pairwise.nil,λx hx=>absurd hx (by simp),λx hx=>absurd hx (by simp)⟩;have m1:ML Z a.toList b.toList (#[b0]:HU HW).toList 0 1:=by
  have:=P.pushB m0 O (by rw[EQ];exact P.first b0 O);simpa using this
 apply Qf (x0:=b0) (λR z=>wpS_lift (DF ⟨rfl,z⟩)) (λR z=>E9 O z)
 case h1=>exact λS=>wpS_pure (h _ _ (Sm.refl _) (P.doneB m1 (eq_of_beq S)))
 case h2=>exact λ_ T=>wpS_pure (h _ _ (Sm.refl _) (P.lastA m1 (eq_of_beq T)))
 intro S T;have p1:PX Z a b 1 #[b0] 0 1:=⟨m1,FS P.na λz=>T (beq_iff_eq.mpr z),FS P.nb λz=>S (beq_iff_eq.mpr z),VD _⟩;refine wpS_mono (wpS_forRange (I:=λx=>zHf Z a b st (x+1)) (Q:=MR Z a b st) ?st ?en ⟨Sm.refl _,_,_,_,_,rfl,p1⟩) ?po
 case po =>
  rintro⟨c1,c2⟩ d ⟨sm,r,e,hr⟩;cases e;exact wpS_pure (h r d sm hr)
 case en =>
  rintro c d ⟨sm,o,i,j,mg,rfl,p⟩;obtain⟨_,h1,h2,h3⟩:=p;exfalso;lia
 case st =>
  rintro x c d _ hx ⟨sm,o,i,j,mg,rfl,p⟩;refine wpS_bind (wpS_mono (wpS_forRange (I:=λ_=>PK Z a b st (x+1)) (Q:=λc d=>MR Z a b st c d\/PK Z a b st (x+1) c d) ?st1 ?en1 (PK.mk sm p)) ?po1)
  case en1=>exact λc st2 z=>.inr z
  case st1 =>
   rintro x2 c st2 _ _ ⟨f,o,i',j',ac,bc,rfl,N⟩;obtain⟨bj,l⟩:=i5 (a:=b) (i:=j') N.hj;obtain⟨ai,n⟩:=i5 (a:=a) (i:=i') (GL N.hi);refine wpS_bind (E9 l (wpS_bind (E9 n (wpS_bind (Ie C (f.knd hk) (P.kb _ _ l) (P.ka _ _ n) ?_)))));refine T8 (λU=>wpS_bind (E9 l ?_)) λU=>wpS_bind (E9 n ?_)
   .have m3:=P.pushB N.m l λz H=>I7 (KeyOrd.kle_of_klt U) (Fh P.sa (IE.mp n) z H);refine P8 (λG=>wpS_pure (.inl (MR.mk f (P.doneB m3 G)))) λG=>?_;have D:=(N.putB m3 G).mono (DM _);exact T8 (λ_=>wpS_pure (.inr (PK.mk f D))) λ_=>wpS_pure (PK.mk f D)
   .have m3:=P.pushA N.m n λz H=>I7 (show le Z ai bj from ET.mpr U) (Fh P.sb (IE.mp l) z H);refine P8 (λG=>wpS_pure (.inl (MR.mk f (P.lastA m3 G)))) λG=>?_;have D:=(N.putA m3 G).mono (DM _);exact T8 (λ_=>wpS_pure (.inr (PK.mk f D))) λ_=>wpS_pure (PK.mk f D)
  case po1 =>
   rintro⟨c1,c2⟩ st2 (⟨f,r,e,hr⟩ | ⟨f,o2,i2,j2,ac,bc,e,N⟩)
   .cases e;exact wpS_pure (MR.mk f hr)
   .cases e;refine wpS_bind (wpS_lift (DF ⟨rfl,?_⟩));refine wpS_bind (wpS_mono (wpS_forRange (I:=λx3=>PY Z a b st (x+1+x3)) (Q:=λc d=>MR Z a b st c d\/PY Z a b st (x+1+1) c d) ?st2 ?en2 (PY.mk f N)) ?po2)
    case en2 =>
     rintro c st3 ⟨F,o',i',j',mg',ac,bc,rfl,D⟩;refine .inr (PY.mk F (D.mono ?_));have:=P.na;lia
    case po2 =>
     rintro⟨c1,c2⟩ st3 (⟨F,r,e,hr⟩ | ⟨F,o',i',j',mg',ac,bc,e,D⟩)
     .cases e;exact wpS_pure (MR.mk F hr)
     .cases e;refine wpS_bind (Y1 F λst4 B=>?_);exact wpS_pure ⟨B,_,_,_,_,rfl,D⟩
    case st2 =>
     rintro x3 c st3 _ _ ⟨F,o3,V,j3,mg3,ac3,bc3,rfl,D⟩;obtain⟨bj,l⟩:=i5 (a:=b) (i:=j3) D.hj;have hi3:V +(a.size-V)<=a.size:=by rw[Nat.add_sub_cancel' (DR (GL D.hi))];exact VD _
     have hj3:=D.hj;apply Rx (mg3-1) (y:=mg3)
     case e=>exact rfl
     intro g;refine wpS_bind (Y1 F λst4 B=>?_);refine wpS_bind (E9 l (wpS_bind (y9 C (B.knd hk) (P.kb _ _ l) hi3 P.ka (λu v p q W _ G Y=>Aj P.sa (ED W _) (IE.mp G) (IE.mp Y)) (HF (GL D.hi)) λk hk1 k1 k2=>?_)));have m4:ML Z a.toList b.toList (o3++a.extract V (V+k)).toList (V+k) j3:=P.extA D.m λy hy z H=>by
      obtain⟨t,X,e⟩:=Ed hy;exact I7 (Fk (k1 t y X (IE.mpr e))) (Fh P.sb (IE.mp l) z H)
     have K:∀z∈a.toList.drop (V+k),le Z bj z:=λz H=>by
      obtain⟨t,X,e⟩:=Kg H;rw[AU]at X;exact KeyOrd.kle_of_klt (Ch (k2 (k+t) z (EI _ _) (by lia) (by rw[<-Nat.add_assoc];exact IE.mpr e)))
     apply Ex (o:=o3) (i:=V) (λo i=>PX Z a b (x+1+x3) o i j3/\∀z∈a.toList.drop i,le Z bj z)
     .rintro o4 i4 ⟨p4,K⟩;refine wpS_bind (E9 l ?_);have m5:=P.pushB p4.m l K;refine P8 (λe3=>wpS_pure (.inl (MR.mk B (P.doneB m5 e3)))) λe3=>?_;have L:=p4.putB m5 e3;generalize o4.push bj=o5 at m5 L⊢;generalize j3+1=j5 at m5 L⊢;obtain⟨ai,n⟩:=i5 (a:=a) (i:=i4) (GL L.hi);refine wpS_bind (E9 n (wpS_bind (y9 C (B.knd hk) (P.ka _ _ n) (by rw[Nat.add_sub_cancel' (DR L.hj)];exact VD _) P.kb (λu v p q W _ G Y=>Aj P.sb (ED W _) (IE.mp G) (IE.mp Y)) (HF L.hj) λk' hk1' k1' k2'=>?_)));have M:∀z∈b.toList.drop (j5+k'),le Z ai z:=λz H=>by
       obtain⟨t,X,e⟩:=Kg H;rw[AU]at X;exact Fr (k2' (k'+t) z (EI _ _) (by lia) (by rw[<-Nat.add_assoc];exact IE.mpr e))
      apply Ex (o:=o5) (i:=j5) (λo j=>PX Z a b (x+1+x3+1) o i4 j/\∀z∈b.toList.drop j,le Z ai z)
      .rintro o6 j6 ⟨p6,M⟩;refine wpS_bind (E9 n ?_);have m7:=P.pushA p6.m n M;refine P8 (λe5=>wpS_pure (.inl (MR.mk B (P.lastA m7 e5)))) λe5=>?_;have p7:=p6.putA m7 e5;exact T8 (λ_=>wpS_pure (.inr (PY.mk B (p7.mono (by lia))))) λ_=>wpS_pure (PY.mk B (p7.mono (by lia)))
      .intro hF J;have m6:ML Z a.toList b.toList (o5++b.extract j5 (j5+k')).toList i4 (j5+k'):=P.extB m5 λy hy z H=>by
        obtain⟨t,X,e⟩:=Ed hy;exact I7 (KeyOrd.kle_of_klt (Jc (k1' t y X (IE.mpr e)))) (Fh P.sa (IE.mp n) z H)
       have hj5:=L.hj;exact P8 (λe4=>wpS_pure (.inl (MR.mk B (P.doneB m6 e4)))) λe4=>hF _ _ ⟨⟨m6,L.hi,by lia,VE L.hn (by lia)⟩,M⟩
      .intro J;have z0:k'=0:=FT J;subst z0;exact⟨L,M⟩
     .intro hF J;have hi:=D.hi;exact P8 (λG=>wpS_pure (.inl (MR.mk B (P.lastA m4 G)))) λG=>P8 (λY=>wpS_pure (.inl (MR.mk B (P.doneA m4 Y)))) λY=>hF _ _ ⟨⟨m4,by lia,D.hj,VE D.hn (by lia)⟩,K⟩
     .intro J;have z0:k=0:=FT J;subst z0;exact⟨D,K⟩
def Fa:HU HW->HU HW->StateT HZ Sem (HU HW):=sortPriv% PySem.Builtin.mergeHi
theorem Jo(a b:HU HW):Fa a b =(do
  rule "list.sort.merge-hi"
  let f:=a.size+b.size
  let e (o:HU HW) (i j:Nat):=a.extract 0 i++b.extract 0 j++o.reverse
  let l (o:HU HW) (i j:Nat):=b.extract 0 j++a.extract 0 i++o.reverse
  let mut i:=a.size-1
  let mut j:=b.size
  let mut o:HU HW:=#[<-elem' a i]
  if i == 0 then return e o i j
  if j == 1 then return l o i j
  let mut d:=gallopOf (<-get)
  for _ in [0:f] do
   let mut g:=0
   let mut h:=0
   for _ in [0:f] do
    let some m <-lt' (<-elem' b (j-1)) (<-elem' a (i-1)) | return e o i j
    if m then
     i:=i-1;o:=o.push (<-elem' a i);g:=g+1;h:=0
     if i == 0 then return e o i j
     if g ≥ d then break
    else
     j:=j-1;o:=o.push (<-elem' b j);h:=h+1;g:=0
     if j == 1 then return l o i j
     if h ≥ d then break
   rule "list.sort.gallop"
   d:=d+1
   for _ in [0:f] do
    if d>1 then d:=d-1
    Cd d
    let some c <-V0 false (<-elem' b (j-1)) a 0 i (i-1) | return e o i j
    let k:=i-c
    g:=k
    if k>0 then
     o:=o ++(a.extract c i).reverse;i:=c
     if i == 0 then return e o i j
    j:=j-1;o:=o.push (<-elem' b j)
    if j == 1 then return l o i j
    let some c <-V0 true (<-elem' a (i-1)) b 0 j (j-1) | return e o i j
    let k:=j-c
    h:=k
    if k>0 then
     o:=o ++(b.extract c j).reverse;j:=c
     if j == 1 then return l o i j
     if j == 0 then return e o i j
    i:=i-1;o:=o.push (<-elem' a i)
    if i == 0 then return e o i j
    if g<7&&h<7 then break
   d:=d+1
   Cd d
  unsupported "internal:list.sort.merge-bound"):=rfl
abbrev OM(Z:KeyKind)(a b o:HU HW)(i j:Nat):Prop:=MH Z a.toList b.toList o.toList.reverse i j
section
variable{a b o:HU HW}{i j k:Nat}{p q:HW}
theorem td1{l:A0 HW}{i:Nat}{p:HW}(hi:1<=i)(h:l[i-1]?=some p):(l.take i).drop (i-1) = [p]:=by
 rw[GM,show i-(i-1)=1 by lia];exact Ra h
theorem Jf(a:HU HW)(k i:Nat):(a.extract k i).toList =(a.toList.take i).drop k:=by
 rw[ER,EF,GM]
theorem Fd{l:A0 HW}(h:KY Z l){i:Nat}{p:HW}(a:l[i-1]?=some p):∀z∈l.take i,le Z z p:=λz b=>by
 obtain⟨t,c,_,e⟩:=Oe b;exact Aj h (by lia) e a
theorem MY.hpA(P:MY Z a b)(m:OM Z a b o i j)(hi:1<=i)(c:a[i-1]?=some p)(h:∀z∈b.toList.take j,le Z z p):OM Z a b (o.push p) (i-1) j:=by
 have d:=m.addA P.sa (i-1) (by lia) (by rw[td1 hi (IE.mp c)];intro y e;rw[AE.mp e];exact h);rw[td1 hi (IE.mp c)]at d;unfold OM;rw[DD,GX];exact d
theorem MY.hpB(P:MY Z a b)(m:OM Z a b o i j)(c:1<=j)(d:b[j-1]?=some q)(h:∀z∈a.toList.take i,le Z z q):OM Z a b (o.push q) i (j-1):=by
 have e:=m.addB P.sb (j-1) (by lia) (by rw[td1 c (IE.mp d)];intro y f;rw[AE.mp f];exact h);rw[td1 c (IE.mp d)]at e;unfold OM;rw[DD,GX];exact e
theorem MY.heA(P:MY Z a b)(m:OM Z a b o i j)(c:k<=i)(h:∀y∈(a.toList.take i).drop k,∀z∈b.toList.take j,le Z z y):OM Z a b (o ++(a.extract k i).reverse) k j:=by
 unfold OM;rw[BT,FH,GX,List.reverse_reverse,Jf];exact m.addA P.sa k c h
theorem MY.heB(P:MY Z a b)(m:OM Z a b o i j)(c:k<=j)(h:∀y∈(b.toList.take j).drop k,∀z∈a.toList.take i,le Z z y):OM Z a b (o ++(b.extract k j).reverse) i k:=by
 unfold OM;rw[BT,FH,GX,List.reverse_reverse,Jf];exact m.addB P.sb k c h
theorem MY.hdA(P:MY Z a b)(m:OM Z a b o i j)(hi:i=0):Rm Z a b (a.extract 0 i++b.extract 0 j++o.reverse):=by
 unfold Rm;rw[BT,BT,FH,y6,y6];refine m.endA P.sa P.sb λy c z _=>?_;rw[hi,List.take_zero]at c;exact absurd c (by simp)
theorem MY.hdB(P:MY Z a b)(m:OM Z a b o i j)(d:j=0):Rm Z a b (a.extract 0 i++b.extract 0 j++o.reverse):=by
 unfold Rm;rw[BT,BT,FH,y6,y6];refine m.endA P.sa P.sb λy _ z c=>?_;rw[d,List.take_zero]at c;exact absurd c (by simp)
theorem MY.hfB(P:MY Z a b)(m:OM Z a b o i j)(g:j=1):Rm Z a b (b.extract 0 j++a.extract 0 i++o.reverse):=by
 unfold Rm;rw[BT,BT,FH,y6,y6];refine m.endB P.sa P.sb λy c z d=>?_;obtain⟨t,h,_,e⟩:=Oe c;have f:t=0:=by lia
 rw[f]at e;exact P.first y (IE.mpr e) z (DE d)
end
structure OK(Z:KeyKind)(a b:HU HW)(n:Nat)(o:HU HW)(i j:Nat):Prop where
 m:OM Z a b o i j
 hi:1<=i
 hj:2<=j
 ia:i<=a.size
 jb:j<=b.size
 hn:n+i+j<=a.size+b.size
theorem OK.putA{a b o c:HU HW}{n i j:Nat}(h:OK Z a b n o i j)(m:OM Z a b c (i-1) j)(e:i-1≠0):OK Z a b (n+1) c (i-1) j:=by
 obtain⟨_,g,d,k,f,l⟩:=h;exact⟨m,by lia,d,by lia,f,by lia⟩
theorem OK.putB{a b o c:HU HW}{n i j:Nat}(h:OK Z a b n o i j)(m:OM Z a b c i (j-1))(e:j-1≠1):OK Z a b (n+1) c i (j-1):=by
 obtain⟨_,d,g,f,k,l⟩:=h;exact⟨m,d,by lia,f,by lia,by lia⟩
theorem OK.mono{a b o:HU HW}{n c i j:Nat}(h:OK Z a b n o i j)(l:c<=n):OK Z a b c o i j:=⟨h.m,h.hi,h.hj,h.ia,h.jb,VE (Nat.add_le_add_right (Nat.add_le_add_right l _) _) h.hn⟩
theorem OK.la{a b o:HU HW}{n i j:Nat}(h:OK Z a b n o i j):i-1<a.size:=BI (Nat.sub_lt h.hi (HB)) h.ia
theorem OK.lb{a b o:HU HW}{n i j:Nat}(h:OK Z a b n o i j):j-1<b.size:=BI (Nat.sub_lt (GL h.hj) (HB)) h.jb
theorem OK.hj1{a b o:HU HW}{n i j:Nat}(h:OK Z a b n o i j):1<=j:=Nat.le_of_succ_le h.hj
def zHr(Z:KeyKind)(a b:HU HW)(st:HZ)(n:Nat)(c:A5 (HU HW)×Nat×Nat×HU HW×Nat)(d:HZ):Prop:=Sm st d/\∃i j o e,c =(none,i,j,o,e)/\OK Z a b n o i j
def PL(Z:KeyKind)(a b:HU HW)(st:HZ)(n:Nat)(c:A5 (HU HW)×Nat×Nat×HU HW×Nat×Nat)(d:HZ):Prop:=Sm st d/\∃i j o e f,c =(none,i,j,o,e,f)/\OK Z a b n o i j
def PZ(Z:KeyKind)(a b:HU HW)(st:HZ)(n:Nat)(c:A5 (HU HW)×Nat×Nat×HU HW×Nat×Nat×Nat)(d:HZ):Prop:=Sm st d/\∃i j o e f g,c =(none,i,j,o,e,f,g)/\OK Z a b n o i j
theorem PL.mk{a b o:HU HW}{st c:HZ}{n i j d e:Nat}(f:Sm st c)(h:OK Z a b n o i j):PL Z a b st n (none,i,j,o,d,e) c:=⟨f,_,_,_,_,_,rfl,h⟩
theorem PZ.mk{a b o:HU HW}{st c:HZ}{n i j d e f:Nat}(g:Sm st c)(h:OK Z a b n o i j):PZ Z a b st n (none,i,j,o,d,e,f) c:=⟨g,_,_,_,_,_,_,rfl,h⟩
theorem Jp(C:QO prog w A s Z kd){st:HZ}{a b:HU HW}{Q:HU HW->HZ->Prop}(hk:kindOf st=kd)(P:MY Z a b)
  (h:∀r f,Sm st f->Rm Z a b r->Q r f):wpS (model prog w) A E s (Fa a b) Q st:=by
 rw[Jo];have hna:=P.na;have hnb:=P.nb;obtain⟨b0,U⟩:=i5 (a:=a) (i:=a.size-1) (Nat.sub_lt hna HB);have m0:OM Z a b (#[]:HU HW) a.size b.size:=⟨by simp,List.Pairwise.nil,λx hx=>absurd hx (by simp),λx hx=>absurd hx (by simp)⟩;have m1:OM Z a b (#[b0]:HU HW) (a.size-1) b.size:=by
  have:=P.hpA m0 hna U (λz J=>P.last b0 U z (DE J));simpa using this
 apply Qf (x0:=b0) (λR z=>wpS_lift (DF ⟨rfl,z⟩)) (λR z=>E9 U z)
 case h1=>exact λN=>wpS_pure (h _ _ (Sm.refl _) (P.hdA m1 (eq_of_beq N)))
 case h2=>exact λ_ O=>wpS_pure (h _ _ (Sm.refl _) (P.hfB m1 (eq_of_beq O)))
 intro N O;have N:¬a.size-1=0:=λz=>N (beq_iff_eq.mpr z);have O:¬b.size=1:=λz=>O (beq_iff_eq.mpr z);have p1:OK Z a b 1 #[b0] (a.size-1) b.size:=⟨m1,by lia,by lia,by lia,by lia,by lia⟩;refine wpS_mono (wpS_forRange (I:=λx=>zHr Z a b st (x+1)) (Q:=MR Z a b st) ?st ?en ⟨Sm.refl _,_,_,_,_,rfl,p1⟩) ?po
 case po =>
  rintro⟨c1,c2⟩ f ⟨sm,r,e,hr⟩;cases e;exact wpS_pure (h r f sm hr)
 case en =>
  rintro c f ⟨sm,i,j,o,mg,rfl,p⟩;obtain⟨_,h1,h2,_,_,h3⟩:=p;exfalso;lia
 case st =>
  rintro x c f _ hx ⟨sm,i,j,o,mg,rfl,p⟩;refine wpS_bind (wpS_mono (wpS_forRange (I:=λ_=>PL Z a b st (x+1)) (Q:=λc f=>MR Z a b st c f\/PL Z a b st (x+1) c f) ?st1 ?en1 (PL.mk sm p)) ?po1)
  case en1=>exact λc st2 z=>.inr z
  case st1 =>
   rintro x2 c st2 _ _ ⟨l,i',j',o,ac,bc,rfl,M⟩;obtain⟨bj,n⟩:=i5 (a:=b) (i:=j' - 1) M.lb;obtain⟨ai,B⟩:=i5 (a:=a) (i:=i' - 1) M.la;refine wpS_bind (E9 n (wpS_bind (E9 B (wpS_bind (Ie C (l.knd hk) (P.kb _ _ n) (P.ka _ _ B) ?_)))));refine T8 (λV=>wpS_bind (E9 B ?_)) λV=>wpS_bind (E9 n ?_)
   .have m3:=P.hpA M.m M.hi B λz J=>I7 (Fd P.sb (IE.mp n) z J) (KeyOrd.kle_of_klt V);refine P8 (λH=>wpS_pure (.inl (MR.mk l (P.hdA m3 H)))) λH=>?_;have F:=(M.putA m3 H).mono (DM _);exact T8 (λ_=>wpS_pure (.inr (PL.mk l F))) λ_=>wpS_pure (PL.mk l F)
   .have m3:=P.hpB M.m M.hj1 n λz J=>I7 (Fd P.sa (IE.mp B) z J) (show le Z ai bj from ET.mpr V);refine P8 (λH=>wpS_pure (.inl (MR.mk l (P.hfB m3 H)))) λH=>?_;have F:=(M.putB m3 H).mono (DM _);exact T8 (λ_=>wpS_pure (.inr (PL.mk l F))) λ_=>wpS_pure (PL.mk l F)
  case po1 =>
   rintro⟨c1,c2⟩ st2 (⟨l,r,e,hr⟩ | ⟨l,i2,j2,o2,ac,bc,e,M⟩)
   .cases e;exact wpS_pure (MR.mk l hr)
   .cases e;refine wpS_bind (wpS_lift (DF ⟨rfl,?_⟩));refine wpS_bind (wpS_mono (wpS_forRange (I:=λx3=>PZ Z a b st (x+1+x3)) (Q:=λc f=>MR Z a b st c f\/PZ Z a b st (x+1+1) c f) ?st2 ?en2 (PZ.mk l M)) ?po2)
    case en2 =>
     rintro c st3 ⟨G,i',j',o',mg',ac,bc,rfl,F⟩;exact .inr (PZ.mk G (F.mono (by lia)))
    case po2 =>
     rintro⟨c1,c2⟩ st3 (⟨G,r,e,hr⟩ | ⟨G,i',j',o',mg',ac,bc,e,F⟩)
     .cases e;exact wpS_pure (MR.mk G hr)
     .cases e;refine wpS_bind (Y1 G λst4 D=>?_);exact wpS_pure ⟨D,_,_,_,_,rfl,F⟩
    case st2 =>
     rintro x3 c st3 _ _ ⟨G,i3,j3,o3,mg3,ac3,bc3,rfl,F⟩;obtain⟨bj,n⟩:=i5 (a:=b) (i:=j3-1) F.lb;apply Rx (mg3-1) (y:=mg3)
     case e=>exact rfl
     intro g;refine wpS_bind (Y1 G λst4 D=>?_);refine wpS_bind (E9 n (wpS_bind (y9 C (D.knd hk) (P.kb _ _ n) (by rw[EL];exact F.ia) P.ka (λu v p q W _ H e2=>Aj P.sa (ED W _) (IE.mp H) (IE.mp e2)) (Nat.sub_lt F.hi HB) λk X k1 k2=>?_)));dsimp only;have m4:OM Z a b (o3 ++(a.extract k i3).reverse) k j3:=P.heA F.m X λy hy z J=>by
      obtain⟨t,Y,ht2,e⟩:=Xi hy;exact I7 (Fd P.sb (IE.mp n) z J) (KeyOrd.kle_of_klt (Ch (k2 t y Y ht2 (by rw[EL];exact IE.mpr e))))
     have S:∀z∈a.toList.take k,le Z z bj:=λz J=>by
      obtain⟨t,ht,_,e⟩:=Oe J;exact Fk (k1 t z ht (by rw[EL];exact IE.mpr e))
     generalize hd:i3-k=d;apply Ex (o:=o3) (i:=i3) (λo i=>OK Z a b (x+1+x3) o i j3/\∀z∈a.toList.take i,le Z z bj)
     .rintro o4 i4 ⟨p4,S⟩;refine wpS_bind (E9 n ?_);have m5:=P.hpB p4.m p4.hj1 n S;refine P8 (λe3=>wpS_pure (.inl (MR.mk D (P.hfB m5 e3)))) λe3=>?_;have p5:=p4.putB m5 e3;generalize o4.push bj=o5 at m5 p5⊢;generalize j3-1=j5 at m5 p5⊢;obtain⟨ai,B⟩:=i5 (a:=a) (i:=i4-1) p5.la;refine wpS_bind (E9 B (wpS_bind (y9 C (D.knd hk) (P.ka _ _ B) (by rw[EL];exact p5.jb) P.kb (λu v p q W _ H e2=>Aj P.sb (ED W _) (IE.mp H) (IE.mp e2)) (Nat.sub_lt p5.hj1 HB) λk' K k1' k2'=>?_)));dsimp only;have T:∀z∈b.toList.take k',le Z z ai:=λz J=>by
       obtain⟨t,ht,_,e⟩:=Oe J;exact KeyOrd.kle_of_klt (Jc (k1' t z ht (by rw[EL];exact IE.mpr e)))
      generalize hd':j5-k'=d';apply Ex (o:=o5) (i:=j5) (λo j=>OK Z a b (x+1+x3+1) o i4 j/\∀z∈b.toList.take j,le Z z ai)
      .rintro o6 j6 ⟨p6,T⟩;refine wpS_bind (E9 B ?_);have m7:=P.hpA p6.m p6.hi B T;refine P8 (λe5=>wpS_pure (.inl (MR.mk D (P.hdA m7 e5)))) λe5=>?_;have p7:=p6.putA m7 e5;exact T8 (λ_=>wpS_pure (.inr (PZ.mk D (p7.mono (by lia))))) λ_=>wpS_pure (PZ.mk D (p7.mono (by lia)))
      .intro hF L;have m6:OM Z a b (o5 ++(b.extract k' j5).reverse) i4 k':=P.heB m5 K λy hy z J=>by
        obtain⟨t,Y,ht2,e⟩:=Xi hy;exact I7 (Fd P.sa (IE.mp B) z J) (Fr (k2' t y Y ht2 (by rw[EL];exact IE.mpr e)))
       obtain⟨_,h1,h2,h3,h4,h5⟩:=p5;exact P8 (λe4=>wpS_pure (.inl (MR.mk D (P.hfB m6 e4)))) λe4=>P8 (λe5=>wpS_pure (.inl (MR.mk D (P.hdB m6 e5)))) λe5=>hF _ _ ⟨⟨m6,h1,by lia,h3,VE K h4,by lia⟩,T⟩
      .intro L;have z0:k'=j5:=Nat.le_antisymm K (Nat.le_of_sub_eq_zero (hd'.trans (FT L)));subst z0;exact⟨p5,T⟩
     .intro hF L;obtain⟨_,h1,h2,h3,h4,h5⟩:=F;exact P8 (λH=>wpS_pure (.inl (MR.mk D (P.hdA m4 H)))) λH=>hF _ _ ⟨⟨m4,by lia,h2,VE X h3,h4,by lia⟩,S⟩
     .intro L;have z0:k=i3:=Nat.le_antisymm X (Nat.le_of_sub_eq_zero (hd.trans (FT L)));subst z0;exact⟨F,S⟩
def JJ(l:A0 HW)(lo n:Nat):A0 HW:=(l.drop lo).take n
theorem Qu(m:A0 HW)(lo:Nat):∀(n:Nat) (a:HU HW),lo+n+m.length<=a.size ->
  ((m.zipIdx n).foldl (λa (x:HW×Nat)=>a.setIfInBounds (lo+x.2) x.1) a).size=a.size /\
  ∀t:Nat,((m.zipIdx n).foldl (λa (x:HW×Nat)=>a.setIfInBounds (lo+x.2) x.1) a)[t]?=if lo+n<=t/\t<lo+n+m.length then m[t-(lo+n)]? else a[t]?:=by
 induction m with
 | nil =>
  intro n a h;refine⟨rfl,λt=>?_⟩;rw[AI (by simp only[List.length_nil];lia)];rfl
 | cons p m d =>
  intro n a h;rw[BQ]at h;rw[List.zipIdx_cons,HC];obtain⟨e,f⟩:=d (n+1) (a.setIfInBounds (lo+n) p) (by rw[GZ];lia);refine⟨e.trans GZ,λt=>?_⟩;rw[f t,BQ];by_cases b:lo+n=t
  .subst b;rw[AI (by lia),AN (by lia),Array.getElem?_setIfInBounds_self_of_lt (by lia),Nat.sub_self];rfl
  .by_cases c:lo +(n+1)<=t/\t<lo +(n+1)+m.length
   .rw[AN c,AN (by lia),show t-(lo+n) =(t-(lo +(n+1)))+1 by lia,List.getElem?_cons_succ]
   .rw[AI c,AI (by lia),Array.getElem?_setIfInBounds_ne b]
theorem Co(m:A0 HW)(lo:Nat)(a:HU HW)(h:lo+m.length<=a.size) :
  (m.zipIdx.foldl (λa (x:HW×Nat)=>a.setIfInBounds (lo+x.2) x.1) a).toList=a.toList.take lo++m++a.toList.drop (lo+m.length):=by
 obtain⟨e,c⟩:=Qu m lo 0 a (by lia);refine FI λt=>?_;rw[BJ,c t];have b:(a.toList.take lo).length=lo:=by rw[AZ,AU];lia
 by_cases d:t<lo
 .rw[AI (by lia),BG,GU (by lia),DK d,BJ]
 .by_cases f:t<lo+m.length
  .rw[AN (by lia),GU (by rw[AV];lia),GN (by lia),b];rfl
  .rw[AI (by lia),GN (by rw[AV];lia),AV,b,FU,BJ];congr 1;lia
theorem Pd(l:A0 HW)(lo n:Nat):l=l.take lo++JJ l lo n++l.drop (lo+n):=by
 unfold JJ;rw[BG,<-FB,BX,BX]
theorem Jv(l:A0 HW)(lo n m:Nat):JJ l lo (n+m)=JJ l lo n++JJ l (lo+n) m:=by
 unfold JJ;rw[List.take_add,FB]
structure K_(Z:KeyKind)(l l':A0 HW)(lo n:Nat):Prop where
 perm:l'.Perm l
 front:l'.take lo=l.take lo
 back:l'.drop (lo+n)=l.drop (lo+n)
theorem K_.refl(l:A0 HW)(lo n:Nat):K_ Z l l lo n:=⟨List.Perm.refl _,rfl,rfl⟩
theorem K_.seg_front{l a:A0 HW}{lo n:Nat}(h:K_ Z l a lo n){u m:Nat}(b:u+m<=lo):JJ a u m=JJ l u m:=by
 have:∀x:A0 HW,JJ x u m =((x.take lo).drop u).take m:=λx=>by
  unfold JJ;rw[GM,List.take_take,FZ (by lia)]
 rw[this,this,h.front]
theorem K_.seg_back{l a:A0 HW}{lo n:Nat}(h:K_ Z l a lo n){u m:Nat}(b:lo+n<=u):JJ a u m=JJ l u m:=by
 have:∀x:A0 HW,JJ x u m =((x.drop (lo+n)).drop (u-(lo+n))).take m:=λx=>by
  unfold JJ;rw[FB,show lo+n +(u-(lo+n))=u by lia]
 rw[this,this,h.back]
theorem K_.of{l z:A0 HW}{lo n:Nat}(hz:z.Perm (JJ l lo n))(c:lo+n<=l.length):K_ Z l (l.take lo++z++l.drop (lo+n)) lo n/\JJ (l.take lo++z++l.drop (lo+n)) lo n=z:=by
 have a:(l.take lo).length=lo:=by rw[AZ];lia
 have b:z.length=n:=by
  rw[hz.length_eq];unfold JJ;rw[AZ,DJ];lia
 refine⟨⟨?_,?_,?_⟩,?_⟩
 .conv=>rhs;rw[Pd l lo n]
  exact DT _ (CY _ hz)
 .rw[BG,List.take_append_of_le_length (by lia),DU (by lia)]
 .rw[List.drop_append,EX (by rw[AV];lia),F_,AV,a,b,Nat.sub_self,EQ]
 .unfold JJ;rw[BG,List.drop_append,EX (by lia),F_,a,Nat.sub_self,EQ,List.take_append_of_le_length (by lia),DU (by lia)]
structure St(Z:KeyKind)(kd:JP)(a₀:HU HW)(st:HZ):Prop where
 perm:(arrOf st).toList.Perm a₀.toList
 kind:kindOf st=kd
 failed:failedOf st=none
theorem St.size{a₀:HU HW}{st:HZ}(h:St Z kd a₀ st):(arrOf st).size=a₀.size:=by
 have:=h.perm.length_eq;simpa using this
theorem St.has{a₀:HU HW}{st:HZ}(h:St Z kd a₀ st)(b:KeysOf Z a₀)(i:Nat)(p:HW)(e:(arrOf st)[i]?=some p):RA Z p :=
 b p (h.perm.mem_iff.mp (BB (IE.mp e)))
theorem S4{l:A0 HW}{lo n t:Nat}(a:t<n):(JJ l lo n)[t]?=l[lo+t]?:=by
 unfold JJ;rw[DK a,FU]
theorem Ix(i:Nat):mergeAt' i =(do
  let u <-get
  let(some (b,c,f),some (e,d,_)):=((pendingOf u)[i]?,(pendingOf u)[i+1]?) | unsupported "internal:list.sort.pending"
  set (setPending u (((pendingOf u).setIfInBounds i (b,c+d,f)).eraseIdxIfInBounds (i+1)))
  let some k <-V0 false (<-elem' (arrOf u) e) (arrOf u) b c 0 | return false
  let(b,c):=(b+k,c-k)
  if c == 0 then return true
  let some d <-V0 true (<-elem' (arrOf u) (b+c-1)) (arrOf u) e d (d-1) | return false
  if d == 0 then return true
  let x:=(arrOf u).extract b e
  let y:=(arrOf u).extract e (e+d)
  let g <-if c<=d then Ej x y else Fa x y
  modify λv=>setArr v (g.toList.zipIdx.foldl (λa (z:HW×Nat)=>a.setIfInBounds (b+z.2) z.1) (arrOf v))
  return(failedOf (<-get)).isNone):=rfl
theorem Zq{st st2:HZ}{Q:PUnit->HZ->Prop}(h:Q ⟨⟩ st2):wpS (model prog w) A E s (set st2:StateT HZ Sem PUnit) Q st:=by
 unfold wpS;rw[StateT.run_set];exact AD ⟨rfl,h⟩
theorem Jw(C:QO prog w A s Z kd){a₀:HU HW}(L:KeysOf Z a₀){st:HZ}{i b c pw sb f pw2:Nat}{Q:Bool->HZ->Prop}(j:St Z kd a₀ st)
  (hi:(pendingOf st)[i]?=some (b,c,pw)) (hj:(pendingOf st)[i+1]?=some (sb,f,pw2)) (hsb:sb=b+c) (hsz:sb+f<=a₀.size) (hna:1<=c) (hnb:1<=f)
  (N:KY Z (JJ (arrOf st).toList b c)) (O:KY Z (JJ (arrOf st).toList sb f))
  (h:∀n,St Z kd a₀ n->K_ Z (arrOf st).toList (arrOf n).toList b (c+f)->KY Z (JJ (arrOf n).toList b (c+f)) ->
   pendingOf n =((pendingOf st).setIfInBounds i (b,c+f,pw)).eraseIdxIfInBounds (i+1)->Q true n):wpS (model prog w) A E s (mergeAt' i) Q st:=by
 subst hsb;have hL:(arrOf st).toList.length=a₀.size:=by rw[AU];exact j.size
 have hsz':=j.size;rw[Ix];refine wpS_bind (wpS_get ?_);rw[hi,hj];dsimp only;refine wpS_bind (Zq ?_);obtain⟨R,D⟩:=i5 (a:=arrOf st) (i:=b+c) (by lia);have S:∀u v p q,u<=v->v<c->(arrOf st)[b+u]?=some p->(arrOf st)[b+v]?=some q->le Z p q:=λu v p q H hv T F =>
  Aj N H (by rw[S4 (by lia)];exact IE.mp T) (by rw[S4 hv];exact IE.mp F)
 have U:∀u v p q,u<=v->v<f->(arrOf st)[b+c+u]?=some p->(arrOf st)[b+c+v]?=some q->le Z p q:=λu v p q H hv T F =>
  Aj O H (by rw[S4 (by lia)];exact IE.mp T) (by rw[S4 hv];exact IE.mp F)
 refine wpS_bind (E9 D (wpS_bind (y9 C j.kind (j.has L _ _ D) (by lia) (j.has L) S (by lia) λk hk1 k1 k2=>?_)));dsimp only;have V:∀z∈JJ (arrOf st).toList (b+c) f,le Z R z:=λz I=>by
  obtain⟨t,l,e⟩:=Ed I;exact U 0 t R z (by lia) l D (IE.mpr e)
 have xk:∀x∈(JJ (arrOf st).toList b c).take k,le Z x R:=λx hx=>by
  obtain⟨t,l,o,e⟩:=Oe hx;unfold JJ at o;rw[AZ]at o;rw[S4 (by lia)]at e;exact Fk (k1 t x l (IE.mpr e))
 have kx:∀x∈(JJ (arrOf st).toList b c).drop k,le Z R x:=λx hx=>by
  obtain⟨t,l,e⟩:=Kg hx;unfold JJ at l;rw[AZ]at l;rw[S4 (by lia)]at e;exact KeyOrd.kle_of_klt (Ch (k2 (k+t) x (by lia) (by lia) (IE.mpr e)))
 have W:St Z kd a₀ (setPending st (((pendingOf st).setIfInBounds i (b,c+f,pw)).eraseIdxIfInBounds (i+1))):=⟨j.perm,j.kind,j.failed⟩;by_cases X:c-k=0
 .rw[AN (by simpa using X)];have hkk:k=c:=by lia
  refine wpS_pure (h _ W (K_.refl _ _ _) ?_ rfl);show KY Z (JJ (arrOf st).toList b (c+f));rw[Jv];refine CP.mpr ⟨N,O,λx hx y hy=>I7 (xk x ?_) (V y hy)⟩;rw[DU (by unfold JJ;rw[AZ];lia)];exact hx
 rw[AI (by simpa using X)];obtain⟨M,J⟩:=i5 (a:=arrOf st) (i:=b+k +(c-k)-1) (by lia);refine wpS_bind (E9 J (wpS_bind (y9 C W.kind (j.has L _ _ J) (by lia) (j.has L) U (by lia) λg Y k1' k2'=>?_)));dsimp only;have G:(arrOf st)[b +(c-1)]?=some M:=by rw[show b +(c-1)=b+k +(c-k)-1 by lia];exact J
 have K:∀x∈JJ (arrOf st).toList b c,le Z x M:=λx hx=>by
  obtain⟨t,l,e⟩:=Ed hx;exact S t (c-1) x M (by lia) (by lia) (IE.mpr e) G
 have yk:∀y∈(JJ (arrOf st).toList (b+c) f).take g,le Z y M:=λy hy=>by
  obtain⟨t,l,o,e⟩:=Oe hy;unfold JJ at o;rw[AZ]at o;rw[S4 (by lia)]at e;exact KeyOrd.kle_of_klt (Jc (k1' t y l (IE.mpr e)))
 have ky:∀y∈(JJ (arrOf st).toList (b+c) f).drop g,le Z M y:=λy hy=>by
  obtain⟨t,l,e⟩:=Kg hy;unfold JJ at l;rw[AZ]at l;rw[S4 (by lia)]at e;exact Fr (k2' (g+t) y (by lia) (by lia) (IE.mpr e))
 by_cases B:g=0
 .rw[AN (by simpa using B)];refine wpS_pure (h _ W (K_.refl _ _ _) ?_ rfl);show KY Z (JJ (arrOf st).toList b (c+f));rw[Jv];refine CP.mpr ⟨N,O,λx hx y hy=>I7 (K x hx) (ky y ?_)⟩;rw[B,EQ];exact hy
 rw[AI (by simpa using B)];have ex:((arrOf st).extract (b+k) (b+c)).toList =(JJ (arrOf st).toList b c).drop k:=by
  rw[Jf];unfold JJ;rw[GM,GM,FB];congr 1;lia
 have ey:((arrOf st).extract (b+c) (b+c+g)).toList =(JJ (arrOf st).toList (b+c) f).take g:=by
  rw[Ep];unfold JJ;rw[List.take_take,FZ Y]
 have P:MY Z ((arrOf st).extract (b+k) (b+c)) ((arrOf st).extract (b+c) (b+c+g)):=by
  refine⟨by rw[ex];exact N.sublist (FG _ _),by rw[ey];exact O.sublist (ES _ _),λt p e=>?_,λt p e=>?_,?_,?_,λq e z I=>?_,λp e z I=>?_⟩
  .have m:=BB (IE.mp e);rw[ex]at m;obtain⟨u,_,F⟩:=Ed (EO m);exact j.has L _ p (IE.mpr F)
  .have m:=BB (IE.mp e);rw[ey]at m;obtain⟨u,_,F⟩:=Ed (DE m);exact j.has L _ p (IE.mpr F)
  .rw[FV];lia
  .rw[FV];lia
  .have m:=IE.mp e;rw[ey,DK (by lia),S4 (by lia)]at m;have:q=R:=by
    have:=IE.mp D;rw[Nat.add_zero,this]at m;exact(BU m).symm
   subst this;rw[ex]at I;exact kx z I
  .have m:=IE.mp e;rw[ex,FV,FU,S4 (by lia)]at m;have:p=M:=by
    have q:=IE.mp G;rw[show k +(min (b+c) (arrOf st).size-(b+k)-1)=c-1 by lia,q]at m;exact(BU m).symm
   subst this;rw[ey]at I;exact yk z I
 have fin:∀(r:HU HW) (d:HZ),Sm (setPending st (((pendingOf st).setIfInBounds i (b,c+f,pw)).eraseIdxIfInBounds (i+1))) d->Rm Z ((arrOf st).extract (b+k) (b+c)) ((arrOf st).extract (b+c) (b+c+g)) r ->
   Q (failedOf (setArr d (r.toList.zipIdx.foldl (λa (z:HW×Nat)=>a.setIfInBounds (b+k+z.2) z.1) (arrOf d)))).isNone (setArr d (r.toList.zipIdx.foldl (λa (z:HW×Nat)=>a.setIfInBounds (b+k+z.2) z.1) (arrOf d))):=by
  rintro r d ⟨q1,q2,q3,q4⟩ ⟨r1,r2⟩;rw[ex,ey]at r2;have hrl:r.toList.length =(c-k)+g:=by
   rw[r2.length_eq,AV];unfold JJ;rw[DJ,AZ,AZ,DJ,AZ,DJ];lia
  have q2':arrOf d=arrOf st:=q2;have ef:failedOf (setArr d (r.toList.zipIdx.foldl (λa (z:HW×Nat)=>a.setIfInBounds (b+k+z.2) z.1) (arrOf d)))=none:=q4.trans j.failed;rw[ef];have el:=Co r.toList (b+k) (arrOf d) (by rw[q2'];lia);have eq:(r.toList.zipIdx.foldl (λa (z:HW×Nat)=>a.setIfInBounds (b+k+z.2) z.1) (arrOf d)).toList =(arrOf st).toList.take b ++((JJ (arrOf st).toList b c).take k++r.toList ++(JJ (arrOf st).toList (b+c) f).drop g) ++(arrOf st).toList.drop (b +(c+f)):=by
   rw[el,q2',hrl];have T:(arrOf st).toList.take (b+k) =(arrOf st).toList.take b ++(JJ (arrOf st).toList b c).take k:=by
    unfold JJ;rw[List.take_add,List.take_take,FZ hk1]
   have F:(arrOf st).toList.drop (b+k +(c-k+g)) =(JJ (arrOf st).toList (b+c) f).drop g ++(arrOf st).toList.drop (b +(c+f)):=by
    unfold JJ;rw[GM,FB,show b+k +(c-k+g)=b+c+g by lia]
    conv=>lhs;rw[<-BX (f-g) ((arrOf st).toList.drop (b+c+g))]
    rw[FB,show b+c+g +(f-g)=b +(c+f) by lia]
   rw[T,F];simp only[BG]
  have hp:((JJ (arrOf st).toList b c).take k++r.toList ++(JJ (arrOf st).toList (b+c) f).drop g).Perm (JJ (arrOf st).toList b (c+f)):=by
   rw[Jv];have a1:((JJ (arrOf st).toList b c).take k++r.toList ++(JJ (arrOf st).toList (b+c) f).drop g).Perm ((JJ (arrOf st).toList b c).take k ++((JJ (arrOf st).toList b c).drop k ++(JJ (arrOf st).toList (b+c) f).take g) ++(JJ (arrOf st).toList (b+c) f).drop g) :=
    DT _ (CY _ r2)
   refine a1.trans (FE ?_);rw[<-BG,BX,BG,BX]
  obtain⟨pa,ps⟩:=K_.of (Z:=Z) hp (by rw[hL];lia);have hs:KY Z ((JJ (arrOf st).toList b c).take k++r.toList ++(JJ (arrOf st).toList (b+c) f).drop g):=by
   refine CP.mpr ⟨CP.mpr ⟨N.sublist (ES _ _),r1,λx hx y hy=>?_⟩,O.sublist (FG _ _),λx hx y hy=>?_⟩
   .rcases AO.mp (r2.mem_iff.mp hy)with hy | hy
    .exact I7 (xk x hx) (kx y hy)
    .exact I7 (xk x hx) (V y (DE hy))
   .rcases AO.mp hx with hx | hx
    .exact I7 (K x (DE hx)) (ky y hy)
    .rcases AO.mp (r2.mem_iff.mp hx)with hx | hx
     .exact I7 (K x (EO hx)) (ky y hy)
     .exact I7 (yk x hx) (ky y hy)
  refine h _ ⟨?_,q1.trans j.kind,q4.trans j.failed⟩ ?_ ?_ q3
  .show(r.toList.zipIdx.foldl (λa (z:HW×Nat)=>a.setIfInBounds (b+k+z.2) z.1) (arrOf d)).toList.Perm a₀.toList;rw[eq];exact pa.perm.trans j.perm
  .show K_ Z (arrOf st).toList (r.toList.zipIdx.foldl (λa (z:HW×Nat)=>a.setIfInBounds (b+k+z.2) z.1) (arrOf d)).toList b (c+f);rw[eq];exact pa
  .show KY Z (JJ (r.toList.zipIdx.foldl (λa (z:HW×Nat)=>a.setIfInBounds (b+k+z.2) z.1) (arrOf d)).toList b (c+f));rw[eq,ps];exact hs
 by_cases hab:c-k<=g
 .rw[AN hab];refine wpS_bind (Ka C W.kind P λr d q r1=>?_);exact wpS_bind (wpS_modify (wpS_bind (wpS_get (wpS_pure (fin r d q r1)))))
 .rw[AI hab];refine wpS_bind (Jp C W.kind P λr d q r1=>?_);exact wpS_bind (wpS_modify (wpS_bind (wpS_get (wpS_pure (fin r d q r1)))))
section
variable{prog:HV}{w:HX}{A:IA}{E:A2->A4->Prop}{s:A4}{Z:KeyKind}{kd:JP}{a₀:HU HW}
theorem Uc{xs:HU HW}{i:Nat}{p:HW}(h:xs[i]?=some p):KK Z xs i=kk Z p:=by unfold KK kk;rw[h]
def SI(Z:KeyKind)(xs:HU HW)(lo m:Nat):Prop:=∀i j,i<=j->j<m->Z.kle (KK Z xs (lo+i)) (KK Z xs (lo+j))
def NI(Z:KeyKind)(xs:HU HW)(lo m:Nat):Prop:=∀i j,i<=j->j<m->Z.kle (KK Z xs (lo+j)) (KK Z xs (lo+i))
theorem SI.sor{xs:HU HW}{lo m:Nat}(h:SI Z xs lo m):KY Z (JJ xs.toList lo m):=by
 refine List.pairwise_iff_getElem.mpr λi j a b c=>?_;unfold JJ at a b;rw[AZ]at a b;have d:xs[lo+i]?=some (JJ xs.toList lo m)[i]:=by
  rw[IE,<-S4 (n:=m) (by lia)];exact AF _
 have e:xs[lo+j]?=some (JJ xs.toList lo m)[j]:=by
  rw[IE,<-S4 (n:=m) (by lia)];exact AF _
 have:=h i j (by lia) (by lia);rw[Uc d,Uc e]at this;exact this
structure Lo(Z:KeyKind)(kd:JP)(a₀:HU HW)(st0:HZ)(lo n:Nat)(st:HZ):Prop where
 S:St Z kd a₀ st
 pend:pendingOf st=pendingOf st0
 out:∀t,t<lo\/lo+n<=t->(arrOf st)[t]? =(arrOf st0)[t]?
theorem Lo.part{st0 st:HZ}{lo n:Nat}(h:Lo Z kd a₀ st0 lo n st)(c:St Z kd a₀ st0):K_ Z (arrOf st0).toList (arrOf st).toList lo n:=by
 refine⟨h.S.perm.trans c.perm.symm,FI λt=>?_,FI λt=>?_⟩
 .by_cases b:t<lo
  .rw[DK b,DK b,BJ,BJ];exact h.out t (.inl b)
  .rw[GH (by rw[AZ];lia),GH (by rw[AZ];lia)]
 .rw[FU,FU,BJ,BJ];exact h.out _ (.inr (by lia))
theorem Lo.mirror{st0 st:HZ}{lo n i j:Nat}(h:Lo Z kd a₀ st0 lo n st)(hi:lo<=i)(c:j<=lo+n)(d:lo+n<=a₀.size):Lo Z kd a₀ st0 lo n (setArr st (mirror (arrOf st) i j ((j-i) / 2))):=by
 refine⟨⟨(Array.perm_iff_toList_perm.mp (mirror_perm _ _ _ _)).trans h.S.perm,h.S.kind,h.S.failed⟩,h.pend,λt b=>?_⟩;show(PyProof.Rows.mirror (arrOf st) i j ((j-i) / 2))[t]?=_;have:=h.S.size;rw[getElem?_mirror_all (by lia),AI (by lia)];exact h.out t b
theorem T4(C:QO prog w A s Z kd)(e:KeysOf Z a₀){st:HZ}(b:St Z kd a₀ st){i j:Nat}{Q:A5 Bool->HZ->Prop}(hi:i<a₀.size)(f:j<a₀.size)
  (h:Q (some (Z.blt (KK Z (arrOf st) i) (KK Z (arrOf st) j))) st):wpS (model prog w) A E s (ltAt' i j) Q st:=by
 have:=b.size;obtain⟨p,c⟩:=i5 (a:=arrOf st) (i:=i) (by lia);obtain⟨q,d⟩:=i5 (a:=arrOf st) (i:=j) (by lia);rw[ltAt'_eq];refine wpS_bind (wpS_get ?_);refine wpS_bind (E9 c (wpS_bind (E9 d (Ie C b.kind (b.has e _ _ c) (b.has e _ _ d) ?_))));rw[Uc c,Uc d]at h;exact h
theorem TC{st:HZ}{lo a b:Nat}{f:Nat->(A5 (A5 Nat)×Nat)->StateT HZ Sem (ForInStep (A5 (A5 Nat)×Nat))}{Q:(A5 (A5 Nat)×Nat)->HZ->Prop}
  (z:∀x n,1<=n->n<b->wpS (model prog w) A E s (f x (none,n)) (λr k=>k=st/\r=if Z.blt (KK Z (arrOf st) (lo+n)) (KK Z (arrOf st) (lo+n-1))=true then .done (none,n)else .yield (none,n+1)) st)
  (C:1<=a) (o:a<=b) (B:SI Z (arrOf st) lo a)
  (h:∀n,a<=n->n<=b->SI Z (arrOf st) lo n->(n=b\/Z.klt (KK Z (arrOf st) (lo+n)) (KK Z (arrOf st) (lo+n-1)))->Q (none,n) st):wpS (model prog w) A E s (forIn [a:b] (none,a) f) Q st:=by
 refine wpS_forRange (I:=λx c k=>k=st/\c =(none,x)/\SI Z (arrOf st) lo x) ?_ ?_ ⟨rfl,rfl,B⟩
 .rintro x c k p q ⟨rfl,rfl,g⟩;refine wpS_mono (z x x (by lia) q) λr l ⟨e,m⟩=>?_;subst e;cases d:Z.blt (KK Z (arrOf l) (lo+x)) (KK Z (arrOf l) (lo+x-1))
  .rw[d,AI BE]at m;subst m;refine⟨rfl,rfl,λi j t D=>?_⟩;by_cases u:j<x
   .exact g i j t u
   .have v:j=x:=by lia
    subst v;by_cases y:i=j
    .subst y;exact KeyOrd.kle_refl _
    .have:=g i (j-1) (by lia) (by lia);rw[show lo +(j-1)=lo+j-1 by lia]at this;exact KeyOrd.kle_trans this d
  .rw[d,AN rfl]at m;subst m;exact h x p (by lia) g (.inr d)
 .rintro c k ⟨rfl,rfl,g⟩;rw[show max a b=b by lia]at g⊢;exact h b o (VD _) g (.inl rfl)
theorem NI.step{xs e:HU HW}{lo x:Nat}(l:1<=x)(f:∀k,KK Z e k=KK Z xs k)(g:NI Z xs lo x)(h:Z.kle (KK Z xs (lo+x)) (KK Z xs (lo+x-1))):NI Z e lo (x+1):=by
 intro i j a m;rw[f,f];by_cases b:j<x
 .exact g i j a b
 .have c:j=x:=by lia
  subst c;by_cases d:i=j
  .subst d;exact KeyOrd.kle_refl _
  .have:=g i (j-1) (by lia) (by lia);rw[show lo +(j-1)=lo+j-1 by lia]at this;exact KeyOrd.kle_trans h this
abbrev DS:=A5 (A5 Nat)×Nat×Nat
theorem zCr{st0 st:HZ}{lo n d:Nat}(hsz:lo+d<=a₀.size){f:Nat->DS->StateT HZ Sem (ForInStep DS)}{Q:DS->HZ->Prop}
  (J:∀x n q b,1<=n->n<d->Lo Z kd a₀ st0 lo d b->wpS (model prog w) A E s (f x (none,n,q)) (λr st2 =>
   if Z.blt (KK Z (arrOf b) (lo+n)) (KK Z (arrOf b) (lo+n-1))=true then(st2=if q>0 then setArr b (mirror (arrOf b) (lo+n-(q+1)) (lo+n) ((lo+n-(lo+n-(q+1))) / 2))else b)/\r = .yield (none,n+1,0)
   else st2=b/\r=if Z.blt (KK Z (arrOf b) (lo+n-1)) (KK Z (arrOf b) (lo+n))=true then .done (none,n,q)else .yield (none,n+1,q+1)) b)
  (h1:1<=n) (B:n<=d) (K:Lo Z kd a₀ st0 lo d st) (L:NI Z (arrOf st) lo n)
  (h:∀m q b,Lo Z kd a₀ st0 lo d b->n<=m->m<=d->NI Z (arrOf b) lo m->q+1<=m->(∀i,m-(q+1)<=i->i<m->KK Z (arrOf b) (lo+i)=KK Z (arrOf b) (lo+m-1))->Q (none,m,q) b) :
  wpS (model prog w) A E s (forIn [n:d] (none,n,0) f) Q st:=by
 refine wpS_forRange (I:=λx c b=>∃q,c =(none,x,q)/\Lo Z kd a₀ st0 lo d b/\NI Z (arrOf b) lo x/\q+1<=x /\
   (∀i,x-(q+1)<=i->i<x->KK Z (arrOf b) (lo+i)=KK Z (arrOf b) (lo+x-1))) ?_ ?_ ⟨0,rfl,K,L,by lia,λi h1 N=>by congr 1;lia⟩
 .rintro x c b C D ⟨q,rfl,j,l,y,p⟩;have M:=j.S.size;refine wpS_mono (J x x q b (by lia) D j) λr st2 z=>?_;cases g:Z.blt (KK Z (arrOf b) (lo+x)) (KK Z (arrOf b) (lo+x-1))
  .rw[g,AI BE]at z;obtain⟨e,t⟩:=z;subst e;cases o:Z.blt (KK Z (arrOf st2) (lo+x-1)) (KK Z (arrOf st2) (lo+x))
   .rw[o,AI BE]at t;subst t;have u:KK Z (arrOf st2) (lo+x)=KK Z (arrOf st2) (lo+x-1):=KeyOrd.kle_antisymm o g;refine⟨q+1,rfl,j,NI.step (by lia) (λ_=>rfl) l o,by lia,λi F G=>?_⟩;rw[show lo +(x+1)-1=lo+x by lia];by_cases H:i=x
    .subst H;rfl
    .rw[u];exact p i (by lia) (by lia)
   .rw[o,AN rfl]at t;subst t;exact h x q st2 j C (by lia) l y p
  .rw[g,AN rfl]at z;obtain⟨e,t⟩:=z;subst t;have o:Z.kle (KK Z (arrOf b) (lo+x)) (KK Z (arrOf b) (lo+x-1)):=KeyOrd.kle_of_klt g;by_cases v:q>0
   .rw[AN v]at e;subst e;refine⟨0,rfl,j.mirror (by lia) (by lia) hsz,NI.step (by lia) (KK_mirror_equal (by lia) λk F G=>?_) l o,by lia,λi F G=>by congr 1;lia⟩;have:=p (k-lo) (by lia) (by lia);rw[show lo +(k-lo)=k by lia]at this;exact this
   .rw[AI v]at e;subst e;exact⟨0,rfl,j,NI.step (by lia) (λ_=>rfl) l o,by lia,λi F G=>by congr 1;lia⟩
 .rintro c b ⟨q,rfl,j,l,y,p⟩;rw[show max n d=d by lia]at l y p⊢;exact h d q b j B (VD _) l y p
theorem NI.turn{xs:HU HW}{lo n:Nat}(a:lo+n<=xs.size)(h:NI Z xs lo n):SI Z (mirror xs lo (lo+n) ((lo+n-lo) / 2)) lo n:=by
 intro i j b c;rw[KK_mirror a,KK_mirror a,AN (by lia),AN (by lia)];have:=h (n-1-j) (n-1-i) (by lia) (by lia);rw[show lo +(n-1-i)=lo +(lo+n)-1-(lo+i) by lia,show lo +(n-1-j)=lo +(lo+n)-1-(lo+j) by lia]at this;exact this
theorem Gw(C:QO prog w A s Z kd)(D:KeysOf Z a₀){st:HZ}{lo c:Nat}{Q:A5 Nat->HZ->Prop}(W:St Z kd a₀ st)(hsz:lo+c<=a₀.size)(h1:1<=c)
  (h:∀m b,Lo Z kd a₀ st lo c b->1<=m->m<=c->SI Z (arrOf b) lo m->Q (some m) b):wpS (model prog w) A E s (countRun' lo c) Q st:=by
 have X:Lo Z kd a₀ st lo c st:=⟨W,rfl,λ_ _=>rfl⟩;rw[countRun'_eq];dsimp only;refine wpS_bind (TC (Z:=Z) (lo:=lo) (λx n G H=>?_) (VD 1) h1 (λi j p P=>by have:i=j:=(by lia);subst this;exact KeyOrd.kle_refl _) λn R T F Y=>?_)
 .dsimp only;refine wpS_bind (T4 C D W (by lia) (by lia) ?_);dsimp only;cases Z.blt (KK Z (arrOf st) (lo+n)) (KK Z (arrOf st) (lo+n-1))
  .exact wpS_pure ⟨rfl,rfl⟩
  .exact wpS_pure ⟨rfl,rfl⟩
 dsimp only;by_cases I:n=c
 .rw[AN (by simpa using I)];exact wpS_pure (h n st X R T F)
 rw[AI (by simpa using I)];have U:Z.klt (KK Z (arrOf st) (lo+n)) (KK Z (arrOf st) (lo+n-1)):=Y.resolve_left I;have hz:=W.size;by_cases V:n>1
 .rw[AN V];refine wpS_bind (T4 C D W (by lia) (by lia) ?_);dsimp only;cases J:Z.blt (KK Z (arrOf st) lo) (KK Z (arrOf st) (lo+n-1))with
  | true =>
   simp only[GK];exact wpS_pure (h n st X R T F)
  | false =>
   simp only[BD,CO];have r:∀k,lo<=k->k<lo+n->KK Z (arrOf st) k=KK Z (arrOf st) (lo+n-1):=by
    intro k hk1 hk2;have a1:=F 0 (k-lo) (by lia) (by lia);have a2:=F (k-lo) (n-1) (by lia) (by lia);rw[Nat.add_zero,show lo +(k-lo)=k by lia]at a1;rw[show lo +(k-lo)=k by lia,show lo +(n-1)=lo+n-1 by lia]at a2;exact KeyOrd.kle_antisymm a2 (KeyOrd.kle_trans J a1)
   have K:=KK_mirror_equal (κ:=Z) (xs:=arrOf st) (i:=lo) (j:=lo+n) (by lia) r;refine wpS_bind (wpS_reverse ?_);have L:=X.mirror (i:=lo) (j:=lo+n) (by lia) (by lia) hsz;have hN:NI Z (mirror (arrOf st) lo (lo+n) ((lo+n-lo) / 2)) lo (n+1):=by
    refine NI.step (by lia) K (λi j p P=>?_) (KeyOrd.kle_of_klt U);rw[r (lo+i) (by lia) (by lia),r (lo+j) (by lia) (by lia)];exact KeyOrd.kle_refl _
   refine wpS_bind (wpS_lift (DF ⟨rfl,?_⟩));refine wpS_bind (zCr (Z:=Z) (kd:=kd) (a₀:=a₀) (st0:=st) (lo:=lo) hsz (λx f q b G H t=>?_) (by lia) (by lia) L hN λm q b l hm1 u v y he=>?_)
   .dsimp only;refine wpS_bind (T4 C D t.S (by lia) (by lia) ?_);dsimp only;cases Z.blt (KK Z (arrOf b) (lo+f)) (KK Z (arrOf b) (lo+f - 1))
    .simp only[BD,CO];refine wpS_bind (T4 C D t.S (by lia) (by lia) ?_);dsimp only;cases Z.blt (KK Z (arrOf b) (lo+f - 1)) (KK Z (arrOf b) (lo+f))
     .exact wpS_pure ⟨rfl,rfl⟩
     .exact wpS_pure ⟨rfl,rfl⟩
    .simp only[GK];by_cases y:q>0
     .rw[AN y,AN y];exact wpS_bind (wpS_reverse (wpS_pure ⟨rfl,rfl⟩))
     .rw[AI y,AI y];exact wpS_pure ⟨rfl,rfl⟩
   .dsimp only;have hz3:=l.S.size;by_cases z:q>0
    .rw[AN z];refine wpS_bind (wpS_reverse (wpS_bind (wpS_reverse ?_)));have g:=l.mirror (i:=lo+m-(q+1)) (j:=lo+m) (by lia) (by lia) hsz;have d:=g.mirror (i:=lo) (j:=lo+m) (by lia) (by lia) hsz;have hz4:=g.S.size;have M:NI Z (mirror (arrOf b) (lo+m-(q+1)) (lo+m) ((lo+m-(lo+m-(q+1))) / 2)) lo m:=by
      have K:=KK_mirror_equal (κ:=Z) (xs:=arrOf b) (i:=lo+m-(q+1)) (j:=lo+m) (by lia) (λk G H=>by
       have:=he (k-lo) (by lia) (by lia);rw[show lo +(k-lo)=k by lia]at this;exact this)
      intro i j p P;rw[K,K];exact v i j p P
     have N:=M.turn (Z:=Z) (lo:=lo) (n:=m) (by rw[mirror_size];lia);refine wpS_bind (TC (Z:=Z) (lo:=lo) (λx f G H=>?_) (by lia) u N λO B e o _=>wpS_pure (h O _ d (by lia) e o));dsimp only;refine wpS_bind (T4 C D d.S (by lia) (by lia) ?_);dsimp only;cases Z.blt (KK Z _ (lo+f)) (KK Z _ (lo+f - 1))
     .exact wpS_pure ⟨rfl,rfl⟩
     .exact wpS_pure ⟨rfl,rfl⟩
    .rw[AI z];refine wpS_bind (wpS_reverse ?_);have d:=l.mirror (i:=lo) (j:=lo+m) (by lia) (by lia) hsz;have N:=v.turn (Z:=Z) (lo:=lo) (n:=m) (by lia);refine wpS_bind (TC (Z:=Z) (lo:=lo) (λx f G H=>?_) (by lia) u N λO B e o _=>wpS_pure (h O _ d (by lia) e o));dsimp only;refine wpS_bind (T4 C D d.S (by lia) (by lia) ?_);dsimp only;cases Z.blt (KK Z _ (lo+f)) (KK Z _ (lo+f - 1))
     .exact wpS_pure ⟨rfl,rfl⟩
     .exact wpS_pure ⟨rfl,rfl⟩
 .rw[AI V];have hn1':n=1:=by lia
  have L:=X;have hN:NI Z (arrOf st) lo (n+1):=by
   refine NI.step (by lia) (λ_=>rfl) (λi j p P=>?_) (KeyOrd.kle_of_klt U);have:i=j:=by lia
   subst this;exact KeyOrd.kle_refl _
  refine wpS_bind (wpS_lift (DF ⟨rfl,?_⟩));refine wpS_bind (zCr (Z:=Z) (kd:=kd) (a₀:=a₀) (st0:=st) (lo:=lo) hsz (λx f q b G H t=>?_) (by lia) (by lia) L hN λm q b l hm1 u v y he=>?_)
  .dsimp only;refine wpS_bind (T4 C D t.S (by lia) (by lia) ?_);dsimp only;cases Z.blt (KK Z (arrOf b) (lo+f)) (KK Z (arrOf b) (lo+f - 1))
   .simp only[BD,CO];refine wpS_bind (T4 C D t.S (by lia) (by lia) ?_);dsimp only;cases Z.blt (KK Z (arrOf b) (lo+f - 1)) (KK Z (arrOf b) (lo+f))
    .exact wpS_pure ⟨rfl,rfl⟩
    .exact wpS_pure ⟨rfl,rfl⟩
   .simp only[GK];by_cases y:q>0
    .rw[AN y,AN y];exact wpS_bind (wpS_reverse (wpS_pure ⟨rfl,rfl⟩))
    .rw[AI y,AI y];exact wpS_pure ⟨rfl,rfl⟩
  .dsimp only;have hz3:=l.S.size;by_cases z:q>0
   .rw[AN z];refine wpS_bind (wpS_reverse (wpS_bind (wpS_reverse ?_)));have g:=l.mirror (i:=lo+m-(q+1)) (j:=lo+m) (by lia) (by lia) hsz;have d:=g.mirror (i:=lo) (j:=lo+m) (by lia) (by lia) hsz;have hz4:=g.S.size;have M:NI Z (mirror (arrOf b) (lo+m-(q+1)) (lo+m) ((lo+m-(lo+m-(q+1))) / 2)) lo m:=by
     have K:=KK_mirror_equal (κ:=Z) (xs:=arrOf b) (i:=lo+m-(q+1)) (j:=lo+m) (by lia) (λk G H=>by
      have:=he (k-lo) (by lia) (by lia);rw[show lo +(k-lo)=k by lia]at this;exact this)
     intro i j p P;rw[K,K];exact v i j p P
    have N:=M.turn (Z:=Z) (lo:=lo) (n:=m) (by rw[mirror_size];lia);refine wpS_bind (TC (Z:=Z) (lo:=lo) (λx f G H=>?_) (by lia) u N λO B e o _=>wpS_pure (h O _ d (by lia) e o));dsimp only;refine wpS_bind (T4 C D d.S (by lia) (by lia) ?_);dsimp only;cases Z.blt (KK Z _ (lo+f)) (KK Z _ (lo+f - 1))
    .exact wpS_pure ⟨rfl,rfl⟩
    .exact wpS_pure ⟨rfl,rfl⟩
   .rw[AI z];refine wpS_bind (wpS_reverse ?_);have d:=l.mirror (i:=lo) (j:=lo+m) (by lia) (by lia) hsz;have N:=v.turn (Z:=Z) (lo:=lo) (n:=m) (by lia);refine wpS_bind (TC (Z:=Z) (lo:=lo) (λx f G H=>?_) (by lia) u N λO B e o _=>wpS_pure (h O _ d (by lia) e o));dsimp only;refine wpS_bind (T4 C D d.S (by lia) (by lia) ?_);dsimp only;cases Z.blt (KK Z _ (lo+f)) (KK Z _ (lo+f - 1))
    .exact wpS_pure ⟨rfl,rfl⟩
    .exact wpS_pure ⟨rfl,rfl⟩
theorem Lo.bubble{st0 st:HZ}{lo n b d:Nat}(h:Lo Z kd a₀ st0 lo n st)(h1:lo+d<=b)(h2:b<lo+n)(e:lo+n<=a₀.size):Lo Z kd a₀ st0 lo n (setArr st (bubble (arrOf st) b d)):=by
 refine⟨⟨(Array.perm_iff_toList_perm.mp (bubble_perm _ _ _)).trans h.S.perm,h.S.kind,h.S.failed⟩,h.pend,λt c=>?_⟩;show(PyProof.Rows.bubble (arrOf st) b d)[t]?=_;have:=h.S.size;rw[getElem?_bubble (by lia) d (by lia),AI (by lia),AI (by lia)];exact h.out t c
theorem Cz(C:QO prog w A s Z kd)(H:KeysOf Z a₀){st0 st:HZ}{lo g n v:Nat}{Q:Bool->HZ->Prop}(J:Lo Z kd a₀ st0 lo g st)(hsz:lo+g<=a₀.size)(U:n<=g)(K:v<=n)(L:SI Z (arrOf st) lo v)
  (h:∀b,Lo Z kd a₀ st0 lo g b->SI Z (arrOf b) lo n->Q true b):wpS (model prog w) A E s (binarySort' lo n v) Q st:=by
 rw[binarySort'_eq];refine wpS_bind (wpS_mono (wpS_forRange (I:=λk c b=>c =(none,())/\Lo Z kd a₀ st0 lo g b/\SI Z (arrOf b) lo (min k n))
  (Q:=λc b=>c =(none,())/\Lo Z kd a₀ st0 lo g b/\SI Z (arrOf b) lo n) ?step ?fin ?init) ?post)
 case post =>
  rintro c b ⟨rfl,m,f⟩;exact wpS_pure (h b m f)
 case init =>
  refine⟨rfl,J,λi j y M=>?_⟩;by_cases B:v=0
  .have:i=j:=by lia
   subst this;exact KeyOrd.kle_refl _
  .exact L i j y (by lia)
 case fin =>
  rintro c b ⟨N,m,f⟩;refine⟨N,m,?_⟩
  rwa [show min (max (max v 1) n) n=n by lia]at f
 case step =>
  rintro k c b O P ⟨rfl,m,f⟩;rw[show min k n=k by lia]at f;dsimp only;refine wpS_bind (wpS_mono (wpS_forRange (I:=λx c d=>d=b/\∃l r,c =(none,l,r)/\l<=r/\r<=k/\r-l<=k-x /\
    (∀i,i<l->Z.kle (KK Z (arrOf b) (lo+i)) (KK Z (arrOf b) (lo+k)))/\(∀i,r<=i->i<k->Z.klt (KK Z (arrOf b) (lo+k)) (KK Z (arrOf b) (lo+i))))
   (Q:=λc d=>d=b/\∃l r,c =(none,l,r)/\l<=k /\
    (∀i,i<l->Z.kle (KK Z (arrOf b) (lo+i)) (KK Z (arrOf b) (lo+k)))/\(∀i,l<=i->i<k->Z.klt (KK Z (arrOf b) (lo+k)) (KK Z (arrOf b) (lo+i)))) ?istep ?ifin ?iinit) ?ipost)
  case iinit=>exact⟨rfl,0,k,rfl,by lia,by lia,by lia,λi V=>by lia,λi B G=>by lia⟩
  case ifin =>
   rintro c d ⟨rfl,l,r,rfl,D,u,F,o,p⟩;have:l=r:=by lia
   subst this;exact⟨rfl,l,l,rfl,u,o,p⟩
  case istep =>
   rintro x c d _ R ⟨rfl,l,r,rfl,D,u,F,o,p⟩;dsimp only;by_cases t:l ≥ r
   .rw[AN t];have:l=r:=by lia
    subst this;exact wpS_pure ⟨rfl,l,l,rfl,u,o,p⟩
   .rw[AI t];refine wpS_bind (T4 C H m.S (by lia) (by lia) ?_);dsimp only;cases q:Z.blt (KK Z (arrOf d) (lo+k)) (KK Z (arrOf d) (lo +(l+r) / 2))
    case true =>
     simp only[GK];refine wpS_pure ⟨rfl,l,(l+r) / 2,rfl,by lia,by lia,zAa (Nat.lt_of_not_le t) F,o,λi B G=>?_⟩;exact KeyOrd.klt_of_klt_of_kle q (f _ _ B G)
    case false =>
     simp only[BD,CO];refine wpS_pure ⟨rfl,(l+r) / 2+1,r,rfl,by lia,by lia,Zw (Nat.lt_of_not_le t) F,λi B=>?_,p⟩;exact KeyOrd.kle_trans (f i ((l+r) / 2) (by lia) (by lia)) (show Z.kle _ _ from q)
  case ipost =>
   rintro c d ⟨rfl,l,r,rfl,T,o,p⟩;have W:=m.S.size;show wpS _ _ _ _ (do moveDown' (lo+k) (lo+l);pure (ForInStep.yield (none,()))) _ _;rw[moveDown'_eq];refine wpS_bind (wpS_modify (wpS_pure ⟨rfl,m.bubble (by lia) (by lia) hsz,?_⟩));rw[show min (k+1) n=k+1 by lia];intro i j y M;show Z.kle (KK Z (bubble (arrOf d) (lo+k) (lo+k-(lo+l))) (lo+i)) (KK Z (bubble (arrOf d) (lo+k) (lo+k-(lo+l))) (lo+j));rw[KK_bubble (by lia) (by lia),KK_bubble (by lia) (by lia),show lo+k-(lo+k-(lo+l))=lo+l by lia];have e:∀z,1<=z->lo+z-1=lo +(z-1):=λz _=>by lia
   repeat' split
   all_goals first
    | (exfalso;lia)
    | exact KeyOrd.kle_refl _
    | exact o _ (by lia)
    | exact KeyOrd.kle_of_klt (p _ (by lia) (by lia))
    | exact f _ _ (by lia) (by lia)
    | (rw[e j (by lia)];exact KeyOrd.kle_of_klt (p _ (by lia) (by lia)))
    | (rw[e i (by lia)];exact o _ (by lia))
    | (rw[e j (by lia)];exact f _ _ (by lia) (by lia))
    | (rw[e i (by lia),e j (by lia)];exact f _ _ (by lia) (by lia))
    | (rw[e i (by lia)];exact f _ _ (by lia) (by lia))
end
abbrev Run:=Nat×Nat×Nat
def MK:A0 Run->Nat->Nat->Prop
 | [],a,b=>a=b
 | x::r,a,b=>x.1=a/\1<=x.2.1/\MK r (a+x.2.1) b
def MK.app:∀{i l2:A0 Run} {a b:Nat},MK (i++l2) a b↔∃c,MK i a c/\MK l2 c b
 | [],l2,a,b=>⟨λh=>⟨a,rfl,h⟩,λ⟨c,d,e⟩=>by have:a=c:=d;subst this;exact e⟩
 | x::r,l2,a,b=>by
  constructor
  .rintro⟨d,e,j⟩;obtain⟨c,f,g⟩:=MK.app.mp j;exact⟨c,⟨d,e,f⟩,g⟩
  .rintro⟨c,⟨d,e,f⟩,g⟩;exact⟨d,e,MK.app.mpr ⟨c,f,g⟩⟩
def MK.le:∀{l:A0 Run} {a b:Nat},MK l a b->a+l.length<=b
 | [],a,b,h=>by have:a=b:=h;subst this;simp
 | x::r,a,b,⟨d,e,c⟩=>by have:=MK.le c;rw[BQ];lia
def MK.mem:∀{l:A0 Run} {a b:Nat} {x:Run},MK l a b->x∈l->a<=x.1/\x.1+x.2.1<=b
 | [],_,_,_,_,hx=>absurd hx (by simp)
 | y::r,a,b,x,⟨d,f,c⟩,hx=>by
  have g:=MK.le c;rcases AR.mp hx with e | hx
  .subst e;lia
  .have:=MK.mem c hx;lia
def zGy{l:A0 Run}{i:Nat}{x y:Run}(a:l[i]?=some x)(b:l[i+1]?=some y):l=l.take i++x::y::l.drop (i+2):=by
 obtain⟨c,rfl⟩:=AJ.mp a;obtain⟨d,rfl⟩:=AJ.mp b
 conv=>lhs;rw[<-BX i l]
 rw[DV c,DV d]
def zGd{l:A0 Run}{i:Nat}{x y:Run}(z:Run)(a:l[i]?=some x)(b:l[i+1]?=some y):(l.set i z).eraseIdx (i+1)=l.take i++z::l.drop (i+2):=by
 obtain⟨d,_⟩:=AJ.mp a;obtain⟨f,_⟩:=AJ.mp b;have e:=zGy a b;have c:(l.take i).length=i:=by rw[AZ];lia
 generalize l.take i=p at *;generalize l.drop (i+2)=q at *;subst e;rw[List.set_append_right _ _ (by lia),c,Nat.sub_self,List.eraseIdx_append_of_length_le (by lia),c,show i+1-i=1 by lia];rfl
section
variable{prog:HV}{w:HX}{A:IA}{E:A2->A4->Prop}{s:A4}{Z:KeyKind}{kd:JP}{a₀:HU HW}
structure RI(Z:KeyKind)(kd:JP)(a₀:HU HW)(lo:Nat)(st:HZ):Prop where
 S:St Z kd a₀ st
 cov:MK (pendingOf st).toList 0 lo
 sor:∀x∈(pendingOf st).toList,KY Z (JJ (arrOf st).toList x.1 x.2.1)
theorem Ju(C:QO prog w A s Z kd)(I:KeysOf Z a₀){st:HZ}{lo i:Nat}{Q:Bool->HZ->Prop}(R:RI Z kd a₀ lo st)(J:lo<=a₀.size)(hi:i+1 <(pendingOf st).size)
  (h:∀b,RI Z kd a₀ lo b->(pendingOf b).size+1 =(pendingOf st).size->K_ Z (arrOf st).toList (arrOf b).toList 0 lo->Q true b):wpS (model prog w) A E s (mergeAt' i) Q st:=by
 obtain⟨⟨g,d,q⟩,u⟩:∃x,(pendingOf st)[i]?=some x:=⟨_,getElem?_pos _ i (by lia)⟩;obtain⟨⟨K,f,r⟩,n⟩:∃x,(pendingOf st)[i+1]?=some x:=⟨_,getElem?_pos _ (i+1) hi⟩;have j:(pendingOf st).toList[i]?=some (g,d,q):=by rw[BJ];exact u
 have k:(pendingOf st).toList[i+1]?=some (K,f,r):=by rw[BJ];exact n
 have e:=zGy j k;have c:=R.cov;rw[e]at c;obtain⟨v,B,L⟩:=MK.app.mp c;obtain⟨D,F,M,G,o⟩:=L;dsimp only at D F M G o;have N:=MK.le o;refine Jw C I R.S u n (by lia) (by lia) F G (R.sor _ (BB j)) (R.sor _ (BB k)) λb O p P T=>?_;have t:(pendingOf b).toList =(pendingOf st).toList.take i ++(g,d+f,q) ::(pendingOf st).toList.drop (i+2):=by
  rw[T,<-zGd (g,d+f,q) j k];simp
 refine h b ⟨O,?_,λx l=>?_⟩ ?_ ?_
 .rw[t];exact MK.app.mpr ⟨v,B,D,(by show 1<=d+f;lia),(by show MK _ (v +(d+f)) lo;rw[<-Nat.add_assoc];exact o)⟩
 .rw[t]at l;have m:∀y∈(pendingOf st).toList,(y.1+y.2.1<=g\/g +(d+f)<=y.1)->KY Z (JJ (arrOf b).toList y.1 y.2.1):=λy n ho=>by
   have:=R.sor y n;rcases ho with ho | ho
   .rw[p.seg_front ho];exact this
   .rw[p.seg_back ho];exact this
  rcases AO.mp l with hm | hm
  .have:=MK.mem B hm;exact m x (DE hm) (.inl (by lia))
  .rcases AR.mp hm with hm | hm
   .subst hm;exact P
   .have:=MK.mem o hm;exact m x (EO hm) (.inr (by lia))
 .have:=congrArg List.length t;rw[AU,AV,BQ,AZ,DJ,AU]at this;lia
 .have H:∀z:A0 HW,z.drop (0+lo) =(z.drop (g +(d+f))).drop (lo-(g +(d+f))):=λz=>by
   rw[FB];congr 1;lia
  exact⟨p.perm,rfl,by rw[H,H,p.back]⟩
theorem Bw{l:HU Run}{a:Nat}:(l.modify (l.size-1) λx=>(x.1,x.2.1,a)).toList.map (λx:Run=>(x.1,x.2.1))=l.toList.map λx:Run=>(x.1,x.2.1):=by
 refine FI λt=>?_;rw[AH,AH,BJ,BJ,Array.getElem?_modify];split
 .cases l[t]?<;>rfl
 .rfl
theorem MK.congr:∀{l c:A0 Run} {a b:Nat},c.map (λx:Run=>(x.1,x.2.1))=l.map (λx:Run=>(x.1,x.2.1))->MK l a b->MK c a b
 | [],[],_,_,_,h=>h
 | [],_::_,_,_,e,_=>by simp at e
 | _::_,[],_,_,e,_=>by simp at e
 | x::r,y::n,a,b,e,⟨f,g,i⟩=>by
  rw[BM,BM]at e;obtain⟨j,k⟩:=List.cons.inj e;obtain⟨m,d⟩:=Prod.mk.inj j;exact⟨m.trans f,by rw[d];exact g,by rw[d];exact MK.congr k i⟩
theorem RI.congr{lo:Nat}{st:HZ}(R:RI Z kd a₀ lo st){p:HU Run}(e:p.toList.map (λx:Run=>(x.1,x.2.1)) =(pendingOf st).toList.map λx:Run=>(x.1,x.2.1)):RI Z kd a₀ lo (setPending st p):=by
 refine⟨⟨R.S.perm,R.S.kind,R.S.failed⟩,MK.congr e R.cov,λx b=>?_⟩;have:(x.1,x.2.1)∈(pendingOf st).toList.map λx:Run=>(x.1,x.2.1):=by
  rw[<-e];exact BK.mpr ⟨x,b,rfl⟩
 obtain⟨y,c,d⟩:=BK.mp this;obtain⟨f,g⟩:=Prod.mk.inj d;have:=R.sor y c;rw[f,g]at this;exact this
theorem Er(C:QO prog w A s Z kd)(v:KeysOf Z a₀){st:HZ}{Q:Unit->HZ->Prop}(hS:St Z kd a₀ st)(hp:pendingOf st = #[])
  (h:∀d,St Z kd a₀ d->KY Z (arrOf d).toList->Q () d):wpS (model prog w) A E s sortRuns' Q st:=by
 rw[sortRuns'_eq];refine wpS_bind (wpS_get ?_);dsimp only;have hz:=hS.size;rw[hz];generalize minRun' a₀.size a₀.size 0=B;refine wpS_bind (wpS_mono (wpS_forRange (I:=λx c d=>∃lo,c =(none,lo)/\RI Z kd a₀ lo d/\lo<=a₀.size/\min x a₀.size<=lo)
  (Q:=λc d=>∃lo,c =(none,lo)/\RI Z kd a₀ lo d/\lo=a₀.size) ?st ?en ⟨0,rfl,⟨hS,by rw[hp];rfl,λx K=>by rw[hp]at K;exact absurd K (by simp)⟩,CB _,by lia⟩) ?po)
 case en =>
  rintro c d ⟨lo,rfl,R,P,h2⟩;exact⟨lo,rfl,R,by lia⟩
 case po =>
  rintro c d ⟨lo,rfl,R,rfl⟩;dsimp only;refine wpS_bind (wpS_mono (wpS_forRange (I:=λx c d=>c =(none,())/\RI Z kd a₀ a₀.size d/\(pendingOf d).size+x<=a₀.size+1)
   (Q:=λc d=>c =(none,())/\RI Z kd a₀ a₀.size d/\(pendingOf d).size<=1) ?st3 ?en3 ⟨rfl,R,?in3⟩) ?po3)
  case in3 =>
   have:=MK.le R.cov;rw[AU]at this;lia
  case en3 =>
   rintro c e ⟨rfl,R2,g⟩;exact⟨rfl,R2,by lia⟩
  case po3 =>
   rintro c e ⟨rfl,R2,g⟩;refine wpS_pure (h e R2.S ?_);have c:=R2.cov;have L:=R2.sor;have hz2:=R2.S.size;have M:(pendingOf e).toList.length<=1:=by rw[AU];exact g
   generalize (pendingOf e).toList=l at c L M
   match l,c,L,M with
   | [],c,_,_ =>
    have c':0=a₀.size:=c;have:(arrOf e).toList = []:=List.eq_nil_of_length_eq_zero (by rw[AU];lia);rw[this];exact List.Pairwise.nil
   | [x],⟨c1,c2,c3⟩,L,_ =>
    have c3':0+x.2.1=a₀.size:=c3;have:=L x (AE.mpr rfl);unfold JJ at this;rw[c1,EQ,DU (by rw[AU];lia)]at this;exact this
   | _::_::_,_,_,M=>exact absurd M (by simp)
  case st3 =>
   rintro x c e _ K ⟨rfl,R2,g⟩
   try dsimp only
   refine wpS_bind (wpS_get ?_);by_cases r:(pendingOf e).size<=1
   .rw[AN r];exact wpS_pure ⟨rfl,R2,r⟩
   rw[AI r];refine wpS_bind (Ju C v R2 (VD _) ?_ λst3 R3 e3 _=>?_)
   .have T:∀{c:Prop} [Decidable c] {n:Nat},(if c then n-1 else n)+1<=n+1:=by intro c _ n;split<;>lia
    exact Nat.lt_of_le_of_lt T (by lia)
   .simp only[EM,BD,CO];exact wpS_pure ⟨rfl,R3,by lia⟩
 case st =>
  rintro x c d _ K ⟨lo,rfl,R,P,h2⟩;dsimp only;by_cases D:lo ≥ a₀.size
  .rw[AN D];exact wpS_pure ⟨lo,rfl,R,by lia⟩
  rw[AI D];refine wpS_bind (Gw C v R.S (by lia) (by lia) λm e L2 hm1 hm2 t=>?_);dsimp only;by_cases F:m<B
  .rw[AN F];refine wpS_bind (wpS_lift (DF ⟨rfl,?_⟩));refine wpS_bind (Cz C v L2 (by lia) (show min (a₀.size-lo) B<=a₀.size-lo by lia) (by lia) t λq O U=>?_);simp only[EM,BD,CO];have hN:1<=min (a₀.size-lo) B/\min (a₀.size-lo) B<=a₀.size-lo:=by lia
   generalize min (a₀.size-lo) B=N at hN U⊢;have G:RI Z kd a₀ lo q:=by
    refine⟨O.S,by rw[O.pend];exact R.cov,λy k=>?_⟩;rw[O.pend]at k;have hc:=MK.mem R.cov k;rw[(O.part R.S).seg_front (by lia)];exact R.sor y k
   refine wpS_bind (wpS_get ?_);have i:∀(b:HZ),RI Z kd a₀ lo b->KY Z (JJ (arrOf b).toList lo N)->RI Z kd a₀ (lo+N) (setPending b ((pendingOf b).push (lo,N,0))):=λb f V=>by
    refine⟨⟨f.S.perm,f.S.kind,f.S.failed⟩,?_,λy k=>?_⟩
    .show MK ((pendingOf b).push (lo,N,0)).toList 0 (lo+N);rw[DD];exact MK.app.mpr ⟨lo,f.cov,rfl,(by show 1<=N;lia),rfl⟩
    .have hy':y∈((pendingOf b).push (lo,N,0)).toList:=k;rw[DD]at hy';rcases AO.mp hy' with hy' | hy'
     .exact f.sor y hy'
     .rw[AE.mp hy'];exact V
   cases W:(pendingOf q).back? with
   | none =>
    dsimp only;refine wpS_bind (wpS_modify (wpS_pure ⟨_,rfl,i _ G U.sor,by lia,by lia⟩))
   | some X =>
    obtain⟨H,u,pb⟩:=X;dsimp only;generalize power' a₀.size (2*H+u) (2*H+u+u+N) a₀.size=Y;refine wpS_bind (wpS_mono (wpS_forRange (I:=λx c b=>c =(none,())/\RI Z kd a₀ lo b/\K_ Z (arrOf q).toList (arrOf b).toList 0 lo)
     (Q:=λc b=>c =(none,())/\RI Z kd a₀ lo b/\K_ Z (arrOf q).toList (arrOf b).toList 0 lo) ?stc1 (λ_ _ z=>z) ⟨rfl,G,K_.refl _ _ _⟩) ?poc1)
    case stc1 =>
     rintro x' c b _ _ ⟨rfl,f,j⟩
     try dsimp only
     refine wpS_bind (wpS_get ?_);by_cases o:(pendingOf b).size>1
     .rw[AN o];obtain⟨⟨u1,u2,ol⟩,hu⟩:∃y,(pendingOf b)[(pendingOf b).size-2]?=some y:=⟨_,getElem?_pos _ _ (by lia)⟩;rw[hu];dsimp only;by_cases p:ol<=Y
      .rw[AN p];exact wpS_pure ⟨rfl,f,j⟩
      rw[AI p];refine wpS_bind (Ju C v f P (by lia) λst7 R7 _ J=>?_);simp only[EM,BD,CO];exact wpS_pure ⟨rfl,R7,⟨J.perm.trans j.perm,rfl,J.back.trans j.back⟩⟩
     .rw[AI o];exact wpS_pure ⟨rfl,f,j⟩
    case poc1 =>
     rintro c b ⟨rfl,f,j⟩;dsimp only;refine wpS_bind (wpS_modify (wpS_bind (wpS_modify (wpS_pure ⟨_,rfl,i _ (f.congr Bw) ?_,by lia,by lia⟩))));show KY Z (JJ (arrOf b).toList lo N);rw[j.seg_back (by lia)];exact U.sor
  .rw[AI F];have G:RI Z kd a₀ lo e:=by
    refine⟨L2.S,by rw[L2.pend];exact R.cov,λy k=>?_⟩;rw[L2.pend]at k;have hc:=MK.mem R.cov k;rw[(L2.part R.S).seg_front (by lia)];exact R.sor y k
   refine wpS_bind (wpS_get ?_);have i:∀(b:HZ),RI Z kd a₀ lo b->KY Z (JJ (arrOf b).toList lo m)->RI Z kd a₀ (lo+m) (setPending b ((pendingOf b).push (lo,m,0))):=λb f V=>by
    refine⟨⟨f.S.perm,f.S.kind,f.S.failed⟩,?_,λy k=>?_⟩
    .show MK ((pendingOf b).push (lo,m,0)).toList 0 (lo+m);rw[DD];exact MK.app.mpr ⟨lo,f.cov,rfl,(by show 1<=m;lia),rfl⟩
    .have hy':y∈((pendingOf b).push (lo,m,0)).toList:=k;rw[DD]at hy';rcases AO.mp hy' with hy' | hy'
     .exact f.sor y hy'
     .rw[AE.mp hy'];exact V
   cases W:(pendingOf e).back? with
   | none =>
    dsimp only;refine wpS_bind (wpS_modify (wpS_pure ⟨_,rfl,i _ G t.sor,by lia,by lia⟩))
   | some X =>
    obtain⟨H,u,pb⟩:=X;dsimp only;generalize power' a₀.size (2*H+u) (2*H+u+u+m) a₀.size=Y;refine wpS_bind (wpS_mono (wpS_forRange (I:=λx c b=>c =(none,())/\RI Z kd a₀ lo b/\K_ Z (arrOf e).toList (arrOf b).toList 0 lo)
     (Q:=λc b=>c =(none,())/\RI Z kd a₀ lo b/\K_ Z (arrOf e).toList (arrOf b).toList 0 lo) ?stc2 (λ_ _ z=>z) ⟨rfl,G,K_.refl _ _ _⟩) ?poc2)
    case stc2 =>
     rintro x' c b _ _ ⟨rfl,f,j⟩
     try dsimp only
     refine wpS_bind (wpS_get ?_);by_cases o:(pendingOf b).size>1
     .rw[AN o];obtain⟨⟨u1,u2,ol⟩,hu⟩:∃y,(pendingOf b)[(pendingOf b).size-2]?=some y:=⟨_,getElem?_pos _ _ (by lia)⟩;rw[hu];dsimp only;by_cases p:ol<=Y
      .rw[AN p];exact wpS_pure ⟨rfl,f,j⟩
      rw[AI p];refine wpS_bind (Ju C v f P (by lia) λst7 R7 _ J=>?_);simp only[EM,BD,CO];exact wpS_pure ⟨rfl,R7,⟨J.perm.trans j.perm,rfl,J.back.trans j.back⟩⟩
     .rw[AI o];exact wpS_pure ⟨rfl,f,j⟩
    case poc2 =>
     rintro c b ⟨rfl,f,j⟩;dsimp only;refine wpS_bind (wpS_modify (wpS_bind (wpS_modify (wpS_pure ⟨_,rfl,i _ (f.congr Bw) ?_,by lia,by lia⟩))));show KY Z (JJ (arrOf b).toList lo m);rw[j.seg_back (by lia)];exact t.sor
end
def kd1(Z:KeyKind)(v:A2):Z.α:=(Z.keyOf v).getD Z.dflt
def TR(a:A3)(s c:A4):Prop:=∀b o,b≠a->s.heap.get? b=some o->c.heap.get? b=some o
structure RS(prog:HV)(w:HX)(a:A3)(s:A4)(Z:KeyKind)(kd:JP)(vs:A0 A2):Prop where
 cmp:∀(A:IA) (s':A4),TR a s s'->QO prog w A s' Z kd
 key:∀v∈vs,∃k,Z.keyOf v=some k
 kind:2<=vs.length->∀(A:IA) (E:A2->A4->Prop) (s':A4) (Q:JP->A4->Prop),TR a s s'->Q kd s'->wpAny (model prog w) A (keyKind' vs.toArray) Q E s'
def Out(Z:KeyKind)(vs:A0 A2)(out:HU A2):Prop:=out.toList.Perm vs/\out.toList.Pairwise λu v=>Z.kle (kd1 Z u) (kd1 Z v)
theorem Wy{vs:A0 A2}{xs:HU HW}(a:xs.toList.Perm (pairsOf vs).toList)(b:KY Z xs.toList):Out Z vs (xs.map (·.2)):=by
 rw[pairsOf_toList]at a;have c:∀p∈xs.toList,p.1=p.2:=λp h=>(mem_zip_self (a.mem_iff.mp h)).1;have e:(xs.map (·.2)).toList=xs.toList.map (·.1):=by
  rw[Array.toList_map];exact List.map_congr_left λp h=>(c p h).symm
 refine⟨?_,?_⟩
 .rw[e];have:=a.map Prod.fst
  rwa [List.map_fst_zip (VD _)]at this
 .rw[e,CS];exact b
theorem Fs{a:A3}{vs:A0 A2}{n:Nat}{P:Fin->A4->Prop}(k:s.heap.get? a=some (seqObj "list" vs.toArray n))(hz:vs.length<=sizeLine)(K:RS prog w a s Z kd vs)
  (h:∀out:HU A2,Out Z vs out->P (.done (.ret .none)) { s with heap:=sortedHeap s.heap a vs out }) :
  wpAny (model prog w) A (Builtin.«list.sort» ⟨[.ref a],[]⟩) P E s:=by
 rw[list_sort_plain];have m:a<s.heap.objs.size:=AG k;have i:vs.toArray.size=vs.length:=by simp
 refine AA (listItems_at k rfl ?_);refine AA (listUpdate_at k rfl ?_ (by rw[i];exact hz) (by simp));obtain⟨l,j⟩:∃l,(s.heap.update a (Obj.mapSeq λ_=>#[])).get? a=some (seqObj "list" #[] l):=⟨_,get?_update_seq k (λ_=>#[])⟩;refine AA (seqEpoch_at j rfl ?_);refine AA (GO ?_ (by simpa using hz));refine AA (wpAny_newList ?_);refine BP ?_;have d:(((s.heap.update a (Obj.mapSeq λ_=>#[])).push (seqObj "tuple" vs.toArray 0)).push (seqObj "list" #[] 0)).get? a=some (seqObj "list" #[] l):=by
  rw[Heap.get?_push_ne _ _ _ (by rw[size_push',GQ];exact BA (EU m)),Heap.get?_push_ne _ _ _ (by rw[GQ];exact BA m)];exact j
 show wpAny (model prog w) A _ P E { s with heap:=((s.heap.update a (Obj.mapSeq λ_=>#[])).push (seqObj "tuple" vs.toArray 0)).push (seqObj "list" #[] 0) };dsimp only;have q:TR a s { s with heap:=((s.heap.update a (Obj.mapSeq λ_=>#[])).push (seqObj "tuple" vs.toArray 0)).push (seqObj "list" #[] 0) }:=λb o r e =>
  AC _ (AC _ ((BH s.heap _ (Ne.symm r)).trans e))
 by_cases f:vs.toArray.size<2
 .rw[AN f,AN f];refine AA (AD ?_);rw[StateT.run_pure];refine AA (AD ?_);dsimp only;refine AA (seqEpoch_at d rfl ?_);refine AA (listUpdate_at d rfl ?_ (by simp) (by rw[HG];show(pairsOf vs).size<=_;rw[pairsOf_size];lia));simp only[bne_self_eq_false,BD,CO];refine AD (h _ (Wy (Z:=Z) (xs:=pairsOf vs) (List.Perm.refl _) ?_));rw[pairsOf_toList];rw[i]at f
  match vs,f with
  | [],_=>exact List.Pairwise.nil
  | [v],_=>exact List.pairwise_singleton _ _
  | _::_::_,f=>simp at f;lia
 .rw[AI f,AI f];refine AA (K.kind (by lia) A E _ _ q ?_);refine AA (B_ (Er (K.cmp A _ q) (a₀:=pairsOf vs) (st:=SortSt.mk' kd (vs.toArray.zip vs.toArray) #[] 7 none)
   (Q:=λ_ c=>St Z kd (pairsOf vs) c/\KY Z (arrOf c).toList)
   (λp g=>?_) ⟨List.Perm.refl _,rfl,rfl⟩ rfl λc t u=>⟨t,u⟩) ?_ λ_ _ e=>e)
  .rw[pairsOf_toList]at g;exact K.key _ (mem_zip_self g).2
  rintro⟨⟨⟩,c⟩ y ⟨rfl,g,x⟩;dsimp only;refine AA (seqEpoch_at d rfl ?_);refine AA (listUpdate_at d rfl ?_ (by simp) (by rw[HG];show(arrOf c).size<=_;rw[g.size,pairsOf_size];lia));rw[show failedOf c=none from g.failed];simp only[bne_self_eq_false,BD,CO];exact AD (h _ (Wy g.perm x))
theorem KP{x:A2}{Q:A2->A4->Prop}
  (g:wpAny (model prog w) A.in1 (collect x) (λvs s1=>s1.os=s.os/\vs.length<=sizeLine/\(∃(Z:KeyKind) (kd:JP),(∀d:A4,TR s1.heap.objs.size s1 d->RS prog w s1.heap.objs.size d Z kd vs) /\
   ∀(out:HU A2) (h':H_) (e:Nat),Out Z vs out->(∀b o,s1.heap.get? b=some o->h'.get? b=some o)->h'.get? s1.heap.objs.size=some (seqObj "list" out e)->Q (.ref s1.heap.objs.size) { s1 with heap:=h' })) E s) :
  wpAny (model prog w) A (call (.builtin "sorted") [x]) Q E s:=by
 refine Calls.call_function_entry kind_sorted plain_sorted entry_sorted (args_sorted1 _) ?_;unfold Builtin.«sorted»;refine AA (m:=checkCount "sorted" 1 1 _) (AD ?_);refine AA (B_ g (λvs s1 ⟨i,j,Z,kd,K,q⟩=>?_) λ_ _ z=>z);refine AA (wpAny_newList ?_);have a:(s1.heap.push (seqObj "list" vs.toArray 0)).get? s1.heap.objs.size=some (seqObj "list" vs.toArray 0):=AW _ rfl;show wpAny _ _ _ _ _ { s1 with heap:=s1.heap.push (seqObj "list" vs.toArray 0) };have k:TR s1.heap.objs.size s1 { s1 with heap:=s1.heap.push (seqObj "list" vs.toArray 0) }:=λb o _ e=>AC _ e;refine AA (BP (CF slot_list_sort ⟨_,a,rfl⟩ entry_list_sort (Fs (s:={ s1 with heap:=s1.heap.push (seqObj "list" vs.toArray 0) }) a j (K _ k) λout l=>⟨_,rfl,?_⟩) (args_list_sort _)));obtain⟨e,n⟩:=sortedHeap_at (h:=s1.heap.push (seqObj "list" vs.toArray 0)) (out:=out) a;refine AD ⟨_,rfl,q out _ e l (λb o f=>?_) n⟩;have c:=AG f;rw[sortedHeap_old (BA c) (by rw[size_push'];exact EU c)];exact AC _ f
theorem MG{a:A3}{vs:A0 A2}{ss:A0 Str}(b:StrsAre vs ss):RS prog w a s strKind oneType' vs:=by
 refine⟨λA c _=>⟨λx y k l Q E d e q=>?_⟩,λv f=>?_,λg A E c Q _ q=>?_⟩
 .rw[keyLt'_oneType];exact strKind_oneLt prog w A E c x y k l d e q
 .obtain⟨x,t,rfl⟩:=b.all v f;exact⟨_,rfl⟩
 .match vs,g,b with
  | v1::h::r,_,b =>
   rw[keyKind_strs b];exact AD q
def JH(a b:A0 Nat×A0 Nat):Bool:=decide (a.1<b.1)||(decide (a.1=b.1)&&decide (a.2<b.2))
theorem I1{a b:A0 Nat×A0 Nat}:JH a b=true↔a.1<b.1\/(a.1=b.1/\a.2<b.2):=by
 unfold JH;simp
theorem TJ(a b:A0 Nat):a<b\/a=b\/b<a:=by
 by_cases h:a<b
 .exact .inl h
 .by_cases c:b<a
  .exact .inr (.inr c)
  .exact .inr (.inl (HM (List.not_lt.mp c) (List.not_lt.mp h)))
def Qq:A0 A2->A5 (A0 Nat×A0 Nat)
 | [.str x _,.str y _]=>some (x.cps.toList,y.cps.toList)
 | _=>none
def Ro(c:A2):Data->A5 (A0 Nat×A0 Nat)
 | .seq a _=>if c = .type "tuple" then Qq a.toList else none
 | _=>none
def NM(h:H_):A2->A5 (A0 Nat×A0 Nat)
 | .ref p=>(h.get? p).bind λo=>Ro o.cls o.data
 | _=>none
@[reducible] def pairKind(h:H_):KeyKind where
 α:=A0 Nat×A0 Nat
 blt:=JH
 irrefl a:=by
  rw[ET];intro z;rcases I1.mp z with z | ⟨_,z⟩
  .exact List.lt_irrefl _ z
  .exact List.lt_irrefl _ z
 trans a b c e d:=by
  rw[I1]at *;rcases e with e | ⟨e,f⟩
  .rcases d with d | ⟨d,_⟩
   .exact .inl (List.lt_trans e d)
   .exact .inl (d▸e)
  .rcases d with d | ⟨d,g⟩
   .exact .inl (e▸d)
   .exact .inr ⟨e.trans d,List.lt_trans f g⟩
 negTrans a b c h:=by
  rw[I1]at h;simp only[I1];rcases h with h | ⟨h,i⟩
  .rcases TJ a.1 b.1 with q | q | q
   .exact .inl (.inl q)
   .exact .inr (.inl (q▸h))
   .exact .inr (.inl (List.lt_trans q h))
  .rcases TJ a.1 b.1 with q | q | q
   .exact .inl (.inl q)
   .rcases TJ a.2 b.2 with r | r | r
    .exact .inl (.inr ⟨q,r⟩)
    .exact .inr (.inr ⟨q▸h,r▸i⟩)
    .exact .inr (.inr ⟨q▸h,List.lt_trans r i⟩)
   .exact .inr (.inl (h▸q))
 total a b e d:=by
  rw[ET]at e d;rcases TJ a.1 b.1 with q | q | q
  .exact absurd (I1.mpr (.inl q)) e
  .rcases TJ a.2 b.2 with r | r | r
   .exact absurd (I1.mpr (.inr ⟨q,r⟩)) e
   .exact Prod.ext q r
   .exact absurd (I1.mpr (.inr ⟨q.symm,r⟩)) d
  .exact absurd (I1.mpr (.inl q)) d
 keyOf:=NM h
 dflt:=([],[])
def MC(h:H_)(v:A2)(x y:Str):Prop:=∃p o n t u,v = .ref p/\h.get? p=some o/\o.cls = .type "tuple"/\o.data = .seq #[.str x t,.str y u] n
theorem MC.key{h:H_}{v:A2}{x y:Str}(z:MC h v x y):NM h v=some (x.cps.toList,y.cps.toList):=by
 obtain⟨p,o,n,t,u,rfl,e,c,d⟩:=z;show(h.get? p).bind (λo=>Ro o.cls o.data)=_;rw[e];show Ro o.cls o.data=_;rw[d,c];unfold Ro;exact(AN rfl).trans rfl
theorem zEg{l:A0 A2}{k:A0 Nat×A0 Nat}(e:Qq l=some k):∃x t y u,l = [.str x t,.str y u]:=by
 match l,e with
 | [.str x t,.str y u],_=>exact⟨x,t,y,u,rfl⟩
theorem Tt{h:H_}{v:A2}{k:A0 Nat×A0 Nat}(e:NM h v=some k):∃x y,MC h v x y:=by
 match v,e with
 | .ref p,e =>
  have g:(h.get? p).bind (λo=>Ro o.cls o.data)=some k:=e;obtain⟨o,i,b⟩:=Option.bind_eq_some_iff.mp g;cases d:o.data with
  | seq f n =>
   rw[d]at b;have a:(if o.cls = .type "tuple" then Qq f.toList else none)=some k:=b;by_cases c:o.cls = .type "tuple"
   .rw[AN c]at a;obtain⟨x,t,y,u,j⟩:=zEg a;refine⟨x,y,p,o,n,t,u,rfl,i,c,?_⟩;rw[d];have:f = #[.str x t,.str y u]:=by rw[<-Array.toList_inj,j]
    rw[this]
   .rw[AI c]at a;cases a
  | _=>rw[d]at b;cases b
theorem Kn{h:H_}{v:A2}{k:A0 Nat×A0 Nat}{x y:Str}(z:MC h v x y)(e:NM h v=some k):k =(x.cps.toList,y.cps.toList):=by
 rw[z.key]at e;exact(BU e).symm
theorem QC{a:A3}{vs:A0 A2}{F:H_}(B:∀v∈vs,∃x y,MC F v x y)(C:∀b o,F.get? b=some o->b≠a/\s.heap.get? b=some o) :
  RS prog w a s (pairKind F) (tuples' true) vs:=by
 refine⟨λA G J=>⟨λx y k l Q E O P q=>?_⟩,λv K=>?_,λh2 A E G Q J q=>?_⟩
 .obtain⟨g,m,R⟩:=Tt O;obtain⟨f,i,S⟩:=Tt P;have Y:=Kn R O;have Z:=Kn S P;subst Y Z;obtain⟨px,ox,nx,t1,u1,rfl,U,_,d1⟩:=R;obtain⟨py,oy,ny,t2,u2,rfl,V,_,d2⟩:=S;have f1:=J _ _ (C _ _ U).1 (C _ _ U).2;have f2:=J _ _ (C _ _ V).1 (C _ _ V).2;refine PySem.W.kat_lt f1 d1 f2 d2 ?_;show PySem.W.KatLex prog w A true _ Q [(.str g t1,.str f t2),(.str m u1,.str i u2)] 0 G;refine PySem.W.kat_cons (wpAny_eqBool_str (PySem.W.kat_go (λj=>?_) λj=>?_))
  .have j:g=f:=by simpa using j
   refine PySem.W.kat_yes (PySem.W.kat_cons (wpAny_eqBool_str (PySem.W.kat_go (λh=>?_) λh=>?_)))
   .have h:m=i:=by simpa using h
    refine PySem.W.kat_yes (PySem.W.kat_nil ?_);have:JH (g.cps.toList,m.cps.toList) (f.cps.toList,i.cps.toList)=decide (2<2):=by
     rw[j,h];exact(pairKind F).irrefl (f.cps.toList,i.cps.toList)
    show Q (decide (2<2)) G;rw[<-this];exact q
   .refine PySem.W.kat_no (PySem.W.kat_one _ _ (lt_str ?_));have:JH (g.cps.toList,m.cps.toList) (f.cps.toList,i.cps.toList)=decide (m.cps.toList<i.cps.toList):=by
     rw[j];unfold JH;simp[List.lt_irrefl]
    show Q (decide (m.cps.toList<i.cps.toList)) G;rw[<-this];exact q
  .have j:¬g=f:=by simpa using j
   refine PySem.W.kat_no (oneLt_str ?_);have L:¬g.cps.toList=f.cps.toList:=λz=>j (by cases g;cases f;simp at z;simp[z]);have:JH (g.cps.toList,m.cps.toList) (f.cps.toList,i.cps.toList)=decide (g.cps.toList<f.cps.toList):=by
    unfold JH;simp[L]
   rw[<-this];exact q
 .obtain⟨x,y,z⟩:=B v K;exact⟨_,z.key⟩
 .have hT:∀(H:A0 A2),(∀v∈H,∃x y,MC F v x y)->∃D,PySem.W.KatTups G.heap H D/\D.length=H.length/\∀v∈D,∃x t,v = .str x t:=by
   intro H
   induction H with
   | nil=>exact λ_=>⟨[],.nil,rfl,λv B=>by simp at B⟩
   | cons v r ih =>
    intro I;obtain⟨D,M,X,N⟩:=ih λu hu=>I u (AL _ hu);obtain⟨x,y,p,o,n,t,u,rfl,e,c,d⟩:=I v (AX ..);refine⟨.str x t::D,.cons (J _ _ (C _ _ e).1 (C _ _ e).2) c d rfl M,by simp[X],λz hz=>?_⟩;rcases AR.mp hz with rfl | hz
    .exact⟨x,t,rfl⟩
    .exact N z hz
  obtain⟨D,M,X,N⟩:=hT vs B;refine PySem.W.kat_kind (T:=.type "str") M (by lia) (λv B=>?_) (by rfl) q;obtain⟨x,t,rfl⟩:=N v B;exact .now
end
end TS
set_option Elab.async false
namespace L2
open PySem PySem.Spec PyProof.Rows
abbrev IQ:=Sum Int Str
def Dc:IQ->A2->Bool
 | .inl k,v=>Value.isInt k v
 | .inr x,v=>Value.isStrOf x v
def zHu(w:HX):IQ->Int
 | .inl k=>hashInt k
 | .inr x=>hashStr w x
def G7:∀{k:IQ} {v:A2},Dc k v=true->(∃i t,k=Sum.inl i/\v=Value.int i t)\/(∃x t,k=Sum.inr x/\v=Value.str x t)
 | .inl i,v,h=>by
  obtain⟨t,e⟩:=Value.isInt_shape (k:=i) (v:=v) h;exact .inl ⟨i,t,rfl,e⟩
 | .inr x,v,h=>by
  obtain⟨t,e⟩:=Value.isStrOf_shape (x:=x) (v:=v) h;exact .inr ⟨x,t,rfl,e⟩
def Th(i:Int)(t:Tok):Dc (.inl i) (.int i t)=true:=by simp[Dc,Value.isInt]
def X1(x:Str)(t:Tok):Dc (.inr x) (.str x t)=true:=by simp[Dc,Value.isStrOf]
def zEl(a b:Int):decide ((Sum.inl a:IQ)=Sum.inl b) =(a == b):=by
 by_cases e:a=b
 .subst e;simp
 .have h:¬(Sum.inl a:IQ)=Sum.inl b:=λq=>e (Sum.inl.inj q);rw[AM h];exact(beq_eq_false_iff_ne.mpr e).symm
def zCz(a b:Str):decide ((Sum.inr a:IQ)=Sum.inr b)=decide (a=b):=by
 by_cases e:a=b
 .subst e;simp
 .have h:¬(Sum.inr a:IQ)=Sum.inr b:=λq=>e (Sum.inr.inj q);rw[AM h,AM e]
def zDj(a:Int)(b:Str):decide ((Sum.inl a:IQ)=Sum.inr b)=false:=AM (λq=>nomatch q)
def zCs(a:Str)(b:Int):decide ((Sum.inr a:IQ)=Sum.inl b)=false:=AM (λq=>nomatch q)
def C5(prog:HV)(w:HX):PySem.KeyKind prog w IQ where
 is:=Dc
 hash:=zHu w
 inj:=λv a b g f=>by
  rcases G7 g with⟨i,t,rfl,rfl⟩ | ⟨x,t,rfl,rfl⟩
  .rcases G7 f with⟨j,u,rfl,e⟩ | ⟨y,u,rfl,e⟩
   .injection e with c _;rw[c]
   .exact nomatch e
  .rcases G7 f with⟨j,u,rfl,e⟩ | ⟨y,u,rfl,e⟩
   .exact nomatch e
   .injection e with c _;rw[c]
 byValue:=λk v h=>by
  rcases G7 h with⟨i,t,rfl,rfl⟩ | ⟨x,t,rfl,rfl⟩<;>rfl
 pyHash:=λd h=>by
  rcases G7 d with⟨i,t,rfl,rfl⟩ | ⟨x,t,rfl,rfl⟩
  .exact wpAny_pyHash_int h
  .exact wpAny_pyHash_str h
 eqBool:=λl d h=>by
  rcases G7 l with⟨i,t,rfl,rfl⟩ | ⟨x,t,rfl,rfl⟩
  .rcases G7 d with⟨j,u,rfl,rfl⟩ | ⟨y,u,rfl,rfl⟩
   .rw[zEl]at h;exact wpAny_eqBool_int h
   .rw[zDj]at h;exact SeqAt.EqAt.int_str i t y u _ _ _ _ h
  .rcases G7 d with⟨j,u,rfl,rfl⟩ | ⟨y,u,rfl,rfl⟩
   .rw[zCs]at h;exact SeqAt.EqAt.str_int x t j u _ _ _ _ h
   .rw[zCz]at h;exact wpAny_eqBool_str h
 «strs»:=λk x t v h=>by
  rcases G7 h with⟨i,u,rfl,e⟩ | ⟨y,u,rfl,e⟩
  .exact nomatch e
  .injection e with c _;subst c;cases v<;>rfl
def Jg(prog:HV)(w:HX)(i:Int)(t:Tok):(C5 prog w).is (.inl i) (.int i t)=true:=Th i t
def Kh(prog:HV)(w:HX)(x:Str)(t:Tok):(C5 prog w).is (.inr x) (.str x t)=true:=X1 x t
inductive V where
 | non | bl (b:Bool) | int (i:Int) | str (x:Str) | byt (b:HU UInt8) | flt (b:UInt64) | ref (a:A3) | ty (n:String)
 deriving DecidableEq
def RelV:V->A2->Prop
 | .non,u=>u=Value.none
 | .bl b,u=>u=Value.bool b
 | .int i,u=>∃t,u=Value.int i t
 | .str x,u=>∃t,u=Value.str x t
 | .byt b,u=>∃t,u=Value.bytes b t
 | .flt b,u=>∃t,u=Value.float b t
 | .ref a,u=>u=Value.ref a
 | .ty n,u=>u=Value.type n
abbrev IH:A0 V->A0 A2->Prop:=Paired RelV
def IH.length{xs:A0 V}{us:A0 A2}(r:IH xs us):xs.length=us.length:=Paired.length r
def IH.get:∀{xs:A0 V} {us:A0 A2} {i:Nat} {x:V},IH xs us->xs[i]?=some x->∃u,us[i]?=some u/\RelV x u
 | _,_,_,_,.nil,e=>by simp at e
 | _,_,0,_,.cons r _,e=>by simp at e;subst e;exact⟨_,rfl,r⟩
 | _,_,i+1,x,.cons _ t,e=>by
  obtain⟨u,a,b⟩:=IH.get (i:=i) (x:=x) t (by simpa using e);exact⟨u,by simpa using a,b⟩
def IH.set{x:V}{u:A2}(r:RelV x u):∀{xs:A0 V} {us:A0 A2} (i:Nat),IH xs us->IH (xs.set i x) (us.set i u)
 | _,_,_,.nil=>.nil
 | _,_,0,.cons _ t=>.cons r t
 | _,_,i+1,.cons q t=>.cons q (IH.set r i t)
def IH.append:∀{xs a:A0 V} {us b:A0 A2},IH xs us->IH a b->IH (xs++a) (us++b)
 | _,_,_,_,.nil,s=>s
 | _,_,_,_,.cons r t,s=>.cons r (IH.append t s)
def IH.take:∀{xs:A0 V} {us:A0 A2} (n:Nat),IH xs us->IH (xs.take n) (us.take n)
 | _,_,0,_=>.nil
 | _,_,_+1,.nil=>.nil
 | _,_,n+1,.cons r t=>.cons r (IH.take n t)
def IH.drop:∀{xs:A0 V} {us:A0 A2} (n:Nat),IH xs us->IH (xs.drop n) (us.drop n)
 | _,_,0,r=>r
 | _,_,_+1,.nil=>.nil
 | _,_,n+1,.cons _ t=>IH.drop n t
def IH.none_of:∀{xs:A0 V} {us:A0 A2} {i:Nat},IH xs us->xs[i]?=none->us[i]?=none:=fun{xs us i} r e=>by
 have a:=r.length;have b:xs.length<=i:=GV.mp e;exact GV.mpr (by lia)
def LV:A5 V->A5 A2->Prop
 | some v,some u=>RelV v u
 | none,none=>True
 | _,_=>False
def KV{Z:Type}:A0 (Z×V)->A0 (Z×A2)->Prop:=Paired λ(p:Z×V) (q:Z×A2)=>p.1=q.1/\RelV p.2 q.2
def kV:IQ->V
 | .inl i=>.int i
 | .inr x=>.str x
inductive HO where
 | lst (xs:A0 V)
 | tup (xs:A0 V)
 | dK (kvs:A0 (IQ×V)) | dT (kvs:A0 (A0 IQ×V))
 | set (S:Int->Bool) (n:Nat)
 | ins (C dx:A3) (fs:A0 (Str×V))
 | own (x:A3)
 | xd (fs:A0 (Str×V))
 | met (f x:A3)
 | rng (lo hi:Int)
 | frz (o:Obj) (u:HO)
 | tbl (ps:HU A2)
 | ext (φ:H_->Prop)
set_option genInjectivity false
abbrev Hp:=A3->A5 HO
def HY(H:Hp)(a:A3)(o:HO):Hp:=λb=>if b=a then some o else H b
def A7{H:Hp}{a:A3}{o:HO}:HY H a o a=some o:=by unfold HY;rw[AN rfl]
def B7{H:Hp}{a b:A3}{o:HO}(h:b≠a):HY H a o b=H b:=by unfold HY;rw[AI h]
def J8{H:Hp}{a b:A3}{o u:HO}(h:H a=some o)(h':H b=some u)(d:o≠u):a≠b:=by
 intro e;subst e;rw[h]at h';exact d (BU h')
def B0{H:Hp}{a b:A3}{o:HO}(h:H a=some o)(h':H b=none):a≠b:=by
 intro e;subst e;rw[h]at h';cases h'
section
variable(P:HV)(w:HX)
def IS(H:Hp)(h:H_)(a:A3):HO->Prop
 | .lst d=>d.length<=sizeLine/\∃(b:A0 A2) (n:Nat),IH d b/\h.get? a=some { cls:=.type "list",data:=.seq b.toArray n }
 | .tup d=>d.length<=sizeLine/\∃b:A0 A2,IH d b/\IsTup h a b.toArray
 | .dK c=>c.length<=sizeLine/\(a == sysModules)=false/\∃j,KV c j/\h.DictOf (C5 P w) a j
 | .dT c=>c.length<=sizeLine/\(a == sysModules)=false/\∃d:A0 (A0 IQ×A3×A2),
   Paired (λ(p:A0 IQ×V) (q:A0 IQ×A3×A2)=>p.1=q.1/\H q.2.1=some (.tup (p.1.map kV))/\RelV p.2 q.2.2) c d /\
   ∃o k r,h.get? a=some o/\o.ExactDict/\o.data = .dict k r/\k.toList=d.map (entryOfKey (tupleKind (C5 P w)))/\(d.map (·.1)).Nodup
 | .set S n=>h.SetOf (intKind P w) a S n
 | .ins C i g=>H i=some (.own a)/\g.length<=1000/\i≠a/\h.get? a=some (PySem.W.instObj C i) /\
   ∃e,h.Ns1 i e/\(∀f,LV (g.lookup f) (e f))/\PySem.Within e (g.map (·.1))
 | .own _=>∃o,h.get? a=some o
 | .xd g=>∃e,h.Ns1 a e/\∀f,LV (g.lookup f) (e f)
 | .rng lo s=>∃t u v,h.get? a=some { cls:=.type "range",data:=.fields #[.int lo t,.int s u,.int 1 v] }
 | .frz o u=>h.get? a=some o/\IS H h a u
 | .tbl ps=>h.get? a=some { cls:=.none,data:=.fields ps }
 | .met f x=>h.get? a=some (PySem.W.methodObj (.ref f) (.ref x))
 | .ext φ=>φ h/\(∃o,h.get? a=some o)/\∀l m:H_,φ l->(∀o,l.get? a=some o->m.get? a=some o)->φ m
def MU(H:Hp)(h:H_):Prop:=∀a o,H a=some o->IS P w H h a o
end
section
variable{P:HV}{w:HX}{H H':Hp}{h h':H_}{a:A3}{o:HO}
theorem IS.lt(x:IS P w H h a o):a<h.objs.size:=by
 cases o with
 | lst c=>obtain⟨_,_,_,_,e⟩:=x;exact AG e
 | tup c=>obtain⟨_,_,_,p⟩:=x;exact p.lt
 | dK b=>obtain⟨_,_,_,_,o,_,_,e,_⟩:=x;exact AG e
 | dT b=>obtain⟨_,_,_,_,o,_,_,e,_⟩:=x;exact AG e
 | set S n=>obtain⟨o,_,_,_,e,_⟩:=x;exact AG e
 | ins C g d=>obtain⟨_,_,_,e,_⟩:=x;exact AG e
 | own y=>obtain⟨_,e⟩:=x;exact AG e
 | xd d=>obtain⟨_,⟨_,_,_,e,_⟩,_⟩:=x;exact AG e
 | rng lo i=>obtain⟨_,_,_,e⟩:=x;exact AG e
 | frz j u=>obtain⟨e,_⟩:=x;exact AG e
 | tbl ps=>exact AG (show h.get? a=some _ from x)
 | met f y=>exact AG (show h.get? a=some _ from x)
 | ext φ=>obtain⟨_,⟨_,e⟩,_⟩:=x;exact AG e
theorem Paired.mapP{α β:Type}{F G:α->β->Prop}:∀{l₁:A0 α} {l₂:A0 β},Paired F l₁ l₂->(∀a b,F a b->G a b)->Paired G l₁ l₂
 | _,_,.nil,_=>.nil
 | _,_,.cons r t,f=>.cons (f _ _ r) (Paired.mapP t f)
theorem IS.stay(x:IS P w H h a o)(k:∀b u,(b=a\/H b=some (.own a))->h.get? b=some u->h'.get? b=some u)
  (B:∀b,H b=some (.own a)->H' b=some (.own a)) (D:∀b xs,H b=some (.tup xs)->H' b=some (.tup xs)):IS P w H' h' a o:=by
 induction o with
 | lst xs=>obtain⟨z,l,n,r,e⟩:=x;exact⟨z,l,n,r,k _ _ (.inl rfl) e⟩
 | tup xs=>obtain⟨z,l,r,g,e,c⟩:=x;exact⟨z,l,r,g,k _ _ (.inl rfl) e,c⟩
 | dK m=>obtain⟨z,y,E,r,g,i,j,e,c⟩:=x;exact⟨z,y,E,r,g,i,j,k _ _ (.inl rfl) e,c⟩
 | dT m =>
  obtain⟨z,y,xs,r,g,i,j,e,c⟩:=x;exact⟨z,y,xs,Paired.mapP r λp q z=>⟨z.1,D _ _ z.2.1,z.2.2⟩,g,i,j,k _ _ (.inl rfl) e,c⟩
 | set S n=>obtain⟨g,i,j,t,e,c⟩:=x;exact⟨g,i,j,t,k _ _ (.inl rfl) e,c⟩
 | ins C K F =>
  obtain⟨d,z,G,e,s,⟨A,i,j,I,c⟩,r⟩:=x;exact⟨B _ d,z,G,k _ _ (.inl rfl) e,s,⟨A,i,j,k _ _ (.inr d) I,c⟩,r⟩
 | own y=>obtain⟨g,e⟩:=x;exact⟨g,k _ _ (.inl rfl) e⟩
 | xd F=>obtain⟨s,⟨A,i,j,e,c⟩,r⟩:=x;exact⟨s,⟨A,i,j,k _ _ (.inl rfl) e,c⟩,r⟩
 | rng lo L=>obtain⟨t,u,v,e⟩:=x;exact⟨t,u,v,k _ _ (.inl rfl) e⟩
 | frz g u J=>obtain⟨e,q⟩:=x;exact⟨k _ _ (.inl rfl) e,J q⟩
 | tbl ps =>
  have e:h.get? a=some { cls:=.none,data:=.fields ps }:=x;show h'.get? a=some { cls:=.none,data:=.fields ps };exact k a _ (.inl rfl) e
 | met f y =>
  have e:h.get? a=some (PySem.W.methodObj (.ref f) (.ref y)):=x;show h'.get? a=some (PySem.W.methodObj (.ref f) (.ref y));exact k a _ (.inl rfl) e
 | ext φ=>obtain⟨p,⟨o,e⟩,st⟩:=x;exact⟨st _ _ p λo q=>k _ _ (.inl rfl) q,⟨o,k _ _ (.inl rfl) e⟩,st⟩
theorem MU.lt(x:MU P w H h)(e:H a=some o):a<h.objs.size:=(x a o e).lt
theorem MU.fresh(x:MU P w H h)(e:h.objs.size<=a):H a=none:=by
 cases q:H a with
 | none=>rfl
 | some u=>exact absurd (BI (x.lt q) e) (C_ _)
theorem MU.kept(x:MU P w H h)(k:∀b u,h.get? b=some u->h'.get? b=some u):MU P w H h':=λa o e =>
 (x a o e).stay (λb u _ q=>k b u q) (λ_ q=>q) λ_ _ q=>q
theorem MU.laid(x:MU P w H h)(k:∀b u,h.get? b=some u->h'.get? b=some u)(i:h.objs.size<=a)(d:IS P w (HY H a o) h' a o):MU P w (HY H a o) h':=λb u e=>by
 have f:=x.fresh i;by_cases g:b=a
 .subst g;rw[A7]at e;cases e;exact d
 .rw[B7 g]at e;exact(x b u e).stay (λc v _ q=>k c v q) (λc q=>by rw[B7 (B0 q f)];exact q) λc j q=>by rw[B7 (B0 q f)];exact q
end
def Rd(H:Hp)(a:A3)(u:HO):Prop:=H a=some u\/∃o,H a=some (.frz o u)
def Rd.ok{P:HV}{w:HX}{H:Hp}{h:H_}{a:A3}{u:HO}(r:Rd H a u)(x:MU P w H h):IS P w H h a u:=by
 rcases r with r | ⟨o,r⟩
 .exact x a u r
 .obtain⟨_,q⟩:=x a _ r;exact q
def TQ:A5 HO->Prop
 | some (.lst _)=>True
 | some (.dK _)=>True
 | some (.dT _)=>True
 | some (.set _ _)=>True
 | some (.ins _ _ _)=>True
 | some (.ext _)=>True
 | _=>False
section
variable{P:HV}{w:HX}{H:Hp}{h h':H_}{x e:A3}{o':HO}
theorem MU.write(p:MU P w H h)(g:TQ (H x))(n:e=x\/H e=some (.own x))(k:∀b u,b≠e->h.get? b=some u->h'.get? b=some u)(l:∃u,h'.get? e=some u)
  (m:IS P w (HY H x o') h' x o'):MU P w (HY H x o') h':=λb u q=>by
 have d:∀c y,H c=some (.own y)->c≠x:=λc y r z=>by subst z;rw[r]at g;exact g
 have f:∀c i,H c=some (.tup i)->c≠x:=λc i r z=>by subst z;rw[r]at g;exact g
 by_cases j:b=x
 .subst j;rw[A7]at q;cases q;exact m
 .rw[B7 j]at q;by_cases a:b=e
  .have o:H b=some (.own x):=by
    rcases n with z | z
    .exact absurd (a.trans z) j
    .rw[a];exact z
   rw[q]at o;cases o;obtain⟨v,s⟩:=l;exact⟨v,by rw[a];exact s⟩
  .refine(p b u q).stay (λc v hc r=>k c v ?_ r) (λc r=>by rw[B7 (d c b r)];exact r) λc i r=>by rw[B7 (f c i r)];exact r
   rcases hc with rfl | hc
   .exact a
   .rintro rfl;rcases n with z | z
    .exact d c b hc z
    .rw[hc]at z;cases z;exact j rfl
end
structure Un(fs ex:A0 A3)(H H':Hp)(h h':H_):Prop where
 keep:∀b o,h.get? b=some o->H b=none->b∉fs->b∉ex->h'.get? b=some o
 slot:∀b o,h.get? b=some o->H b=none->b∈fs->b∉ex->∃sl,h'.get? b=some { o with slots:=sl }
 free:∀b o,h.get? b=some o->H b=none->b∉ex->H' b=none
 there:∀b o,h.get? b=some o->b∉ex->∃o',h'.get? b=some o'
 tups:∀b xs,H b=some (.tup xs)->H' b=some (.tup xs)
 frzs:∀b o u,H b=some (.frz o u)->H' b=some (.frz o u)
 tbls:∀b ps,H b=some (.tbl ps)->∃more,H' b=some (.tbl (ps++more))
section
variable{fs fs' ex ex':A0 A3}{H H1 H2:Hp}{h h1 h2 h':H_}{a x e:A3}{o:HO}
theorem Un.any(u:Un fs ex H H1 h h1){b:A3}{ob:Obj}(q:h.get? b=some ob)(n:H b=none)(a:b∉ex):∃d,h1.get? b=some { ob with slots:=d }:=by
 by_cases c:b∈fs
 .exact u.slot b ob q n c a
 .exact⟨ob.slots,u.keep b ob q n c a⟩
theorem Un.kept(k:∀b u,h.get? b=some u->h'.get? b=some u):Un fs ex H H h h' :=
 ⟨λb a q _ _ _=>k b a q,λb a q _ _ _=>⟨a.slots,k b a q⟩,λ_ _ _ n _=>n,λb a q _=>⟨a,k b a q⟩,λ_ _ q=>q,λ_ _ _ q=>q,λ_ ps q=>⟨#[],by rw[q];simp⟩⟩
theorem Un.refl:Un fs ex H H h h:=Un.kept λ_ _ q=>q
theorem Un.laid(k:∀b u,h.get? b=some u->h'.get? b=some u)(d:h.objs.size<=a)(c:H a=none):Un fs ex H (HY H a o) h h' where
 keep:=λb u q _ _ _=>k b u q
 slot:=λb u q _ _ _=>⟨u.slots,k b u q⟩
 free:=λb u q n _=>by rw[B7 (BA (BI (AG q) d))];exact n
 there:=λb u q _=>⟨u,k b u q⟩
 tups:=λb e q=>by rw[B7 (B0 q c)];exact q
 frzs:=λb u e q=>by rw[B7 (B0 q c)];exact q
 tbls:=λb ps q=>⟨#[],by rw[B7 (B0 q c),q];simp⟩
theorem Un.write(c:TQ (H x))(j:e=x\/H e=some (.own x))(k:∀b u,b≠e->h.get? b=some u->h'.get? b=some u)(d:∃u,h'.get? e=some u):Un fs ex H (HY H x o) h h':=by
 have g:∀b,H b=none->b≠x:=λb n z=>by subst z;rw[n]at c;exact c
 have i:∀b,H b=none->b≠e:=λb n z=>by
  subst z;rcases j with r | r
  .exact g b n r
  .rw[n]at r;cases r
 have f:∀b u,H b=some u->¬TQ (some u)->b≠x:=λb u q l z=>by subst z;rw[q]at c;exact l c
 refine⟨λb u q n _ _=>k b u (i b n) q,λb u q n _ _=>⟨u.slots,k b u (i b n) q⟩,λb u q n _=>by rw[B7 (g b n)];exact n,λb u q _=>?_,
  λb m q=>by rw[B7 (f b _ q λz=>z)];exact q,λb u m q=>by rw[B7 (f b _ q λz=>z)];exact q,λb ps q=>⟨#[],by rw[B7 (f b _ q λz=>z),q];simp⟩⟩
 by_cases a:b=e
 .subst a;exact d
 .exact⟨u,k b u a q⟩
end
def RZ(h:H_)(H:Hp):A0 A3:=(List.range h.objs.size).filter λa=>(H a).isSome
def Wj(h:H_)(H:Hp):H_:=PySem.W.hideAll h (RZ h H)
def Tr(h:H_)(H:Hp):(Wj h H).objs.size=h.objs.size:=PySem.W.hideAll_size _ _
def Uo{h:H_}{H:Hp}{b:A3}{o:Obj}(e:h.get? b=some o)(n:H b=none):(Wj h H).get? b=some o :=
 PySem.W.hideAll_get _ e λa=>by
  have q:(H b).isSome=true:=(AY.mp a).2;rw[n]at q;simp at q
def zAk{h:H_}{H:Hp}{b:A3}{o:Obj}(e:(Wj h H).get? b=some o):h.get? b=some o/\H b=none:=by
 have a:h.get? b=some o:=PySem.W.of_hideAll (RZ h H) e;refine⟨a,?_⟩;cases q:H b with
 | none=>rfl
 | some x =>
  have c:b∈RZ h H:=AY.mpr ⟨DB.mpr (AG a),by simp[q]⟩;have z:(Wj h H).get? b=none:=PySem.W.hideAll_none (RZ h H) c;rw[z]at e;cases e
structure Mod(K:VA)(mg:Str->A5 A2)(base:H_):Prop where
 kin:K.In base
 glob:base.Ns mainGlobals mg
 blt:∃mb,base.Ns builtinsNs mb/\∀x:Str,x≠ "__name__"->mb x=bootBuiltins x
 nolimit:base.NoLimit
set_option genInjectivity false in
structure Cx where
 prog:HV
 w:HX
 K:VA
 mg:Str->A5 A2
 base:H_
 A:IA
 N:A0 Str
 s₀:A4
 H₀:Hp
 env:QS
 outer:A0 QS
 stack:A0 QS
 ex:A0 A3
 fn:Str->Bool
 calm:Bool
 pn:A0 (A3×Obj)
 xe:A2->A4->Prop
def NW(l:A0 QS):A0 A3:=l.filterMap (·.frame)
abbrev Cx.fs(X:Cx):A0 A3:=NW X.outer
def Vis(a:KM)(x:Str):Prop:=a.names.lookup x=some .local\/a.names.lookup x=some .cell\/a.names.lookup x=some .free
def Loc(a:KM)(x:Str):Prop:=a.names.lookup x=some .local\/a.names.lookup x=some .cell
def zHh(a:QS)(h:H_)(m:Str->A5 A2)(x:Str)(u:A2):Prop :=
 (a.kindOf x=some .local/\m x=some u)\/((a.kindOf x=some .cell\/a.kindOf x=some .free)/\∃c,a.cells.lookup x=some c/\h.IsCell c (some u))
structure Cx.Ok(X:Cx):Prop where
 mod:Mod X.K X.mg X.base
 kind:X.env.scope.kind = .function
 glob:X.env.globals=mainGlobals
 blt:X.env.builtins=builtinsNs
 above:X.s₀.heap.objs.size<=X.env.locals
 inj:∀x y c,X.env.cells.lookup x=some c->X.env.cells.lookup y=some c->x=y
 has:∀x,(X.env.kindOf x=some .cell\/X.env.kindOf x=some .free)->∃c,X.env.cells.lookup x=some c
 cab:∀x c,X.fn x=true->X.env.cells.lookup x=some c->X.s₀.heap.objs.size<=c
 hd:X.calm=true->X.A.handled=none
 frames:X.A.frames=some X.stack
 stk:X.stack=X.outer\/(X.stack=X.env::X.outer/\X.env.frame=some X.env.locals)
 exf:∀b∈X.ex,b≠X.env.locals/\∀x c,X.env.cells.lookup x=some c->c≠b
 bs:∀b o,X.base.get? b=some o->X.s₀.heap.get? b=some o/\X.H₀ b=none
 bsz:X.base.objs.size<=X.s₀.heap.objs.size
 noex:∀b o,X.base.get? b=some o->b∉X.ex
 exfs:∀b∈X.ex,b∉X.fs
 funs:X.s₀.heap.FunFrames X.base X.outer
 frf:∀b∈X.fs,X.H₀ b=none
structure Inv(X:Cx)(pins:A0 (A3×Obj))(σ:A0 (A5 V))(H:Hp)(s:A4):Prop where
 ok:X.Ok
 os:s.os=X.s₀.os
 bare:AllBare s.gens
 base:Un X.fs X.ex X.H₀ H X.s₀.heap s.heap
 loc:∃m,s.heap.Ns X.env.locals m/\∀(i:Nat) (x:Str) (v:V),X.N[i]?=some x->σ[i]?=some (some v)->Vis X.env.scope x->∃u,RelV v u/\zHh X.env s.heap m x u
 cell:∀x c,X.env.cells.lookup x=some c->∃v,s.heap.IsCell c v
 free:H X.env.locals=none
 freeC:∀x c,X.env.cells.lookup x=some c->H c=none
 pin:∀p∈X.pn++pins,s.heap.get? p.1=some p.2/\H p.1=none/\p.1≠X.env.locals/\p.1∉X.fs/\∀v,p.2.data≠ .cell v
 hok:MU X.prog X.w H s.heap
 len:σ.length=X.N.length
section
variable{X:Cx}{pins:A0 (A3×Obj)}{σ:A0 (A5 V)}{H H':Hp}{s:A4}{h':H_}
theorem Cx.Ok.nofr(a:X.Ok){b:A3}{o:Obj}(e:X.base.get? b=some o):b∉X.fs:=λc=>by
 have:=(a.funs.mem c).1;rw[e]at this;cases this
theorem Inv.bs(I:Inv X pins σ H s):∀b o,X.base.get? b=some o->s.heap.get? b=some o/\H b=none:=λb o e =>
 ⟨I.base.keep b o (I.ok.bs b o e).1 (I.ok.bs b o e).2 (I.ok.nofr e) (I.ok.noex b o e),I.base.free b o (I.ok.bs b o e).1 (I.ok.bs b o e).2 (I.ok.noex b o e)⟩
theorem Inv.bk(I:Inv X pins σ H s):∀b o,X.base.get? b=some o->s.heap.get? b=some o:=λb o e=>(I.bs b o e).1
theorem Inv.mod(I:Inv X pins σ H s):Mod X.K X.mg X.base:=I.ok.mod
theorem Inv.kIn(I:Inv X pins σ H s):X.K.In s.heap:=I.ok.mod.kin.keeps I.bk
theorem Inv.lt(I:Inv X pins σ H s):X.env.locals<s.heap.objs.size:=let⟨_,a,_⟩:=I.loc;a.lt
theorem Inv.sz(I:Inv X pins σ H s):X.s₀.heap.objs.size<=s.heap.objs.size:=VE I.ok.above (DR I.lt)
theorem Inv.nofs(I:Inv X pins σ H s){a:A3}(h:s.heap.objs.size<=a):a∉X.fs:=λb=>by
 obtain⟨_,o,c,_⟩:=I.ok.funs.mem b;exact absurd (BI (AG c) (VE I.sz h)) (C_ _)
theorem Inv.cne(I:Inv X pins σ H s):∀x c,X.env.cells.lookup x=some c->c≠X.env.locals:=λx c e z=>by
 obtain⟨v,o,d,f⟩:=I.cell x c e;obtain⟨m,⟨g,h,i,a,b,_⟩,_⟩:=I.loc;rw[z,a]at d;cases d;rw[b]at f;cases f
theorem Inv.funs(I:Inv X pins σ H s):s.heap.FunFrames X.base X.outer:=by
 have a:∀(l:A0 QS),(∀b∈NW l,b∈X.fs)->X.s₀.heap.FunFrames X.base l->s.heap.FunFrames X.base l:=by
  intro l
  induction l with
  | nil=>intro _ _;trivial
  | cons h r i =>
   intro g j;obtain⟨k,⟨L,o,c,m,n,p⟩,q⟩:=j;have d:L∈X.fs:=g L (by unfold NW;rw[EW,c];exact AX);obtain⟨t,e⟩:=I.base.slot L o n (I.ok.frf L d) d λz=>I.ok.exfs L z d;exact⟨k,⟨L,_,c,m,e,p⟩,i (λb f=>g b (by unfold NW;rw[EW,c];exact AL _ f)) q⟩
 exact a X.outer (λ_ f=>f) I.ok.funs
theorem Inv.stack(I:Inv X pins σ H s):s.heap.FunFrames X.base X.stack:=by
 rcases I.ok.stk with e | ⟨e,a⟩
 .rw[e];exact I.funs
 .rw[e];obtain⟨m,b,_⟩:=I.loc;refine .cons (by rw[I.ok.kind];decide) a b ?_ I.funs;exact Heap.get?_none_of_le (VE I.ok.bsz I.ok.above)
theorem Inv.stkSub(I:Inv X pins σ H s):∀b∈NW X.stack,b∈X.env.locals::X.fs:=λb a=>by
 rcases I.ok.stk with e | ⟨e,c⟩
 .rw[e]at a;exact AL _ a
 .rw[e]at a;unfold NW at a;rw[EW,c]at a;exact a
theorem Inv.stkFree(I:Inv X pins σ H s):∀b∈NW X.stack,H b=none:=λb hb=>by
 rcases AR.mp (I.stkSub b hb)with e | hb
 .rw[e];exact I.free
 .obtain⟨_,o,a,_⟩:=I.ok.funs.mem hb;exact I.base.free b o a (I.ok.frf b hb) λz=>I.ok.exfs b z hb
theorem Inv.step{g':HU GenState}{t':Nat}{d':Drawn}{ch:A0 A3}(I:Inv X pins σ H s)
  (g:∀b∈ch,(b∈X.ex\/X.s₀.heap.objs.size<=b)/\b≠X.env.locals/\(∀x c,X.env.cells.lookup x=some c->c≠b)/\∀p∈X.pn++pins,p.1≠b)
  (h:∀b o,b≠X.env.locals->b∉X.fs->b∉ch->s.heap.get? b=some o->H b=none->h'.get? b=some o)
  (B:∀b o,b≠X.env.locals->b∈X.fs->b∉ch->s.heap.get? b=some o->H b=none->∃N,h'.get? b=some { o with slots:=N }) (f:∀b o,b∉ch->s.heap.get? b=some o->H b=none->H' b=none)
  (C:∀b o,b∉ch->s.heap.get? b=some o->∃F,h'.get? b=some F)
  (G:∀b xs,H b=some (.tup xs)->H' b=some (.tup xs)) (J:∀b o u,H b=some (.frz o u)->H' b=some (.frz o u)) (K:∀b ps,H b=some (.tbl ps)->∃more,H' b=some (.tbl (ps++more)))
  (ns:∀m,s.heap.Ns X.env.locals m->h'.Ns X.env.locals m) (O:MU X.prog X.w H' h') (V:AllBare g') :
  Inv X pins σ H' { s with heap:=h',gens:=g',drawn:=d',toks:=t' }:=by
 have L:∀b o,X.s₀.heap.get? b=some o->b≠X.env.locals:=λb o e=>BA (BI (AG e) I.ok.above);have y:∀b o,X.s₀.heap.get? b=some o->b∉X.ex->b∉ch:=λb o e a D=>by
  rcases(g b D).1 with z | z
  .exact a z
  .exact absurd (BI (AG e) z) (C_ _)
 have j:∀x c,X.env.cells.lookup x=some c->∀v,s.heap.IsCell c v->h'.IsCell c v:=λx c e v ⟨o,E,P⟩=>by
  have t:c∉ch:=λz=>(g c z).2.2.1 x c e rfl;by_cases R:c∈X.fs
  .obtain⟨N,q⟩:=B c o (I.cne x c e) R t E (I.freeC x c e);exact⟨_,q,P⟩
  .exact⟨o,h c o (I.cne x c e) R t E (I.freeC x c e),P⟩
 refine⟨I.ok,I.os,V,⟨λb o e n D a=>?_,λb o e n D a=>?_,λb o e n a=>?_,λb o e a=>?_,λb xs e=>G b xs (I.base.tups b xs e),λb o xs e=>J b o xs (I.base.frzs b o xs e),λb ps e=>?_⟩,?_,λx c e=>?_,?_,λx c e=>?_,λp S=>?_,O,I.len⟩
 .exact h b o (L b o e) D (y b o e a) (I.base.keep b o e n D a) (I.base.free b o e n a)
 .obtain⟨N,A⟩:=I.base.slot b o e n D a;obtain⟨Q,M⟩:=B b _ (L b o e) D (y b o e a) A (I.base.free b o e n a);exact⟨Q,M⟩
 .obtain⟨F,A⟩:=I.base.there b o e a;exact f b F (y b o e a) A (I.base.free b o e n a)
 .obtain⟨F,A⟩:=I.base.there b o e a;exact C b F (y b o e a) A
 .obtain⟨W,A⟩:=I.base.tbls b ps e;obtain⟨Y,M⟩:=K b _ A;exact⟨W++Y,by rw[M,Array.append_assoc]⟩
 .obtain⟨m,Z,hl⟩:=I.loc;refine⟨m,ns m Z,λi x v A M e3=>?_⟩;obtain⟨u,r,l⟩:=hl i x v A M e3;refine⟨u,r,?_⟩;rcases l with l | ⟨k,c,e,z⟩
  .exact .inl l
  .exact .inr ⟨k,c,e,j x c e _ z⟩
 .obtain⟨v,z⟩:=I.cell x c e;exact⟨v,j x c e v z⟩
 .obtain⟨m,⟨o,_,_,E,_⟩,_⟩:=I.loc;exact f _ o (λz=>(g _ z).2.1 rfl) E I.free
 .obtain⟨v,o,E,P⟩:=I.cell x c e;exact f c o (λz=>(g c z).2.2.1 x c e rfl) E (I.freeC x c e)
 .obtain⟨e,n,T,U,d⟩:=I.pin p S;have t:p.1∉ch:=λz=>(g p.1 z).2.2.2 p S rfl;exact⟨h p.1 p.2 T U t e n,f p.1 p.2 t e n,T,U,d⟩
theorem Inv.un{t':Nat}(I:Inv X pins σ H s)(u:Un X.fs [] H H' s.heap h')(c:MU X.prog X.w H' h'):Inv X pins σ H' { s with heap:=h',toks:=t' }:=by
 obtain⟨m,⟨o,l,p,h,r⟩,_⟩:=id I.loc;obtain⟨q,i⟩:=u.any h I.free (by simp);exact I.step (g':=s.gens) (d':=s.drawn) (ch:=[]) (λ_ z=>nomatch z) (λb o _ d _ e n=>u.keep b o e n d (by simp)) (λb o _ d _ e n=>u.slot b o e n d (by simp)) (λb o _ e n=>u.free b o e n (by simp)) (λb o _ e=>u.there b o e (by simp)) u.tups u.frzs u.tbls (λt j=>by
  obtain⟨v,f,g,a,k⟩:=j;rw[h]at a;cases a;exact⟨_,f,g,i,k⟩) c I.bare
theorem Inv.call{g':HU GenState}{t':Nat}{d':Drawn}{ch:A0 A3}(I:Inv X pins σ H s)(u:Un (NW X.stack) ch H H' s.heap h')(g:MU X.prog X.w H' h')(l:AllBare g')
  (d:∀b∈ch,(b∈X.ex\/X.s₀.heap.objs.size<=b)/\b≠X.env.locals/\(∀x c,X.env.cells.lookup x=some c->c≠b)/\∀p∈X.pn++pins,p.1≠b) :
  Inv X pins σ H' { s with heap:=h',gens:=g',drawn:=d',toks:=t' }:=by
 obtain⟨m,⟨o,y,A,k,r⟩,_⟩:=id I.loc;obtain⟨B,h⟩:=u.any k I.free λz=>(d _ z).2.1 rfl;exact I.step (ch:=ch) d (λb o h q a e n=>u.keep b o e n (λz=>(AR.mp (I.stkSub b z)).elim h q) a) (λb o _ _ a e n=>u.any e n a) (λb o a e n=>u.free b o e n a) (λb o a e=>u.there b o e a) u.tups u.frzs u.tbls (λC t=>by
  obtain⟨D,i,j,f,v⟩:=t;rw[k]at f;cases f;exact⟨_,i,j,h,v⟩) g l
theorem Inv.turned{t':Nat}{a:A3}(I:Inv X pins σ H s)(k:∀b o,b≠a->s.heap.get? b=some o->h'.get? b=some o)(h:H a=none)(g:a≠X.env.locals)
  (h1:a∈X.ex\/X.s₀.heap.objs.size<=a) (h2:∀x c,X.env.cells.lookup x=some c->c≠a) (i:∀p∈X.pn++pins,p.1≠a):Inv X pins σ H { s with heap:=h',toks:=t' }:=by
 have f:∀b u,H b=some u->b≠a:=λb u e z=>by rw[z,h]at e;cases e
 refine I.step (g':=s.gens) (d':=s.drawn) (ch:=[a]) (λb j=>?_) (λb o _ _ d e _=>k b o (λz=>d (by simp[z])) e) (λb o _ _ d e _=>⟨o.slots,k b o (λz=>d (by simp[z])) e⟩) (λ_ _ _ _ n=>n)
  (λb o d e=>⟨o,k b o (λz=>d (by simp[z])) e⟩) (λ_ _ e=>e) (λ_ _ _ e=>e) (λb ps e=>⟨#[],by rw[e];simp⟩) (λm l=>?_) (λb u e=>?_) I.bare
 .have e:b=a:=by simpa using j
  subst e;exact⟨h1,g,h2,i⟩
 .obtain⟨o,t,w,y,r⟩:=l;exact⟨o,t,w,k _ o (Ne.symm g) y,r⟩
 .refine(I.hok b u e).stay (λc v d q=>k c v ?_ q) (λ_ q=>q) λ_ _ q=>q;rcases d with z | z
  .rw[z];exact f b u e
  .exact f c _ z
theorem Inv.tok(I:Inv X pins σ H s)(t:Nat):Inv X pins σ H { s with toks:=t }:=I.un (h':=s.heap) (t':=t) Un.refl I.hok
theorem Inv.kept{t':Nat}(I:Inv X pins σ H s)(k:∀b u,s.heap.get? b=some u->h'.get? b=some u):Inv X pins σ H { s with heap:=h',toks:=t' }:=I.un (Un.kept k) (I.hok.kept k)
theorem Inv.laid{a:A3}{o:HO}{t':Nat}(I:Inv X pins σ H s)(k:∀b u,s.heap.get? b=some u->h'.get? b=some u)(c:s.heap.objs.size<=a)(d:IS X.prog X.w (HY H a o) h' a o) :
  Inv X pins σ (HY H a o) { s with heap:=h',toks:=t' }:=I.un (Un.laid k c (I.hok.fresh c)) (I.hok.laid k c d)
theorem Inv.write{x e:A3}{o:HO}{t':Nat}(I:Inv X pins σ H s)(d:TQ (H x))(f:e=x\/H e=some (.own x))(k:∀b u,b≠e->s.heap.get? b=some u->h'.get? b=some u)(a:∃u,h'.get? e=some u)
  (c:IS X.prog X.w (HY H x o) h' x o):Inv X pins σ (HY H x o) { s with heap:=h',toks:=t' }:=I.un (Un.write d f k a) (I.hok.write d f k a c)
theorem Inv.pins_of{a:A0 (A3×Obj)}(I:Inv X pins σ H s)(h:∀p∈a,s.heap.get? p.1=some p.2/\H p.1=none/\p.1≠X.env.locals/\p.1∉X.fs/\∀v,p.2.data≠ .cell v):Inv X a σ H s :=
 ⟨I.ok,I.os,I.bare,I.base,I.loc,I.cell,I.free,I.freeC,λp b=>(AO.mp b).elim (λz=>I.pin p (CQ _ z)) (h p),I.hok,I.len⟩
theorem Fm{N:A0 Str}(c:N.Nodup){i j:Nat}{x:Str}(a:N[i]?=some x)(b:N[j]?=some x):i=j:=by
 obtain⟨f,d⟩:=AJ.mp a;obtain⟨g,e⟩:=AJ.mp b;exact(List.getElem_inj c).mp (d.trans e.symm)
theorem Cj{M:Model}{A:IA}{E:A2->A4->Prop}{i:Nat}{x:Str}{v:V}{u:A2}{Q:Unit->A4->Prop}(I:Inv X pins σ H s)(hN:X.N.Nodup)(hi:X.N[i]?=some x)(t:Loc X.env.scope x)(r:RelV v u)
  (h:∀W,Inv X pins (σ.set i (some v)) H W->(∃a,Heap.SameBut a s.heap W.heap/\(a=X.env.locals\/X.env.cells.lookup x=some a))->Q () W) (hf:X.fn x=true\/X.env.scope.names.lookup x=some .local:=by first | exact .inl rfl | exact .inr rfl | assumption):wpAny M A (storeName X.env x u) Q E s:=by
 obtain⟨m,Y,hl⟩:=id I.loc;have K:(X.env.scope.kind == .class||(X.env.scope.kind == .module&&X.env.locals != X.env.globals))=false:=by rw[I.ok.kind];rfl
 have hiσ:i<σ.length:=by rw[I.len];exact(AJ.mp hi).1
 have D:=I.cne;have g:∀{a:A3} {h':H_},(∃o,s.heap.get? a=some o/\H a=none)->Heap.SameBut a s.heap h'->MU X.prog X.w H h':=fun{a h'} ha f b ob e=>by
  obtain⟨_,_,B⟩:=ha;refine(I.hok b ob e).stay (λc S hc q=>(f.2 c ?_).trans q) (λ_ q=>q) λ_ _ q=>q;rintro rfl;rcases hc with rfl | hc
  .rw[B]at e;cases e
  .rw[B]at hc;cases hc
 rcases t with hk | hk
 .refine wpAny_storeName_local hk Y (λh' Z f=>?_) K;obtain⟨oL,_,_,hoL,_⟩:=id Y;refine h _ ⟨I.ok,I.os,I.bare,⟨λb o e n F t=>?_,λb o e n F t=>?_,I.base.free,λb o e t=>?_,I.base.tups,I.base.frzs,I.base.tbls⟩,⟨_,Z,λj y v' l C e3=>?_⟩,λy c e=>?_,I.free,I.freeC,λp hp=>?_,g ⟨oL,hoL,I.free⟩ f,by simpa using I.len⟩ ⟨_,f,.inl rfl⟩
  .exact(f.2 b (BA (BI (AG e) I.ok.above))).trans (I.base.keep b o e n F t)
  .obtain⟨sl,l⟩:=I.base.slot b o e n F t;exact⟨sl,(f.2 b (BA (BI (AG e) I.ok.above))).trans l⟩
  .obtain⟨o',l⟩:=I.base.there b o e t;exact⟨o',(f.2 b (BA (BI (AG e) I.ok.above))).trans l⟩
  .by_cases G:j=i
   .subst G;rw[hi]at l;cases l;rw[HH hiσ]at C;cases C;exact⟨u,r,.inl ⟨hk,by simp⟩⟩
   .rw[GP (Ne.symm G)]at C;obtain⟨u',r',q⟩:=hl j y v' l C e3;refine⟨u',r',?_⟩;rcases q with⟨k,e⟩ | ⟨k,c,e,z⟩
    .refine .inl ⟨k,?_⟩;have:y≠x:=λe=>G (Fm hN l (e▸hi));simp[this,e]
    .exact .inr ⟨k,c,e,z.sameBut f (D y c e)⟩
  .obtain⟨S,z⟩:=I.cell y c e;exact⟨S,z.sameBut f (D y c e)⟩
  .obtain⟨e,n,T,nf,d⟩:=I.pin p hp;exact⟨(f.2 p.1 T).trans e,n,T,nf,d⟩
 .have J:X.fn x=true:=by
   rcases hf with z | z
   .exact z
   .rw[z]at hk;cases hk
  obtain⟨c,hc⟩:=I.ok.has x (.inl hk);obtain⟨S,z⟩:=I.cell x c hc;refine wpAny_storeName_cell I.ok.kind hk hc z (λh' L f=>?_);obtain⟨oc,O,P⟩:=id z;refine h { s with heap:=h' } ⟨I.ok,I.os,I.bare,⟨λb o e n F t=>?_,λb o e n F t=>?_,I.base.free,λb o e t=>?_,I.base.tups,I.base.frzs,I.base.tbls⟩,⟨m,Y.sameBut f (Ne.symm (D x c hc)),λj y v' l C e3=>?_⟩,λy U e=>?_,I.free,I.freeC,λp hp=>?_,g ⟨oc,O,I.freeC x c hc⟩ f,by simpa using I.len⟩ ⟨c,f,.inr hc⟩
  .exact(f.2 b (BA (BI (AG e) (I.ok.cab x c J hc)))).trans (I.base.keep b o e n F t)
  .obtain⟨sl,l⟩:=I.base.slot b o e n F t;exact⟨sl,(f.2 b (BA (BI (AG e) (I.ok.cab x c J hc)))).trans l⟩
  .obtain⟨o',l⟩:=I.base.there b o e t;exact⟨o',(f.2 b (BA (BI (AG e) (I.ok.cab x c J hc)))).trans l⟩
  .by_cases G:j=i
   .subst G;rw[hi]at l;cases l;rw[HH hiσ]at C;cases C;exact⟨u,r,.inr ⟨.inl hk,c,hc,L⟩⟩
   .rw[GP (Ne.symm G)]at C;obtain⟨u',r',q⟩:=hl j y v' l C e3;refine⟨u',r',?_⟩;rcases q with q | ⟨k,U,e,z'⟩
    .exact .inl q
    .refine .inr ⟨k,U,e,z'.sameBut f ?_⟩;rintro rfl;exact G (Fm hN l (I.ok.inj _ _ _ e hc▸hi))
  .by_cases R:U=c
   .subst R;exact⟨_,L⟩
   .obtain⟨w2,z2⟩:=I.cell y U e;exact⟨w2,z2.sameBut f R⟩
  .obtain⟨e,n,T,nf,d⟩:=I.pin p hp;refine⟨(f.2 p.1 ?_).trans e,n,T,nf,d⟩;intro q;rw[q,O]at e;have q':oc=p.2:=BU e;exact d S (by rw[<-q'];exact P)
theorem U9{M:Model}{A:IA}{E:A2->A4->Prop}{i:Nat}{x:Str}{v:V}{u:A2}{Q:Unit->A4->Prop}(I:Inv X pins σ H s)(b:X.N.Nodup)(hi:X.N[i]?=some x)(c:Loc X.env.scope x)(r:RelV v u)
  (h:∀a,Inv X pins (σ.set i (some v)) H a->Q () a) (d:X.fn x=true\/X.env.scope.names.lookup x=some .local:=by first | exact .inl rfl | exact .inr rfl | assumption):wpAny M A (storeName X.env x u) Q E s :=
 Cj I b hi c r (λa e _=>h a e) d
theorem Inv.call'{a:A4}{ch:A0 A3}(I:Inv X pins σ H s)(g:a.os=s.os)(u:Un (NW X.stack) ch H H' s.heap a.heap)(d:MU X.prog X.w H' a.heap)(h:AllBare a.gens)
  (f:∀b∈ch,(b∈X.ex\/X.s₀.heap.objs.size<=b)/\b≠X.env.locals/\(∀x c,X.env.cells.lookup x=some c->c≠b)/\∀p∈X.pn++pins,p.1≠b):Inv X pins σ H' a:=by
 obtain⟨h',g',d',t',i⟩:=a;have e:i=s.os:=g;subst e;exact I.call (g':=g') (t':=t') (d':=d') u d h f
end
abbrev XK:=A2->A5 A3->Hp->Prop
abbrev St:=A0 (A5 V)
abbrev VK:=V->Hp->Prop
abbrev TE:=St->Hp->VK->Prop
abbrev TT:=St->Hp->(Bool->Hp->Prop)->Prop
abbrev TA:=St->Hp->(A0 V->Hp->Prop)->Prop
set_option genInjectivity false in
structure Ends where
 nx:St->Hp->Prop
 rt:VK
 bk:St->Hp->Prop:=λ_ _=>False
 ct:St->Hp->Prop:=λ_ _=>False
abbrev TS:=Ends->St->Hp->Prop
def EP(X:Cx)(a:A0 (A3×Obj))(σ:St)(Q:VK)(u:A2)(c:A4):Prop:=∃v b,Inv X a σ b c/\RelV v u/\Q v b
def TP(X:Cx)(a:A0 (A3×Obj))(σ:St)(Q:Bool->Hp->Prop)(b:Bool)(d:A4):Prop:=∃c,Inv X a σ c d/\Q b c
def AP(X:Cx)(a:A0 (A3×Obj))(σ:St)(Q:A0 V->Hp->Prop)(us:A0 A2)(d:A4):Prop:=∃b c,Inv X a σ c d/\IH b us/\Q b c
def SP(X:Cx)(a:A0 (A3×Obj))(D:Ends)(f:Flow)(c:A4):Prop :=
 match f with
 | .next=>∃σ' b,Inv X a σ' b c/\D.nx σ' b
 | .brk=>∃σ' b,Inv X a σ' b c/\D.bk σ' b
 | .cont=>∃σ' b,Inv X a σ' b c/\D.ct σ' b
 | .ret u=>∃v σ' b,Inv X a σ' b c/\RelV v u/\D.rt v b
def PE(X:Cx)(e:IC)(t:TE):Prop :=
 ∀(a:A0 (A3×Obj)) (s:A4) (σ:St) (H:Hp) (Q:VK),Inv X a σ H s->t σ H Q->wpAny (model X.prog X.w) X.A (eval e X.env) (EP X a σ Q) X.xe s
def PT(X:Cx)(e:IC)(t:TT):Prop :=
 ∀(a:A0 (A3×Obj)) (s:A4) (σ:St) (H:Hp) (Q:Bool->Hp->Prop),Inv X a σ H s->t σ H Q->wpAny (model X.prog X.w) X.A (isTrue e X.env (eval e X.env)) (TP X a σ Q) X.xe s
def PW(X:Cx)(e:IC)(t:TT):Prop :=
 ∀(b:Sem A2) (a:A0 (A3×Obj)) (s:A4) (σ:St) (H:Hp) (Q:Bool->Hp->Prop),Inv X a σ H s->t σ H Q->wpAny (model X.prog X.w) X.A (isTrue e X.env b) (TP X a σ Q) X.xe s
def PW.pt{X:Cx}{e:IC}{t:TT}(h:PW X e t):PT X e t:=h _
def PA(X:Cx)(c:A0 IC)(t:TA):Prop :=
 ∀(b:Pos) (a:A0 (A3×Obj)) (s:A4) (σ:St) (H:Hp) (Q:A0 V->Hp->Prop),Inv X a σ H s->t σ H Q->wpAny (model X.prog X.w) X.A (spliced (backTo b (starEach c X.env))) (AP X a σ Q) X.xe s
def PS(X:Cx)(st:IL)(t:TS):Prop :=
 ∀(a:A0 (A3×Obj)) (s:A4) (σ:St) (H:Hp) (D:Ends),Inv X a σ H s->t D σ H->wpAny (model X.prog X.w) X.A (exec st X.env) (SP X a D) X.xe s
def QE(X:Cx)(st:A0 IL)(t:TS):Prop :=
 ∀(a:A0 (A3×Obj)) (s:A4) (σ:St) (H:Hp) (D:Ends),Inv X a σ H s->t D σ H->wpAny (model X.prog X.w) X.A (execs st X.env) (SP X a D) X.xe s
def I_{α:Type}{t:Sem α}{Q b:α->A4->Prop}{M:Model}{A:IA}{E:A2->A4->Prop}{s:A4}(h:wpAny M A t Q E s)(c:∀a s,Q a s->b a s):wpAny M A t b E s:=B_ h c λ_ _ x=>x
section
variable{X:Cx}
def T9(i:Nat):TE:=λσ H Q=>∃v,σ[i]?=some (some v)/\Q v H
def tC(v:V):TE:=λ_ H Q=>Q v H
theorem zCf{i:Nat}{x:Str}{f:Pos}(n:X.N[i]?=some x)(o:Vis X.env.scope x)(g:(x ==("__debug__":Str))=false:=by decide)(j:(x ==("__classdict__":Str))=false:=by decide):PE X (.Name x f) (T9 i):=by
 intro d s σ H Q I h;obtain⟨v,e,h⟩:=h;obtain⟨m,p,q⟩:=I.loc;obtain⟨u,r,l⟩:=q i x v n e o;have b:EP X d σ Q u s:=⟨v,H,I,r,h⟩;rcases l with⟨hk,t⟩ | ⟨hk,c,k,a⟩
 .exact wpAny_Name (wpAny_loadName_local I.ok.kind hk p t b) g
 .rcases hk with hk | hk
  .exact wpAny_Name (wpAny_loadName_cell I.ok.kind hk k a b) g
  .exact wpAny_Name (wpAny_loadName_free I.ok.kind hk k a b j) g
theorem B3{i j a}:PE X (.Constant (.int i) j a) (tC (.int i)):=λ_ _ _ H _ I h=>wpAny_Constant_int ⟨.int i,H,I.tok _,⟨_,rfl⟩,h⟩
theorem Hg{b j a}:PE X (.Constant (.bool b) j a) (tC (.bl b)):=λ_ _ _ H _ I h=>Constant_bool ⟨.bl b,H,I,rfl,h⟩
theorem g7{j a}:PE X (.Constant .none j a) (tC .non):=λ_ _ _ H _ I h=>Constant_none ⟨.non,H,I,rfl,h⟩
theorem C1{x j a}:PE X (.Constant (.str x) j a) (tC (.str x)):=λ_ _ _ H _ I h=>Calls.Constant_str ⟨.str x,H,I.tok _,⟨_,rfl⟩,h⟩
def Gl(X:Cx)(x:Str):Prop:=X.env.kindOf x=some .globalImplicit
theorem Fj{E:A2->A4->Prop}{a:A0 (A3×Obj)}{s:A4}{σ:St}{H:Hp}{x:Str}{u:A2}{b:Pos}{Q:A2->A4->Prop}(I:Inv X a σ H s)(c:Gl X x)(d:X.mg x=some u)(h:Q u s)
  (e:(x ==("__debug__":Str))=false:=by decide):wpAny (model X.prog X.w) X.A (eval (.Name x b) X.env) Q E s :=
 Calls.Name_function_global I.ok.kind c (Calls.loadGlobal_global (by rw[I.ok.glob];exact I.mod.glob.keeps I.bk) d h) e
theorem Am{E:A2->A4->Prop}{a:A0 (A3×Obj)}{s:A4}{σ:St}{H:Hp}{x:Str}{u:A2}{b:Pos}{Q:A2->A4->Prop}(I:Inv X a σ H s)(c:Gl X x)(d:X.mg x=none)(e:bootBuiltins x=some u)(h:Q u s)
  (f:x≠ "__name__":=by decide) (g:(x ==("__debug__":Str))=false:=by decide):wpAny (model X.prog X.w) X.A (eval (.Name x b) X.env) Q E s:=by
 obtain⟨k,i,j⟩:=I.mod.blt;exact Calls.Name_function_global I.ok.kind c (Calls.loadGlobal_builtin (by rw[I.ok.glob];exact I.mod.glob.keeps I.bk) d (by rw[I.ok.blt];exact i.keeps I.bk) ((j x f).trans e) h) g
theorem Rl{x:Str}{v:V}{u:A2}{a:Pos}(b:Gl X x)(c:X.mg x=some u)(r:RelV v u)(d:(x ==("__debug__":Str))=false:=by decide):PE X (.Name x a) (tC v) :=
 λ_ _ _ H _ I h=>Fj I b c ⟨v,H,I,r,h⟩ d
theorem zAd{x:Str}{v:V}{u:A2}{a:Pos}(b:Gl X x)(c:X.mg x=none)(d:bootBuiltins x=some u)(r:RelV v u)(e:x≠ "__name__":=by decide)(f:(x ==("__debug__":Str))=false:=by decide):PE X (.Name x a) (tC v) :=
 λ_ _ _ H _ I h=>Am I b c d ⟨v,H,I,r,h⟩ e f
variable{a b:IC}{ta tb:TE}{pos:Pos}
def PC(X:Cx)(d:CmpOp)(a b:IC)(t:TE):Prop :=
 ∀(c:A0 (A3×Obj)) (s:A4) (σ:St) (H:Hp) (Q:VK),Inv X c σ H s->t σ H Q ->
  wpAny (model X.prog X.w) X.A (eval a X.env) (λv i1=>wpAny (model X.prog X.w) X.A (eval b X.env) (λu n0=>wpAny (model X.prog X.w) X.A (compareOp d v u) (EP X c σ Q) X.xe n0) X.xe i1) X.xe s
def tB(t:TE):TT:=λσ H Q=>t σ H λx a=>∃c,x = .bl c/\Q c a
theorem zDa{g:CmpOp}{t:TE}(h:PC X g a b t)(h1:behindInMarks g b=false:=by first | exact e _ (by decide) (by decide) | rfl):PT X (.Compare a [g] [b] pos) (tB t):=by
 intro f s σ H Q I i;refine wpAny_isTrue_Compare1 (I_ (h f s σ H _ I i) λv o h1=>I_ h1 λu p j=>I_ j λc r ⟨x,k,l,m,n⟩=>?_) h1;obtain⟨d,rfl,q⟩:=n;cases m;exact CZ ⟨k,l,q⟩
theorem Q5{e:IC}{t:TE}(h:PE X e t)(c:∀a,isTrue e X.env a =(do let v <-a;standAt e.pos;holding [v] (truthy v)):=by intro _;rfl):PT X e (tB t):=by
 intro b s σ H Q I f;refine isTrue_plain (I_ (h b s σ H _ I f) λv l ⟨x,g,i,j,k⟩=>?_) (c _);obtain⟨d,rfl,q⟩:=k;cases j;exact CZ ⟨g,i,q⟩
variable{tA tB':TT}{rest:A0 IC}
def zGp(t u:TT):TT:=λσ H Q=>t σ H λc a=>if c=true then u σ a Q else Q false a
def tOr(t u:TT):TT:=λσ H Q=>t σ H λc a=>if c=true then Q true a else u σ a Q
def zHl(t:TT):TT:=λσ H Q=>t σ H λc a=>Q (!c) a
theorem m8(d:PT X a tA):PW X (.BoolOp .And [a] pos) tA:=by
 intro f b s σ H Q I h;refine isTrue_and (I_ (d b s σ H Q I h) λc g e=>?_);cases c with
 | true=>exact isTrue_and_nil e
 | false=>exact e
theorem X8(d:PT X a tA):PW X (.BoolOp .Or [a] pos) tA:=by
 intro f b s σ H Q I h;refine isTrue_or (I_ (d b s σ H Q I h) λc g e=>?_);cases c with
 | false=>exact isTrue_or_nil e
 | true=>exact e
theorem Ci(i:PT X a tA)(j:PW X (.BoolOp .And (b::rest) pos) tB'):PW X (.BoolOp .And (a::b::rest) pos) (zGp tA tB'):=by
 intro k d s σ H Q I h;refine isTrue_and (I_ (i d s σ H _ I h) λc l ⟨e,f,g⟩=>?_);cases c with
 | true=>exact j k d l σ e Q f g
 | false=>exact⟨e,f,g⟩
theorem Bj(i:PT X a tA)(j:PW X (.BoolOp .Or (b::rest) pos) tB'):PW X (.BoolOp .Or (a::b::rest) pos) (tOr tA tB'):=by
 intro k d s σ H Q I h;refine isTrue_or (I_ (i d s σ H _ I h) λc l ⟨e,f,g⟩=>?_);cases c with
 | true=>exact⟨e,f,g⟩
 | false=>exact j k d l σ e Q f g
theorem U0(d:PT X a tA):PT X (.UnaryOp .Not a pos) (zHl tA):=by
 intro b s σ H Q I h;exact isTrue_not (d b s σ H (λc e=>Q (!c) e) I h)
def zEt(ta tb:TE):TE:=λσ H Q=>ta σ H λx a=>∃c,x = .bl c/\if c=true then tb σ a Q else Q (.bl false) a
def zFh(ta:TE):TE:=λσ H Q=>ta σ H λx a=>∃c,x = .bl c/\Q (.bl (!c)) a
theorem Dt{c}{t:TE}(h:PE X a t):PE X (.BoolOp c [a] pos) t:=λb s σ H Q I d=>BoolOp_one (h b s σ H Q I d)
theorem Bz(i:PE X a ta)(j:PE X (.BoolOp .And (b::rest) pos) tb):PE X (.BoolOp .And (a::b::rest) pos) (zEt ta tb):=by
 intro d s σ H Q I h;refine BoolOp_and (I_ (i d s σ H _ I h) λv k ⟨x,f,g,l,e⟩=>?_);obtain⟨c,rfl,e⟩:=e;cases l;refine CZ ?_;cases c with
 | true=>exact j d k σ f Q g e
 | false=>exact⟨.bl false,f,g,rfl,e⟩
theorem zDp(e:PE X a ta):PE X (.UnaryOp .Not a pos) (zFh ta):=by
 intro b s σ H Q I h;refine UnaryOp_ (I_ (e b s σ H _ I h) λv j ⟨x,f,g,i,d⟩=>?_);obtain⟨c,rfl,d⟩:=d;cases i;exact not_of (CZ ⟨.bl (!c),f,g,rfl,d⟩)
def tIf(t:TT)(ta tb:TE):TE:=λσ H Q=>t σ H λc a=>if c=true then ta σ a Q else tb σ a Q
theorem Fp{c:IC}(k:PT X c tA)(l:PE X a ta)(m:PE X b tb):PE X (.IfExp c a b pos) (tIf tA ta tb):=by
 intro e s σ H Q I h;refine wpAny_IfExp (I_ (k e s σ H _ I h) λd f ⟨g,i,j⟩=>?_);cases d with
 | true=>exact l e f σ g Q i j
 | false=>exact m e f σ g Q i j
end
def IG(K:VA)(H:Hp)(a:A3)(xs:A0 V):Prop :=
 Rd H a (.lst xs) \/
  ∃(o:Obj) (b:HU A2) (n:Nat),K.lookup a=some o/\o.cls = .type "list"/\o.dict=none/\o.data = .seq b n/\b.size<=sizeLine/\IH xs b.toList
def IU(K:VA)(H:Hp)(a:A3)(xs:A0 V):Prop :=
 Rd H a (.tup xs) \/
  ∃(o:Obj) (b:HU A2) (n:Nat),K.lookup a=some o/\o.cls = .type "tuple"/\o.data = .seq b n/\b.size<=sizeLine/\IH xs b.toList
def zHj:A2->A5 V
 | .none=>some .non
 | .bool b=>some (.bl b)
 | .int i _=>some (.int i)
 | .str x _=>some (.str x)
 | .bytes b _=>some (.byt b)
 | .float b _=>some (.flt b)
 | .ref a=>some (.ref a)
 | .type n=>some (.ty n)
 | _=>none
def RelV.abs{x:V}{u:A2}(r:RelV x u):zHj u=some x:=by
 cases x with
 | non=>cases r;rfl
 | bl _=>cases r;rfl
 | int _=>obtain⟨t,rfl⟩:=r;rfl
 | str _=>obtain⟨t,rfl⟩:=r;rfl
 | byt _=>obtain⟨t,rfl⟩:=r;rfl
 | flt _=>obtain⟨t,rfl⟩:=r;rfl
 | ref _=>cases r;rfl
 | ty _=>cases r;rfl
def RelV.inj{x y:V}{u:A2}(r:RelV x u)(q:RelV y u):x=y:=BU (r.abs.symm.trans q.abs)
def IH.inj:∀{xs a:A0 V} {us:A0 A2},IH xs us->IH a us->xs=a
 | _,_,_,.nil,.nil=>rfl
 | _,_,_,.cons r t,.cons b c=>by rw[r.inj b,IH.inj t c]
section
variable{X:Cx}{pins:A0 (A3×Obj)}{σ:St}{H:Hp}{s:A4}{a:A3}{xs ys:A0 V}
theorem IG.of{K:VA}(h:H a=some (.lst xs)):IG K H a xs:=.inl (.inl h)
theorem IU.of{K:VA}(h:H a=some (.tup xs)):IU K H a xs:=.inl (.inl h)
theorem Inv.list(I:Inv X pins σ H s)(h:IG X.K H a xs):∃its:A0 A2,IH xs its/\PlainL s.heap a its.toArray/\xs.length<=sizeLine:=by
 rcases h with h | ⟨o,its,n,b,c,d,f,g,r⟩
 .obtain⟨z,its,n,r,e⟩:=h.ok I.hok;exact⟨its,r,⟨_,n,e,rfl,rfl,rfl⟩,z⟩
 .refine⟨its.toList,r,⟨o,n,I.kIn a o b,c,d,by simpa using f⟩,?_⟩;have e:=r.length;simp only[AU]at e;lia
theorem Inv.tuple(I:Inv X pins σ H s)(h:IU X.K H a xs):∃its:A0 A2,IH xs its/\IsTup s.heap a its.toArray/\xs.length<=sizeLine:=by
 rcases h with h | ⟨o,its,n,b,c,d,f,r⟩
 .obtain⟨z,its,r,p⟩:=h.ok I.hok;exact⟨its,r,p,z⟩
 .refine⟨its.toList,r,⟨o,I.kIn a o b,c,n,by simpa using d⟩,?_⟩;have e:=r.length;simp only[AU]at e;lia
theorem Inv.list_inj(I:Inv X pins σ H s)(h:IG X.K H a xs)(h':IG X.K H a ys):xs=ys:=by
 obtain⟨c,r,⟨o,n,e,_,_,d⟩,_⟩:=I.list h;obtain⟨b,i,⟨k,l,f,_,_,g⟩,_⟩:=I.list h';rw[e]at f;cases f;rw[d]at g;injection g with j _;have:c=b:=by simpa using congrArg Array.toList j
 subst this;exact r.inj i
theorem Inv.tuple_inj(I:Inv X pins σ H s)(h:IU X.K H a xs)(h':IU X.K H a ys):xs=ys:=by
 obtain⟨c,r,⟨o,e,_,n,d⟩,_⟩:=I.tuple h;obtain⟨b,i,⟨k,f,_,l,g⟩,_⟩:=I.tuple h';rw[e]at f;cases f;rw[d]at g;injection g with j _;have:c=b:=by simpa using congrArg Array.toList j
 subst this;exact r.inj i
end
abbrev Cx.wish(X:Cx)(E:A2->A4->Prop):Cx:={ X with xe:=E }
abbrev Cx.nox(X:Cx):Cx:=X.wish λ_ _=>False
def Cx.Ok.wish{X:Cx}(a:X.Ok)(E:A2->A4->Prop):(X.wish E).Ok :=
 ⟨a.mod,a.kind,a.glob,a.blt,a.above,a.inj,a.has,a.cab,a.hd,a.frames,a.stk,a.exf,a.bs,a.bsz,a.noex,a.exfs,a.funs,a.frf⟩
def Cx.Ok.unwish{X:Cx}{E:A2->A4->Prop}(a:(X.wish E).Ok):X.Ok :=
 ⟨a.mod,a.kind,a.glob,a.blt,a.above,a.inj,a.has,a.cab,a.hd,a.frames,a.stk,a.exf,a.bs,a.bsz,a.noex,a.exfs,a.funs,a.frf⟩
section
variable{X:Cx}{pins:A0 (A3×Obj)}{σ:St}{H:Hp}{s:A4}{E:A2->A4->Prop}
theorem Inv.wish(I:Inv X pins σ H s)(E:A2->A4->Prop):Inv (X.wish E) pins σ H s:=⟨I.ok.wish E,I.os,I.bare,I.base,I.loc,I.cell,I.free,I.freeC,I.pin,I.hok,I.len⟩
theorem Inv.unwish(I:Inv (X.wish E) pins σ H s):Inv X pins σ H s:=⟨I.ok.unwish,I.os,I.bare,I.base,I.loc,I.cell,I.free,I.freeC,I.pin,I.hok,I.len⟩
theorem SP.unwish{D:Ends}{f:Flow}{b:A4}(h:SP (X.wish E) pins D f b):SP X pins D f b:=by
 cases f with
 | next=>obtain⟨σ',a,I,q⟩:=h;exact⟨σ',a,I.unwish,q⟩
 | brk=>obtain⟨σ',a,I,q⟩:=h;exact⟨σ',a,I.unwish,q⟩
 | cont=>obtain⟨σ',a,I,q⟩:=h;exact⟨σ',a,I.unwish,q⟩
 | ret u=>obtain⟨v,σ',a,I,r,q⟩:=h;exact⟨v,σ',a,I.unwish,r,q⟩
theorem QE.nox{st:A0 IL}{t:TS}(h:QE X.nox st t):QE X st t:=λpins s σ H D I a =>
 B_ (h pins s σ H D (I.wish _) a) (λ_ _ q=>q.unwish) λ_ _ z=>VB z
end
section
variable{X:Cx}{st:IL}{rest:A0 IL}{t u:TS}{e:IC}{te:TE}{pos:Pos}
def zFb:TS:=λD σ H=>D.nx σ H
def S_(t u:TS):TS:=λD σ H=>t { D with nx:=u D } σ H
theorem E4:QE X [] zFb:=λ_ _ σ H _ I h=>EV ⟨σ,H,I,h⟩
theorem A9(h1:PS X st t)(h2:QE X rest u):QE X (st::rest) (S_ t u):=by
 intro a s σ H D I h;refine HN (I_ (h1 a s σ H { D with nx:=u D } I h) λf b q=>?_);cases f with
 | next =>
  obtain⟨σ',c,d,q⟩:=q;exact h2 a b σ' c D d q
 | ret v=>exact q
 | brk=>exact q
 | cont=>exact q
theorem B5(h1:PS X st t):QE X [st] t:=by
 intro a s σ H D I h;refine HN (I_ (h1 a s σ H D I h) λf b q=>?_);cases f with
 | next=>exact EV q
 | ret v=>exact q
 | brk=>exact q
 | cont=>exact q
def zCe:TS:=λD σ H=>D.bk σ H
theorem Wh:PS X (.Break pos) zCe:=λ_ _ σ H _ I h=>wpAny_Break ⟨σ,H,I,h⟩
theorem Inv.quiet{a:A0 (A3×Obj)}{σ:St}{H:Hp}{s:A4}(I:Inv X a σ H s):interactive X.env=false:=by simp[interactive,I.ok.kind]
def zFm(te:TE):TS:=λD σ H=>te σ H λ_ a=>D.nx σ a
theorem J7(b:PE X e te)(c:swapsWith e none pos.line X.env=pure false:=by rfl):PS X (.Expr e pos) (zFm te):=by
 intro a s σ H D I h;exact wpAny_Expr_any (I_ (b a s σ H _ I h) λv i ⟨x,d,f,j,g⟩=>⟨σ,d,f,g⟩) I.quiet c
def zGi(te:TE):TS:=λD σ H=>te σ H D.rt
theorem C0(b:PE X e te):PS X (.Return (some e) pos) (zGi te):=by
 intro a s σ H D I h;exact wpAny_Return_some (I_ (b a s σ H _ I h) λv i ⟨x,c,d,f,g⟩=>⟨x,σ,c,d,f,g⟩)
def zGx(c:TT)(t u:TS):TS:=λD σ H=>c σ H λb a=>if b=true then t D σ a else u D σ a
theorem M0{c:IC}{a b:A0 IL}{f:TT}(l:PT X c f)(m:QE X a t)(n:QE X b u):PS X (.If c a b pos) (zGx f t u):=by
 intro e s σ H D I h;refine wpAny_If (I_ (l e s σ H _ I h) λd g ⟨i,j,k⟩=>?_);cases d with
 | true=>exact m e g σ i D j k
 | false=>exact n e g σ i D j k
def zDl:TS:=λ_ _ _=>False
theorem Y3:PS X st zDl:=λ_ _ _ _ _ _ h=>h.elim
end
abbrev TG:=V->St->Hp->(St->Hp->Prop)->Prop
abbrev Q_:=A0 V->St->Hp->(St->Hp->Prop)->Prop
def PG(X:Cx)(a:IC)(t:TG):Prop :=
 ∀(b:A0 (A3×Obj)) (s:A4) (σ:St) (H:Hp) (v:V) (u:A2) (Q:St->Hp->Prop),Inv X b σ H s->RelV v u->t v σ H Q ->
  wpAny (model X.prog X.w) X.A (assign a X.env u) (λ_ d=>∃σ' c,Inv X b σ' c d/\Q σ' c) X.xe s
def SJ(X:Cx)(ts:A0 IC)(t:Q_):Prop :=
 ∀(a:A0 (A3×Obj)) (s:A4) (σ:St) (H:Hp) (b:A0 V) (c:A0 A2) (Q:St->Hp->Prop),Inv X a σ H s->IH b c->t b σ H Q ->
  wpAny (model X.prog X.w) X.A (assignInOrder ((assignEach ts X.env).map (·.2)) c) (λ_ e=>∃σ' d,Inv X a σ' d e/\Q σ' d) X.xe s
abbrev MX:=V->V->V->Hp->(Hp->Prop)->Prop
def zGj(X:Cx)(t:MX):Prop :=
 ∀(a:A0 (A3×Obj)) (s:A4) (σ:St) (H:Hp) (o i v:V) (b c u:A2) (Q:Hp->Prop),Inv X a σ H s->RelV o b->RelV i c->RelV v u->t o i v H Q ->
  wpAny (model X.prog X.w) X.A (setItem b c u) (λ_ e=>∃d,Inv X a σ d e/\Q d) X.xe s
abbrev TIp:=V->V->Hp->VK->Prop
def PIp(X:Cx)(b:Operator)(t:TIp):Prop :=
 ∀(a:A0 (A3×Obj)) (s:A4) (σ:St) (H:Hp) (x y:V) (v u:A2) (Q:VK),Inv X a σ H s->RelV x v->RelV y u->t x y H Q ->
  wpAny (model X.prog X.w) X.A (inplaceOp b v u) (EP X a σ Q) X.xe s
section
variable{X:Cx}{pos:Pos}
def O0(i:Nat):TG:=λv σ H Q=>Q (σ.set i (some v)) H
theorem J0{i:Nat}{x:Str}(b:X.N.Nodup)(hi:X.N[i]?=some x)(c:Loc X.env.scope x)(d:X.fn x=true\/X.env.scope.names.lookup x=some .local:=by first | exact .inl rfl | exact .inr rfl | assumption):PG X (.Name x pos) (O0 i):=by
 intro a s σ H v u Q I r h;exact wpAny_assign_Name (U9 I b hi c r (λf e=>⟨_,H,e,h⟩) d)
def TB:Q_:=λa σ H Q=>a = []/\Q σ H
def Cw(t:TG)(u:Q_):Q_:=λa σ H Q=>∃v r,a=v::r/\t v σ H λσ' b=>u r σ' b Q
theorem Q9:SJ X [] TB:=by
 intro a s σ H b c Q I r h;obtain⟨e,h⟩:=h;subst e;cases r;exact assignInOrder_nil ⟨σ,H,I,h⟩
theorem E7{e:IC}{b:A0 IC}{t:TG}{u:Q_}(h1:PG X e t)(h2:SJ X b u)
  (c:(assignEach (e::b) X.env).map (·.2)=assign e X.env ::(assignEach b X.env).map (·.2):=by rfl):SJ X (e::b) (Cw t u):=by
 intro a s σ H l m Q I r h;obtain⟨v,n,d,h⟩:=h;subst d;cases r with
 | cons r f =>
  rw[c];refine assignInOrder_cons (I_ (h1 a s σ H _ _ _ I r h) λ_ g ⟨σ1,i,j,k⟩=>?_);exact h2 a g σ1 i _ _ Q j f k
def SX(K:VA)(n:Nat)(t:Q_):TG:=λv σ H Q=>∃a b,v = .ref a/\IU K H a b/\b.length=n/\t b σ H Q
theorem zBs{d:A0 IC}{k:Nat}{t:Q_}{n:Nat}(j:X.calm=true)(h:SJ X d t)
  (l:(assignEach d X.env).length=n:=by rfl) (f:(assignEach d X.env).findIdx? (·.1)=none:=by rfl):PG X (.Tuple d k pos) (SX X.K n t):=by
 intro c s σ H v u Q I r g;obtain⟨a,m,p,q,w,g⟩:=g;subst p;cases r;obtain⟨x,i,y,C⟩:=I.tuple q;refine assign_Tuple_tuple (I.ok.hd j) y (by simp[l,<-w,i.length]) f λz A=>?_;have B:Inv X c σ H { s with heap:=z }:=I.kept (t':=s.toks) λb o e=>A b o (BA (AG e)) e;exact h c _ σ H m _ Q B (by simpa using i) g
def zIa(a b:TE)(t:MX):TG:=λv σ H Q=>a σ H λo c=>b σ c λi d=>t o i v d λe=>Q σ e
theorem Lc{o i:IC}{d e:TE}{t:MX}(f:PE X o d)(hi:PE X i e)(g:zGj X t)
  (j:∀v,assign (.Subscript o i pos) X.env v =(do
   let b <-holding [v] (eval o X.env)
   let c <-holding [v,b] (eval i X.env)
   standAt pos
   holding [v,b,c] (setItem b c v)
   release [v,b,c] []):=by intro _;rfl):PG X (.Subscript o i pos) (zIa d e t):=by
 intro a s σ H v u Q I r h;rw[j];refine AA (BP (I_ (f a s σ H _ I h) λb k ⟨x,l,m,n,p⟩=>?_));refine AA (BP (I_ (hi a k σ l _ m p) λc q ⟨y,w,z,A,B⟩=>?_));refine AA (EZ (AA (BP (I_ (g a q σ w x y v b c u _ z n A r B) λ_ F ⟨C,D,E⟩=>?_))));exact wpAny_release ⟨σ,C,D,E⟩
def SU(a:TE)(g:TG):TS:=λD σ H=>a σ H λx b=>g x σ b D.nx
theorem Bl{tg e:IC}{b:TE}{g:TG}(c:PE X e b)(d:PG X tg g)(f:swapsWithSole [tg] e pos.line X.env=pure false:=by rfl)(hw:swappedStores [tg] e X.env=pure none:=by rfl)
  (h1:(assignEach [tg] X.env).map (·.2) = [assign tg X.env]:=by rfl):PS X (.Assign [tg] e pos) (SU b g):=by
 intro a s σ H D I h;refine wpAny_Assign_stores (I_ (c a s σ H _ I h) λv i ⟨x,j,k,l,m⟩=>?_) f hw;rw[h1];exact I_ (d a i σ j x v _ k l m) λ_ n q=>q
theorem C6{i:Nat}{x:Str}{e:IC}{c:TE}{a:Pos}(d:X.N.Nodup)(hi:X.N[i]?=some x)(f:Loc X.env.scope x)(g:PE X e c)(j:swapsWith e (some (.Name x a)) pos.line X.env=pure false:=by rfl)(k:X.fn x=true\/X.env.scope.names.lookup x=some .local:=by first | exact .inl rfl | exact .inr rfl | assumption) :
  PS X (.Assign [.Name x a] e pos) (SU c (O0 i)):=by
 intro b s σ H D I h;refine wpAny_Assign_Name (I_ (g b s σ H _ I h) λv q ⟨y,l,m,n,o⟩=>?_) j;exact U9 m d hi f n (λr p=>⟨_,l,p,o⟩) k
def zHe(i j:Nat)(a:TA):TS:=λD σ H=>a σ H λb c=>∃v w,b = [v,w]/\D.nx ((σ.set i (some v)).set j (some w)) c
theorem Xg{i j:Nat}{x y:Str}{a b:IC}{C:TA}{k l m:Pos}{n r d}(L:X.calm=true)(E:X.N.Nodup)(hi:X.N[i]?=some x)(M:X.N[j]?=some y)(t:i≠j)
  (F:X.env.scope.names.lookup x=some .local) (G:X.env.scope.names.lookup y=some .local) (O:PA X [a,b] C)
  (hw:swappedStores [.Tuple [.Name x k,.Name y l] n m] (.Tuple [a,b] r d) X.env=pure (some [x,y]))
  (P:swapsWithSole [.Tuple [.Name x k,.Name y l] n m] (.Tuple [a,b] r d) pos.line X.env=pure false:=by rfl) :
  PS X (.Assign [.Tuple [.Name x k,.Name y l] n m] (.Tuple [a,b] r d) pos) (zHe i j C):=by
 intro c s σ H D I h;rw[exec_Assign_arm];refine AA (EZ ?_);rw[P];refine AA (AD ?_);rw[AI (by decide)];refine AA (Tuple_ (I_ (O _ c s σ H _ I h) λQ s1 ⟨vs,J,R,S,u⟩=>?_));obtain⟨v,w,T,u⟩:=u;subst T;obtain⟨f,g,rfl,U,z⟩:∃f g,Q = [f,g]/\RelV v f/\RelV w g:=by
  cases S with
  | cons p q =>
   cases q with
   | cons V W =>
    cases W;exact⟨_,_,rfl,p,V⟩
 refine BV ?_ (by show 2<=sizeLine;decide);have Y:Inv X c σ J { s1 with heap:=s1.heap.push { cls:=.type "tuple",data:=.seq [f,g].toArray } }:=R.kept (t':=s1.toks) λb o e=>AC _ e;rw[hw];refine AA (AD ?_);show wpAny (model X.prog X.w) X.A (do rule "assign.swapped-stores";let items <-unpackItems (.ref s1.heap.objs.size) 2 none;assignInOrder [λv=>bindName X.env y v,λv=>bindName X.env x v] items.reverse;pure Flow.next) _ _ _;refine AA (DF (AA (unpackItems_tuple (items:=#[f,g]) (I.ok.hd L) (IsTup.new s1.heap _) λh' B=>?_)));have Z:=Y.kept (h':=h') (t':=s1.toks) λb o e=>B b o (BA (AG e)) e;show wpAny _ _ (assignInOrder [λv=>bindName X.env y v,λv=>bindName X.env x v] [g,f] >>= λ_=>pure Flow.next) _ _ _;refine AA (assignInOrder_cons (wpAny_bindName (U9 Z E M (.inl G) z (λs2 I4=>?_) (.inr G))));refine assignInOrder_cons (wpAny_bindName (U9 I4 E hi (.inl F) U (λs3 K=>assignInOrder_nil (AD ?_)) (.inr F)));rw[List.set_comm _ _ (Ne.symm t)]at K;exact⟨_,J,K,u⟩
def zHw(i:Nat)(a:TE)(b:TIp):TS:=λD σ H=>∃x,σ[i]?=some (some x)/\a σ H λy c=>b x y c λz d=>D.nx (σ.set i (some z)) d
theorem zEi{i:Nat}{x:Str}{e:IC}{n:TE}{f:Operator}{o:TIp}{d:Pos}(p:X.N.Nodup)(hi:X.N[i]?=some x)(g:Loc X.env.scope x)(q:PE X e n)(t:PIp X f o)(B:X.fn x=true\/X.env.scope.names.lookup x=some .local:=by first | exact .inl rfl | exact .inr rfl | assumption) :
  PS X (.AugAssign (.Name x d) f e pos) (zHw i n o):=by
 intro a s σ H D I h;obtain⟨v,C,h⟩:=h;obtain⟨m,E,F⟩:=I.loc;have j:Vis X.env.scope x:=by rcases g with k | k;exact .inl k;exact .inr (.inl k)
 obtain⟨u,r,l⟩:=F i x v hi C j;refine wpAny_AugAssign_Name ?_;have go:wpAny (model X.prog X.w) X.A (eval e X.env) (λw n0=>wpAny (model X.prog X.w) X.A (inplaceOp f u w) (λr s₃=>wpAny (model X.prog X.w) X.A (storeName X.env x r) (λ_=>SP X a D .next) X.xe s₃) X.xe n0) X.xe s:=by
  refine I_ (q a s σ H _ I h) λw G ⟨y,J,K,L,M⟩=>?_;refine I_ (t a G σ J v y u w _ K r L M) λz V ⟨W,O,P,Q,R⟩=>?_;exact U9 P p hi g Q (λY S=>⟨_,O,S,R⟩) B
 rcases l with⟨hk,T⟩ | ⟨hk,c,U,b⟩
 .exact wpAny_loadName_local I.ok.kind hk E T go
 .rcases hk with hk | hk
  .exact wpAny_loadName_cell I.ok.kind hk U b go
  .rcases g with k | k
   .have:X.env.scope.names.lookup x=some .free:=hk;rw[k]at this;cases this
   .have:X.env.scope.names.lookup x=some .free:=hk;rw[k]at this;cases this
def ipI(f:Int->Int->Int):TIp:=λx y H Q=>∃i j,x = .int i/\y = .int j/\Q (.int (f i j)) H
theorem zBr:PIp X .Add (ipI λi j=>i+j):=by
 intro a s σ H x y v u Q I b c h;obtain⟨i,j,d,e,q⟩:=h;subst d;subst e;obtain⟨t,rfl⟩:=b;obtain⟨f,rfl⟩:=c;exact iadd_int ⟨.int _,H,I.tok _,⟨_,rfl⟩,q⟩
def zBf(c:TT)(f:TS):TS:=λD σ H=>∃W:Nat->St->Hp->Prop,(∃m,W m σ H)/\∀m σ H,W m σ H ->
 c σ H λb a=>if b=true then ∃N:St->Hp->Prop,(∀σ' d,N σ' d->∃e,e < m/\W e σ' d)/\f { D with nx:=N,ct:=N,bk:=D.nx } σ a else D.nx σ a
theorem Fu{c:IC}{d:A0 IL}{q:TT}{r:TS}(t:PassesOwn (model X.prog X.w) X.A X.env X.xe)(C:PT X c q)(E:QE X d r):PS X (.While c d [] pos) (zBf q r):=by
 intro a s σ H D I h;obtain⟨W,⟨F,G⟩,e⟩:=h;refine wpAny_While (codeAny_whileLoop (λn J=>∃σ' u,Inv X a σ' u J/\W n σ' u) ?_ F ⟨σ,H,I,G⟩);rintro n K ⟨σ1,x,L,M⟩;refine FF t (I_ (C a K σ1 x _ L (e n σ1 x M)) λb O ⟨y,z,i⟩=>?_);cases b with
 | true =>
  obtain⟨N,B,i⟩:=i;rw[AN rfl];refine FF t (I_ (E a O σ1 y _ z i) λf P j=>?_);cases f with
  | next =>
   obtain⟨σ3,g,k,l⟩:=j;obtain⟨m,o,p⟩:=B σ3 g l;exact⟨m,o,σ3,g,k,p⟩
  | cont =>
   obtain⟨σ3,g,k,l⟩:=j;obtain⟨m,o,p⟩:=B σ3 g l;exact⟨m,o,σ3,g,k,p⟩
  | brk=>exact j
  | ret v=>exact j
 | false =>
  rw[AI BE];exact EV ⟨σ1,y,z,i⟩
end
set_option genInjectivity false in
structure It where
 go:Nat->Hp->Prop
 yld:Nat->Hp->V->Hp->Prop
 stop:Nat->Hp->Prop
def Ea(X:Cx)(a:A0 (A3×Obj))(H:Hp)(b:A3):Prop :=
 H b=none/\b≠X.env.locals/\b∉X.fs/\(b∈X.ex\/X.s₀.heap.objs.size<=b)/\(∀x c,X.env.cells.lookup x=some c->c≠b)/\∀p∈X.pn++a,p.1≠b
def Inv.fpOk{X:Cx}{a:A0 (A3×Obj)}{σ:St}{H H':Hp}{s:A4}{b:A3}(I:Inv X a σ H s)(d:s.heap.objs.size<=b)(f:H' b=none):Ea X a H' b:=by
 refine⟨f,GR (BI I.lt d),I.nofs d,.inr (VE I.sz d),λx c e z=>?_,λp g z=>?_⟩
 .obtain⟨v,q⟩:=I.cell x c e;exact absurd (BI q.lt (by rw[z];exact d)) (C_ _)
 .exact absurd (BI (AG (I.pin p g).1) (by rw[z];exact d)) (C_ _)
structure MJ(P:HV)(w:HX)(K:VA)(tg:IC)(J:It)(fp:A0 A3)(it:A3)(tn:Nat->H_->Prop):Prop where
 mem:it∈fp
 obj:∀i h,tn i h->∀b∈fp,∃o,h.get? b=some o/\∀v,o.data≠ .cell v
 keep:∀i h h',tn i h->(∀b∈fp,∀o,h.get? b=some o->h'.get? b=some o)->tn i h'
 item:∀(X:Cx),X.prog=P->X.w=w->X.K=K->X.calm=true->∀(i:Nat) (pins:A0 (A3×Obj)) (s:A4) (σ:St) (H:Hp) (E:A2->A4->Prop),Inv X pins σ H s->(∀b∈fp,Ea X pins H b)->tn i s.heap->J.go i H ->
  wpAny (model P w) X.A (pyNext (.ref it)) (λr s1=>∃u,r=some u /\
   wpAny (model P w) X.A (letOwnedTupleGo tg (.ref it) u) (λ_ s2=>∃x H',Inv X pins σ H' s2/\RelV x u/\J.yld i H x H'/\tn (i+1) s2.heap/\∀b∈fp,H' b=none) E s1) E s
 done:∀(X:Cx),X.prog=P->X.w=w->X.K=K->X.calm=true->∀(i:Nat) (pins:A0 (A3×Obj)) (s:A4) (σ:St) (H:Hp) (E:A2->A4->Prop),Inv X pins σ H s->(∀b∈fp,Ea X pins H b)->tn i s.heap->J.stop i H ->
  wpAny (model P w) X.A (pyNext (.ref it)) (λr s1=>r=none/\Inv X pins σ H s1) E s
 self:∀(A:IA) (i:Nat) (s:A4) (Q:A2->A4->Prop) (E:A2->A4->Prop),tn i s.heap->Q (.ref it) s->wpAny (model P w) A (pyIter (.ref it)) Q E s
abbrev TI:=St->Hp->(It->Hp->Prop)->Prop
def PIE(X:Cx)(a:A0 (A3×Obj))(σ:St)(tg:IC)(R:It->Hp->Prop)(c:A2)(e:A4):Prop :=
 ∃(f:A3) (g:A0 A3) (tn:Nat->H_->Prop) (J:It) (d:Hp),c = .ref f/\Inv X a σ d e/\MJ X.prog X.w X.K tg J g f tn/\tn 0 e.heap/\(∀b∈g,Ea X a d b)/\R J d
def PI(X:Cx)(tg iter:IC)(b:TI):Prop :=
 ∀(a:A0 (A3×Obj)) (s:A4) (σ:St) (H:Hp) (R:It->Hp->Prop),Inv X a σ H s->b σ H R ->
  wpAny (model X.prog X.w) X.A (eval iter X.env) (λv c=>wpAny (model X.prog X.w) X.A (pyIter v) (PIE X a σ tg R) X.xe c) X.xe s
def Vy{M:Model}{A:IA}{E:A2->A4->Prop}{s:A4}{tg:IC}{b:A3}{u:A2}{o:Obj}{n:String}{vs:HU A2}{Q:Unit->A4->Prop}(c:s.heap.get? b=some o)(d:o.cls = .type n)(e:o.data = .fields vs)
    (f:["enumerate","zip","dict_itemiterator","dict_reverseitemiterator","odict_iterator","itertools.zip_longest","itertools.pairwise"].contains n=false) (a:Q () s):wpAny M A (letOwnedTupleGo tg (.ref b) u) Q E s:=by
  unfold letOwnedTupleGo;cases tg<;>first
    | exact AD a
    | (cases u<;>first
        | exact AD a
        | (refine AA (wpAny_load c ?_)
           rw[d,e];show wpAny M A (if(["enumerate","zip","dict_itemiterator","dict_reverseitemiterator","odict_iterator","itertools.zip_longest","itertools.pairwise"].contains n&&vs[0]? == some (rawInt _))=true then _ else _) Q E s;rw[AI (by intro h;rw[f,DP]at h;cases h)];exact AD a))
def P_(K:VA)(a:A3):It :=
 ⟨λi H=>∃b x,IG K H a b/\b[i]?=some x,λi H x c=>c=H/\∀b,IG K H a b->b[i]?=some x,λi H=>∃b,IG K H a b/\b.length<=i⟩
def Itt(K:VA)(a:A3):It :=
 ⟨λi H=>∃b x,IU K H a b/\b[i]?=some x,λi H x c=>c=H/\∀b,IU K H a b->b[i]?=some x,λi H=>∃b,IU K H a b/\b.length<=i⟩
def QN(lo:Int)(n:Nat):It:=⟨λi _=>i<n,λi H x a=>a=H/\x = .int (lo+i),λi _=>n<=i⟩
def Ts{P:HV}{w:HX}{K:VA}{tg:IC}(a g:A3):MJ P w K tg (P_ K a) [g] g (λi h=>h.IsListIter g a i) where
 mem:=by simp
 obj:=λi h st b j=>by
  have e:b=g:=by simpa using j
  subst e;obtain⟨o,e,c,d⟩:=st;exact⟨o,e,λv z=>by rw[d]at z;cases z⟩
 keep:=λi h m st k=>st.at λo e=>k g (by simp) o e
 item:=by
  intro X r t y N i f s σ H E I n st A;subst r t y;obtain⟨O,x,q,B⟩:=A;obtain⟨C,D,p,Q⟩:=I.list q;obtain⟨u,R,S⟩:=D.get B;obtain⟨F,G,T,J,L,M⟩:=n g (by simp);refine wpAny_pyNext_list_item st p.isList (x:=u) (by simpa using R) λm l U=>?_;have V:Inv X f σ H { s with heap:=m }:=I.turned (t':=s.toks) (λb o j e=>(U.2 b j).trans e) F G J L M;obtain⟨o,e,c,d⟩:=id l;exact⟨u,rfl,Vy (s:={ s with heap:=m }) e c d (by decide) ⟨x,H,V,S,⟨rfl,λys Y=>by rw[I.list_inj Y q];exact B⟩,l,λb j=>(n b j).1⟩⟩
 done:=by
  intro X r t y N i f s σ H E I n st A;subst r t y;obtain⟨O,q,B⟩:=A;obtain⟨C,D,p,Q⟩:=I.list q;obtain⟨F,G,T,J,L,M⟩:=n g (by simp);have hl:=D.length;exact wpAny_pyNext_list_end (I.ok.hd N) st p.isList (by simp;lia) λm Z=>⟨rfl,I.turned (t':=s.toks) (λb o j e=>Z b o j e) F G J L M⟩
 self:=λ_ _ _ _ _ st h=>wpAny_pyIter_listiter st h
def Od{P:HV}{w:HX}{K:VA}{tg:IC}(a g:A3):MJ P w K tg (Itt K a) [g] g (λi h=>h.IsTupleIter g a i) where
 mem:=by simp
 obj:=λi h st b j=>by
  have e:b=g:=by simpa using j
  subst e;obtain⟨o,e,c,d⟩:=st;exact⟨o,e,λv z=>by rw[d]at z;cases z⟩
 keep:=λi h n st k=>st.at λo e=>k g (by simp) o e
 item:=by
  intro X t y A N i f s σ H E I q st B;subst t y A;obtain⟨O,x,r,C⟩:=B;obtain⟨l,D,p,Q⟩:=I.tuple r;obtain⟨u,R,S⟩:=D.get C;obtain⟨F,G,T,J,L,M⟩:=q g (by simp);refine wpAny_pyNext_tuple_item st (show s.heap.IsTuple a l.toArray from p) (x:=u) (by simpa using R) λn m U=>?_;have V:Inv X f σ H { s with heap:=n }:=I.turned (t':=s.toks) (λb o j e=>(U.2 b j).trans e) F G J L M;obtain⟨o,e,c,d⟩:=id m;exact⟨u,rfl,Vy (s:={ s with heap:=n }) e c d (by decide) ⟨x,H,V,S,⟨rfl,λys Y=>by rw[I.tuple_inj Y r];exact C⟩,m,λb j=>(q b j).1⟩⟩
 done:=by
  intro X t y A N i f s σ H E I q st B;subst t y A;obtain⟨O,r,C⟩:=B;obtain⟨l,D,p,Q⟩:=I.tuple r;obtain⟨F,G,T,J,L,M⟩:=q g (by simp);have hl:=D.length;exact wpAny_pyNext_tuple_end (I.ok.hd N) st (show s.heap.IsTuple a l.toArray from p) (by simp;lia) λn Z=>⟨rfl,I.turned (t':=s.toks) (λb o j e=>Z b o j e) F G J L M⟩
 self:=λ_ _ _ _ _ st h=>wpAny_pyIter_tupleiter st h
def Om{P:HV}{w:HX}{K:VA}{tg:IC}(a:A3)(lo:Int)(n:Nat):MJ P w K tg (QN lo n) [a] a (λi h=>IsRangeIter h a (lo +(i:Nat)*1) ((n:Int)-(i:Nat)) 1) where
 mem:=by simp
 obj:=λi h st b d=>by
  have e:b=a:=by simpa using d
  subst e;exact⟨_,st,λv z=>by
   have D:Data.fields _=Data.cell v:=z;cases D⟩
 keep:=λi h g st k=>k a (by simp) _ st
 item:=by
  intro X l m p q i c s σ H E I j st r;subst l m p;obtain⟨u,x,F,y,A,B⟩:=j a (by simp);have W:=Walks.range (prog:=X.prog) (w:=X.w) (I.ok.hd q) a lo 1 n;refine W.item i s _ _ r st λv g C G f kk=>?_;obtain⟨t,rfl⟩:=G;have J:Inv X c σ H { s with heap:=g,toks:=C }:=I.turned (λb o d e=>kk b o (by simpa using d) e) u x y A B;refine⟨_,rfl,Vy (s:={ s with heap:=g,toks:=C }) (n := "range_iterator") f rfl rfl (by decide) ⟨.int (lo+i),H,J,⟨t,?_⟩,⟨rfl,rfl⟩,f,λb d=>(j b d).1⟩⟩;rw[Int.mul_one]
 done:=by
  intro X l m p q i c s σ H E I j st r;subst l m p;obtain⟨u,x,F,y,A,B⟩:=j a (by simp);exact wpAny_pyNext_range_end (I.ok.hd q) st (by have:n<=i:=r;lia) λg L=>⟨rfl,I.turned (t':=s.toks) (λb o d e=>L b o d e) u x y A B⟩
 self:=λ_ _ _ _ _ st h=>wpAny_pyIter_rangeiter st h
section
variable{X:Cx}{tg:IC}
def zBz(K:VA)(tl:TE):TI:=λσ H R=>tl σ H λx b=>∃a,x = .ref a/\(∃c,IG K b a c)/\R (P_ K a) b
def zFo(K:VA)(tl:TE):TI:=λσ H R=>tl σ H λx b=>∃a,x = .ref a/\(∃c,IU K b a c)/\R (Itt K a) b
theorem zAb{l:IC}{tl:TE}(g:PE X l tl):PI X tg l (zBz X.K tl):=by
 intro c s σ H R I h;refine I_ (g c s σ H _ I h) λv d ⟨x,i,f,j,k⟩=>?_;obtain⟨a,e,⟨t,m⟩,q⟩:=k;subst e;cases j;obtain⟨n,u,p,w⟩:=f.list m;refine FJ p.isList ?_;refine⟨d.heap.objs.size,[d.heap.objs.size],_,_,i,rfl,f.kept (t':=d.toks) λb o e=>AC _ e,Ts a _,⟨_,AW _ rfl,rfl,rfl⟩,λb r=>?_,q⟩;have e:b=d.heap.objs.size:=by simpa using r
 subst e;exact f.fpOk (VD _) (f.hok.fresh (VD _))
theorem zEa{l:IC}{tl:TE}(i:PE X l tl):PI X tg l (zFo X.K tl):=by
 intro c s σ H R I h;refine I_ (i c s σ H _ I h) λv d ⟨x,j,f,k,m⟩=>?_;obtain⟨a,e,⟨t,n⟩,q⟩:=m;subst e;cases k;obtain⟨g,u,p,w⟩:=f.tuple n;refine FW (show d.heap.IsTuple a g.toArray from p) ?_;refine⟨d.heap.objs.size,[d.heap.objs.size],_,_,j,rfl,f.kept (t':=d.toks) λb o e=>AC _ e,Od a _,⟨_,AW _ rfl,rfl,rfl⟩,λb r=>?_,q⟩;have e:b=d.heap.objs.size:=by simpa using r
 subst e;exact f.fpOk (VD _) (f.hok.fresh (VD _))
theorem Lp{a:A0 (A3×Obj)}{σ:St}{H:Hp}{s:A4}{R:It->Hp->Prop}{E:A2->A4->Prop}{lo hi:Int}{t u v:Tok}{c:Nat}(I:Inv X a σ H s)(h1:-(2^62)<=lo)(h2:lo<2^62)(f:-(2^62)<=hi)(g:hi<2^62)
  (q:R (QN lo (hi-lo).toNat) H):wpAny (model X.prog X.w) X.A (pyIter (.ref s.heap.objs.size)) (PIE X a σ tg R) E { s with heap:=s.heap.push { cls:=.type "range",data:=.fields #[.int lo t,.int hi u,.int 1 v] },toks:=c }:=by
 refine wpAny_pyIter_range (IsRange.new ..) (small_one h1 h2 f g) ?_;have d:Inv X a σ H { s with heap:=s.heap.push { cls:=.type "range",data:=.fields #[.int lo t,.int hi u,.int 1 v] },toks:=c }:=I.kept λb o e=>AC _ e;refine⟨(s.heap.push { cls:=.type "range",data:=.fields #[.int lo t,.int hi u,.int 1 v] }).objs.size,[(s.heap.push { cls:=.type "range",data:=.fields #[.int lo t,.int hi u,.int 1 v] }).objs.size],_,_,H,rfl,
  d.kept (t':=c) λb o e=>AC _ e,Om _ lo (hi-lo).toNat,?_,λb h=>?_,q⟩
 .have i:lo +((0:Nat):Int)*1=lo:=by simp
  have j:(((hi-lo).toNat:Nat):Int)-((0:Nat):Int)=Builtin.Range.rangeSize lo hi 1:=by rw[rangeSize_one];split<;>lia
  show IsRangeIter _ _ (lo +((0:Nat):Int)*1) ((((hi-lo).toNat:Nat):Int)-((0:Nat):Int)) 1;rw[i,j];exact AW _ rfl
 .have e:b =(s.heap.push { cls:=.type "range",data:=.fields #[.int lo t,.int hi u,.int 1 v] }).objs.size:=by simpa using h
  subst e;exact d.fpOk (VD _) (d.hok.fresh (VD _))
def zEk(a:TA):TI:=λσ H R=>a σ H λb c=>∃j:Int,b = [.int j]/\-(2^62)<=j/\j<2^62/\R (QN 0 j.toNat) c
def zEz(a:TA):TI:=λσ H R=>a σ H λb c=>∃i j:Int,b = [.int i,.int j]/\(-(2^62)<=i/\i<2^62/\-(2^62)<=j/\j<2^62)/\R (QN i (j-i).toNat) c
theorem Sc{a:IC}{f:TA}{p b:Pos}(g:Gl X "range")(i:X.mg "range" = none)(k:PA X [a] f)(l:starEach [a] X.env = [(false,eval a X.env)]:=by rfl):PI X tg (.Call (.Name "range" p) [a] [] b) (zEk f):=by
 intro c s σ H R I h;refine Call_ (Am I g i boot_range (VP (I_ (k b c s σ H _ I h) λv w ⟨x,y,m,n,d⟩=>?_) l rfl));obtain⟨j,e,d,o,q⟩:=d;subst e;cases n with
 | cons r u =>
  cases u;obtain⟨t,rfl⟩:=r;exact call_range_1 (Lp m (by lia) (by lia) d o (by simpa using q))
theorem Tv{a b:IC}{l:TA}{p c:Pos}(m:Gl X "range")(n:X.mg "range" = none)(o:PA X [a,b] l)(u:starEach [a,b] X.env = [(false,eval a X.env),(false,eval b X.env)]:=by rfl)(d:starEach [b] X.env = [(false,eval b X.env)]:=by rfl) :
  PI X tg (.Call (.Name "range" p) [a,b] [] c) (zEz l):=by
 intro f s σ H R I h;refine Call_ (Am I m n boot_range (VP (I_ (o c f s σ H _ I h) λB C ⟨D,E,v,w,g⟩=>?_) (by rw[u,d]) (by rw[d];rfl)));obtain⟨i,j,e,⟨g,x,y,z⟩,q⟩:=g;subst e;cases w with
 | cons r k =>
  cases k with
  | cons A k =>
   cases k;obtain⟨t,rfl⟩:=r;obtain⟨F,rfl⟩:=A;exact call_range_2 (Lp v g x y z q)
def zHq(c:TI)(g:TG)(d:TS):TS:=λD σ H=>c σ H λJ e=>∃W:Nat->Nat->St->Hp->Prop,(∃m,W 0 m σ e)/\∀i m σ H,W i m σ H ->
 (J.stop i H/\D.nx σ H)\/(J.go i H/\∃N:St->Hp->Prop,(∀σ' a,N σ' a->∃b,b < m/\W (i+1) b σ' a)/\∀x a,J.yld i H x a->g x σ a λσ2 f=>d { D with nx:=N,ct:=N,bk:=D.nx } σ2 f)
def Gd(fp:A0 A3)(h:H_):A0 (A3×Obj):=fp.filterMap λb=>(h.get? b).map λo=>(b,o)
theorem Y5{fp:A0 A3}{h:H_}{b:A3}{o:Obj}(a:b∈fp)(e:h.get? b=some o):(b,o)∈Gd fp h:=List.mem_filterMap.mpr ⟨b,a,by rw[e];rfl⟩
theorem Rw{fp:A0 A3}{h:H_}{p:A3×Obj}(a:p∈Gd fp h):p.1∈fp/\h.get? p.1=some p.2:=by
 obtain⟨b,c,e⟩:=List.mem_filterMap.mp a;cases q:h.get? b with
 | none=>rw[q]at e;cases e
 | some o =>
  rw[q]at e;have d:(b,o)=p:=BU e;subst d;exact⟨c,q⟩
theorem Inv.pinned{a:A0 (A3×Obj)}{σ:St}{H:Hp}{s:A4}{fp:A0 A3}(I:Inv X a σ H s)(g:∀b∈fp,Ea X a H b)(h:∀b∈fp,∃o,s.heap.get? b=some o/\∀v,o.data≠ .cell v):Inv X (a++Gd fp s.heap) σ H s :=
 I.pins_of λp i=>(AO.mp i).elim (λz=>I.pin p (BN _ z)) λz=>by
  obtain⟨c,e⟩:=Rw z;obtain⟨j,k,l,_⟩:=g p.1 c;obtain⟨o,f,d⟩:=h p.1 c;rw[e]at f;cases f;exact⟨e,j,k,l,d⟩
theorem Inv.unpinned{a pl:A0 (A3×Obj)}{σ:St}{H:Hp}{s:A4}(I:Inv X (a++pl) σ H s):Inv X a σ H s:=I.pins_of λp b=>I.pin p (BN _ (CQ _ b))
theorem U1{iter:IC}{q:A0 IL}{S:TI}{g:TG}{U:TS}{L:Pos}(z:PassesOwn (model X.prog X.w) X.A X.env X.xe)(V:X.calm=true)(hi:PI X tg iter S)(hg:PG X tg g)(c:QE X q U)
  (hs:∀x,foldedSetIterable iter X.env x=pure x:=by intro _;rfl):PS X (.For tg iter q [] L) (zHq S g U):=by
 intro a s σ H D I h;refine wpAny_For (I_ (hi a s σ H _ I h) λv s1 h1=>I_ h1 λitv s2 h2=>?_) hs;obtain⟨it,B,tn,J,H2,e,I2,T,M,Y,W,⟨m0,w0⟩,C⟩:=h2;subst e;have j:∀{p:Hp},(∀b∈B,p b=none)->∀b∈B,Ea X a p b:=λhn b c=>⟨hn b c,(Y b c).2⟩;refine codeAny_forLoop_any (λn Z=>∃i σ' p,Inv X a σ' p Z/\tn i Z.heap/\(∀b∈B,p b=none)/\W i n σ' p) ?_ m0 ⟨0,σ,H2,I2,M,λb c=>(Y b c).1,w0⟩;rintro n s3 ⟨i,σ3,K,I3,E,F,w3⟩;rcases C i n σ3 K w3 with⟨stop,qn⟩ | ⟨go,N,hN,step⟩
 .refine FF z (I_ (T.done X rfl rfl rfl V i a s3 σ3 K X.xe I3 (j F) E stop) λr s4 ⟨O,I4⟩=>?_);subst O;exact EV ⟨σ3,K,I4,qn⟩
 .refine FF z (I_ (T.item X rfl rfl rfl V i a s3 σ3 K X.xe I3 (j F) E go) λr s4 ⟨u,O,h4⟩=>?_);subst O;refine FF z (I_ h4 λ_ s5 ⟨x,H5,I5,r5,y5,y,P⟩=>?_);have Q:=I5.pinned (j P) (T.obj _ _ y);refine FF z (I_ (hg _ s5 σ3 H5 x u _ Q r5 (step x H5 y5)) λ_ s6 ⟨σ6,H6,I6,q6⟩=>?_);refine FF z (I_ (c _ s6 σ6 H6 _ I6 q6) λf R t=>?_);have again:∀{σ7:St} {k:Hp},Inv X (a++Gd B s5.heap) σ7 k R->N σ7 k->∃m,m<n/\∃i σ' p,Inv X a σ' p R/\tn i R.heap/\(∀b∈B,p b=none)/\W i m σ' p:=fun{σ7 k} l G=>by
   obtain⟨m',hm,w7⟩:=hN σ7 k G;refine⟨m',hm,i+1,σ7,k,l.unpinned,T.keep _ _ _ y λb c o e=>(l.pin (b,o) (BN _ (BN _ (Y5 c e)))).1,λb c=>?_,w7⟩;obtain⟨o,e,d⟩:=T.obj _ _ y b c;exact(l.pin (b,o) (BN _ (BN _ (Y5 c e)))).2.1
  cases f with
  | next=>obtain⟨σ7,k,l,G⟩:=t;exact again l G
  | cont=>obtain⟨σ7,k,l,G⟩:=t;exact again l G
  | brk=>obtain⟨σ7,k,l,t⟩:=t;exact⟨σ7,k,l.unpinned,t⟩
  | ret v=>obtain⟨x7,σ7,k,l,r7,t⟩:=t;exact⟨x7,σ7,k,l.unpinned,r7,t⟩
end
def Ge{lo:Int}{n:Nat}{g:TG}{c:TS}{D:Ends}{σ:St}{H:Hp}(Pv:Nat->St->Hp->Prop)(f:Pv 0 σ H)
  (h:∀i σ H,i<n->Pv i σ H->g (.int (lo+i)) σ H λσ2 b=>c { D with nx:=Pv (i+1),ct:=Pv (i+1),bk:=D.nx } σ2 b) (j:∀σ H,Pv n σ H->D.nx σ H) :
  ∃W:Nat->Nat->St->Hp->Prop,(∃m,W 0 m σ H)/\∀i m σ H,W i m σ H ->
   ((QN lo n).stop i H/\D.nx σ H)\/((QN lo n).go i H/\∃N:St->Hp->Prop,(∀σ' H',N σ' H'->∃d,d < m/\W (i+1) d σ' H')/\∀x H',(QN lo n).yld i H x H'->g x σ H' λσ2 b=>c { D with nx:=N,ct:=N,bk:=D.nx } σ2 b):=by
 refine⟨λi m σ H=>m=n-i/\i<=n/\Pv i σ H,⟨n,by simp,CB _,f⟩,?_⟩;rintro i m σ H ⟨rfl,l,p⟩;by_cases a:i<n
 .refine .inr ⟨a,Pv (i+1),λσ' H' k=>⟨n-(i+1),by lia,rfl,a,k⟩,λx H' y=>?_⟩;obtain⟨e,y⟩:=y;subst e y;exact h i σ _ a p
 .have e:i=n:=by lia
  subst e;exact .inl ⟨VD _,j σ H p⟩
abbrev R2:=V->V->Hp->VK->Prop
def KH(X:Cx)(f:A2->A2->Sem A2)(r:R2):Prop :=
 ∀(a:A0 (A3×Obj)) (s:A4) (σ:St) (H:Hp) (x y:V) (v u:A2) (Q:VK),Inv X a σ H s->RelV x v->RelV y u->r x y H Q ->
  wpAny (model X.prog X.w) X.A (f v u) (EP X a σ Q) X.xe s
def UnR(X:Cx)(f:A2->Sem A2)(r:V->Hp->VK->Prop):Prop :=
 ∀(a:A0 (A3×Obj)) (s:A4) (σ:St) (H:Hp) (x:V) (v:A2) (Q:VK),Inv X a σ H s->RelV x v->r x H Q ->
  wpAny (model X.prog X.w) X.A (f v) (EP X a σ Q) X.xe s
def K0(X:Cx)(f:A2)(r:A0 V->Hp->VK->Prop):Prop :=
 ∀(a:A0 (A3×Obj)) (s:A4) (σ:St) (H:Hp) (b:A0 V) (c:A0 A2) (Q:VK),Inv X a σ H s->IH b c->r b H Q ->
  wpAny (model X.prog X.w) X.A (call f c) (EP X a σ Q) X.xe s
def zHk(X:Cx)(r:V->Hp->(Bool->Hp->Prop)->Prop):Prop :=
 ∀(a:A0 (A3×Obj)) (s:A4) (σ:St) (H:Hp) (x:V) (v:A2) (Q:Bool->Hp->Prop),Inv X a σ H s->RelV x v->r x H Q ->
  wpAny (model X.prog X.w) X.A (truthy v) (TP X a σ Q) X.xe s
def OL(r:R2)(a b:TE):TE:=λσ H Q=>a σ H λx c=>b σ c λy d=>r x y d Q
def tUn(r:V->Hp->VK->Prop)(a:TE):TE:=λσ H Q=>a σ H λx b=>r x b Q
def rI(C:Int->Int->Prop)(g:Int->Int->V):R2:=λx y H Q=>∃i j,x = .int i/\y = .int j/\C i j/\Q (g i j) H
def QV(g:Int->Int->V):R2:=λx y H Q=>∃i j,x = .int i/\y = .int j/\Q (g i j) H
def rU(g:Int->V):V->Hp->VK->Prop:=λx H Q=>∃i,x = .int i/\Q (g i) H
section
variable{X:Cx}{a b c:IC}{ta tb tc:TE}{pos:Pos}
theorem zFe(i:PE X a ta)(j:PE X b tb){c:A0 (A3×Obj)}{s:A4}{σ:St}{H:Hp}{R:V->V->Hp->Prop}(I:Inv X c σ H s)
  (h:ta σ H λx g=>tb σ g λy d=>R x y d) {Q:A2->A4->Prop} {f:A2->A2->Sem A2}
  (k:∀v u e x y d,Inv X c σ d e->RelV x v->RelV y u->R x y d->wpAny (model X.prog X.w) X.A (f v u) Q X.xe e) :
  wpAny (model X.prog X.w) X.A (eval a X.env) (λv i1=>wpAny (model X.prog X.w) X.A (eval b X.env) (λu n0=>wpAny (model X.prog X.w) X.A (f v u) Q X.xe n0) X.xe i1) X.xe s:=by
 refine I_ (i c s σ H _ I h) λv l ⟨x,g,m,n,o⟩=>?_;refine I_ (j c l σ g _ m o) λu e ⟨y,d,p,q,r⟩=>?_;exact k v u e x y d p n q r
theorem G0{d:Operator}{r:R2}(e:KH X (binaryOp d) r)(f:PE X a ta)(g:PE X b tb):PE X (.BinOp a d b pos) (OL r ta tb):=by
 intro c s σ H Q I h;exact wpAny_BinOp (zFe f g I h λv u i x y j k l m q=>e c i σ j x y v u Q k l m q)
theorem zFd{c:UnaryOp}{r:V->Hp->VK->Prop}(d:UnR X (unaryOp c) r)(e:PE X a ta):PE X (.UnaryOp c a pos) (tUn r ta):=by
 intro b s σ H Q I h;exact UnaryOp_ (I_ (e b s σ H _ I h) λv f ⟨x,g,i,j,k⟩=>d b f σ g x v Q i j k)
theorem SY{f:A2->A2->Sem A2}{C:Int->Int->Prop}{g:Int->Int->Int}
  (rule:∀(i j:Int) (t u:Tok) (s:A4) (Q:A2->A4->Prop) (E:A2->A4->Prop),C i j->Q (.int (g i j) s.toks) { s with toks:=s.toks+1 }->wpAny (model X.prog X.w) X.A (f (.int i t) (.int j u)) Q E s) :
  KH X f (rI C λi j=>.int (g i j)):=by
 intro a s σ H x y v u Q I b c h;obtain⟨i,j,rfl,rfl,d,q⟩:=h;obtain⟨t,rfl⟩:=b;obtain⟨e,rfl⟩:=c;exact rule i j t e s _ _ d ⟨.int (g i j),H,I.tok _,⟨_,rfl⟩,q⟩
theorem zFk{f:A2->A2->Sem A2}{g:Int->Int->Int}
  (rule:∀(i j:Int) (t u:Tok) (s:A4) (Q:A2->A4->Prop) (E:A2->A4->Prop),Q (.int (g i j) s.toks) { s with toks:=s.toks+1 }->wpAny (model X.prog X.w) X.A (f (.int i t) (.int j u)) Q E s) :
  KH X f (QV λi j=>.int (g i j)):=by
 intro a s σ H x y v u Q I b c h;obtain⟨i,j,rfl,rfl,q⟩:=h;obtain⟨t,rfl⟩:=b;obtain⟨d,rfl⟩:=c;exact rule i j t d s _ _ ⟨.int (g i j),H,I.tok _,⟨_,rfl⟩,q⟩
theorem zEs{f:A2->A2->Sem A2}{g:Int->Int->Bool}
  (rule:∀(i j:Int) (t u:Tok) (s:A4) (Q:A2->A4->Prop) (E:A2->A4->Prop),Q (.bool (g i j)) s->wpAny (model X.prog X.w) X.A (f (.int i t) (.int j u)) Q E s) :
  KH X f (QV λi j=>.bl (g i j)):=by
 intro a s σ H x y v u Q I b c h;obtain⟨i,j,rfl,rfl,q⟩:=h;obtain⟨t,rfl⟩:=b;obtain⟨d,rfl⟩:=c;exact rule i j t d s _ _ ⟨.bl (g i j),H,I,rfl,q⟩
def zHp(i j:Int):Prop:=0<j/\j<1073741824
def zGs(i j:Int):Prop:=0<=j/\j<=1000000/\i.natAbs<2^64
def SM(i j:Int):Prop:=(-(2^64)<i/\i<2^64)\/(-(2^64)<j/\j<2^64)
theorem SM.ok{i j:Int}(h:SM i j):IntMulOk i j:=by
 rcases h with⟨a,b⟩ | ⟨a,b⟩
 .exact .of_left (intBits_le_64 a b)
 .exact .of_right (intBits_le_64 a b)
theorem Nr(k:Nat):(0:Int)<=2^k:=by
 rw[two_pow_cast];exact Int.natCast_nonneg _
theorem U6:KH X (binaryOp .Add) (QV λi j=>.int (i+j)):=zFk λ_ _ _ _ _ _ _ q=>add_int q
theorem d9:KH X (binaryOp .Mult) (rI SM λi j=>.int (i*j)):=SY λ_ _ _ _ _ _ _ a q=>mul_int q a.ok
theorem Fb:KH X (binaryOp .FloorDiv) (rI zHp λi j=>.int (i / j)):=SY λi j _ _ _ _ _ a q=>by
 have b:(0:Int)<j:=a.1;have c:j<1073741824:=a.2;exact floordiv_int (by lia) (by rw[Int.fdiv_eq_ediv_of_nonneg i (by lia)];exact q) (.inl (PyProof.noPylong_small (by lia)))
theorem Du:KH X (binaryOp .Mod) (rI (λ_ j=>0<j) λi j=>.int (i % j)):=SY λi j _ _ _ _ _ a q=>by
 have b:(0:Int)<j:=a;exact mod_int' (by lia) (by rw[Int.fmod_eq_emod_of_nonneg i (by lia)];exact q)
theorem zBi:KH X (binaryOp .Pow) (rI zGs λi j=>.int (i^j.toNat)):=SY λ_ _ _ _ _ _ _ a q=>pow_int_small a.1 a.2.1 a.2.2 q
theorem Pz:KH X (binaryOp .LShift) (rI zGs λi j=>.int (i*2^j.toNat)):=SY λ_ _ _ _ _ _ _ a q=>lshift_int_small a.1 a.2.1 a.2.2 q
theorem Pn:KH X (binaryOp .RShift) (rI (λ_ j=>0<=j) λi j=>.int (i / 2^j.toNat)):=SY λi j _ _ _ _ _ a q =>
 rshift_int a (by rw[Int.fdiv_eq_ediv_of_nonneg i (Nr _)];exact q)
theorem La:KH X (binaryOp .BitAnd) (QV λi j=>.int (Builtin.bitAnd i j)):=zFk λ_ _ _ _ _ _ _ q=>and_int q
theorem Vw:KH X (binaryOp .BitOr) (QV λi j=>.int (Builtin.bitOr i j)):=zFk λ_ _ _ _ _ _ _ q=>or_int q
theorem unI{f:A2->Sem A2}{g:Int->Int}
  (rule:∀(i:Int) (t:Tok) (s:A4) (Q:A2->A4->Prop) (E:A2->A4->Prop),Q (.int (g i) s.toks) { s with toks:=s.toks+1 }->wpAny (model X.prog X.w) X.A (f (.int i t)) Q E s) :
  UnR X f (rU λi=>.int (g i)):=by
 intro a s σ H x v Q I b h;obtain⟨i,rfl,q⟩:=h;obtain⟨t,rfl⟩:=b;exact rule i t s _ _ ⟨.int (g i),H,I.tok _,⟨_,rfl⟩,q⟩
theorem zCd:UnR X (unaryOp .Invert) (rU λi=>.int (Builtin.bitNot i)):=unI λ_ _ _ _ _ q=>invert_int q
end
def zFa:V->V->Bool
 | .non,.non=>true | .non,.int _=>true | .int _,.non=>true | .non,.bl _=>true | .bl _,.non=>true | .non,.str _=>true | .str _,.non=>true
 | .int _,.int _=>true | .bl _,.bl _=>true | .str _,.str _=>true | .byt _,.byt _=>true
 | .int _,.str _=>true | .str _,.int _=>true | .bl _,.str _=>true | .str _,.bl _=>true
 | _,_=>false
def rEq:R2:=λx y H Q=>zFa x y=true/\Q (.bl (decide (x=y))) H
def rNe:R2:=λx y H Q=>zFa x y=true/\Q (.bl (!decide (x=y))) H
def Ql{i j:Int}:decide (V.int i=V.int j) =(i == j):=by
 rw[GA];simp
def Xf{i j:Bool}:decide (V.bl i=V.bl j) =(i == j):=by
 rw[GA];simp
def Rr{i j:Str}:decide (V.str i=V.str j) =(i == j):=by
 rw[GA];simp
def Qy{i j:HU UInt8}:decide (V.byt i=V.byt j) =(i.toList == j.toList):=by
 rw[GA];cases i;cases j;simp
section
variable{X:Cx}{a b c:IC}{ta tb tc:TE}{pos:Pos}
theorem J1{a:A0 (A3×Obj)}{σ:St}{H:Hp}{s:A4}{Q:VK}{k b:Bool}(I:Inv X a σ H s)(q:Q (.bl k) H)(e:k=b):EP X a σ Q (.bool b) s:=by
 subst e;exact⟨.bl k,H,I,rfl,q⟩
theorem U2:KH X (compareOp .Eq) rEq:=by
 intro e s σ H x y v u Q I d a h;obtain⟨c,q⟩:=h;cases x with
 | non =>
  cases d;cases y with
  | non=>cases a;exact PySem.EqNone.eq_none_none (J1 I q (by simp))
  | bl j=>cases a;exact PySem.EqNone.eq_none_bool (J1 I q (by simp))
  | int j=>obtain⟨b,rfl⟩:=a;exact PySem.EqNone.eq_none_int (J1 I q (by simp))
  | str j=>obtain⟨b,rfl⟩:=a;exact PySem.EqNone.eq_none_str (J1 I q (by simp))
  | _=>exact absurd (show false=true from c) BE
 | bl i =>
  cases d;cases y with
  | non=>cases a;exact PySem.EqNone.eq_bool_none (J1 I q (by simp))
  | bl j=>cases a;exact eq_bool (J1 I q Xf)
  | str j=>obtain⟨b,rfl⟩:=a;exact PySem.EqMixed.eq_bool_str (J1 I q (by simp))
  | _=>exact absurd (show false=true from c) BE
 | int i =>
  obtain⟨t,rfl⟩:=d;cases y with
  | non=>cases a;exact PySem.EqNone.eq_int_none (J1 I q (by simp))
  | int j=>obtain⟨b,rfl⟩:=a;exact eq_int (J1 I q Ql)
  | str j=>obtain⟨b,rfl⟩:=a;exact PySem.EqMixed.eq_int_str (J1 I q (by simp))
  | _=>exact absurd (show false=true from c) BE
 | str i =>
  obtain⟨t,rfl⟩:=d;cases y with
  | non=>cases a;exact PySem.EqNone.eq_str_none (J1 I q (by simp))
  | bl j=>cases a;exact PySem.EqMixed.eq_str_bool (J1 I q (by simp))
  | int j=>obtain⟨b,rfl⟩:=a;exact PySem.EqMixed.eq_str_int (J1 I q (by simp))
  | str j=>obtain⟨b,rfl⟩:=a;exact eq_str (J1 I q Rr)
  | _=>exact absurd (show false=true from c) BE
 | byt i =>
  obtain⟨t,rfl⟩:=d;cases y with
  | byt j=>obtain⟨b,rfl⟩:=a;exact PySem.W.eq_bytes (J1 I q Qy)
  | _=>exact absurd (show false=true from c) BE
 | _=>cases y<;>exact absurd (show false=true from c) BE
theorem Cy:KH X (compareOp .NotEq) rNe:=by
 intro e s σ H x y v u Q I d a h;obtain⟨c,q⟩:=h;cases x with
 | non =>
  cases d;cases y with
  | non=>cases a;exact PySem.EqNone.ne_none_none (J1 I q (by simp))
  | bl j=>cases a;exact PySem.EqNone.ne_none_bool (J1 I q (by simp))
  | int j=>obtain⟨b,rfl⟩:=a;exact PySem.EqNone.ne_none_int (J1 I q (by simp))
  | str j=>obtain⟨b,rfl⟩:=a;exact PySem.EqNone.ne_none_str (J1 I q (by simp))
  | _=>exact absurd (show false=true from c) BE
 | bl i =>
  cases d;cases y with
  | non=>cases a;exact PySem.EqNone.ne_bool_none (J1 I q (by simp))
  | bl j=>cases a;exact ne_bool (J1 I q (congrArg not Xf))
  | str j=>obtain⟨b,rfl⟩:=a;exact PySem.EqMixed.ne_bool_str (J1 I q (by simp))
  | _=>exact absurd (show false=true from c) BE
 | int i =>
  obtain⟨t,rfl⟩:=d;cases y with
  | non=>cases a;exact PySem.EqNone.ne_int_none (J1 I q (by simp))
  | int j=>obtain⟨b,rfl⟩:=a;exact ne_int (J1 I q (congrArg not Ql))
  | str j=>obtain⟨b,rfl⟩:=a;exact PySem.EqMixed.ne_int_str (J1 I q (by simp))
  | _=>exact absurd (show false=true from c) BE
 | str i =>
  obtain⟨t,rfl⟩:=d;cases y with
  | non=>cases a;exact PySem.EqNone.ne_str_none (J1 I q (by simp))
  | bl j=>cases a;exact PySem.EqMixed.ne_str_bool (J1 I q (by simp))
  | int j=>obtain⟨b,rfl⟩:=a;exact PySem.EqMixed.ne_str_int (J1 I q (by simp))
  | str j=>obtain⟨b,rfl⟩:=a;exact ne_str (J1 I q (congrArg not Rr))
  | _=>exact absurd (show false=true from c) BE
 | byt i =>
  obtain⟨t,rfl⟩:=d;cases y with
  | byt j=>obtain⟨b,rfl⟩:=a;exact PySem.W.ne_bytes (J1 I q (congrArg not Qy))
  | _=>exact absurd (show false=true from c) BE
 | _=>cases y<;>exact absurd (show false=true from c) BE
theorem Nj:KH X (compareOp .Lt) (QV λi j=>.bl (decide (i<j))):=zEs λ_ _ _ _ _ _ _ q=>lt_int q
theorem Vr:KH X (compareOp .LtE) (QV λi j=>.bl (decide (i<=j))):=zEs λ_ _ _ _ _ _ _ q=>le_int q
theorem Yl:KH X (compareOp .Gt) (QV λi j=>.bl (decide (j<i))):=zEs λ_ _ _ _ _ _ _ q=>gt_int q
theorem zFj:KH X (compareOp .GtE) (QV λi j=>.bl (decide (j<=i))):=zEs λ_ _ _ _ _ _ _ q=>ge_int q
theorem Qi:KH X (compareOp .In) (λx y H Q=>∃i j,x = .str i/\y = .str j/\Q (.bl (!(Builtin.Str.occurrences j i 0 j.length 1).isEmpty)) H):=by
 intro a s σ H x y v u Q I b c h;obtain⟨i,j,rfl,rfl,q⟩:=h;obtain⟨t,rfl⟩:=b;obtain⟨d,rfl⟩:=c;exact in_str (J1 I q rfl)
theorem Pr:KH X (compareOp .Is) (λx y H Q=>y = .non/\Q (.bl (decide (x = .non))) H):=by
 intro a s σ H x y v u Q I b c h;obtain⟨rfl,q⟩:=h;cases c;refine is_none_gen (J1 I q ?_);cases x<;>first
  | (cases b;rfl)
  | (obtain⟨t,rfl⟩:=b;rfl)
theorem C8(b:IC){a:CmpOp}(h:a≠ .In:=by decide)(h2:a≠ .NotIn:=by decide):behindInMarks a b=false:=by
 have c:(a == CmpOp.In)=false:=by cases a<;>first | rfl | exact absurd rfl h
 have d:(a == CmpOp.NotIn)=false:=by cases a<;>first | rfl | exact absurd rfl h2
 cases b<;>simp[behindInMarks,c,d]
theorem R0{d:CmpOp}{r:R2}(e:KH X (compareOp d) r)(f:PE X a ta)(g:PE X b tb)(i:behindInMarks d b=false):PE X (.Compare a [d] [b] pos) (OL r ta tb):=by
 intro c s σ H Q I h;exact wpAny_Compare1 (zFe f g I h λv u j x y k l m n q=>e c j σ k x y v u Q l m n q) i
def i8(t:TE):TT:=λσ H Q=>t σ H λx a=>∃k,x = .bl k/\Q k a
theorem B8{f:CmpOp}{r:R2}(g:KH X (compareOp f) r)(i:PE X a ta)(j:PE X b tb)(l:behindInMarks f b=false):PT X (.Compare a [f] [b] pos) (i8 (OL r ta tb)):=by
 intro d s σ H Q I h;refine wpAny_isTrue_Compare1 (I_ (i d s σ H _ I h) λv m ⟨x,n,o,p,q⟩=>I_ (j d m σ n _ o q) λu t ⟨y,w,A,B,C⟩ =>
  I_ (g d t σ w x y v u _ A p B C) λc J ⟨z,D,E,F,k,e,G⟩=>?_) l
 subst e;cases F;exact CZ ⟨D,E,G⟩
def Xz(r b:R2)(ta tb tc:TE):TE:=λσ H Q=>ta σ H λx c=>tb σ c λy d=>r x y d λz a=>∃k,z = .bl k /\
 (if k=true then tc σ a λe f=>b y e f Q else Q (.bl false) a)
theorem Wr{i g:CmpOp}{r l:R2}(q:KH X (compareOp i) r)(j:KH X (compareOp g) l)(t:PE X a ta)(w:PE X b tb)(A:PE X c tc)
  (B:lastMarks [i,g] [b,c]=false:=by with_unfolding_all rfl):PE X (.Compare a [i,g] [b,c] pos) (Xz r l ta tb tc):=by
 intro f s σ H Q I h;refine Compare_chain (I_ (t f s σ H _ I h) λv C ⟨x,D,E,F,G⟩=>chain_link (I_ (w f C σ D _ E G) λu J ⟨y,K,L,m,M⟩ =>
  I_ (q f J σ K x y v u _ L F m M) λd N ⟨z,n,o,O,k,e,p⟩=>?_)) B
 subst e;cases O;refine CZ ?_;cases k with
 | false=>exact ite_ff ⟨.bl false,n,o,rfl,p⟩
 | true=>exact ite_tt (chain_last (I_ (A f N σ n _ o p) λP R ⟨S,T,U,V,W⟩=>j f R σ T y S u P Q U m V W))
theorem Um{i g:CmpOp}{r l:R2}(q:KH X (compareOp i) r)(j:KH X (compareOp g) l)(t:PE X a ta)(w:PE X b tb)(A:PE X c tc)
  (B:lastMarks [i,g] [b,c]=false:=by with_unfolding_all rfl):PT X (.Compare a [i,g] [b,c] pos) (i8 (Xz r l ta tb tc)):=by
 intro f s σ H Q I h;refine isTrue_chain (I_ (t f s σ H _ I h) λv C ⟨x,D,E,F,G⟩=>test_link (I_ (w f C σ D _ E G) λu J ⟨y,K,L,m,M⟩ =>
  I_ (q f J σ K x y v u _ L F m M) λd N ⟨z,n,o,O,k,e,p⟩=>?_)) B
 subst e;cases O;refine CZ ?_;cases k with
 | false =>
  obtain⟨k',P,R⟩:=p;cases P;exact ite_ff ⟨n,o,R⟩
 | true =>
  refine ite_tt (test_last (I_ (A f N σ n _ o p) λS T ⟨U,V,W,Y,Z⟩=>I_ (j f T σ V y U u S _ W m Y Z) λd' s5 ⟨z2,H5,I5,r5,k2,e2,q5⟩=>?_));subst e2;cases r5;exact CZ ⟨H5,I5,q5⟩
def zGe(K:VA)(x:V)(H:Hp)(k:Bool):Prop :=
 match x with
 | .non=>k=false
 | .bl b=>k=b
 | .int i=>k =(i != 0)
 | .str y=>y.length<=sizeLine/\k =((y.length:Int) != 0)
 | .byt y=>y.size<=sizeLine/\k =((y.size:Int) != 0)
 | .ref p=>(∃a,IG K H p a/\k=!a.isEmpty)\/(∃a,IU K H p a/\k=!a.isEmpty)\/∃c,H p=some (.dK c)/\k=!c.isEmpty
 | _=>False
theorem Oa{Z:Type}{kvs:A0 (Z×V)}{vs:A0 (Z×A2)}(r:KV kvs vs):(!vs.isEmpty)=!kvs.isEmpty:=by
 cases r<;>rfl
theorem Dx{xs:A0 V}{its:A0 A2}(r:IH xs its):(!its.toArray.isEmpty)=!xs.isEmpty:=by
 cases r<;>simp
theorem Bs:(sizeLine:Nat)<2^63:=by rw[sizeLine_eq];decide
theorem zEh:zHk X (λx H Q=>∃k,zGe X.K x H k/\Q k H):=by
 intro u s σ H x v Q I g h;obtain⟨k,e,q⟩:=h;have C:=Bs;have D:sizeLine=16777216:=sizeLine_eq;cases x with
 | non =>
  cases g;have a:k=false:=e;subst a;exact truthy_none ⟨H,I,q⟩
 | bl b =>
  cases g;have a:k=b:=e;subst a;exact CZ ⟨H,I,q⟩
 | int i =>
  obtain⟨t,rfl⟩:=g;have a:k =(i != 0):=e;subst a;exact PySem.P.truthy_int ⟨H,I,q⟩
 | str y =>
  obtain⟨t,rfl⟩:=g;obtain⟨A,a⟩:y.length<=sizeLine/\k =((y.length:Int) != 0):=e;subst a;exact PySem.P.truthy_str (by lia) ⟨H,I.tok _,q⟩
 | byt y =>
  obtain⟨t,rfl⟩:=g;obtain⟨A,a⟩:y.size<=sizeLine/\k =((y.size:Int) != 0):=e;subst a;exact PySem.W.truthy_bytes (by lia) ⟨H,I.tok _,q⟩
 | ref p =>
  cases g;have a:(∃f,IG X.K H p f/\k=!f.isEmpty)\/(∃f,IU X.K H p f/\k=!f.isEmpty)\/∃c,H p=some (.dK c)/\k=!c.isEmpty:=e;rcases a with⟨f,j,a⟩ | ⟨f,j,a⟩ | ⟨c,j,a⟩
  .subst a;obtain⟨n,r,o,z⟩:=I.list j;have d:=r.length;exact wpAny_truthy_list o.isList (by simp only[AQ];lia) ⟨H,I.tok _,by rw[Dx r];exact q⟩
  .subst a;obtain⟨n,r,o,z⟩:=I.tuple j;have d:=r.length;exact truthy_tuple o (by simp only[AQ];lia) ⟨H,I.tok _,by rw[Dx r];exact q⟩
  .subst a;obtain⟨z,B,l,r,m⟩:c.length<=sizeLine/\(p == sysModules)=false/\∃l,KV c l/\s.heap.DictOf (C5 X.prog X.w) p l:=I.hok p _ j;have d:c.length=l.length:=Paired.length r;exact wpAny_truthy_dict B m (by lia) ⟨H,I.tok _,by rw[Oa r];exact q⟩
 | _=>exact(show False from e).elim
theorem Wg(d:PE X a ta)(e:∀b,isTrue a X.env b =(do let v <-b;standAt a.pos;holding [v] (truthy v))) :
  PT X a (λσ H Q=>ta σ H λx H'=>∃k,zGe X.K x H' k/\Q k H'):=by
 intro c s σ H Q I h;exact isTrue_plain (I_ (d c s σ H _ I h) λv f ⟨x,g,i,j,l⟩=>zEh c f σ g x v Q i j l) (e _)
theorem No:KH X (binaryOp .Add) (λx y H Q=>∃i j,x = .str i/\y = .str j/\i.length+j.length<=sizeLine/\Q (.str (i++j)) H):=by
 intro a s σ H x y v u Q I b c h;obtain⟨i,j,rfl,rfl,d,q⟩:=h;obtain⟨t,rfl⟩:=b;obtain⟨e,rfl⟩:=c;exact add_str (λe f=>⟨.str (i++j),H,I.tok _,⟨_,rfl⟩,q⟩) d
theorem X5{x:V}{us:A0 A2}(r:IH [x] us):∃u,us = [u]/\RelV x u:=by
 cases r with
 | cons a b=>cases b;exact⟨_,rfl,a⟩
theorem zCn{x y:V}{us:A0 A2}(r:IH [x,y] us):∃u a,us = [u,a]/\RelV x u/\RelV y a:=by
 cases r with
 | cons b c =>
  cases c with
  | cons d e=>cases e;exact⟨_,_,rfl,b,d⟩
theorem Kt:K0 X (.builtin "abs") (λxs H Q=>∃i,xs = [.int i]/\Q (.int (if i<0 then -i else i)) H):=by
 intro a s σ H xs b Q I r h;obtain⟨i,rfl,q⟩:=h;obtain⟨u,rfl,t,rfl⟩:=X5 r;exact call_abs_int λu c=>⟨.int (if i<0 then -i else i),H,I.tok _,⟨_,rfl⟩,q⟩
theorem Tm(c:X.calm=true):K0 X (.builtin "max") (λxs H Q=>∃i j,xs = [.int i,.int j]/\Q (.int (if j>i then j else i)) H):=by
 intro b s σ H xs d Q I r h;obtain⟨i,j,rfl,q⟩:=h;obtain⟨u,e,rfl,⟨t,rfl⟩,⟨f,rfl⟩⟩:=zCn r;refine max_two_ints (I.ok.hd c) λg l k=>⟨_,H,I.kept k,?_,q⟩;by_cases a:j>i
 .rw[AN a,AN a];exact⟨_,rfl⟩
 .rw[AI a,AI a];exact⟨_,rfl⟩
theorem Ti(c:X.calm=true):K0 X (.builtin "min") (λxs H Q=>∃i j,xs = [.int i,.int j]/\Q (.int (if j<i then j else i)) H):=by
 intro b s σ H xs d Q I r h;obtain⟨i,j,rfl,q⟩:=h;obtain⟨u,e,rfl,⟨t,rfl⟩,⟨f,rfl⟩⟩:=zCn r;refine min_two_ints (I.ok.hd c) λg l k=>⟨_,H,I.kept k,?_,q⟩;by_cases a:j<i
 .rw[AN a,AN a];exact⟨_,rfl⟩
 .rw[AI a,AI a];exact⟨_,rfl⟩
theorem Pu:K0 X (.type "int") (λxs H Q=>(∃i,xs = [.int i]/\Q (.int i) H)\/∃k,xs = [.bl k]/\Q (.int (if k then 1 else 0)) H):=by
 intro a s σ H xs c Q I r h;rcases h with⟨i,rfl,q⟩ | ⟨k,rfl,q⟩
 .obtain⟨u,rfl,t,rfl⟩:=X5 r;exact call_int_int ⟨.int i,H,I,⟨_,rfl⟩,q⟩
 .obtain⟨u,rfl,b⟩:=X5 r;cases b;exact call_int_bool ⟨.int (if k then 1 else 0),H,I.tok _,⟨_,rfl⟩,q⟩
end
structure QF(h:H_)(x dx C:A3)(mA:Str->A5 A2):Prop where
 obj:h.get? x=some (PySem.W.instObj C dx)
 ns:h.Ns1 dx mA
 ne:dx≠x
def Qz{h:H_}{c:A3}{d:Str->A5 A2}(n:h.Ns1 c d):∃f,h.get? c=some f/\∀name,PySem.W.lookIn name f=some (d name):=by
 obtain⟨o,g,r,i,j,k,_,l⟩:=n;refine⟨o,i,λname=>?_⟩;have e:=l name;unfold nsFind findBy at e;rw[<-Array.find?_toList]at e;unfold PySem.W.lookIn;rw[j];dsimp only;split
 .rename_i y q;rw[q]at e;exact congrArg some e
 .rename_i q;rw[q]at e;have a:g.toList.any (·.refKey)=false:=by
   rw[List.any_eq_false];intro y m;obtain⟨z,t,b⟩:=k y (Array.mem_toList_iff.mp m);simp[DictEntry.refKey,b]
  have p:¬g.toList.any (·.refKey)=true:=by rw[a];exact BE
  rw[AI p];exact congrArg some e
def QF.look{h:H_}{x b C:A3}{c:Str->A5 A2}(I:QF h x b C c):∃a,PySem.W.InstAt h x (PySem.W.instObj C b) C (some a)/\∀name,PySem.W.lookIn name a=some (c name) :=
 let⟨a,d,e⟩:=Qz I.ns
 ⟨a,⟨I.obj,rfl,rfl,d⟩,e⟩
section
variable{prog:HV}{w:HX}{A:IA}{E:A2->A4->Prop}{s:A4}{K:VA}{x dx C f:A3}{mA:Str->A5 A2}{name:Str}{v:A2}
theorem Ym{a:Bool}{Q:A2->A4->Prop}(X:K.In s.heap)(I:QF s.heap x dx C mA)(c:PySem.W.plainGet K C name=true)(d:PySem.W.hasDictIn K C=true)
  (e:PySem.W.findIn K (.ref C) name=some none) (f:mA name=some v) (b:PySem.W.handedIn v=true) (h:Q v { s with toks:=s.toks+1 }) :
  wpAny (model prog w) A (getAttr (.ref x) name a) Q E s:=by
 obtain⟨i,J,g⟩:=I.look;exact PySem.W.get_value X J (PySem.W.plainGet_of c).1 (PySem.W.findObj_own d e rfl (by rw[g,f])) b h
theorem Vh{pl:Sem Bool}{Q:A2×A0 A2->A4->Prop}(X:K.In s.heap)(I:QF s.heap x dx C mA)(a:PySem.W.plainGet K C name=true)
  (b:PySem.W.findIn K (.ref C) name=some (some (.ref f))) (c:PySem.W.isFn K (.ref f)=true) (d:mA name=none) (h:Q (.ref f,[.ref x]) s) :
  wpAny (model prog w) A (getMethod (.ref x) name pl) Q E s:=by
 obtain⟨e,J,g⟩:=I.look;exact PySem.W.method_fn X J (PySem.W.plainGet_of a).1 (PySem.W.plainGet_of a).2 b (beq_iff_eq.mp c) (by show(PySem.W.lookIn name e).map (·.isSome)=some false;rw[g,d];rfl) h
theorem zAl{ns:A0 Str}{Q:Unit->A4->Prop}(X:K.In s.heap)(I:QF s.heap x dx C mA)
  (j:PySem.W.findIn K (.ref C) "__setattr__" = some (some (.builtin "object.__setattr__"))) (k:PySem.W.plainOver K C=true) (l:PySem.W.takerIn K C name=some none) (m:PySem.W.hasDictIn K C=true)
  (hw:PySem.Within mA ns) (hsz:ns.length<=sizeLine)
  (h:∀h',QF h' x dx C (λy=>if y=name then some v else mA y)->Heap.SameBut dx s.heap h'->Q () { s with heap:=h',toks:=s.toks+2 }) :
  wpAny (model prog w) A (setAttr (.ref x) name v) Q E s:=by
 obtain⟨t,J,u⟩:=I.look;refine PySem.W.set_plain X J j (PySem.W.osa_open (s:={ s with toks:=s.toks+1 }) (r:=none) X J k l λb=>?_);obtain⟨z,n,e⟩:=PySem.W.any_some m;have o:s.heap.get? x=some ⟨.ref C,some dx,.plain,#[]⟩:=I.obj;refine AA (AD (AA (AA (wpAny_loadPart o (AA (PySem.W.Looks.here (s:={ s with toks:=s.toks+1 }) (PySem.W.looks_clsIn X n) ?_))))));rw[e];refine AD (a:=some dx) (AA (AD (AA ?_)));refine wpAny_nsSet1 (s:={ s with toks:=s.toks+1 }) I.ns λh' c d=>?_;obtain⟨B,p,q,f,g,i⟩:=c.count (PySem.Within.cons name v hw);refine AA (wpAny_lookBehind f (by rw[g];exact pastItsLine_dict (VE i (by rw[BQ];lia))) ?_);exact AD (h _ ⟨(d.2 _ (Ne.symm I.ne)).trans I.obj,c,I.ne⟩ d)
theorem Vp{R:Result->A4->Prop}{vs:A0 A2}{b:A0 (Str×A2)}(X:K.In s.heap)(c:PySem.W.makesIn K C=true)
  (hi:PySem.W.findIn K (.ref C) "__init__" = some (some (.ref f))) (e:PySem.W.typeIn K (.ref f)=some (.type "function"))
  (h:codeAny (model prog w) (A.under (.builtin "type.__call__" ⟨.ref C::vs,b⟩)) (.call (.ref f) ⟨.ref (s.heap.objs.size+1)::vs,b⟩) (PySem.W.InitBack (s.heap.objs.size+1) R)
   { s with heap:=(s.heap.push PySem.W.emptyDict).push (PySem.W.instObj C s.heap.objs.size) }) :
  codeAny (model prog w) A (.call (.ref C) ⟨vs,b⟩) R s:=by
 obtain⟨i,g,d,t,os⟩:=s;exact PySem.W.make_core (PySem.W.makes_of X c) (PySem.W.looks_findIn X hi) (λa=>PySem.W.bind_fn X a e) (.inl rfl) h
end
def Q0(f:Str)(v:V):A0 (Str×V)->A0 (Str×V)
 | []=>[(f,v)]
 | (g,x)::r=>if g=f then(g,v)::r else(g,x)::Q0 f v r
def Bp(f g:Str)(v:V):∀c:A0 (Str×V),(Q0 f v c).lookup g=if g=f then some v else c.lookup g
 | []=>by
  show List.lookup g [(f,v)]=_;by_cases h:g=f
  .have a:(g == f)=true:=beq_iff_eq.mpr h;simp only[List.lookup,a,AN h]
  .have a:(g == f)=false:=beq_eq_false_iff_ne.mpr h;simp only[List.lookup,a,AI h]
 | (k,x)::r=>by
  have d:=Bp f g v r;rw[show Q0 f v ((k,x)::r) =(if k=f then(k,v)::r else(k,x)::Q0 f v r)from rfl];by_cases b:k=f
  .rw[AN b];by_cases h:g=k
   .have a:(g == k)=true:=beq_iff_eq.mpr h;simp only[List.lookup,a,AN (h.trans b)]
   .have a:(g == k)=false:=beq_eq_false_iff_ne.mpr h;simp only[List.lookup,a,AI (λe:g=f=>h (e.trans b.symm))]
  .rw[AI b];by_cases h:g=k
   .have a:(g == k)=true:=beq_iff_eq.mpr h;simp only[List.lookup,a,AI (λe:g=f=>b (h.symm.trans e))]
   .have a:(g == k)=false:=beq_eq_false_iff_ne.mpr h;simp only[List.lookup,a];exact d
def Bv(f:Str)(v:V):∀a:A0 (Str×V),f∈(Q0 f v a).map (·.1)/\∀g,g∈a.map (·.1)->g∈(Q0 f v a).map (·.1)
 | []=>⟨by simp[Q0],λg h=>by simp at h⟩
 | (k,x)::r=>by
  obtain⟨c,d⟩:=Bv f v r;rw[show Q0 f v ((k,x)::r) =(if k=f then(k,v)::r else(k,x)::Q0 f v r)from rfl];by_cases b:k=f
  .rw[AN b];subst b;exact⟨by simp,λg h=>by simpa using h⟩
  .rw[AI b];refine⟨?_,λg h=>?_⟩
   .rw[BM];exact AL _ c
   .rw[BM]at h⊢;rcases AR.mp h with e | e
    .exact AR.mpr (.inl e)
    .exact AL _ (d g e)
def Cn(f:Str)(v:V):∀a:A0 (Str×V),(Q0 f v a).length<=a.length+1
 | []=>by simp[Q0]
 | (k,x)::r=>by
  have c:=Cn f v r;rw[show Q0 f v ((k,x)::r) =(if k=f then(k,v)::r else(k,x)::Q0 f v r)from rfl];by_cases b:k=f
  .rw[AN b,BQ,BQ];lia
  .rw[AI b,BQ,BQ];lia
def LV.some_of{v:V}{o:A5 A2}(r:LV (some v) o):∃u,o=some u/\RelV v u:=by
 cases o with
 | none=>exact(show False from r).elim
 | some u=>exact⟨u,rfl,r⟩
def LV.none_of{o:A5 A2}(r:LV none o):o=none:=by
 cases o with
 | none=>rfl
 | some u=>exact(show False from r).elim
def So{v:V}{u:A2}(r:RelV v u):PySem.W.handedIn u=true:=by
 cases v with
 | non=>cases(show u=Value.none from r);rfl
 | bl b=>cases(show u=Value.bool b from r);rfl
 | int i=>obtain⟨t,e⟩:=(show ∃t,u=Value.int i t from r);cases e;rfl
 | str x=>obtain⟨t,e⟩:=(show ∃t,u=Value.str x t from r);cases e;rfl
 | byt b=>obtain⟨t,e⟩:=(show ∃t,u=Value.bytes b t from r);cases e;rfl
 | flt b=>obtain⟨t,e⟩:=(show ∃t,u=Value.float b t from r);cases e;rfl
 | ref a=>cases(show u=Value.ref a from r);rfl
 | ty n=>cases(show u=Value.type n from r);rfl
section
variable{P:HV}{w:HX}{H H':Hp}{h h':H_}{a C dx:A3}{fs fs':A0 (Str×V)}
theorem En(c:MU P w H h)(e:H a=some (.ins C dx fs)):∃b,QF h a dx C b/\(∀f,LV (fs.lookup f) (b f))/\PySem.Within b (fs.map (·.1))/\fs.length<=1000/\H dx=some (.own a):=by
 obtain⟨d,z,g,i,b,n,r,q⟩:=(show IS P w H h a (.ins C dx fs)from c a _ e);exact⟨b,⟨i,n,g⟩,r,q,z,d⟩
end
structure QP(K:VA)(C:A3):Prop where
 pg:PySem.W.plainGet K C Str.empty=true
 hd:PySem.W.hasDictIn K C=true
 po:PySem.W.plainOver K C=true
 sa:PySem.W.findIn K (.ref C) "__setattr__" = some (some (.builtin "object.__setattr__"))
def QP.get{K:VA}{C:A3}(c:QP K C)(f:Str):PySem.W.plainGet K C f=true:=c.pg
def JI(K:VA)(C:A3)(f:Str):Prop:=PySem.W.findIn K (.ref C) f=some none
def JI.taker{K:VA}{C:A3}{f:Str}(n:JI K C f):PySem.W.takerIn K C f=some none:=by
 unfold PySem.W.takerIn;rw[show PySem.W.findIn K (.ref C) f=some none from n];rfl
structure QG(K:VA)(C:A3)(m:Str)(f:A3):Prop where
 at_:PySem.W.findIn K (.ref C) m=some (some (.ref f))
 fn:PySem.W.isFn K (.ref f)=true
 kp:PySem.W.keepIn K (.ref f)=true
section
variable{X:Cx}{pins:A0 (A3×Obj)}{σ:St}{H:Hp}{s:A4}{a C dx:A3}{fs:A0 (Str×V)}{f:Str}{v:V}{A:IA}{E:A2->A4->Prop}
theorem Mx{b:Bool}{Q:A2->A4->Prop}(I:Inv X pins σ H s)(e:H a=some (.ins C dx fs))(c:QP X.K C)(n:JI X.K C f)(l:fs.lookup f=some v)
  (h:∀u d,Inv X pins σ H d->RelV v u->Q u d):wpAny (model X.prog X.w) A (getAttr (.ref a) f b) Q E s:=by
 obtain⟨i,O,r,_,_,_⟩:=En I.hok e;obtain⟨u,j,g⟩:=LV.some_of (v:=v) (o:=i f) (by rw[<-l];exact r f);exact Ym I.kIn O (c.get f) c.hd n j (So g) (h u _ (I.tok _) g)
theorem y3{m:Str}{g:A3}{pl:Sem Bool}{Q:A2×A0 A2->A4->Prop}(I:Inv X pins σ H s)(e:H a=some (.ins C dx fs))(c:QP X.K C)(k:QG X.K C m g)(l:fs.lookup m=none)
  (h:Q (.ref g,[.ref a]) s):wpAny (model X.prog X.w) A (getMethod (.ref a) m pl) Q E s:=by
 obtain⟨b,O,r,_,_,_⟩:=En I.hok e;have d:b m=none:=LV.none_of (by rw[<-l];exact r m);exact Vh I.kIn O (c.get m) k.at_ k.fn d h
theorem Nx{y:V}{u:A2}{Q:Unit->A4->Prop}(I:Inv X pins σ H s)(e:H a=some (.ins C dx fs))(c:QP X.K C)(n:JI X.K C f)(J:fs.length<1000)(m:RelV y u)
  (h:∀i,Inv X pins σ (HY H a (.ins C dx (Q0 f y fs))) i->Q () i):wpAny (model X.prog X.w) A (setAttr (.ref a) f u) Q E s:=by
 obtain⟨j,O,r,k,_,l⟩:=En I.hok e;have p:(fs.map (·.1)).length<=sizeLine:=by rw[AB,sizeLine_eq];lia
 refine zAl I.kIn O c.sa c.po n.taker c.hd k p λt d v=>h _ ?_;have B:∃o,t.get? dx=some o:=let⟨o,_,_,D,_⟩:=d.ns;⟨o,D⟩;refine I.write (x:=a) (e:=dx) (by rw[e];exact VC) (.inr l) (λb q F z=>(v.2 b F).trans z) B ?_;refine⟨by rw[B7 O.ne];exact l,?_,O.ne,d.obj,_,d.ns,λg=>?_,λg G=>?_⟩
 .have:=Cn f y fs;lia
 .show LV ((Q0 f y fs).lookup g) (if g=f then some u else j g);rw[Bp];by_cases q:g=f
  .rw[AN q,AN q];exact m
  .rw[AI q,AI q];exact r g
 .by_cases q:g=f
  .rw[q];exact(Bv f y fs).1
  .refine(Bv f y fs).2 g (k g λz=>G ?_);show(if g=f then some u else j g)=none;rw[AI q];exact z
theorem Inv.made(I:Inv X pins σ H s):Inv X pins σ (HY (HY H s.heap.objs.size (.own (s.heap.objs.size+1))) (s.heap.objs.size+1) (.ins C s.heap.objs.size []))
  { s with heap:=(s.heap.push PySem.W.emptyDict).push (PySem.W.instObj C s.heap.objs.size) }:=by
 have c:(s.heap.push PySem.W.emptyDict).get? s.heap.objs.size=some PySem.W.emptyDict:=AW s.heap rfl;have f:((s.heap.push PySem.W.emptyDict).push (PySem.W.instObj C s.heap.objs.size)).get? (s.heap.objs.size+1)=some (PySem.W.instObj C s.heap.objs.size):=by
  have:=AW (s.heap.push PySem.W.emptyDict) (o:=PySem.W.instObj C s.heap.objs.size) rfl
  rwa [CT]at this
 have g:(s.heap.push PySem.W.emptyDict).Ns s.heap.objs.size (λ_=>none):=⟨PySem.W.emptyDict,#[],_,c,rfl,(λe h=>absurd h (by simp)),λ_=>rfl⟩;have i:=I.laid (a:=s.heap.objs.size) (o:=.own (s.heap.objs.size+1)) (h':=s.heap.push PySem.W.emptyDict) (t':=s.toks) (λb u q=>AC _ q) (VD _) ⟨_,c⟩;refine i.laid (a:=s.heap.objs.size+1) (o:=.ins C s.heap.objs.size []) (t':=s.toks) (λb u q=>AC _ q) (VF (CT _ _)) ?_;have d:s.heap.objs.size≠s.heap.objs.size+1:=BA (FA _);refine⟨by rw[B7 d,A7],CB _,d,f,λ_=>none,(Heap.Ns1.of_empty g).at λo q=>AC _ q,λ_=>VC,λy j=>absurd rfl j⟩
theorem zAq{prog:HV}{w:HX}{a:QS}{e:IC}{f:Str}{b:Pos}{s:A4}{Q:A2->A4->Prop}(c:attributeBase e f a (eval e a)=eval e a)
  (h:wpAny (model prog w) A (eval e a) (λo i1=>wpAny (model prog w) A (getAttr o f true) Q E i1) E s):wpAny (model prog w) A (eval (.Attribute e f b) a) Q E s :=
 Attribute_any_ h (by rw[arm_eval_Attribute,c])
end
def zGu(K:VA)(d:TE)(f:Str):TE:=λσ H Q=>d σ H λx b=>∃a C e c v,x = .ref a/\b a=some (.ins C e c)/\QP K C/\JI K C f/\c.lookup f=some v/\Q v b
def zGt(K:VA)(e g:TE)(f:Str):TS:=λD σ H=>g σ H λy h=>e σ h λx c=>∃a C d b,x = .ref a/\c a=some (.ins C d b)/\QP K C/\JI K C f/\b.length<1000 /\
 D.nx σ (HY c a (.ins C d (Q0 f y b)))
section
variable{X:Cx}{o e value:IC}{f:Str}{pos pos' tpos:Pos}{ta tv:TE}
theorem zCh(d:PE X e ta)(g:attributeBase e f X.env (eval e X.env)=eval e X.env):PE X (.Attribute e f pos) (zGu X.K ta f):=by
 intro b s σ H Q I h;refine zAq g (I_ (d b s σ H _ I h) λu t ⟨x,i,j,k,a,C,w,y,v,m,o,c,n,l,q⟩=>?_);subst m;obtain rfl:u=Value.ref a:=k;exact Mx j o c n l λz A p r=>⟨v,i,p,r,q⟩
theorem zBm(d:PE X o ta)(e:PE X value tv)(g:swapsWith value (some (.Attribute o f pos')) pos.line X.env=pure false):PS X (.Assign [.Attribute o f pos'] value pos) (zGt X.K ta tv f):=by
 intro b s σ H D I h;refine plainObj_wpAny_Assign_Attribute (I_ (e b s σ H _ I h) λu i ⟨y,j,k,m,q⟩=>I_ (d b i σ j _ k q) λp B ⟨x,E,r,t,a,C,F,G,v,w,c,n,l,z⟩=>?_) g;subst v;obtain rfl:p=Value.ref a:=t;exact Nx r w c n l m λJ A=>⟨σ,_,A,z⟩
end
section
variable{X:Cx}{pins:A0 (A3×Obj)}{σ:St}{H:Hp}{s:A4}{A:IA}{E:A2->A4->Prop}{Q:A2->A4->Prop}{c:A2}{b:Bool}
inductive MA(K:VA)(H:Hp):V->A2->Prop where
 | non:MA K H .non (.type "NoneType")
 | bl (x:Bool):MA K H (.bl x) (.type "bool")
 | int (i:Int):MA K H (.int i) (.type "int")
 | str (x:Str):MA K H (.str x) (.type "str")
 | flt (x:UInt64):MA K H (.flt x) (.type "float")
 | lst {a:A3} {xs:A0 V} (e:H a=some (.lst xs)):MA K H (.ref a) (.type "list")
 | frz {a:A3} {o:Obj} {xs:A0 V} (e:H a=some (.frz o (.lst xs))):MA K H (.ref a) (.type "list")
 | tup {a:A3} {xs:A0 V} (e:H a=some (.tup xs)):MA K H (.ref a) (.type "tuple")
 | dK {a:A3} {kvs:A0 (IQ×V)} (e:H a=some (.dK kvs)):MA K H (.ref a) (.type "dict")
 | dT {a:A3} {kvs:A0 (A0 IQ×V)} (e:H a=some (.dT kvs)):MA K H (.ref a) (.type "dict")
 | ins {a C dx:A3} {fs:A0 (Str×V)} (e:H a=some (.ins C dx fs)) (cl:QP K C) (ha:PySem.W.findIn K (.ref C) "__class__" = some (some (.builtin "object.__class__")))
   (hn:PySem.W.specialIn K (.builtin "object.__class__") "__get__" = some (some (.builtin "getset_descriptor.__get__"))) (htk:PySem.W.takesIn K (.builtin "object.__class__")=some true)
   (hm:PySem.W.mroIn K C (.type "object")=some true):MA K H (.ref a) (.ref C)
theorem Tl{x:V}{u t:A2}(I:Inv X pins σ H s)(d:RelV x u)(ty:MA X.K H x t)(e:PySem.W.kitOne X.K t c=some b)(h:∀v,Q (.bool b) { s with toks:=v }) :
  wpAny (model X.prog X.w) A (call (.builtin "isinstance") [u,c]) Q E s:=by
 cases ty with
 | non=>cases(show u=Value.none from d);exact VQ PySem.W.kitx_none I.kIn VC e (λz=>nomatch z) h
 | bl y=>cases(show u=Value.bool y from d);exact VQ PySem.W.kitx_bool I.kIn VC e (λz=>nomatch z) h
 | int i=>obtain⟨t,q⟩:=(show ∃t,u=Value.int i t from d);cases q;exact VQ PySem.W.kitx_int I.kIn VC e (λz=>nomatch z) h
 | str y=>obtain⟨t,q⟩:=(show ∃t,u=Value.str y t from d);cases q;exact VQ PySem.W.kitx_str I.kIn VC e (λz=>nomatch z) h
 | flt y=>obtain⟨t,q⟩:=(show ∃t,u=Value.float y t from d);cases q;exact VQ PySem.W.kitx_float I.kIn VC e (λz=>nomatch z) h
 | @lst a k f =>
  cases(show u=Value.ref a from d);obtain⟨_,_,n,_,g⟩:=(show IS X.prog X.w H s.heap a (.lst k)from I.hok a _ f);exact VQ PySem.W.kitx_list I.kIn ⟨_,g,rfl⟩ e (λz=>nomatch z) h
 | @frz a B k f =>
  cases(show u=Value.ref a from d);obtain⟨_,_,_,n,_,g⟩:=(show IS X.prog X.w H s.heap a (.frz B (.lst k))from I.hok a _ f);exact VQ PySem.W.kitx_list I.kIn ⟨_,g,rfl⟩ e (λz=>nomatch z) h
 | @tup a k f =>
  cases(show u=Value.ref a from d);obtain⟨_,_,_,p⟩:=(show IS X.prog X.w H s.heap a (.tup k)from I.hok a _ f);obtain⟨o,g,l,_⟩:=p;exact VQ PySem.W.kitx_tuple I.kIn ⟨o,g,l⟩ e (λz=>nomatch z) h
 | @dK a j f =>
  cases(show u=Value.ref a from d);obtain⟨_,_,N,_,p⟩:=(show IS X.prog X.w H s.heap a (.dK j)from I.hok a _ f);obtain⟨o,D,F,g,l,_⟩:=p;exact VQ PySem.W.kitx_dict I.kIn ⟨o,g,l.1⟩ e (λz=>nomatch z) h
 | @dT a j f =>
  cases(show u=Value.ref a from d);obtain⟨_,_,k,_,o,D,F,g,l,_⟩:=(show IS X.prog X.w H s.heap a (.dT j)from I.hok a _ f);exact VQ PySem.W.kitx_dict I.kIn ⟨o,g,l.1⟩ e (λz=>nomatch z) h
 | @ins a C P R f r G L m M =>
  cases(show u=Value.ref a from d);obtain⟨S,O,_⟩:=En I.hok f;obtain⟨T,J,_⟩:=O.look;exact VQ (PySem.W.kitx_own (r.get _) r.hd G L m M) I.kIn J e (λz=>nomatch z) h
end
structure JT(k:Nat)(A:IA):Prop where
 hd:A.handled=none
 dp:A.depth+3*k+5<recursionLimit
 un:A.units+16*k+200<cLine
def JT.mono{j k:Nat}{A:IA}(r:JT k A)(h:j<=k):JT j A:=⟨r.hd,by have:=r.dp;lia,by have:=r.un;lia⟩
def JT.deeper{k:Nat}{A:IA}(r:JT (k+1) A)(a:QS):JT k (A.deeper a) :=
 ⟨r.hd,by have:=r.dp;show A.depth+1+3*k+5<_;lia,by have:=r.un;show A.units+3+16*k+200<_;lia⟩
def Nt{A:IA}{C:A3}{us:A0 A2}{a:A0 (Str×A2)}:(A.under (.builtin "type.__call__" ⟨.ref C::us,a⟩)).depth=A.depth+1:=by
 first | rfl | simp[Around.under,Code.weight,Code.isCreation,Code.isGuard,Code.isCaller,Code.frames,Code.isFrame,guardIds]
def Nd{A:IA}{C:A3}{us:A0 A2}{a:A0 (Str×A2)}:(A.under (.builtin "type.__call__" ⟨.ref C::us,a⟩)).units=A.units+1:=by
 first | rfl | simp[Around.under,Code.cUnits,Code.frames,Code.isFrame]
def JT.make{k:Nat}{A:IA}(r:JT (k+1) A)(C:A3)(us:A0 A2)(a:A0 (Str×A2)):JT k (A.under (.builtin "type.__call__" ⟨.ref C::us,a⟩)) :=
 ⟨r.hd,by have:=r.dp;rw[Nt];lia,by have:=r.un;rw[Nd];lia⟩
def JT.depth{k:Nat}{A:IA}(r:JT k A):A.depth<recursionLimit:=by have:=r.dp;lia
def JT.units{k:Nat}{A:IA}(r:JT k A):A.units+64<cLine:=by have:=r.un;lia
def Iy:TA:=λ_ H Q=>Q [] H
def U7(a:TE)(b:TA):TA:=λσ H Q=>a σ H λx c=>b σ c λd e=>Q (x::d) e
section
variable{X:Cx}{e:IC}{es:A0 IC}{te:TE}{t:TA}{pos:Pos}
theorem A8:PA X [] Iy:=λ_ _ _ _ H Q I h=>Calls.spliced_nil ⟨[],H,I,.nil,h⟩
theorem A6(b:PE X e te)(c:PA X es t)(d:starEach (e::es) X.env =(false,eval e X.env)::starEach es X.env:=by rfl):PA X (e::es) (U7 te t):=by
 intro pos a s σ H Q I h;rw[d];show wpAny _ _ (spliced ((false,eval e X.env)::backTo pos (starEach es X.env))) _ _ s;refine Calls.spliced_cons (I_ (b a s σ H _ I h) λu f ⟨x,g,i,j,k⟩=>?_);exact I_ (c pos a f σ g _ i k) λq r ⟨l,m,n,o,p⟩=>⟨x::l,m,n,.cons j o,p⟩
def zEp(t:TA):TE:=λσ H Q=>t σ H λa b=>a.length<=sizeLine/\∀p,b p=none->Q (.ref p) (HY b p (.tup a))
def SR(t:TA):TE:=λσ H Q=>t σ H λa b=>a.length<=sizeLine/\∀p,b p=none->Q (.ref p) (HY b p (.lst a))
theorem J4{g}(h:PA X es t):PE X (.Tuple es g pos) (zEp t):=by
 intro a s σ H Q I i;refine wpAny_Tuple_spliced (I_ (h pos a s σ H _ I i) λj c ⟨k,d,f,r,z,q⟩=>⟨by rw[<-r.length];exact z,?_⟩);have l:d c.heap.objs.size=none:=f.hok.fresh (VD _);refine⟨.ref c.heap.objs.size,HY d c.heap.objs.size (.tup k),f.laid (t':=c.toks) (λb u e=>AC _ e) (VD _) ?_,rfl,q _ l⟩;exact⟨z,j,r,⟨_,AW _ rfl,rfl,_,rfl⟩⟩
theorem G5(h:PA X es t):PE X (.List es pos) (SR t):=by
 intro a s σ H Q I g;refine wpAny_List_spliced (I_ (h pos a s σ H _ I g) λi c ⟨j,d,f,r,z,q⟩=>⟨by rw[<-r.length];exact z,?_⟩);have k:d c.heap.objs.size=none:=f.hok.fresh (VD _);refine⟨.ref c.heap.objs.size,HY d c.heap.objs.size (.lst j),f.laid (t':=c.toks) (λb u e=>AC _ e) (VD _) ?_,rfl,q _ k⟩;exact⟨z,i,0,r,AW _ rfl⟩
end
abbrev Sp:=A0 V->Hp->VK->XK->Prop
abbrev QT:=A0 QS->Hp->A4->XK->A2->A4->Prop
structure QH(P:HV)(w:HX)(K:VA)(mg:Str->A5 A2)(base:H_)(A:IA)(outer:A0 QS)(s:A4)(H:Hp):Prop where
 frames:A.frames=some outer
 mod:Mod K mg base
 bs:∀b o,base.get? b=some o->s.heap.get? b=some o/\H b=none
 bsz:base.objs.size<=s.heap.objs.size
 funs:s.heap.FunFrames base outer
 frf:∀b∈NW outer,H b=none
 hok:MU P w H s.heap
 bare:AllBare s.gens
def CE(a:A0 QS)(P:HV)(w:HX)(H:Hp)(s:A4)(Q:VK)(u:A2)(b:A4):Prop :=
 ∃v c,b.os=s.os/\AllBare b.gens/\Un (NW a) [] H c s.heap b.heap/\MU P w c b.heap/\RelV v u/\Q v c
def CR(CX:QT)(a:A0 QS)(P:HV)(w:HX)(H:Hp)(s:A4)(Q:VK)(E:XK)(r:Result)(b:A4):Prop :=
 match r with
 | .ok (.ret u)=>CE a P w H s Q u b
 | .ok _=>False
 | .error e=>CX a H s E e b
structure IJ(P:HV)(w:HX)(K:VA)(mg:Str->A5 A2)(base:H_)(CX:QT)(k:Nat)(f:A3)(fd:IT)(ps:A0 Str)(sp:Sp):Prop where
 len:∀vs H Q E,sp vs H Q E->vs.length=ps.length
 run:∀(A:IA) (outer:A0 QS) (s:A4) (H:Hp) (args:Args) (us:A0 A2) (vs:A0 V) (Q:VK) (E:XK),JT k A->QH P w K mg base A outer s H->BindsTo s fd args (ps.zip us)->IH vs us->sp vs H Q E ->
  codeAny (model P w) A (.call (.ref f) args) (CR CX outer P w H s Q E) s
def QH.make{P:HV}{w:HX}{K:VA}{c:Str->A5 A2}{b:H_}{A:IA}{a:A0 QS}{s:A4}{H:Hp}(e:QH P w K c b A a s H)(C:A3)(us:A0 A2)(d:A0 (Str×A2)) :
  QH P w K c b (A.under (.builtin "type.__call__" ⟨.ref C::us,d⟩)) a s H:=⟨by first | exact e.frames | (simpa [Around.under,Code.envs,Code.isFrame,pushEnvs] using e.frames),e.mod,e.bs,e.bsz,e.funs,e.frf,e.hok,e.bare⟩
section
variable{X:Cx}{pins:A0 (A3×Obj)}{σ:St}{H:Hp}{s s':A4}
theorem Inv.env0(I:Inv X pins σ H s):QH X.prog X.w X.K X.mg X.base X.A X.stack s H :=
 ⟨I.ok.frames,I.ok.mod,I.bs,VE I.ok.bsz I.sz,I.stack,I.stkFree,I.hok,I.bare⟩
theorem Inv.after{Q:VK}{u:A2}(I:Inv X pins σ H s)(h:CE X.stack X.prog X.w H s Q u s'):EP X pins σ Q u s':=by
 obtain⟨v,f,os,a,i,c,r,q⟩:=h;obtain⟨j,g,d,t,e⟩:=s';obtain rfl:e=s.os:=os;exact⟨v,f,I.call (h':=j) (g':=g) (d':=d) (t':=t) (ch:=[]) i c a (λb z=>absurd z (by simp)),r,q⟩
end
def Sl(sp:Sp)(a:A0 V)(E:XK)(t:TA):TE:=λσ H Q=>t σ H λb c=>sp (b++a) c Q E
def Ye(C:A3)(m:Str)(sp:Sp)(b:A0 V)(E:XK)(e:TE)(t:TA):TE:=λσ H Q=>e σ H λx c=>∃a f d,x = .ref a/\c a=some (.ins C f d)/\d.lookup m=none /\
 t σ c λg h=>sp (x ::(g++b)) h Q E
def zFg(C:A3)(sp:Sp)(b:A0 V)(E:XK)(t:TA):TE:=λσ H Q=>t σ H λd c=>∀x a,c x=none->c a=none->a≠x ->
 sp (.ref x ::(d++b)) (HY (HY c a (.own x)) x (.ins C a [])) (λv e=>v = .non/\Q (.ref x) e) E
def Binds(K:VA)(b:IT)(ps:A0 Str)(ds:A0 A2):Prop :=
 ∀(s:A4) (a:A0 A2),K.In s.heap->(a++ds).length=ps.length->BindsTo s b ⟨a,[]⟩ (ps.zip (a++ds))
def Binds.all{K:VA}{a:IT}{ps:A0 Str}(h:∀us:A0 A2,us.length=ps.length->bindArgs a ⟨us,[]⟩=pure (ps.zip us)):Binds K a ps []:=λs us _ b=>by
 rw[BW]at b⊢;exact .of_eq (h us b)
def Bn(CX:QT)(X:Cx)(E:XK):Prop:=∀(a:A0 (A3×Obj)) (σ:St) (H:Hp) (s:A4) (e:A2) (b:A4),Inv X a σ H s->CX X.stack H s E e b->X.xe e b
section
variable{X:Cx}{CX:QT}{k:Nat}{f C:A3}{fd:IT}{ps:A0 Str}{sp:Sp}{dvs:A0 V}{ds:A0 A2}{E:XK}{x m:Str}{p pos apos:Pos}{e o:IC}{es:A0 IC}{ta:TE}{t:TA}
theorem Si{a:A0 (A3×Obj)}{σ:St}{H:Hp}{s:A4}{Q:VK}{us:A0 A2}{vs:A0 V}(F:IJ X.prog X.w X.K X.mg X.base CX k f fd ps sp)(d:JT k X.A)(g:Binds X.K fd ps ds)(i:IH dvs ds)(j:Bn CX X E)
  (I:Inv X a σ H s) (r:IH vs us) (h:sp (vs++dvs) H Q E):wpAny (model X.prog X.w) X.A (call (.ref f) us) (EP X a σ Q) X.xe s:=by
 have c:IH (vs++dvs) (us++ds):=r.append i;have l:(us++ds).length=ps.length:=by rw[<-c.length];exact F.len _ _ _ _ h
 refine wpAny_call (FK (F.run X.A X.stack s H ⟨us,[]⟩ (us++ds) (vs++dvs) Q E d I.env0 (g s us I.kIn l) c h) λr m b=>?_);cases r with
 | error e=>exact j a σ H s e m I b
 | ok n =>
  cases n with
  | ret u=>exact I.after b
  | next=>exact VB b
  | brk=>exact VB b
  | cont=>exact VB b
theorem Zz(F:IJ X.prog X.w X.K X.mg X.base CX k f fd ps sp)(g:JT k X.A)(i:Gl X x)(j:X.mg x=some (.ref f))(l:PySem.W.keepIn X.K (.ref f)=true)(m:Binds X.K fd ps ds)(n:IH dvs ds)(o:Bn CX X E)
  (u:PA X (e::es) t) (b:(x ==("__debug__":Str))=false:=by decide) (v:starEach (e::es) X.env =(false,eval e X.env)::starEach es X.env:=by rfl) (c:(backTo pos (starEach es X.env)).any (·.1)=false:=by rfl) :
  PE X (.Call (.Name x p) (e::es) [] pos) (Sl sp dvs E t):=by
 intro a s σ H Q I h;refine FX (Fj I i j ?_ b);refine PySem.W.callWith_K (h₀:=X.base) I.ok.mod.kin l (I_ (u pos a s σ H _ I h) λy z ⟨B,C,d,r,q⟩=>⟨d.kIn,?_⟩) v c;exact Si F g m n o d r q
theorem N0{pl:Sem Bool}(v:PE X o ta)(c:QP X.K C)(i:QG X.K C m f)(F:IJ X.prog X.w X.K X.mg X.base CX k f fd ps sp)(y:JT k X.A)(z:Binds X.K fd ps ds)(B:IH dvs ds)(D:Bn CX X E)(G:PA X (e::es) t)
  (d:starEach (e::es) X.env =(false,eval e X.env)::starEach es X.env:=by rfl) (g:(backTo pos (starEach es X.env)).any (·.1)=false:=by rfl)
  (J:eval (.Call (.Attribute o m apos) (e::es) [] pos) X.env =(do
   let j <-eval o X.env
   standAt apos.atName
   let(f,first) <-holding [j] (getMethod j m pl)
   callWith pos f first (backTo pos (starEach (e::es) X.env)) (backToKw pos (keywordEach [] X.env))):=by rfl) :
  PE X (.Call (.Attribute o m apos) (e::es) [] pos) (Ye C m sp dvs E ta t):=by
 intro b s σ H Q I h;refine PySem.W.methodCall_KW (pl:=pl) (I_ (v b s σ H _ I h) λu L ⟨x,M,n,N,a,S,T,O,P,l,q⟩=>?_) J;subst O;obtain rfl:u=Value.ref a:=N;refine y3 n P c i l ?_;refine PySem.W.callWith_K (first:=[.ref a]) (h₀:=X.base) I.ok.mod.kin i.kp (I_ (G pos b L σ M _ n q) λus U ⟨vs,V,p,r,R⟩=>⟨p.kIn,?_⟩) d g;exact Si (us:=.ref a::us) (vs:=.ref a::vs) F y z B D p (.cons rfl r) R
theorem J3{pl:Sem Bool}(i:PE X o ta)(c:QP X.K C)(e:QG X.K C m f)(F:IJ X.prog X.w X.K X.mg X.base CX k f fd ps sp)(j:JT k X.A)(n:Binds X.K fd ps ds)(p:IH dvs ds)(r:Bn CX X E)
  (t:eval (.Call (.Attribute o m apos) [] [] pos) X.env =(do
   let g <-eval o X.env
   standAt apos.atName
   let(f,first) <-holding [g] (getMethod g m pl)
   callWith pos f first (backTo pos (starEach [] X.env)) (backToKw pos (keywordEach [] X.env))):=by rfl) :
  PE X (.Call (.Attribute o m apos) [] [] pos) (Ye C m sp dvs E ta Iy):=by
 intro b s σ H Q I h;refine PySem.W.methodCall_KW (pl:=pl) (I_ (i b s σ H _ I h) λu B ⟨x,D,d,v,a,G,J,y,z,l,q⟩=>?_) t;subst y;obtain rfl:u=Value.ref a:=v;refine y3 d z c e l ?_;exact PySem.W.callWith_K0 (first:=[.ref a]) d.kIn e.kp (Si (us:=[.ref a]) (vs:=[.ref a]) F j n p r d (.cons rfl .nil) q)
structure Mk(K:VA)(C f:A3):Prop where
 makes:PySem.W.makesIn K C=true
 init:PySem.W.findIn K (.ref C) "__init__" = some (some (.ref f))
 fn:PySem.W.isFn K (.ref f)=true
 kp:PySem.W.keepIn K (.ref C)=true
theorem Vd{a:A0 (A3×Obj)}{σ:St}{H:Hp}{s:A4}{Q:VK}{us:A0 A2}{vs:A0 V}(M:Mk X.K C f)(F:IJ X.prog X.w X.K X.mg X.base CX k f fd ps sp)(j:JT (k+1) X.A)(l:Binds X.K fd ps ds)(m:IH dvs ds)
  (n:Bn CX X E) (I:Inv X a σ H s) (r:IH vs us)
  (h:∀x c,H x=none->H c=none->c≠x->sp (.ref x ::(vs++dvs)) (HY (HY H c (.own x)) x (.ins C c [])) (λv o=>v = .non/\Q (.ref x) o) E) :
  wpAny (model X.prog X.w) X.A (call (.ref C) us) (EP X a σ Q) X.xe s:=by
 have g:=h (s.heap.objs.size+1) s.heap.objs.size (I.hok.fresh (DM _)) (I.hok.fresh (VD _)) (BA (FA _));have d:=Inv.made (C:=C) I;have i:IH (V.ref (s.heap.objs.size+1) ::(vs++dvs)) (Value.ref (s.heap.objs.size+1) ::(us++ds)):=.cons rfl (r.append m);have p:(Value.ref (s.heap.objs.size+1)::us++ds).length=ps.length:=by
  have e:=i.length;rw[F.len _ _ _ _ g]at e;exact e.symm
 refine wpAny_call (Vp (f:=f) I.kIn M.makes M.init (beq_iff_eq.mp M.fn) (FK (F.run _ X.stack _ _ ⟨Value.ref (s.heap.objs.size+1)::us,[]⟩ (Value.ref (s.heap.objs.size+1) ::(us++ds)) _ _ E (j.make C us [])
  (d.env0.make C us []) (l _ (Value.ref (s.heap.objs.size+1)::us) d.kIn p) i g) λr q b=>?_))
 cases r with
 | error e=>exact n a σ _ _ e q d b
 | ok t =>
  cases t with
  | ret u =>
   obtain⟨v,y,z,B,D,G⟩:=d.after b;subst D;exact⟨B,⟨V.ref (s.heap.objs.size+1),y,z,rfl,G⟩⟩
  | next=>exact VB b
  | brk=>exact VB b
  | cont=>exact VB b
theorem l9(M:Mk X.K C f)(F:IJ X.prog X.w X.K X.mg X.base CX k f fd ps sp)(g:JT (k+1) X.A)(i:Gl X x)(j:X.mg x=some (.ref C))(l:Binds X.K fd ps ds)(m:IH dvs ds)(n:Bn CX X E)
  (o:PA X (e::es) t) (b:(x ==("__debug__":Str))=false:=by decide) (u:starEach (e::es) X.env =(false,eval e X.env)::starEach es X.env:=by rfl) (c:(backTo pos (starEach es X.env)).any (·.1)=false:=by rfl) :
  PE X (.Call (.Name x p) (e::es) [] pos) (zFg C sp dvs E t):=by
 intro a s σ H Q I h;refine FX (Fj I i j ?_ b);refine PySem.W.callWith_K (h₀:=X.base) I.ok.mod.kin M.kp (I_ (o pos a s σ H _ I h) λv y ⟨z,B,d,r,q⟩=>⟨d.kIn,?_⟩) u c;exact Vd M F g l m n d r q
end
structure IB(N P:A0 Str)(sc:KM):Prop where
 kind:sc.kind = .function
 co:sc.isCoroutine=false
 gen:sc.isGenerator=false
 nd:N.Nodup
 pre:N.take P.length=P
 par:∀x∈P,sc.names.lookup x=some .local\/sc.names.lookup x=some .cell
 nofree:∀y∈sc.names,y.2≠ .free
def Ih{kindOf:Str->A5 NX}{x:Str}:∀{a:A0 (Str×A2)} {m:Str->A5 A2},(∀v,(x,v)∉a)->bindL kindOf a m x=m x
 | [],_,_=>rfl
 | (n,v)::r,m,h=>by
  unfold bindL;rw[Ih λw b=>h w (AL _ b)];split
  .have:x≠n:=by rintro rfl;exact h v AX
   simp[this]
  .rfl
def Iv{kindOf:Str->A5 NX}{x:Str}:∀{a:A0 (Str×A2)} {m:Str->A5 A2},(∀v,(x,v)∉a)->bindC kindOf a m x=m x
 | [],_,_=>rfl
 | (n,v)::r,m,h=>by
  unfold bindC;rw[Iv λw b=>h w (AL _ b)];split
  .rfl
  .have:x≠n:=by rintro rfl;exact h v AX
   simp[this]
def Hv{kindOf:Str->A5 NX}{x:Str}{v:A2}:∀{P:A0 Str} {vs:A0 A2} {i:Nat} {m:Str->A5 A2},P.Nodup->P[i]?=some x->vs[i]?=some v->kindOf x=some .local ->
  bindL kindOf (P.zip vs) m x=some v
 | [],_,_,_,_,h,_,_=>by simp at h
 | _::_,[],_,_,_,_,h,_=>by simp at h
 | p::P,w::vs,0,m,c,a,b,d=>by
  simp at a b;subst a;subst b;show bindL kindOf ((p,w)::P.zip vs) m p=_;unfold bindL;rw[Ih λv e=>(CL.mp c).1 (List.of_mem_zip e).1,AN d];simp
 | p::P,w::vs,i+1,m,c,a,b,d=>by
  show bindL kindOf ((p,w)::P.zip vs) m x=_;unfold bindL;exact Hv (i:=i) (CL.mp c).2 (by simpa using a) (by simpa using b) d
def Hi{kindOf:Str->A5 NX}{x:Str}{v:A2}:∀{P:A0 Str} {vs:A0 A2} {i:Nat} {m:Str->A5 A2},P.Nodup->P[i]?=some x->vs[i]?=some v->kindOf x≠some .local ->
  bindC kindOf (P.zip vs) m x=some v
 | [],_,_,_,_,h,_,_=>by simp at h
 | _::_,[],_,_,_,_,h,_=>by simp at h
 | p::P,w::vs,0,m,c,a,b,d=>by
  simp at a b;subst a;subst b;show bindC kindOf ((p,w)::P.zip vs) m p=_;unfold bindC;rw[Iv λv e=>(CL.mp c).1 (List.of_mem_zip e).1,AI d];simp
 | p::P,w::vs,i+1,m,c,a,b,d=>by
  show bindC kindOf ((p,w)::P.zip vs) m x=_;unfold bindC;exact Hi (i:=i) (CL.mp c).2 (by simpa using a) (by simpa using b) d
def Fe(N:A0 Str)(vs:A0 V):St:=vs.map some++List.replicate (N.length-vs.length) none
def Yj(CX:QT)(P:HV)(w:HX)(K:VA)(mg:Str->A5 A2)(base:H_)(N:A0 Str)(b:Str)(a:KM)(f:A3)(d:A2)(A:IA)(outer:A0 QS)(s:A4)(H:Hp)(E:XK):Cx where
 prog:=P
 w:=w
 K:=K
 mg:=mg
 base:=base
 A:=A.deeper (envOfC b a s.heap.objs.size f d)
 N:=N
 s₀:=s
 H₀:=H
 env:=envOfC b a s.heap.objs.size f d
 outer:=outer
 stack:=envOfC b a s.heap.objs.size f d::outer
 ex:=[]
 calm:=true
 fn:=λ_=>true
 pn:=[]
 xe:=λe g=>wpAny (model P w) (A.deeper (envOfC b a s.heap.objs.size f d)) (leaving (envOfC b a s.heap.objs.size f d) e) (λ_ c=>CX outer H s E e c) (λh c=>CX outer H s E h c) g
def Lh{a:KM}{n:Nat}{x:Str}(h:a.names.lookup x=some .cell):∃c,(cellsFrom n a.names []).lookup x=some c:=by
 have q:=PySem.W.cellsFrom_some a.names n [] (.inl h);exact FN.mp q
def Sb{CX:QT}{P:HV}{w:HX}{K:VA}{I:Str->A5 A2}{m:H_}{N ps:A0 Str}{j:Str}{d:KM}{f:A3}{D:A2}{A:IA}{g:A0 QS}{s J:A4}{H:Hp}{E:XK}{us:A0 A2}{vs:A0 V}
  (S:IB N ps d) (O:A.handled=none) (o:QH P w K I m A g s H) (U:vs.length=ps.length) (r:IH vs us)
  (x:InCallC s s.heap.objs.size (bindL (envOfC j d s.heap.objs.size f D).kindOf (ps.zip us) λ_=>none) (cellsFrom (s.heap.objs.size+1) d.names []) (bindC (envOfC j d s.heap.objs.size f D).kindOf (ps.zip us) λ_=>none) J) :
  Inv (Yj CX P w K I m N j d f D A g s H E) [] (Fe N vs) H J:=by
 have Q:ps.length<=N.length:=by have:=congrArg List.length S.pre;rw[AZ]at this;lia
 obtain⟨F,X,rfl,L⟩:=x.done;have t:∀b:A3,b∉(Yj CX P w K I m N j d f D A g s H E).ex:=λb z=>absurd (show b∈([]:A0 A3)from z) (by simp);refine⟨⟨o.mod,S.kind,rfl,rfl,VD _,λy z c F l=>?_,λy hy=>?_,λy c _ h=>?_,λ_=>O,Around.frames_deeper o.frames,.inr ⟨rfl,rfl⟩,λb z=>absurd z (t b),o.bs,o.bsz,λb _ _=>t b,λb z=>absurd z (t b),o.funs,o.frf⟩,
  rfl,o.bare,Un.kept L,⟨_,x.toInCall.ns,λi y v F l Y=>?_⟩,λy c h=>⟨_,x.cell y c h⟩,o.hok.fresh (VD _),λy c h=>?_,λp B=>absurd (show p∈([]:A0 (A3×Obj))from B) (by simp),o.hok.kept L,?_⟩
 .exact name_of_addr x.apart (PySem.mem_of_lookup F) (PySem.mem_of_lookup l)
 .have hy:d.names.lookup y=some .cell\/d.names.lookup y=some .free:=hy;rcases hy with hy | hy
  .exact Lh hy
  .exact absurd rfl (S.nofree _ (PySem.mem_of_lookup hy))
 .exact DR (x.above y c (PySem.mem_of_lookup h))
 .have G:i<vs.length:=by
   unfold Fe at l;by_cases G:i<vs.length
   .exact G
   .rw[GN (by simpa using G)]at l;rw[List.getElem?_replicate]at l;split at l<;>cases l
  have R:vs[i]?=some v:=by
   unfold Fe at l;rw[GU (by simpa using G),AH]at l;cases e:vs[i]? with
   | none=>rw[e]at l;cases l
   | some a=>rw[e]at l;cases l;rfl
  obtain⟨u,M,T⟩:=r.get R;have B:ps[i]?=some y:=by
   rw[<-S.pre,DK (by lia)];exact F
  have C:ps.Nodup:=by rw[<-S.pre];exact S.nd.sublist (ES _ _)
  refine⟨u,T,?_⟩;rcases S.par y (BB B)with k | k
  .exact .inl ⟨k,Hv C B M k⟩
  .obtain⟨c,e⟩:=Lh (n:=s.heap.objs.size+1) k;refine .inr ⟨.inl k,c,e,?_⟩;have q:=x.cell y c e;rw[Hi C B M (by show d.names.lookup y≠_;rw[k];decide)]at q;exact q
 .exact o.hok.fresh (DR (x.above y c (PySem.mem_of_lookup h)))
 .unfold Fe;show _=N.length;rw[AV,AB,GI];lia
def zFs{CX:QT}{P:HV}{w:HX}{K:VA}{G:Str->A5 A2}{h:H_}{k:Nat}{f:A3}{name d:Str}{i:Arguments}{j:A0 IL}{a:KM}{X kV z Y g ct oc:A2}{Z od:A5 A3}
  {L:HU (A5 A2)} {N ps:A0 Str} {sp:Sp} (lk:K.lookup f=some ⟨oc,od,.func (PySem.W.fnOf name d i j a X kV z Y Z g ct),L⟩) (M:PySem.W.codeIn K g d=true) (S:IB N ps a)
  (B:∀vs H Q E,sp vs H Q E->vs.length=ps.length)
  (l:∀(A:IA) (c:A0 QS) (s:A4) (H:Hp) (vs:A0 V) (Q:VK) (E:XK),JT k (A.deeper (envOfC d a s.heap.objs.size f g))->sp vs H Q E ->
   ∃t,QE (Yj CX P w K G h N d a f g A c s H E) j t/\t { nx:=λ_ H'=>Q .non H',rt:=Q } (Fe N vs) H) :
  IJ P w K G h CX (k+1) f (PySem.W.fnOf name d i j a X kV z Y Z g ct) ps sp:=by
 refine⟨B,λA c s H args us vs Q E O C hb r D=>?_⟩;have hl:=B _ _ _ _ D;have KX:K.In s.heap:=C.mod.kin.keeps λb o e=>(C.bs b o e).1;have R:s.heap.NoLimit:=C.mod.nolimit.keeps λb o e=>(C.bs b o e).1;have m:∀y∈ps.zip us,a.names.lookup y.1=some .local\/(a.names.lookup y.1=some .cell/\((cellsFrom (s.heap.objs.size+1) a.names []).lookup y.1).isSome=true):=λ⟨n,v⟩ hy=>by
  rcases S.par n (List.of_mem_zip hy).1 with q | q
  .exact .inl q
  .exact .inr ⟨q,PySem.W.cellsFrom_some _ _ _ (.inl q)⟩
 refine codeAny_call_function O.depth (KX _ _ lk) rfl S.co S.gen rfl (PySem.W.codeRec_of KX M) (hb _ _ _ _ ?_);refine wpAny_newFunctionEnv_cells S.kind m λenv he s1 x=>?_;subst he;refine⟨R.keeps x.toInCall.keep,codeAny_func ?_⟩;obtain⟨t,ht,hq⟩:=l A c s H vs Q E (O.deeper _) D;have I:Inv (Yj CX P w K G h N d a f g A c s H E) [] (Fe N vs) H s1:=Sb S O.hd C hl r x;refine B_ (ht [] s1 (Fe N vs) H _ I hq) (λfl T p=>?_) λe T p=>p;have F:∀{σ':St} {H':Hp} {v:V} {u:A2},Inv (Yj CX P w K G h N d a f g A c s H E) [] σ' H' T->RelV v u->Q v H'->CE c P w H s Q u T :=
  fun{σ' H' v u} J U q=>⟨v,H',J.os,J.bare,J.base,J.hok,U,q⟩
 cases fl with
 | ret u =>
  obtain⟨v,σ',H',J,U,q⟩:=p;exact F J U q
 | next =>
  obtain⟨σ',H',J,q⟩:=p;exact F (v:=V.non) (u:=Value.none) J rfl q
 | brk =>
  obtain⟨_,_,_,q⟩:=p;exact VB q
 | cont =>
  obtain⟨_,_,_,q⟩:=p;exact VB q
section
variable{X:Cx}{x:Str}{p pos:Pos}{e:IC}{es:A0 IC}{t:TA}{id T:String}{r:A0 V->Hp->VK->Prop}
def R_(r:A0 V->Hp->VK->Prop)(t:TA):TE:=λσ H Q=>t σ H λa b=>r a b Q
theorem Ui(d:K0 X (.builtin id) r)(f:Gl X x)(g:X.mg x=none)(i:bootBuiltins x=some (.builtin id))(j:PA X (e::es) t)(k:x≠ "__name__":=by decide)(b:(x ==("__debug__":Str))=false:=by decide)
  (l:starEach (e::es) X.env =(false,eval e X.env)::starEach es X.env:=by rfl) (c:(backTo pos (starEach es X.env)).any (·.1)=false:=by rfl):PE X (.Call (.Name x p) (e::es) [] pos) (R_ r t):=by
 intro a s σ H Q I h;refine FX (Am I f g i ?_ k b);exact PyProof.Rows.callWith_builtin1 (I_ (j pos a s σ H _ I h) λm n ⟨o,q,u,v,w⟩=>d a n σ q o m Q u v w) l c
theorem Rz(d:K0 X (.type T) r)(f:Gl X x)(g:X.mg x=none)(i:bootBuiltins x=some (.type T))(j:PA X (e::es) t)(k:x≠ "__name__":=by decide)(b:(x ==("__debug__":Str))=false:=by decide)
  (l:starEach (e::es) X.env =(false,eval e X.env)::starEach es X.env:=by rfl) (c:(backTo pos (starEach es X.env)).any (·.1)=false:=by rfl):PE X (.Call (.Name x p) (e::es) [] pos) (R_ r t):=by
 intro a s σ H Q I h;refine FX (Am I f g i ?_ k b);exact VP (I_ (j pos a s σ H _ I h) λm n ⟨o,q,u,v,w⟩=>d a n σ q o m Q u v w) l c
theorem Dk(c:K0 X (.type T) r)(d:Gl X x)(e:X.mg x=none)(f:bootBuiltins x=some (.type T))(g:x≠ "__name__":=by decide)(b:(x ==("__debug__":Str))=false:=by decide) :
  PE X (.Call (.Name x p) [] [] pos) (R_ r Iy):=by
 intro a s σ H Q I h;refine FX (Am I d e f ?_ g b);exact PyProof.Rows.callWith_type0 (c a s σ H [] [] Q I .nil h)
end
end L2
namespace HT
open PySem PyProof.Rows
section
variable{prog:HV}{w:HX}{A:IA}{E:A2->A4->Prop}{s:A4}
theorem RN{t b:A3}{vs a:A0 A2}{Q:A2->A4->Prop}(u:IsTup s.heap t vs.toArray)(v:IsTup s.heap b a.toArray)(k:vs≠[])
  (h1:a = []->Q (.ref t) s) (h2:a≠[]->Q (.ref s.heap.objs.size) { s with heap:=s.heap.push { cls:=.type "tuple",data:=.seq (vs++a).toArray } })
  (hsz:vs.length+a.length<=sizeLine):wpAny (model prog w) A (binaryOp .Add (.ref t) (.ref b)) Q E s:=by
 obtain⟨⟨cls,l,data,m⟩,i,o,n,p⟩:=id u;obtain⟨⟨q,d,data2,f⟩,c,g,r,h⟩:=id v;simp only at o p g h;subst o p g h;have e:vs.toArray++a.toArray =(vs++a).toArray:=by simp
 by_cases j:a = []
 .exact concat_meets ⟨_,i,rfl⟩ ⟨_,c,rfl⟩ noFill_tuple_add seq_tuple_add VN VO (PySem.F.args_tuple_add_2 _ _)
   (tuple_addW1 t b vs.toArray a.toArray n r l d m f (by simpa using k) (by simp[j])) ⟨i,c,h1 j⟩
 .refine concat_meets ⟨_,i,rfl⟩ ⟨_,c,rfl⟩ noFill_tuple_add seq_tuple_add VN VO (PySem.F.args_tuple_add_2 _ _)
   (tuple_addW2 t b vs.toArray a.toArray n r l d m f (by simpa using k) (by simpa using j) (by rw[AQ,AQ];exact hsz)) ⟨i,c,?_⟩
  rw[e];exact h2 j
def JN(n d:Nat):A5 Int->Nat
 | none=>d
 | some v=>if v<0 then(v +(n:Int)).toNat else min v.toNat n
theorem zDc(n d:Nat)(b:d<=n)(o:A5 Int):JN n d o<=n:=by
 cases o with
 | none=>exact b
 | some v =>
  show(if v<0 then(v +(n:Int)).toNat else min v.toNat n)<=n;by_cases a:v<0
  .rw[AN a];lia
  .rw[AI a];exact Nat.min_le_right _ _
theorem Sx(v:Int)(n d:Nat):(if v<0 then max (v +(n:Int)) 0 else min v (n:Int)) =((JN n d (some v):Nat):Int):=by
 show(if v<0 then max (v +(n:Int)) 0 else min v (n:Int)) =(((if v<0 then(v +(n:Int)).toNat else min v.toNat n):Nat):Int);by_cases a:v<0
 .simp only[AN a];lia
 .simp only[AI a];lia
theorem Ni(lo hi:A5 Int)(n:Nat):Builtin.Slice.sliceAdjust lo hi 1 (n:Int) =(((JN n 0 lo:Nat):Int),((JN n n hi:Nat):Int)):=by
 have a:¬((1:Int)<0):=by lia
 unfold Builtin.Slice.sliceAdjust;simp only[a,CO];refine Prod.ext ?_ ?_
 .cases lo with
  | none=>rfl
  | some v=>exact Sx v n 0
 .cases hi with
  | none=>rfl
  | some v=>exact Sx v n n
theorem Mz(i j:Nat):Builtin.Slice.slicePlaces (i:Int) (j:Int) 1=j-i:=by
 unfold Builtin.Slice.slicePlaces;have a:(1:Int)>0:=by lia
 simp only[a,GK,Int.ediv_one];split<;>lia
theorem Dn{v:A2}{o:A5 Int}{Q:A5 Int->A4->Prop}(p:IsPart v o)(h:Q o s):wpAny (model prog w) A (Builtin.Slice.slicePartIndex v) Q E s:=by
 cases p with
 | none=>exact slicePart_none h
 | int i t=>exact slicePart_int h
theorem V6{e:A3}{c d:A2}{lo hi:A5 Int}{n:Nat}{Q:Int×Int×Nat->A4->Prop}(f:s.heap.IsSliceOf e c d .none)(pl:IsPart c lo)(g:IsPart d hi)
  (h:Q (((JN n 0 lo:Nat):Int),1,JN n n hi-JN n 0 lo) s):wpAny (model prog w) A (Builtin.Slice.sliceApplied (.ref e) (pure (n:Int))) Q E s:=by
 obtain⟨os,a,i,b⟩:=id f;unfold Builtin.Slice.sliceApplied Builtin.Slice.sliceFields;refine AA (AA (CC a b (x:=c) rfl (AA (CC a b (x:=d) rfl (AA (CC a b (x:=.none) rfl (AD ?_)))))));refine AA (slicePart_none ?_);show wpAny _ _ (if((1:Int) == 0)=true then _ else _) _ _ s;rw[AI (by decide)];refine AA (Dn pl (AA (Dn g (AA (AD ?_)))));show wpAny _ _ (match Builtin.Slice.sliceAdjust lo hi 1 (n:Int)with | (lo,hi)=>pure (lo,(1:Int),Builtin.Slice.slicePlaces lo hi 1)) _ _ s;rw[Ni lo hi n];show wpAny _ _ (pure (((JN n 0 lo:Nat):Int),(1:Int),Builtin.Slice.slicePlaces ((JN n 0 lo:Nat):Int) ((JN n n hi:Nat):Int) 1)) _ _ s;rw[Mz];exact AD h
theorem Vm(xs:HU A2)(i k:Nat):((List.range k).filterMap λ(m:Nat)=>xs[((i:Int) +(m:Int)*1).toNat]?).toArray =((xs.toList.drop i).take k).toArray:=by
 have e:(λ(m:Nat)=>xs[((i:Int) +(m:Int)*1).toNat]?)=λm=>xs[i+m]?:=by
  funext m;have:((i:Int) +(m:Int)*1).toNat=i+m:=by lia
  rw[this]
 rw[e];have:=pick_run xs i k;rw[List.filterMap_map]at this;have a:((λx=>xs[x]?)∘λx=>i+x)=λm=>xs[i+m]?:=rfl;rw[a]at this;rw[this]
theorem NG{t c:A3}{items:HU A2}{i j:A2}{lo hi:A5 Int}{Q:A2->A4->Prop}(b:IsTup s.heap t items)(k:s.heap.IsSliceOf c i j .none)(pl:IsPart i lo)(l:IsPart j hi)
  (hw:¬(JN items.size 0 lo=0/\JN items.size items.size hi=items.size))
  (h:Q (.ref s.heap.objs.size) { s with heap:=s.heap.push { cls:=.type "tuple",data:=.seq ((items.toList.drop (JN items.size 0 lo)).take (JN items.size items.size hi-JN items.size 0 lo)).toArray } })
  (hsz:items.size<=sizeLine):wpAny (model prog w) A (getItem (.ref t) (.ref c)) Q E s:=by
 have a:sizeOk (.seq ((items.toList.drop (JN items.size 0 lo)).take (JN items.size items.size hi-JN items.size 0 lo)).toArray):=by
  show((items.toList.drop (JN items.size 0 lo)).take (JN items.size items.size hi-JN items.size 0 lo)).toArray.size<=sizeLine;rw[AQ,AZ,DJ,AU];lia
 have o:JN items.size items.size hi<=items.size:=zDc _ _ (VD _) hi;obtain⟨os,d,e,n⟩:=id k;have f:s.TypeIs (.ref c) "slice":=⟨os,d,e⟩;unfold getItem
 try with_reducible refine BP ?_
 first | refine AA (AD ?_) | skip
 refine AA (wpAny_sequenceKey b.typeIs (by decide) ?_);refine AA (CG (name:=Str.ofString "__getitem__") b.typeIs PyProof.Rows.slot_tuple_getitem
  (CF PyProof.Rows.slot_tuple_getitem b.typeIs entry_tuple_getitem ?_ (args_tuple_getitem _ _)))
 show wpAny _ _ (Builtin.Tuple.tupleItemsOf (.ref t) >>= _) _ _ s;refine AA (tupleItemsOf_ b ?_);refine AA (EY f ?_);rw[AN (by decide)];refine AA (V6 k pl l ?_);have g:¬((((JN items.size 0 lo:Nat):Int) == 0 &&(1:Int) == 1 &&(JN items.size items.size hi-JN items.size 0 lo) == items.size)=true):=by
  intro q;rw[DC,DC]at q;have p:((JN items.size 0 lo:Nat):Int)=0:=eq_of_beq q.1.1;have r:JN items.size items.size hi-JN items.size 0 lo=items.size:=eq_of_beq q.2;exact hw ⟨by lia,by lia⟩
 show wpAny _ _ (if(((JN items.size 0 lo:Nat):Int) == 0 &&(1:Int) == 1 &&(JN items.size items.size hi-JN items.size 0 lo) == items.size)=true then _ else _) _ _ s;rw[AI g,Vm]
 first
  | exact AA (m:=Builtin.Tuple.tupleExact _) (BV (AD ⟨_,rfl,AD h⟩) a)
  | exact AA (m:=Builtin.Tuple.tupleExact _) (BV (AA (AD (AD ⟨_,rfl,AD h⟩))) a)
  | exact AA (AA (m:=Builtin.Tuple.tupleExact _) (BV (AD (AD ⟨_,rfl,AD h⟩)) a))
  | exact AA (AA (m:=Builtin.Tuple.tupleExact _) (BV (AD ⟨_,rfl,AD h⟩) a))
end
end HT
namespace L2
open PySem PySem.Spec PyProof.Rows
abbrev TO:=St->Hp->(A5 Int->Hp->Prop)->Prop
def PO(X:Cx)(e:A5 IC)(t:TO):Prop :=
 ∀(a:A0 (A3×Obj)) (s:A4) (σ:St) (H:Hp) (Q:A5 Int->Hp->Prop),Inv X a σ H s->t σ H Q ->
  wpAny (model X.prog X.w) X.A (evalPart e X.env) (λu c=>∃o b,Inv X a σ b c/\IsPart u o/\Q o b) X.xe s
def Pj:TO:=λ_ H Q=>Q none H
def zDm(t:TE):TO:=λσ H Q=>t σ H λx a=>∃i,x = .int i/\Q (some i) a
section
variable{X:Cx}{e:IC}{te:TE}{lo hi:A5 IC}{tl th:TO}{pos p2:Pos}
theorem w8:PO X none Pj:=by
 intro a s σ H Q I h;rw[evalPart_none];exact AD ⟨none,H,I,.none,h⟩
theorem y4(h:PE X e te):PO X (some e) (zDm te):=by
 intro a s σ H Q I b;rw[evalPart_some];refine I_ (h a s σ H _ I b) λu j ⟨x,c,d,f,g⟩=>?_;obtain⟨i,rfl,q⟩:=g;obtain⟨t,rfl⟩:=f;exact⟨some i,c,d,.int i t,q⟩
def RQ(X:Cx)(r:V->A5 Int->A5 Int->Hp->VK->Prop):Prop :=
 ∀(a:A0 (A3×Obj)) (s:A4) (σ:St) (H:Hp) (x:V) (v b c:A2) (lo hi:A5 Int) (d:A3) (Q:VK),Inv X a σ H s->RelV x v->s.heap.IsSliceOf d b c .none->IsPart b lo->IsPart c hi->r x lo hi H Q ->
  ∃T id,typeLookup (.type T) "__getitem__" = pure (some (.builtin id))/\s.TypeIs v T/\wpAny (model X.prog X.w) X.A (getItem v (.ref d)) (EP X a σ Q) X.xe s
theorem RQ.or{r b:V->A5 Int->A5 Int->Hp->VK->Prop}(h:RQ X r)(h':RQ X b):RQ X (λx lo hi H Q=>r x lo hi H Q\/b x lo hi H Q):=by
 intro a s σ H x v c d lo hi e Q I f g i j q;rcases q with q | q
 .exact h a s σ H x v c d lo hi e Q I f g i j q
 .exact h' a s σ H x v c d lo hi e Q I f g i j q
def tSl(r:V->A5 Int->A5 Int->Hp->VK->Prop)(te:TE)(tl th:TO):TE:=λσ H Q=>te σ H λx a=>tl σ a λl b=>th σ b λu c=>r x l u c Q
theorem Y2{r:V->A5 Int->A5 Int->Hp->VK->Prop}(f:RQ X r)(g:PE X e te)(i:PO X lo tl)(j:PO X hi th):PE X (.Subscript e (.Slice lo hi none p2) pos) (tSl r te tl th):=by
 intro a s σ H Q I h;refine Subscript_ (I_ (g a s σ H _ I h) λv k ⟨x,m,n,o,p⟩=>?_);refine wpAny_Slice (I_ (i a k σ m _ n p) λc t ⟨l,y,z,B,C⟩=>I_ (j a t σ y _ z C) λvu s3 ⟨u,d,D,E,F⟩=>?_);rw[evalPart_none];refine AD ?_;have G:Inv X a σ d { s3 with heap:=s3.heap.push { cls:=.type "slice",data:=.fields #[c,vu,.none] } }:=D.kept (t':=s3.toks) λb M q=>AC _ q;obtain⟨T,id,J,K,L⟩:=f a { s3 with heap:=s3.heap.push { cls:=.type "slice",data:=.fields #[c,vu,.none] } } σ d x v c vu l u s3.heap.objs.size Q G o (Heap.IsSliceOf.new ..) B E F;show wpAny (model X.prog X.w) X.A (subscriptTail e (.Slice lo hi none p2) v (.ref s3.heap.objs.size)) (EP X a σ Q) X.xe { s3 with heap:=s3.heap.push { cls:=.type "slice",data:=.fields #[c,vu,.none] } };exact tail_any (ops:=[.ref s3.heap.objs.size,v]) K J L (by with_unfolding_all rfl)
def Hb(xs:A0 V)(lo hi:A5 Int):A0 V:=(xs.drop (HT.JN xs.length 0 lo)).take (HT.JN xs.length xs.length hi-HT.JN xs.length 0 lo)
theorem Jm(xs:A0 V)(lo hi:A5 Int):(Hb xs lo hi).length<=xs.length:=by
 unfold Hb;rw[AZ,DJ];lia
def zEq(K:VA):V->A5 Int->A5 Int->Hp->VK->Prop:=λx lo hi H Q=>∃a b,x = .ref a/\IU K H a b /\
 ¬(HT.JN b.length 0 lo=0/\HT.JN b.length b.length hi=b.length)/\∀p,H p=none->Q (.ref p) (HY H p (.tup (Hb b lo hi)))
theorem QU:RQ X (zEq X.K):=by
 intro f s σ H x v t u lo hi w Q I j k l m h;obtain⟨a,d,rfl,n,p,q⟩:=h;cases j;obtain⟨e,r,g,i⟩:=I.tuple n;have c:e.toArray.size=d.length:=by rw[AQ];exact r.length.symm
 refine⟨"tuple",_,PyProof.Rows.slot_tuple_getitem.lookup,g.typeIs,?_⟩;refine HT.NG g k l m (by rw[c];exact p) ?_ (by rw[c];exact i);rw[c];refine⟨.ref s.heap.objs.size,_,I.laid (t':=s.toks) (o:=.tup (Hb d lo hi)) (λb y q=>AC _ q) (VD _) ?_,rfl,q _ (I.hok.fresh (VD _))⟩;exact⟨VE (Jm d lo hi) i,_,(r.drop (HT.JN d.length 0 lo)).take (HT.JN d.length d.length hi-HT.JN d.length 0 lo),IsTup.new _ _⟩
def zEw(K:VA):R2:=λx y H Q=>∃a b d c,x = .ref a/\y = .ref b/\IU K H a d/\IU K H b c/\d≠[]/\d.length+c.length<=sizeLine /\
 (c = []->Q (.ref a) H)/\(c≠[]->∀p,H p=none->Q (.ref p) (HY H p (.tup (d++c))))
theorem IH.nil_iff{xs:A0 V}{us:A0 A2}(r:IH xs us):us = []↔xs = []:=by
 cases r with
 | nil=>simp
 | cons _ _=>simp
theorem Yc:KH X (binaryOp .Add) (zEw X.K):=by
 intro e s σ H x y v u Q I i j h;obtain⟨a,b,k,l,rfl,rfl,m,n,p,f,r,t⟩:=h;cases i;cases j;obtain⟨A,d,B,_⟩:=I.tuple m;obtain⟨g,c,p2,_⟩:=I.tuple n;refine HT.RN B p2 (λz=>p (d.nil_iff.mp z)) (λz=>⟨.ref a,H,I,rfl,r (c.nil_iff.mp z)⟩) (λz=>?_) (by rw[<-d.length,<-c.length];exact f);refine⟨.ref s.heap.objs.size,_,I.laid (t':=s.toks) (o:=.tup (k++l)) (λb C q=>AC _ q) (VD _) ?_,rfl,t (λw=>z (c.nil_iff.mpr w)) _ (I.hok.fresh (VD _))⟩;exact⟨by rw[AV];exact f,_,d.append c,IsTup.new _ _⟩
end
def RK(n:Nat)(i:Int):A5 Nat:=if 0<=i then(if i<n then some i.toNat else none)else if -(n:Int)<=i then some (i+n).toNat else none
def P6{α:Type}(xs:A0 α)(i:Int):A5 α:=(RK xs.length i).bind λj=>xs[j]?
def Qc{n:Nat}{i:Int}{j:Nat}(h:RK n i=some j):seqIndex? i n=some j/\j<n/\-(n:Int)<=i/\i<n:=by
 unfold RK at h;by_cases b:0<=i
 .rw[AN b]at h;by_cases a:i<n
  .rw[AN a]at h;have e:i.toNat=j:=BU h;exact⟨by rw[seqIndex_of b a,e],by lia,by lia,a⟩
  .rw[AI a]at h;cases h
 .rw[AI b]at h;by_cases a:-(n:Int)<=i
  .rw[AN a]at h;have e:(i+n).toNat=j:=BU h;exact⟨by rw[seqIndex_neg (by lia) a,e],by lia,a,by lia⟩
  .rw[AI a]at h;cases h
def Kd{α:Type}{xs:A0 α}{i:Int}{v:α}(h:P6 xs i=some v):∃j,seqIndex? i xs.length=some j/\xs[j]?=some v/\j<xs.length/\-(xs.length:Int)<=i/\i<xs.length:=by
 unfold P6 at h;cases e:RK xs.length i with
 | none=>rw[e]at h;cases h
 | some j =>
  rw[e]at h;obtain⟨a,b,c,d⟩:=Qc e;exact⟨j,a,h,b,c,d⟩
def Q2{α:Type}{xs:A0 α}{j:Nat}{v:α}(h:xs[j]?=some v):P6 xs (j:Int)=some v:=by
 have a:j<xs.length:=(AJ.mp h).1;have e:RK xs.length (j:Int)=some j:=by
  unfold RK;rw[AN (by lia),AN (by lia)];simp
 unfold P6;rw[e];exact h
def Yn(b:IC):Prop:=∀o i,subscripted b false o i=operate [o,i] (getItem o i)
def S1(X:Cx)(r:R2):Prop :=
 ∀(c a:IC) (b:A0 (A3×Obj)) (s:A4) (σ:St) (H:Hp) (x y:V) (v u:A2) (Q:VK),Inv X b σ H s->RelV x v->RelV y u->r x y H Q ->
  subscripted a false v u=operate [v,u] (getItem v u)->wpAny (model X.prog X.w) X.A (subscriptTail c a v u) (EP X b σ Q) X.xe s
def MtR(X:Cx)(id:String)(r:V->A0 V->Hp->VK->Prop):Prop :=
 ∀(a:A0 (A3×Obj)) (s:A4) (σ:St) (H:Hp) (x:V) (b:A0 V) (v:A2) (c:A0 A2) (Q:VK),Inv X a σ H s->RelV x v->IH b c->r x b H Q ->
  wpAny (model X.prog X.w) X.A (call (.builtin id) (v::c)) (EP X a σ Q) X.xe s
section
variable{X:Cx}{a b:IC}{ta tb:TE}{pos:Pos}
theorem E6{r:R2}(d:S1 X r)(e:PE X a ta)(f:PE X b tb)(g:Yn b):PE X (.Subscript a b pos) (OL r ta tb):=by
 intro c s σ H Q I h;exact Subscript_ (zFe e f I h λv u i x y j k l m q=>d a b c i σ j x y v u Q k l m q (g _ _))
def SO(K:VA):R2:=λx y H Q=>∃p a i v,x = .ref p/\y = .int i/\IG K H p a/\P6 a i=some v/\Q v H
def zGh(K:VA):R2:=λx y H Q=>∃p a i v,x = .ref p/\y = .int i/\IU K H p a/\P6 a i=some v/\Q v H
def zHv:R2:=λx y H Q=>∃z i c,x = .str z/\y = .int i/\z.length<=sizeLine/\P6 z.cps.toList i=some c/\Q (.str ⟨#[c]⟩) H
theorem Yv:S1 X (SO X.K):=by
 intro d e a s σ H x y v u Q I A B h m;obtain⟨p,M,i,z,rfl,rfl,C,D,q⟩:=h;cases A;obtain⟨t,rfl⟩:=B;obtain⟨f,r,g,N⟩:=I.list C;obtain⟨j,c,E,O,F,G⟩:=Kd D;obtain⟨w,n,k⟩:=r.get E;have J:=r.length;have P:=Bs;have b:EP X a σ Q w s:=⟨z,H,I,k,q⟩;by_cases o:0<=i
 .have l:i.toNat=j:=by
   rw[seqIndex_of o G]at c;exact BU c
  exact item_listR g.isList o (by lia) (by rw[l];simpa using n) b m
 .have l:(i +(f.toArray.size:Int)).toNat=j:=by
   rw[seqIndex_neg (by lia) F]at c;rw[AQ,<-J];exact BU c
  exact subscriptTail_builtinR (x:=w) g.isList.typeIs slot_list_getitem.lookup
   (wpAny_getItem_list_neg (Q:=λr L=>r=w/\EP X a σ Q r L) g.isList (by lia) (by rw[AQ]<;>lia) (by lia) (by rw[l];simpa using n) ⟨rfl,b⟩) m
theorem zDo:S1 X (zGh X.K):=by
 intro b c a s σ H x y v u Q I g k h l;obtain⟨p,F,i,z,rfl,rfl,m,n,q⟩:=h;cases g;obtain⟨t,rfl⟩:=k;obtain⟨o,r,f,G⟩:=I.tuple m;obtain⟨j,A,B,J,L,M⟩:=Kd n;obtain⟨w,C,d⟩:=r.get B;have D:=r.length;have N:=Bs;have e:EP X a σ Q w s:=⟨z,H,I,d,q⟩;exact subscriptTail_builtinR (x:=w) f.typeIs slot_tuple_getitem.lookup
  (getItem_tuple (j:=j) (Q:=λr E=>r=w/\EP X a σ Q r E) f (by lia) (by lia) (by rw[AQ,<-D];exact A) (by simpa using C) ⟨rfl,e⟩) l
theorem zEe:S1 X zHv:=by
 intro a b d s σ H x y v u Q I f g h k;obtain⟨z,i,c,rfl,rfl,A,l,q⟩:=h;obtain⟨t,rfl⟩:=f;obtain⟨B,rfl⟩:=g;obtain⟨j,e,m,C,n,o⟩:=Kd l;have p:z.cps.toList.length=z.length:=by simp[Str.length]
 rw[p]at e n o;have D:=Bs;exact tail_any (typeIs_str s z t) slot_str_getitem.lookup (getItem_str (c:=c) (by
  have r:decide (i < -(2^63:Int))=false:=AM (by lia);have w:decide (i ≥ 2^63)=false:=AM (by lia);rw[r,w,Bool.or_false]) (by rw[e];simpa using m) ⟨.str ⟨#[c]⟩,H,I.tok _,⟨_,rfl⟩,q⟩) k
theorem Mw(its:A0 A2)(n j:Nat)(u:A2):Obj.mapSeq (·.setIfInBounds j u) { cls:=.type "list",data:=.seq its.toArray n } ={ cls:=.type "list",data:=.seq (its.set j u).toArray n }:=by
 simp[Obj.mapSeq]
theorem Inv.lst{a:A0 (A3×Obj)}{σ:St}{H:Hp}{s:A4}{p:A3}{xs:A0 V}(I:Inv X a σ H s)(h:H p=some (.lst xs)) :
  ∃(its:A0 A2) (n:Nat),IH xs its/\s.heap.get? p=some { cls:=.type "list",data:=.seq its.toArray n }/\xs.length<=sizeLine:=by
 obtain⟨z,its,n,r,e⟩:=I.hok p _ h;exact⟨its,n,r,e,z⟩
theorem Inv.lstUpd{a:A0 (A3×Obj)}{σ:St}{H:Hp}{s:A4}{p:A3}{xs c:A0 V}{its its':A0 A2}{n d:Nat}{f:Obj->Obj}(I:Inv X a σ H s)(h:H p=some (.lst xs))
  (i:s.heap.get? p=some { cls:=.type "list",data:=.seq its.toArray n }) (g:f { cls:=.type "list",data:=.seq its.toArray n } ={ cls:=.type "list",data:=.seq its'.toArray d }) (r:IH c its') (hz:c.length<=sizeLine) (t:Nat) :
  Inv X a σ (HY H p (.lst c)) { s with heap:=s.heap.update p f,toks:=t }:=by
 have e:(s.heap.update p f).get? p=some { cls:=.type "list",data:=.seq its'.toArray d }:=by
  rw[BZ f i (by rw[g]<;>rfl),g]
 refine I.write (x:=p) (e:=p) (by rw[h];trivial) (.inl rfl) (λb u j q=>(BH _ _ (Ne.symm j)).trans q) ⟨_,e⟩ ?_;exact⟨hz,its',d,r,e⟩
def zFi:V->V->V->Hp->(Hp->Prop)->Prop:=λo i v H Q=>∃p a k j,o = .ref p/\i = .int k/\H p=some (.lst a)/\RK a.length k=some j/\Q (HY H p (.lst (a.set j v)))
theorem Aw:zGj X zFi:=by
 intro a s σ H o i v E F u Q I y z A h;obtain⟨p,B,k,j,rfl,rfl,g,C,q⟩:=h;cases y;obtain⟨t,rfl⟩:=z;obtain⟨b,n,r,d,D⟩:=I.lst g;obtain⟨c,G,l,m⟩:=Qc C;have e:=r.length;have J:=Bs;have w:Inv X a σ (HY H p (.lst (B.set j v))) { s with heap:=s.heap.update p (Obj.mapSeq (·.setIfInBounds j u)) } :=
  I.lstUpd g d (Mw b n j u) (r.set A j) (by rw[List.length_set];exact D) s.toks
 by_cases x:0<=k
 .have f:k.toNat=j:=by
   rw[seqIndex_of x m]at c;exact BU c
  exact PySem.W.ki_setAt d x (by lia) (by rw[AQ,<-e];exact m) (by rw[f];exact⟨_,w,q⟩)
 .have f:(k +(b.toArray.size:Int)).toNat=j:=by
   rw[seqIndex_neg (by lia) l]at c;rw[AQ,<-e];exact BU c
  exact PySem.W.ki_setBack d (by lia) (by rw[AQ,<-e];exact l) (by lia) (by rw[f];exact⟨_,w,q⟩)
def Fv:V->Bool
 | .non=>true
 | .bl _=>true
 | .int _=>true
 | .str _=>true
 | _=>false
def RV:V->V->Bool
 | .non,.non=>true
 | .bl a,.bl b=>a == b
 | .bl a,.int b=>(if a then 1 else 0) == b
 | .int a,.bl b=>a ==(if b then 1 else 0)
 | .int a,.int b=>a == b
 | .str a,.str b=>a == b
 | _,_=>false
theorem zBh{A:IA}{s:A4}{y x:V}{u v:A2}(e:RelV y u)(c:RelV x v)(g:Fv y=true)(f:Fv x=true):SeqAt.EqAt A s u v (RV y x):=by
 cases y with
 | non =>
  cases e;cases x with
  | non=>cases c;exact SeqAt.EqAt.same _
  | bl b=>cases c;exact SeqAt.EqAt.none_bool b
  | int b=>obtain⟨t,rfl⟩:=c;exact SeqAt.EqAt.none_int b t
  | str b=>obtain⟨t,rfl⟩:=c;exact SeqAt.EqAt.none_str b t
  | _=>exact absurd (show false=true from f) BE
 | bl a =>
  cases e;cases x with
  | non=>cases c;exact SeqAt.EqAt.bool_none a
  | bl b=>cases c;exact SeqAt.EqAt.bool_bool a b
  | int b=>obtain⟨t,rfl⟩:=c;exact SeqAt.EqAt.bool_int a b t
  | str b=>obtain⟨t,rfl⟩:=c;exact SeqAt.EqAt.bool_str a b t
  | _=>exact absurd (show false=true from f) BE
 | int a =>
  obtain⟨d,rfl⟩:=e;cases x with
  | non=>cases c;exact SeqAt.EqAt.int_none a d
  | bl b=>cases c;exact SeqAt.EqAt.int_bool a d b
  | int b=>obtain⟨t,rfl⟩:=c;exact SeqAt.EqAt.int_int a d b t
  | str b=>obtain⟨t,rfl⟩:=c;exact SeqAt.EqAt.int_str a d b t
  | _=>exact absurd (show false=true from f) BE
 | str a =>
  obtain⟨d,rfl⟩:=e;cases x with
  | non=>cases c;exact SeqAt.EqAt.str_none a d
  | bl b=>cases c;exact SeqAt.EqAt.str_bool a d b
  | int b=>obtain⟨t,rfl⟩:=c;exact SeqAt.EqAt.str_int a d b t
  | str b=>obtain⟨t,rfl⟩:=c;exact SeqAt.EqAt.str_str a d b t
  | _=>exact absurd (show false=true from f) BE
 | _=>exact absurd (show false=true from g) BE
def QD(x:V)(u:A2):Bool:=match u with
 | .none=>RV .non x
 | .bool b=>RV (.bl b) x
 | .int i _=>RV (.int i) x
 | .str z _=>RV (.str z) x
 | _=>false
theorem Xp{x y:V}{u:A2}(r:RelV y u)(f:Fv y=true):QD x u=RV y x:=by
 cases y with
 | non=>cases r;rfl
 | bl b=>cases r;rfl
 | int i=>obtain⟨t,rfl⟩:=r;rfl
 | str z=>obtain⟨t,rfl⟩:=r;rfl
 | _=>exact absurd (show false=true from f) BE
theorem Bi{x:V}:∀{xs:A0 V} {us:A0 A2},IH xs us->xs.all Fv=true->us.any (QD x)=xs.any λy=>RV y x
 | _,_,.nil,_=>rfl
 | y::xs,u::us,.cons r t,f=>by
  rw[List.all_cons,DC]at f;rw[GG,GG,Xp r f.1,Bi t f.2]
theorem o7{A:IA}{s:A4}{x:V}{v:A2}(a:RelV x v)(b:Fv x=true):∀{xs:A0 V} {us:A0 A2},IH xs us->xs.all Fv=true->∀u∈us,SeqAt.EqAt A s u v (QD x u)
 | _,_,.nil,_=>λu hu=>by cases hu
 | y::xs,u::us,.cons r t,f=>λc hu=>by
  rw[List.all_cons,DC]at f;rcases AR.mp hu with rfl | hu
  .rw[Xp r f.1];exact zBh r a f.1 b
  .exact o7 a b t f.2 c hu
def inV(x:V)(xs:A0 V):Bool:=xs.any λy=>RV y x
def SC(K:VA)(neg:Bool):R2:=λx y H Q=>∃p a,y = .ref p/\(IG K H p a\/IU K H p a)/\Fv x=true/\a.all Fv=true/\Q (.bl (if neg then !inV x a else inV x a)) H
theorem Qr:KH X (compareOp .In) (SC X.K false):=by
 intro e s σ H x y v u Q I f i h;obtain⟨p,k,rfl,hq,g,b,q⟩:=h;cases i;rcases hq with hq | hq
 .obtain⟨a,r,c,j⟩:=I.list hq;refine SeqAt.in_listAt (QD x) c.isList (λw d=>o7 f g r b w (by simpa using d)) ⟨.bl _,H,I,rfl,?_⟩;rw[show a.toArray.any (QD x)=a.any (QD x) by simp,Bi r b];exact q
 .obtain⟨a,r,c,j⟩:=I.tuple hq;refine SeqAt.in_tupleAt (QD x) c (λw d=>o7 f g r b w (by simpa using d)) ⟨.bl _,H,I,rfl,?_⟩;rw[show a.toArray.any (QD x)=a.any (QD x) by simp,Bi r b];exact q
theorem Hy:KH X (compareOp .NotIn) (SC X.K true):=by
 intro e s σ H x y v u Q I f i h;obtain⟨p,k,rfl,hq,g,b,q⟩:=h;cases i;rcases hq with hq | hq
 .obtain⟨a,r,c,j⟩:=I.list hq;refine SeqAt.notIn_listAt (QD x) c.isList (λw d=>o7 f g r b w (by simpa using d)) ⟨.bl _,H,I,rfl,?_⟩;rw[show a.toArray.any (QD x)=a.any (QD x) by simp,Bi r b];exact q
 .obtain⟨a,r,c,j⟩:=I.tuple hq;refine SeqAt.notIn_tupleAt (QD x) c (λw d=>o7 f g r b w (by simpa using d)) ⟨.bl _,H,I,rfl,?_⟩;rw[show a.toArray.any (QD x)=a.any (QD x) by simp,Bi r b];exact q
theorem Ir:KH X (compareOp .NotIn) (λx y H Q=>∃i j,x = .str i/\y = .str j/\Q (.bl (!(!(Builtin.Str.occurrences j i 0 j.length 1).isEmpty))) H):=by
 intro a s σ H x y v u Q I b c h;obtain⟨i,j,rfl,rfl,q⟩:=h;obtain⟨t,rfl⟩:=b;obtain⟨d,rfl⟩:=c;exact notIn_str ⟨.bl _,H,I,rfl,q⟩
theorem Gg:K0 X (.builtin "len") (λxs H Q=>∃p b,xs = [.ref p]/\(IG X.K H p b\/IU X.K H p b)/\Q (.int b.length) H):=by
 intro f s σ H xs j Q I r h;obtain⟨p,b,rfl,hq,q⟩:=h;obtain⟨u,rfl,g⟩:=X5 r;cases g;have k:=Bs;rcases hq with hq | hq
 .obtain⟨c,d,e,i⟩:=I.list hq;have a:=d.length;exact Calls.call_len_list e.isList (by simp only[AQ]<;>lia) ⟨.int b.length,H,I.tok _,⟨s.toks+1,by rw[AQ,a]⟩,q⟩
 .obtain⟨c,d,e,i⟩:=I.tuple hq;have a:=d.length;exact len_tuple e (by simp only[AQ]<;>lia) ⟨.int b.length,H,I.tok _,⟨s.toks+1,by rw[AQ,a]⟩,q⟩
theorem Ac:K0 X (.builtin "len") (λxs H Q=>∃z,xs = [.str z]/\z.length<=sizeLine/\Q (.int z.length) H):=by
 intro a s σ H xs b Q I r h;obtain⟨z,rfl,c,q⟩:=h;obtain⟨u,rfl,t,rfl⟩:=X5 r;have d:=Bs;exact len_str (by lia) ⟨.int z.length,H,I.tok _,⟨_,rfl⟩,q⟩
theorem Gs:K0 X (.type "list") (λxs H Q=>∃p d,xs = [.ref p]/\(IG X.K H p d\/IU X.K H p d)/\∀l,H l=none->Q (.ref l) (HY H l (.lst d))):=by
 intro i s σ H xs C Q I r h;obtain⟨p,d,rfl,hq,q⟩:=h;obtain⟨u,rfl,B⟩:=X5 r;cases B;have j:∀(a:A0 A2),IH d a->d.length<=sizeLine->∀(c:H_) (f:Nat),(∀b A,s.heap.get? b=some A->c.get? b=some A) ->
   c.get? s.heap.objs.size=some { cls:=.type "list",dict:=none,data:=.seq a.toArray f,slots:=#[] }->EP X i σ Q (.ref s.heap.objs.size) { s with heap:=c }:=λa g k c f m e =>
  ⟨.ref s.heap.objs.size,_,I.laid (t':=s.toks) m (VD _) (show IS X.prog X.w _ c _ (.lst d)from⟨k,a,f,g,e⟩),rfl,q _ (I.hok.fresh (VD _))⟩
 rcases hq with hq | hq
 .obtain⟨a,g,v,k⟩:=I.list hq;have t:=g.length;obtain⟨o,x,y,n,z⟩:=v.isList;exact call_list_seq p (.inl rfl) x y z (λc f m e=>j a g k c f m e) (by simp only[AQ]<;>lia)
 .obtain⟨a,g,v,k⟩:=I.tuple hq;have t:=g.length;obtain⟨o,x,y,n,z⟩:=v;exact call_list_seq p (.inr rfl) x y z (λc f m e=>j a g k c f m e) (by simp only[AQ]<;>lia)
def tyV(K:VA)(T:String)(x:V)(H:Hp):Prop:=match x with
 | .str _=>T = "str"
 | .int _=>T = "int"
 | .ref p=>(T = "list"/\∃b,IG K H p b)\/(T = "tuple"/\∃o,K.lookup p=some o/\o.cls = .type "tuple"/\o.dict=none) \/
   (T = "dict"/\((∃a,H p=some (.dK a))\/∃a,H p=some (.dT a)))\/(T = "set"/\∃S n,H p=some (.set S n))
 | _=>False
theorem Wv{f:A0 (A3×Obj)}{σ:St}{H:Hp}{s:A4}{T:String}{x:V}{v:A2}(I:Inv X f σ H s)(r:RelV x v)(ty:tyV X.K T x H) :
  s.TypeIs v T/\∀a,v = .ref a->∃k,s.heap.get? a=some k/\k.dict=none:=by
 cases x with
 | str z =>
  obtain⟨t,rfl⟩:=r;cases(show T = "str" from ty);exact⟨typeIs_str s z t,λ_ e=>nomatch e⟩
 | int i =>
  obtain⟨t,rfl⟩:=r;cases(show T = "int" from ty);exact⟨typeIs_int s i t,λ_ e=>nomatch e⟩
 | ref p =>
  cases r;rcases ty with⟨rfl,w,m⟩ | ⟨rfl,o,b,q,g⟩ | ⟨rfl,b⟩ | ⟨rfl,S,n,b⟩
  .obtain⟨u,_,l,_⟩:=I.list m;refine⟨l.isList.typeIs,λa e=>?_⟩;cases e;obtain⟨o,n,e,c,g,_⟩:=l;exact⟨o,e,g⟩
  .refine⟨⟨o,I.kIn p o b,q⟩,λa e=>?_⟩;cases e;exact⟨o,I.kIn _ o b,g⟩
  .have z:∃o,s.heap.get? p=some o/\o.ExactDict:=by
    rcases b with⟨h,b⟩ | ⟨h,b⟩
    .obtain⟨_,_,_,_,o,_,_,e,d,_⟩:=I.hok p _ b;exact⟨o,e,d⟩
    .obtain⟨_,_,_,_,o,_,_,e,d,_⟩:=I.hok p _ b;exact⟨o,e,d⟩
   obtain⟨o,e,d⟩:=z;refine⟨⟨o,e,d.1⟩,λa j=>?_⟩;cases j;exact⟨o,e,d.2.1⟩
  .obtain⟨o,_,_,_,e,d,_⟩:=I.hok p _ b;refine⟨⟨o,e,d.1⟩,λa j=>?_⟩;cases j;exact⟨o,e,d.2.1⟩
 | _=>exact VB ty
def zGl(K:VA)(T:String)(r:V->A0 V->Hp->VK->Prop)(b:TE):TE:=λσ H Q=>b σ H λx a=>tyV K T x a/\r x [] a Q
def tBM(K:VA)(T:String)(r:V->A0 V->Hp->VK->Prop)(b:TE)(t:TA):TE:=λσ H Q=>b σ H λx a=>tyV K T x a/\t σ a λc d=>r x c d Q
variable{o e:IC}{es:A0 IC}{to:TE}{t:TA}{name:Str}{apos cpos:Pos}{T id:String}{r:V->A0 V->Hp->VK->Prop}
theorem zDd(i:PlainAttrs T)(d:Slot T name id)(e:typeOf (.builtin id)=pure (.type "method_descriptor"))(j:MtR X id r)(k:PE X o to)
  (b:attributeBase o name X.env (eval o X.env)=eval o X.env:=by rfl) (c:(apos.endLine == cpos.line)=true:=by rfl):PE X (.Call (.Attribute o name apos) [] [] cpos) (zGl X.K T r to):=by
 intro a s σ H Q I h;refine wpAny_Call_method0_late b c (I_ (k a s σ H _ I h) λv l ⟨x,m,f,g,ty,n⟩=>?_);obtain⟨p,q⟩:=Wv f g ty;exact⟨T,id,i,d,e,p,q,Calls.callWith_builtin rfl (PySem.evalArgs_none (j a l σ m x [] v [] Q f g .nil n))⟩
theorem zGc(m:PlainAttrs T)(f:Slot T name id)(i:typeOf (.builtin id)=pure (.type "method_descriptor"))(n:MtR X id r)(p:PE X o to)(q:PA X (e::es) t)
  (c:attributeBase o name X.env (eval o X.env)=eval o X.env:=by rfl)
  (g:((backTo cpos (starEach (e::es) X.env)).all (λx=>!x.1) &&(backToKw cpos (keywordEach [] X.env)).all (λx=>x.1.isSome)
   && decide ((e::es).length +([]:A0 Keyword).length +(if([]:A0 Keyword).isEmpty then 0 else 1)<30))=true:=by rfl)
  (d:(apos.endLine == cpos.line)=true:=by rfl) (u:starEach (e::es) X.env =(false,eval e X.env)::starEach es X.env:=by rfl) (b:(backTo cpos (starEach es X.env)).any (·.1)=false:=by rfl) :
  PE X (.Call (.Attribute o name apos) (e::es) [] cpos) (tBM X.K T r to t):=by
 intro a s σ H Q I h;refine wpAny_Call_method_late c g d rfl (I_ (p a s σ H _ I h) λv w ⟨x,y,j,k,ty,z⟩=>?_);obtain⟨A,B⟩:=Wv j k ty;refine⟨T,id,m,f,i,A,B,?_⟩;have l:=q cpos a w σ y _ j z;rw[u]at l⊢;refine Calls.callWith_builtin (by show(false||(backTo cpos (starEach es X.env)).any (·.1))=false;rw[b]<;>rfl) (Calls.evalArgs_plain ?_);exact I_ l λC D ⟨E,F,G,J,L⟩=>n a D σ F x E v C Q G k J L
end
def P7(X:Cx)(id:String)(r:V->A0 V->Hp->VK->Prop):Prop :=
 ∀(a:A0 (A3×Obj)) (s:A4) (σ:St) (H:Hp) (x:V) (b:A0 V) (v:A2) (c:A0 A2) (Q:VK),Inv X a σ H s->RelV x v->IH b c->r x b H Q ->
  wpAny (model X.prog X.w) X.A (call (.builtin id) (v::c)) (EP X a σ Q) X.xe s
def IH.one:∀{x:V} {us:A0 A2},IH [x] us->∃u,us = [u]/\RelV x u
 | _,_,.cons r .nil=>⟨_,rfl,r⟩
def IH.two:∀{x y:V} {us:A0 A2},IH [x,y] us->∃u v,us = [u,v]/\RelV x u/\RelV y v
 | _,_,_,.cons r (.cons q .nil)=>⟨_,_,rfl,r,q⟩
def IH.zero:∀{us:A0 A2},IH [] us->us = []
 | _,.nil=>rfl
def IH.dropLast{xs:A0 V}{us:A0 A2}(h:IH xs us):IH xs.dropLast us.dropLast:=by
 induction h with
 | nil=>exact .nil
 | cons r t a =>
  cases t with
  | nil=>exact .nil
  | cons q b=>exact .cons r a
def IH.eraseIdx:∀{xs:A0 V} {us:A0 A2} (i:Nat),IH xs us->IH (xs.eraseIdx i) (us.eraseIdx i)
 | _,_,_,.nil=>.nil
 | _,_,0,.cons _ t=>t
 | _,_,i+1,.cons r t=>.cons r (IH.eraseIdx i t)
def IH.rep{xs:A0 V}{us:A0 A2}(h:IH xs us):∀k:Nat,IH (List.replicate k xs).flatten (List.replicate k us).flatten
 | 0=>.nil
 | k+1=>by
  rw[DA,DA,FM,FM];exact IH.append h (IH.rep h k)
def Nn{α:Type}(l:A0 α):l.eraseIdx (l.length-1)=l.dropLast:=by
 induction l with
 | nil=>rfl
 | cons a r c =>
  cases r with
  | nil=>rfl
  | cons b r =>
   have e:(a::b::r).length-1 =((b::r).length-1)+1:=by
    have d:(a::b::r).length=r.length+2:=rfl;have f:(b::r).length=r.length+1:=rfl;lia
   rw[e,List.eraseIdx_cons_succ,c]
   all_goals rfl
def Ig{α:Type}:∀(l:A0 α) (i:Nat),(l.eraseIdx i).length<=l.length
 | [],_=>VD _
 | _::_,0=>DM _
 | _::r,i+1=>E_ (Ig r i)
def Hj(its:A0 A2):∀(k:Nat) (a:A0 A2),
  List.foldl (λb c=>b++c) a.toArray (List.replicate k its.toArray) =(a ++(List.replicate k its).flatten).toArray
 | 0,a=>by simp
 | k+1,a=>by
  have e:a.toArray++its.toArray =(a++its).toArray:=by simp
  have d:(a++its) ++(List.replicate k its).flatten=a ++(List.replicate (k+1) its).flatten:=by
   rw[DA,FM,BG]
  rw[<-d,<-Hj its k (a++its),<-e,DA,HC]
section
variable{X:Cx}{pins:A0 (A3×Obj)}{σ:St}{H:Hp}{s:A4}{l b:A3}{xs ys zs:A0 V}
theorem Inv.lset{its its':A0 A2}{n:Nat}{f:HU A2->HU A2}{t':Nat}(I:Inv X pins σ H s)(a:H l=some (.lst xs))
  (e:s.heap.get? l=some { cls:=.type "list",data:=.seq its.toArray n }) (b:f its.toArray=its'.toArray) (c:IH ys its') (hz:ys.length<=sizeLine) :
  Inv X pins σ (HY H l (.lst ys)) { s with heap:=s.heap.update l (Obj.mapSeq f),toks:=t' }:=by
 have q:=PySem.IsL.update e f;rw[b]at q;refine I.write (x:=l) (e:=l) (by rw[a];exact trivial) (.inl rfl) (λh u d g=>(BH s.heap (Obj.mapSeq f) (Ne.symm d)).trans g) ⟨_,q⟩ ?_;exact⟨hz,its',_,c,q⟩
theorem Inv.lnew{its:A0 A2}{t':Nat}(I:Inv X pins σ H s)(a:IH ys its)(hz:ys.length<=sizeLine) :
  Inv X pins σ (HY H s.heap.objs.size (.lst ys)) { s with heap:=s.heap.push { cls:=.type "list",data:=.seq its.toArray },toks:=t' } :=
 I.laid (λ_ _ q=>AC _ q) (VD _) ⟨hz,its,0,a,AW _ rfl⟩
theorem Inv.fresh(I:Inv X pins σ H s):H s.heap.objs.size=none:=I.hok.fresh (VD _)
theorem Inv.lstM(I:Inv X pins σ H s)(a:H l=some (.lst xs)):xs.length<=sizeLine/\∃(its:A0 A2) (n:Nat),IH xs its/\xs.length=its.length/\s.heap.get? l=some { cls:=.type "list",data:=.seq its.toArray n }:=by
 obtain⟨z,its,n,r,e⟩:=I.hok l _ a;exact⟨z,its,n,r,r.length,e⟩
theorem Lf{n:Nat}(h:n<=sizeLine):Builtin.List.listTooLong n=false:=by
 unfold Builtin.List.listTooLong;exact AM (by lia)
end
section
variable{X:Cx}
def Zd:V->A0 V->Hp->VK->Prop:=λx b H Q=>∃l a y,x = .ref l/\b = [y]/\H l=some (.lst a)/\a.length<sizeLine/\Q .non (HY H l (.lst (a ++ [y])))
theorem R8:P7 X "list.append" Zd:=by
 intro b s σ H x i v j Q I d f h;obtain⟨l,k,y,rfl,rfl,c,m,q⟩:=h;cases d;obtain⟨u,rfl,g⟩:=f.one;obtain⟨z,a,n,r,o,e⟩:=I.lstM c;refine call_meets F.slot_list_append ⟨_,e,rfl⟩ F.entry_list_append (F.args_list_append_2 _ _) (PySem.list_append l a.toArray n u (by rw[AQ];lia)) ⟨e,?_⟩;refine⟨.non,_,I.lset (its':=a ++ [u]) c e (by simp) (r.append (.cons g .nil)) ?_,rfl,q⟩;rw[AV,GJ];lia
def zAc:V->A0 V->Hp->VK->Prop:=λx d H Q=>∃l b a c,x = .ref l/\d = [.ref b]/\H l=some (.lst a)/\H b=some (.lst c)/\a.length+c.length<=sizeLine/\Q .non (HY H l (.lst (a++c)))
theorem Ss:P7 X "list.extend" zAc:=by
 intro g s σ H x A v B Q I j k h;obtain⟨l,b,C,D,rfl,rfl,i,m,E,q⟩:=h;cases j;obtain⟨u,rfl,o⟩:=k.one;cases o;obtain⟨z,c,n,r,G,e⟩:=I.lstM i;obtain⟨J,a,p,t,w,y⟩:=I.lstM m;have f:c.toArray.size+a.toArray.size<=sizeLine:=by rw[AQ,AQ];lia
 have d:¬(!c.toArray.isEmpty&&Builtin.List.listTooLong (c.toArray.size+a.toArray.size))=true:=by
  rw[Lf f,HI];exact BE
 refine call_meets F.slot_list_extend ⟨_,e,rfl⟩ F.entry_list_extend (F.args_list_extend_2 _ _)
  (AutoSeq1.list_extend_list_list_0 l c.toArray n b a.toArray p d (by rw[AQ];lia) (by lia)) ⟨e,y,?_⟩
 refine⟨.non,_,I.lset (its':=c++a) i e (by simp) (r.append t) ?_,rfl,q⟩;rw[AV];lia
def zHz:V->A0 V->Hp->VK->Prop:=λx b H Q=>∃l a y,x = .ref l/\b = []/\H l=some (.lst a)/\a[a.length-1]?=some y/\Q y (HY H l (.lst a.dropLast))
theorem zDv:P7 X "list.pop" zHz:=by
 intro d s σ H x p v t Q I g i h;obtain⟨l,w,y,rfl,rfl,f,j,q⟩:=h;cases g;have b:=i.zero;subst b;obtain⟨z,a,n,r,k,e⟩:=I.lstM f;obtain⟨u,m,o⟩:=r.get j;have c:a.toArray[a.toArray.size-1]?=some u:=by
  show a.toArray[a.length-1]?=some u;rw[<-BJ,<-k];exact m
 refine call_meets F.slot_list_pop ⟨_,e,rfl⟩ F.entry_list_pop (F.args_list_pop_1 _) (MeetsSeq.list_pop_last l a.toArray n u c (by rw[AQ];lia)) ⟨e,?_⟩;refine⟨y,_,I.lset (its':=a.dropLast) f e ?_ r.dropLast ?_,o,q⟩
 .show a.toArray.eraseIdxIfInBounds (a.toArray.size-1)=a.dropLast.toArray;rw[AQ,List.eraseIdxIfInBounds_toArray,Nn]
 .rw[List.length_dropLast];lia
def zDg:V->A0 V->Hp->VK->Prop:=λx b H Q=>∃l a i k y,x = .ref l/\b = [.int i]/\H l=some (.lst a)/\-(2^63)<=i/\i<2^63/\seqIndex? i a.length=some k/\a[k]?=some y/\Q y (HY H l (.lst (a.eraseIdx k)))
theorem Uu:P7 X "list.pop" zDg:=by
 intro c s σ H x E v G Q I f g h;obtain⟨l,j,i,k,y,rfl,rfl,d,m,o,p,A,q⟩:=h;cases f;obtain⟨u,rfl,B⟩:=g.one;obtain⟨t,rfl⟩:=B;obtain⟨z,a,n,r,C,e⟩:=I.lstM d;obtain⟨w,D,b⟩:=r.get A;refine call_meets F.slot_list_pop ⟨_,e,rfl⟩ F.entry_list_pop (F.args_list_pop_2 _ _)
  (MeetsSeq.list_pop_at l a.toArray n i t k w (fitsIndex_both m o) (by rw[AQ,<-C];exact p) (by rw[<-BJ];exact D) (by rw[AQ];lia)) ⟨e,?_⟩
 refine⟨y,_,I.lset (its':=a.eraseIdx k) d e ?_ (r.eraseIdx k) ?_,b,q⟩
 .show a.toArray.eraseIdxIfInBounds k =(a.eraseIdx k).toArray;rw[List.eraseIdxIfInBounds_toArray]
 .have:=Ig j k;lia
def zHn:R2:=λx y H Q=>∃l b a c,x = .ref l/\y = .ref b/\H l=some (.lst a)/\H b=some (.lst c)/\a.length+c.length<=sizeLine/\∀p,H p=none->Q (.ref p) (HY H p (.lst (a++c)))
theorem Dr:KH X (binaryOp .Add) zHn:=by
 intro d s σ H x y v u Q I f g h;obtain⟨l,b,t,w,rfl,rfl,i,j,A,q⟩:=h;cases f;cases g;obtain⟨z,c,n,r,B,e⟩:=I.lstM i;obtain⟨C,a,D,k,m,o⟩:=I.lstM j;refine PySem.P.add_list e o ?_ (by rw[AQ,AQ];lia);have p:c.toArray++a.toArray =(c++a).toArray:=by simp
 rw[p];exact⟨.ref _,_,I.lnew (t':=s.toks) (r.append k) (by rw[AV];lia),rfl,q _ I.fresh⟩
def zHo:R2:=λx y H Q=>∃l k a,x = .ref l/\y = .int k/\H l=some (.lst a)/\-(2^63)<=k/\k<2^63/\a.length*k.toNat<=sizeLine /\
 ∀p,H p=none->Q (.ref p) (HY H p (.lst (List.replicate k.toNat a).flatten))
theorem zAo{α:Type}(xs:A0 α)(k:Nat):(List.replicate k xs).flatten.length=k*xs.length:=by
 induction k with
 | zero=>simp
 | succ k a=>rw[DA,FM,AV,a,Nat.succ_mul,Nat.add_comm]
theorem Xl:KH X (binaryOp .Mult) zHo:=by
 intro p s σ H x y v u Q I A B h;obtain⟨l,k,L,rfl,rfl,C,D,E,w,q⟩:=h;cases A;obtain⟨t,rfl⟩:=B;obtain⟨z,b,n,r,G,e⟩:=I.lstM C;have d:b.toArray.size*k.toNat<=sizeLine:=by rw[AQ,<-G];exact w
 have f:¬b.toArray.size*k.toNat >(2^63-1) / 8:=by
  have:(sizeLine:Nat)<=(2^63-1) / 8:=by decide
  lia
 have g:¬(!Builtin.List.listFitsIndex k)=true:=by
  rw[fitsIndex_both D E];exact BE
 have c:¬Builtin.List.listTooLong (b.toArray.size*k.toNat)=true:=by
  rw[Lf d];exact BE
 have i:List.foldl (λj o=>j++o) #[] (List.replicate (if b.toArray.isEmpty=true then 0 else k.toNat) b.toArray) =(List.replicate k.toNat b).flatten.toArray:=by
  have J:∀m:Nat,List.foldl (λj o=>j++o) #[] (List.replicate m b.toArray) =(List.replicate m b).flatten.toArray:=λm=>by
   have:=Hj b m [];rw[F_]at this;exact this
  rw[J];cases b with
  | nil=>simp
  | cons a M=>rw[AI (by simp)]
 refine wpAny_binaryOp_repeat_ref (T := "list") (U := "int") (by decide) ⟨_,e,rfl⟩ (λK=>typeIs_int K k t) noFill_list_mul F.fills_int_mul F.slot_int_rmul repeat_list F.slot_int_index.lookup
  (call_meets F.slot_int_rmul (typeIs_int s k t) F.entry_int_rmul (F.args_int_rmul_2 _ _) (int___rmul___int_list k t l b.toArray n)
   ⟨e,rfl,⟨_,e,rfl⟩,call_meets F.slot_list_mul ⟨_,e,rfl⟩ F.entry_list_mul (F.args_list_mul_2 _ _) (AutoListH.list___mul___list_int_3 l b.toArray n k t g f c) ⟨e,?_⟩⟩)
 rw[i];exact⟨.ref _,_,I.lnew (t':=s.toks) (r.rep k.toNat) (by rw[zAo,Nat.mul_comm];exact w),rfl,q _ I.fresh⟩
end
section
variable{Z:Type}[DecidableEq Z]
def W9(kvs:A0 (Z×V))(k:Z):A5 V:=(kvs.find? λa=>decide (a.1=k)).map (·.2)
def Bd(kvs:A0 (Z×V))(k:Z)(v:V):A0 (Z×V) :=
 if(kvs.any λa=>decide (a.1=k))=true then kvs.map (λa=>if a.1=k then(a.1,v)else a)else kvs ++ [(k,v)]
theorem Q4{p:Z×V}{r:A0 (Z×V)}{k:Z}(e:p.1=k):W9 (p::r) k=some p.2:=by simp[W9,GB,e]
theorem Q1{p:Z×V}{r:A0 (Z×V)}{k:Z}(e:¬p.1=k):W9 (p::r) k=W9 r k:=by simp[W9,GB,e]
theorem t9(k:Z):∀kvs:A0 (Z×V),(kvs.any λa=>decide (a.1=k)) =(W9 kvs k).isSome
 | []=>rfl
 | p::r=>by
  rw[GG];by_cases e:p.1=k
  .simp only[Q4 e,AS e,Bool.true_or,Option.isSome_some]
  .rw[Q1 e,AM e,Bool.false_or];exact t9 k r
theorem Lv(k j:Z)(y:V):∀kvs:A0 (Z×V),W9 (kvs.map λa=>if a.1=k then(a.1,y)else a) j =(W9 kvs j).map λx=>if j=k then y else x
 | []=>rfl
 | p::r=>by
  have b:=Lv k j y r;rw[BM];by_cases h:p.1=k
  .rw[AN h];by_cases e:p.1=j
   .rw[Q4 (p:=(p.1,y)) e,Q4 e,HD,AN (e.symm.trans h)]
   .rw[Q1 (p:=(p.1,y)) e,Q1 e,b]
  .rw[AI h];by_cases e:p.1=j
   .rw[Q4 (p:=p) e,Q4 e,HD,AI (λz=>h (e.trans z))]
   .rw[Q1 (p:=p) e,Q1 e,b]
theorem Ii(k j:Z)(y:V):∀kvs:A0 (Z×V),W9 kvs k=none->W9 (kvs ++ [(k,y)]) j=if j=k then some y else W9 kvs j
 | [],_=>by
  by_cases e:k=j
  .rw[AN e.symm];exact Q4 (p:=(k,y)) e
  .rw[AI (λz=>e z.symm)];exact Q1 (p:=(k,y)) e
 | p::r,a=>by
  rw[List.cons_append];have b:¬p.1=k:=λz=>by rw[Q4 z]at a;cases a
  rw[Q1 b]at a;have c:=Ii k j y r a;by_cases e:p.1=j
  .rw[Q4 e,Q4 e,AI (λz=>b (e.trans z))]
  .rw[Q1 e,Q1 e,c]
theorem Wb(kvs:A0 (Z×V))(k j:Z)(y:V):W9 (Bd kvs k y) j=if j=k then some y else W9 kvs j:=by
 unfold Bd;by_cases a:(kvs.any λb=>decide (b.1=k))=true
 .rw[AN a,Lv];rw[t9]at a;by_cases e:j=k
  .obtain⟨x,c⟩:=FN.mp a;rw[AN e,e,c,HD,AN rfl]
  .rw[AI e];cases W9 kvs j with
   | none=>rfl
   | some x=>rw[HD,AI e]
 .rw[AI a];refine Ii k j y kvs ?_;rw[t9]at a;cases q:W9 kvs k with
  | none=>rfl
  | some x=>rw[q]at a;exact(a rfl).elim
theorem U8(kvs:A0 (Z×V))(k:Z)(v:V):(Bd kvs k v).length<=kvs.length+1:=by
 unfold Bd;split
 .rw[AB];lia
 .rw[AV,BQ,List.length_nil];lia
theorem Md{kvs:A0 (Z×V)}{k:Z}(v:V)(h:W9 kvs k=none):Bd kvs k v=kvs ++ [(k,v)]:=by
 unfold Bd;rw[t9,h];exact AI (by decide)
theorem LV.isSome_eq{o:A5 V}{u:A5 A2}(r:LV o u):o.isSome=u.isSome:=by
 cases o with
 | none=>cases u with
  | none=>rfl
  | some _=>exact(show False from r).elim
 | some _=>cases u with
  | none=>exact(show False from r).elim
  | some _=>rfl
theorem LV.getD{o:A5 V}{u:A5 A2}{d:V}{d':A2}(r:LV o u)(a:RelV d d'):RelV (o.getD d) (u.getD d'):=by
 cases o with
 | none=>cases u with
  | none=>exact a
  | some _=>exact(show False from r).elim
 | some _=>cases u with
  | none=>exact(show False from r).elim
  | some _=>exact r
theorem KV.val{kvs:A0 (Z×V)}{vs:A0 (Z×A2)}(r:KV kvs vs)(k:Z):LV (W9 kvs k) (valueAt vs k):=by
 unfold KV at r
 induction r with
 | nil=>exact VC
 | @cons p q ps a h t f =>
  obtain⟨d,g⟩:=h;by_cases e:p.1=k
  .have c:q.1=k:=d.symm.trans e;have b:valueAt (q::a) k=some q.2:=by simp[valueAt,GB,c]
   rw[Q4 e,b];exact g
  .have c:¬q.1=k:=λz=>e (d.trans z);have b:valueAt (q::a) k=valueAt a k:=by simp[valueAt,GB,c]
   rw[Q1 e,b];exact f
theorem KV.any{kvs:A0 (Z×V)}{vs:A0 (Z×A2)}(r:KV kvs vs)(k:Z):(kvs.any λa=>decide (a.1=k))=vs.any λa=>decide (a.1=k):=by
 unfold KV at r
 induction r with
 | nil=>rfl
 | cons h t b=>rw[GG,GG,b,h.1]
theorem KV.repl{kvs:A0 (Z×V)}{vs:A0 (Z×A2)}(r:KV kvs vs)(k:Z){y:V}{u:A2}(c:RelV y u) :
  KV (kvs.map λa=>if a.1=k then(a.1,y)else a) (vs.map λa=>if a.1=k then(a.1,u)else a):=by
 unfold KV at r⊢
 induction r with
 | nil=>exact .nil
 | @cons p q ps g h t d =>
  rw[BM,BM];refine .cons ?_ d;obtain⟨b,f⟩:=h;by_cases e:p.1=k
  .rw[AN e,AN (b.symm.trans e)];exact⟨b,c⟩
  .rw[AI e,AI (λz=>e (b.trans z))];exact⟨b,f⟩
theorem KV.put{kvs:A0 (Z×V)}{vs:A0 (Z×A2)}(r:KV kvs vs)(k:Z){y:V}{u:A2}(a:RelV y u):KV (Bd kvs k y) (stored vs k u):=by
 unfold Bd stored;rw[r.any k];by_cases e:(vs.any λb=>decide (b.1=k))=true
 .rw[AN e,AN e];exact r.repl k a
 .rw[AI e,AI e];exact Paired.snoc r ⟨rfl,a⟩
theorem KV.length{kvs:A0 (Z×V)}{vs:A0 (Z×A2)}(r:KV kvs vs):kvs.length=vs.length:=Paired.length r
end
def Io{P:HV}{w:HX}{k:IQ}{u:A2}(r:RelV (kV k) u):(C5 P w).is k u=true:=by
 cases k with
 | inl i=>obtain⟨t,e⟩:=(show ∃t,u=Value.int i t from r);subst e;exact Jg P w i t
 | inr x=>obtain⟨t,e⟩:=(show ∃t,u=Value.str x t from r);subst e;exact Kh P w x t
def Hm{P:HV}{w:HX}:∀{a:A0 IQ} {us:A0 A2},IH (a.map kV) us->ItemsAre (C5 P w) a us
 | [],_,r=>by rw[FY]at r;cases r;exact .nil
 | k::a,_,r=>by
  rw[BM]at r;cases r with
  | cons h t=>exact .cons (Io h) (Hm t)
abbrev KT(H:Hp):A0 (A0 IQ×V)->A0 (A0 IQ×A3×A2)->Prop:=Paired λp q=>p.1=q.1/\H q.2.1=some (.tup (p.1.map kV))/\RelV p.2 q.2.2
def KT.val{H:Hp}{kvs:A0 (A0 IQ×V)}{xs:A0 (A0 IQ×A3×A2)}(r:KT H kvs xs)(k:A0 IQ):LV (W9 kvs k) ((atKey xs k).map (·.2)):=by
 induction r with
 | nil=>exact VC
 | @cons p q ps a h t f =>
  obtain⟨d,_,g⟩:=h;by_cases e:p.1=k
  .have c:q.1=k:=d.symm.trans e;have b:atKey (q::a) k=some q.2:=by simp[atKey,GB,c]
   rw[Q4 e,b];exact g
  .have c:¬q.1=k:=λz=>e (d.trans z);have b:atKey (q::a) k=atKey a k:=by simp[atKey,GB,c]
   rw[Q1 e,b];exact f
section
variable{P:HV}{w:HX}{H:Hp}{h:H_}{a:A3}
theorem zEo{u:HO}(b:MU P w H h)(e:Rd H a u):IS P w H h a u:=e.ok b
theorem On{kvs:A0 (IQ×V)}(b:MU P w H h)(e:Rd H a (.dK kvs)):kvs.length<=sizeLine/\(a == sysModules)=false/\∃vs,KV kvs vs/\h.DictOf (C5 P w) a vs :=
 show IS P w H h a (.dK kvs)from zEo b e
theorem Uz{kvs:A0 (IQ×V)}(b:MU P w H h)(e:H a=some (.dK kvs)):kvs.length<=sizeLine/\(a == sysModules)=false/\∃vs,KV kvs vs/\h.DictOf (C5 P w) a vs:=On b (.inl e)
theorem Ag{b:A0 IQ}(d:MU P w H h)(e:H a=some (.tup (b.map kV))):(tupleKind (C5 P w)).is h b a:=by
 obtain⟨_,c,r,o,f,g,n,i⟩:=(show IS P w H h a (.tup (b.map kV))from d a _ e);exact⟨o,c.toArray,n,f,g,i,by simpa using Hm r⟩
theorem Qn{kvs:A0 (A0 IQ×V)}(c:MU P w H h)(e:Rd H a (.dT kvs)):kvs.length<=sizeLine/\(a == sysModules)=false /\
  ∃xs,KT H kvs xs/\h.DictOfH (tupleKind (C5 P w)) a xs:=by
 obtain⟨z,y,xs,r,o,f,g,i,j,k,n,s⟩:=(show IS P w H h a (.dT kvs)from zEo c e);refine⟨z,y,xs,r,o,f,g,i,j,k,n,λx hx=>?_,s⟩;have b:∀{l:A0 (A0 IQ×V)} {m:A0 (A0 IQ×A3×A2)},KT H l m->∀x∈m,(tupleKind (C5 P w)).is h x.1 x.2.1:=by
  intro l m q
  induction q with
  | nil=>intro x hx;exact nomatch hx
  | @cons p q ps v d t u =>
   intro x hx;rcases AR.mp hx with e | hx
   .subst e;exact Ag c (by rw[<-d.1];exact d.2.1)
   .exact u x hx
 exact b r x hx
end
def LE(H:Hp)(a:A3)(y:V)(r:A5 V):Prop :=
 (∃c k,Rd H a (.dK c)/\y=kV k/\r=W9 c k)\/∃c k b,Rd H a (.dT c)/\y = .ref b/\H b=some (.tup (k.map kV))/\r=W9 c k
def LE.k{H:Hp}{a:A3}{kvs:A0 (IQ×V)}{k:IQ}(e:H a=some (.dK kvs)):LE H a (kV k) (W9 kvs k):=.inl ⟨kvs,k,.inl e,rfl,rfl⟩
section
variable{X:Cx}{pins:A0 (A3×Obj)}{σ:St}{H:Hp}{s:A4}{a:A3}{y v:V}{u r:A2}{o:A5 V}{A:IA}{E:A2->A4->Prop}
theorem Inv.big(I:Inv X pins σ H s):sysModules<s.heap.objs.size:=by
 have h:mainGlobals<s.heap.objs.size:=(I.mod.glob.keeps I.bk).lt;exact Nat.lt_trans (by decide) h
theorem Qh{Q:A2->A4->Prop}(x:A.units+1<cLine)(I:Inv X pins σ H s)(g:LE H a y (some v))(r:RelV y u)(h:∀f t,Inv X pins σ H t->RelV v f->Q f t) :
  wpAny (model X.prog X.w) A (getItem (.ref a) u) Q E s:=by
 rcases g with⟨i,k,e,j,l⟩ | ⟨i,k,b,e,j,B,l⟩
 .subst j;obtain⟨z,C,D,c,m⟩:=On I.hok e;obtain⟨f,n,d⟩:=LV.some_of (v:=v) (o:=valueAt D k) (by rw[l];exact c.val k);exact wpAny_getItem_of (Io r) m.mapOf n (h f _ (I.tok _) d)
 .subst j;cases(show u=Value.ref b from r);obtain⟨z,C,F,c,m⟩:=Qn I.hok e;obtain⟨f,n,d⟩:=LV.some_of (v:=v) (o:=(atKey F k).map (·.2)) (by rw[l];exact c.val k);obtain⟨p,G,q⟩:=BF.mp n;refine wpAny_getItem_heap (tupleKind_room_in1 x) (Ag I.hok B) m G ?_;rw[q];exact h f _ (I.tok _) d
theorem Yr{Q:A2->A4->Prop}(p:A.units+1<cLine)(I:Inv X pins σ H s)(g:LE H a y o)(m:RelV y u)(h:∀n,Inv X pins σ H n->Q (.bool (!o.isSome)) n) :
  wpAny (model X.prog X.w) A (compareOp .NotIn u (.ref a)) Q E s:=by
 rcases g with⟨d,k,e,f,l⟩ | ⟨d,k,b,e,f,r,l⟩
 .subst f;obtain⟨z,i,t,c,j⟩:=On I.hok e;refine wpAny_notIn_of (Io m) i j.mapOf ?_;rw[<-(c.val k).isSome_eq,<-l];exact h _ (I.tok _)
 .subst f;cases(show u=Value.ref b from m);obtain⟨z,i,v,c,j⟩:=Qn I.hok e;refine wpAny_notIn_heap (tupleKind_room_in1 p) (Ag I.hok r) i j ?_;have q:=(c.val k).isSome_eq;rw[Option.isSome_map]at q;rw[<-q,<-l];exact h _ (I.tok _)
theorem Sy{h':H_}{t':Nat}{c:HO}(I:Inv X pins σ H s)(f:TQ (H a))(g:Heap.SameBut a s.heap h')(h:∃q,h'.get? a=some q)(d:IS X.prog X.w (HY H a c) h' a c) :
  Inv X pins σ (HY H a c) { s with heap:=h',toks:=t' } :=
 I.write (x:=a) (e:=a) f (.inl rfl) (λb q i z=>(g.2 b i).trans z) h d
theorem Ky{P:HV}{w:HX}{H':Hp}{h':H_}{kvs:A0 (IQ×V)}{vs:A0 (IQ×A2)}(z:kvs.length<=sizeLine)(c:(a == sysModules)=false)(b:KV kvs vs)(d:h'.DictOf (C5 P w) a vs) :
  IS P w H' h' a (.dK kvs):=⟨z,c,vs,b,d⟩
end
def zGm(i:IC):Prop:=∀a b,subscripted i false a b=operate [a,b] (getItem a b)
def Yk{prog:HV}{w:HX}{A:IA}{E:A2->A4->Prop}{s:A4}{c:QS}{b a:IC}{e:Pos}{T id:String}{Q:A2->A4->Prop}
  (g:typeLookup (.type T) "__getitem__" = pure (some (.builtin id))) (j:zGm a)
  (h:wpAny (model prog w) A (eval b c) (λo i1=>wpAny (model prog w) A (eval a c) (λi n0=>n0.TypeIs o T/\wpAny (model prog w) A (getItem o i) Q E n0) E i1) E s) :
  wpAny (model prog w) A (eval (.Subscript b a e) c) Q E s:=by
 refine Subscript_ (B_ h (λo i1 q0=>B_ q0 (λi n0 h₂=>?_) λ_ _ x=>x) λ_ _ x=>x);obtain⟨f,h₂⟩:=h₂;unfold subscriptTail;refine AA ?_;rw[getitemInPython_of_ne f.not_modules];refine AA (GC f g ?_);have d:wpAny (model prog w) A (subscripted a false o i) (λr s₃=>wpAny (model prog w) A (letTemporaryGo b o r >>= λ_=>pure r) Q E s₃) E n0:=by
  rw[j o i];exact wpAny_operating (B_ h₂ (λr s₃ h₃=>AA (wpAny_letTemporaryGo (AD h₃))) λ_ _ x=>x)
 first
  | exact AD (AA d)
  | exact AA (AD (AA d))
  | exact AA d
def Jd{X:Cx}{c:A0 (A3×Obj)}{σ:St}{H:Hp}{s:A4}{a:A3}{y:V}{o:A5 V}(I:Inv X c σ H s)(g:LE H a y o):s.TypeIs (.ref a) "dict":=by
 rcases g with⟨d,k,e,_,_⟩ | ⟨d,k,b,e,_,_,_⟩
 .obtain⟨_,_,h,_,f⟩:=On I.hok e;exact f.typeIs
 .obtain⟨_,_,i,_,f⟩:=Qn I.hok e;exact f.typeIs
def zDy(c ty:TE):TE:=λσ H Q=>c σ H λx d=>ty σ d λy b=>∃a v,x = .ref a/\LE b a y (some v)/\Q v b
def Zb(ty c:TE):TE:=λσ H Q=>ty σ H λy d=>c σ d λx b=>∃a o,x = .ref a/\LE b a y o/\Q (.bl (!o.isSome)) b
section
variable{X:Cx}{o i e value:IC}{pos pos' tpos:Pos}{td ty tv:TE}
theorem Y0(e:X.A.units+1<cLine)(f:PE X o td)(hi:PE X i ty)(j:zGm i):PE X (.Subscript o i pos) (zDy td ty):=by
 intro b s σ H Q I h;refine Yk PySem.F.slot_dict_getitem.lookup j (I_ (f b s σ H _ I h) λu k ⟨x,l,m,n,p⟩=>I_ (hi b k σ l _ m p) λB C ⟨y,q,d,r,a,v,t,g,w⟩=>?_);subst t;obtain rfl:u=Value.ref a:=n;exact⟨Jd d g,Qh e d g r λD E z c=>⟨v,q,z,c,w⟩⟩
theorem Sh(c:X.A.units+1<cLine)(hi:PE X i ty)(d:PE X o td):PC X .NotIn i o (Zb ty td):=by
 intro b s σ H Q I h;refine I_ (hi b s σ H _ I h) λw e ⟨y,f,j,k,l⟩=>I_ (d b e σ f _ j l) λu z ⟨x,m,n,p,a,q,r,g,t⟩=>?_;subst r;obtain rfl:u=Value.ref a:=p;exact Yr c n g k λB v=>⟨.bl (!q.isSome),m,v,rfl,t⟩
end
def Ey{P:HV}{w:HX}{H:Hp}(h:H_)(a:sysModules<h.objs.size):IS P w H (h.push { cls:=.type "dict",data:=.dict #[] }) h.objs.size (.dK []) :=
 ⟨CB _,beq_eq_false_iff_ne.mpr (Ne.symm (BA a)),[],.nil,Heap.DictOf.new h⟩
def zDq:TE:=λ_ H Q=>∀p,H p=none->Q (.ref p) (HY H p (.dK []))
section
variable{X:Cx}{pos:Pos}
theorem Vv:PE X (.Dict [] [] pos) zDq:=λb s σ H Q I h =>
 wpAny_Dict_empty ⟨.ref s.heap.objs.size,_,I.laid (a:=s.heap.objs.size) (o:=.dK []) (t':=s.toks) (λ_ _ q=>AC _ q) (VD _) (Ey s.heap I.big),rfl,h _ (I.hok.fresh (VD _))⟩
end
structure M1(X:Cx)(o:IC)(m:Str)(apos:Pos)(e:IC)(cpos:Pos):Prop where
 base:attributeBase o m X.env (eval o X.env)=eval o X.env
 few:((backTo cpos (starEach [e] X.env)).all (λx=>!x.1) &&(backToKw cpos (keywordEach [] X.env)).all (λx=>x.1.isSome)
  && decide (([e]:A0 IC).length +([]:A0 Keyword).length +(if([]:A0 Keyword).isEmpty then 0 else 1)<30))=true
 line:(apos.endLine == cpos.line)=true
 trees:backTo cpos (starEach [e] X.env) = [(false,eval e X.env)]
def IsD(H:Hp)(a:A3):Prop:=(∃b,Rd H a (.dK b))\/∃b,Rd H a (.dT b)
def Wt{X:Cx}{f:A0 (A3×Obj)}{σ:St}{H:Hp}{s:A4}{a:A3}(I:Inv X f σ H s)(d:IsD H a) :
  s.TypeIs (.ref a) "dict"/\(∀b,Value.ref a = .ref b->∃c,s.heap.get? b=some c/\c.dict=none)/\(a == sysModules)=false:=by
 rcases d with⟨h,e⟩ | ⟨h,e⟩
 .obtain⟨_,i,l,_,g⟩:=On I.hok e;refine⟨g.typeIs,λb q=>?_,i⟩;cases q;obtain⟨c,_,_,j,k,_⟩:=g;exact⟨c,j,k.2.1⟩
 .obtain⟨_,i,m,_,g⟩:=Qn I.hok e;refine⟨g.typeIs,λb q=>?_,i⟩;cases q;obtain⟨c,_,_,j,k,_⟩:=g;exact⟨c,j,k.2.1⟩
section
variable{X:Cx}{pins:A0 (A3×Obj)}{σ:St}{H:Hp}{s:A4}{a:A3}{y d:V}{u r:A2}{o:A5 V}{A:IA}{E:A2->A4->Prop}
theorem zCt{Q:A2->A4->Prop}(q:A.units+1<cLine)(I:Inv X pins σ H s)(g:LE H a y o)(m:RelV y u)(h:∀n p,Inv X pins σ H p->RelV (o.getD .non) n->Q n p) :
  wpAny (model X.prog X.w) A (call (.builtin "dict.get") [.ref a,u]) Q E s:=by
 rcases g with⟨f,k,e,i,l⟩ | ⟨f,k,b,e,i,r,l⟩
 .subst i;obtain⟨z,j,v,c,d⟩:=On I.hok e;refine call_meetsIn PySem.F.slot_dict_get d.typeIs PySem.F.entry_dict_get (PySem.F.args_dict_get_2 _ _) (meets_dict_get (C5 X.prog X.w) a (Io m) j) ⟨_,d.mapOf,h _ _ (I.tok _) ?_⟩;rw[l];exact(c.val k).getD rfl
 .subst i;cases(show u=Value.ref b from m);obtain⟨z,j,t,c,d⟩:=Qn I.hok e;refine call_meetsIn PySem.F.slot_dict_get d.typeIs PySem.F.entry_dict_get (PySem.F.args_dict_get_2 _ _) (meetsH_dict_get (tupleKind (C5 X.prog X.w)) a b j) ⟨tupleKind_room_in1 q,k,t,Ag I.hok r,d,h _ _ (I.tok _) ?_⟩;rw[l];exact(c.val k).getD rfl
end
def Li(d ty:TE):TE:=λσ H Q=>d σ H λx b=>∃a,x = .ref a/\IsD b a/\ty σ b λy c=>∃o,LE c a y o/\Q (o.getD .non) c
section
variable{X:Cx}{o e f:IC}{apos cpos:Pos}{td ty tx:TE}
theorem Y9(i:X.A.units+1<cLine)(j:PE X o td)(k:PE X e ty)(m:M1 X o "get" apos e cpos):PE X (.Call (.Attribute o "get" apos) [e] [] cpos) (Li td ty):=by
 intro b s σ H Q I h;refine wpAny_Call_method m.base m.few m.line PySem.F.plainAttrs_dict PySem.F.slot_dict_get PySem.F.type_dict_get (I_ (j b s σ H _ I h) λu l ⟨x,n,f,p,a,q,d,r⟩=>?_);subst q;obtain rfl:u=Value.ref a:=p;obtain⟨t,v,_⟩:=Wt f d;refine⟨t,v,?_⟩;rw[m.trees];refine Calls.callWith_builtin rfl (Calls.evalArgs_plain (Calls.spliced_cons (I_ (k b l σ n _ f r) λE G ⟨y,w,z,B,J,g,C⟩=>Calls.spliced_nil ?_)));exact zCt i z g B λK L D c=>⟨_,w,D,c,C⟩
end
end L2
namespace Att
open PySem PySem.W PySem.Calls PyProof.Rows
def Cm{P:Params}{h:H_}:∀(ns:A0 Int) (vs:A0 A2),WellAll P h vs (ns.map WData.int)->IntsAre vs ns:=by
 intro ns
 induction ns with
 | nil =>
  intro vs w;rw[FY]at w;cases w;exact .nil
 | cons n ns c =>
  intro vs w;rw[BM]at w;cases w with
  | cons a b =>
   cases a;exact .cons _ _ (c _ b)
def Tk{l:OpenLaw}{n:Nat}(o:l.most=some n){P:Params}{h:H_}{args:A0 WData}{b:A0 A2}
  (c:l.row.toRowW.claim.pre args=true) (j:WellAll P h b args) :
  ∃a vs ns,b = [Value.ref a]/\args = [WData.list (ns.map WData.int)]/\h.get? a=some { cls:=.type "list",data:=.seq vs.toArray }/\IntsAre vs ns/\ns.length<=n:=by
 have k:WShape.hasAll [] args [.list .int]=true:=(pre_splitW c).1;have m:l.pre.holds [] { args:=args }=true:=(pre_splitW c).2;obtain⟨d,r,rfl,p,s⟩:=hasAllW_cons k;obtain rfl:=hasAllW_nil s;obtain⟨y,rfl,t⟩:=hasW_list p;obtain⟨ns,rfl⟩:=items_int t;have e:ns.length<=n:=by
  unfold OpenLaw.pre at m;have g:(WTm.not (.lt (.lit (.int (n:Int))) (.len (.arg 0)))).holds [] { args:=[.list (ns.map .int)] }=true:=by
   have g:=(holds_andW m).1;rw[o]at g;exact g
  have i:=condW_of g (w_not (w_lt w_lit (w_len_list (w_arg rfl))));rw[AB]at i;refine Nat.le_of_not_lt λq=>?_;have u:(n:Int) <((ns.length:Nat):Int):=by lia
  first
   | (rw[AS u]at i;exact absurd i (by decide))
   | (simp at i;lia)
 cases j with
 | cons v w =>
  cases w;cases v with
  | list x f=>exact⟨_,_,ns,rfl,rfl,x,Cm ns _ f,e⟩
def Sz(l:OpenLaw)(args:A0 WData):l.row.toRowW.claim.post args (.bool true) args=true :=
 postW_of (r:=l.row.toRowW) (X:=(true == true))
  (show WShape.has [] (.bool true) .bool=true by first | rfl | decide | simp[WShape.has,WShape.arms,WShape.armsAll])
  (show(WTm.eq .res (.lit (.bool true))).value [] { args:=args,res:=some (.bool true),after:=args }=some (.bool (true == true))from w_eq_bool (w_res rfl) w_lit) rfl
def PR{l:OpenLaw}{n:Nat}{q:HV}{b:A0 Str}{A:(Str->A5 A2)->H_->Prop}{B:HX->H_->Prop}{d:DefRec}
  (F:l.most=some n) (t:d.params.defaults = [])
  (call:∀(w:HX) (s₀ i1:A4) (k u:Str->A5 A2) (g:A3) (o:Obj) (v m c:A2) (a:A3) (vs:A0 A2) (ns:A0 Int),
   Ground q b [] A w s₀ k u i1.heap->B w i1.heap ->
   i1.heap.get? g=some o->o.data = .func (docDef d.name d.params d.body d.scope v m c)->i1.heap.CodeRec m d.name->k d.name=some (.ref g) ->
   i1.heap.get? a=some { cls:=.type "list",data:=.seq vs.toArray }->IntsAre vs ns->ns.length<=n->i1.gens = #[] ->
   codeAny (model l.prog w) callerA (.call (.ref g) ⟨[.ref a],[]⟩) (λr p=>r = .ok (.ret (.bool true))/\OldK i1.heap p.heap/\p.os=i1.os/\AllBare p.gens) i1) :
  WalkO q b A B l.row.toRowW d [] (λf vs=>PySem.call f vs):=by
 intro w s₀ i1 k u G Y g o v m c H kV I J x C y K args D S h E L z M;obtain rfl:H = .none:=Dflts.none C t;obtain rfl:kV = .none:=Dflts.noKw C;obtain⟨a,vs,ns,rfl,rfl,i,e,j⟩:=Tk F h z;refine enter_call (FK (call w s₀ i1 k u g o v m c a vs ns G Y I (fd_plain J) x y i e j K) λr p N=>?_);obtain⟨rfl,O,P,Q⟩:=N;exact⟨.inl ⟨.bool true,.bool true,[],rfl,λ_=>rfl,.bool true,Sz l _,λ_=>⟨List.Pairwise.nil,λ_ R=>(nomatch R)⟩⟩,O,P,Q⟩
end Att
namespace L2
open PySem PySem.Spec PyProof.Rows
def Gq:∀{vs:A0 A2} {ns:A0 Int},IntsAre vs ns->IH (ns.map V.int) vs
 | _,_,.nil=>.nil
 | _,_,.cons n t h=>.cons ⟨t,rfl⟩ (Gq h)
def zFu(H:Hp):Prop:=∀b,H b=none\/∃o a,H b=some (.frz o (.lst a))
def Vx{P:HV}{w:HX}{K:VA}{t N:Str->A5 A2}{CX:QT}{k:Nat}{O a:A3}{Y:IT}{x:Str}{sp:Sp}{i1:A4}{vs:A0 A2}{ns:A0 Int}
  (Z:K.In i1.heap) (y:i1.heap.Ns mainGlobals t) (f:i1.heap.Ns builtinsNs N) (Q:∀x:Str,x≠ "__name__"->N x=bootBuiltins x) (A:i1.heap.NoLimit) (hg:i1.gens = #[])
  (M:i1.heap.get? a=some { cls:=.type "list",data:=.seq vs.toArray }) (hi:IntsAre vs ns) (hl:ns.length<=sizeLine) (hr:JT k callerA)
  (F:∀g:H_,K.In g->g.Ns mainGlobals t->IJ P w K t g CX k O Y [x] sp) (p:∀(s:A4) (u:A2),BindsTo s Y ⟨[u],[]⟩ [(x,u)])
  (R:∀H:Hp,zFu H->IG K H a (ns.map V.int)->sp [.ref a] H (λv _=>v = .bl true) λ_ _ _=>False)
  (S:∀H e i,CX [] H i1 (λ_ _ _=>False) e i->False) :
  codeAny (model P w) callerA (.call (.ref O) ⟨[.ref a],[]⟩) (λr i=>r = .ok (.ret (.bool true))/\OldK i1.heap i.heap/\i.os=i1.os/\AllBare i.gens) i1:=by
 have rv:=Gq hi;have B:=hi.length;have l:∀H:Hp,zFu H->IG K H a (ns.map V.int)->MU P w H i1.heap->(∀b,H b≠none->b=a)->(H a≠none->K.lookup a=none) ->
   codeAny (model P w) callerA (.call (.ref O) ⟨[.ref a],[]⟩) (λr i=>r = .ok (.ret (.bool true))/\OldK i1.heap i.heap/\i.os=i1.os/\AllBare i.gens) i1:=by
  intro H hO hS C hA hK;have c:∀{b:A3} {o:Obj},i1.heap.get? b=some o->H b=none->(Wj i1.heap H).get? b=some o:=λe n=>Uo e n;have T:∀{b:A3} {o:Obj} {D:HU DictEntry} {E:Nat},i1.heap.get? b=some o->o.data = .dict D E->H b=none:=fun{b o D E} e d=>by
   cases q:H b with
   | none=>rfl
   | some u =>
    have U:b=a:=hA b (by rw[q];simp);subst U;rw[M]at e;cases e;have d':Data.seq vs.toArray _=Data.dict D E:=d;cases d'
  have j:∀{b:A3} {m:Str->A5 A2},i1.heap.Ns b m->(Wj i1.heap H).Ns b m:=fun{b m} ⟨o,D,E,e,d,r⟩=>⟨o,D,E,c e (T e d),d,r⟩;have G:K.In (Wj i1.heap H):=λb o e=>c (Z b o e) (by
   cases q:H b with
   | none=>rfl
   | some u =>
    have U:b=a:=hA b (by rw[q];simp);subst U;rw[hK (by rw[q];simp)]at e;cases e)
  have hM:Mod K t (Wj i1.heap H):=⟨G,j y,⟨N,j f,Q⟩,let⟨mc,h1,h2⟩:=A;⟨mc,j h1,h2⟩⟩;have e0:QH P w K t (Wj i1.heap H) callerA [] i1 H:=⟨rfl,hM,λb o e=>zAk e,VF (Tr _ _),trivial,λb f=>absurd (show b∈([]:A0 A3)from f) (by simp),C,.of_eq hg⟩;refine FK ((F _ G (j y)).run callerA [] i1 H ⟨[.ref a],[]⟩ [.ref a] [.ref a] _ _ hr e0 (p i1 (.ref a)) (.cons rfl .nil) (R H hO hS)) λr i h=>?_;cases r with
  | error e=>exact(S H e i h).elim
  | ok fl =>
   cases fl with
   | next=>exact VB h
   | brk=>exact VB h
   | cont=>exact VB h
   | ret u =>
    obtain⟨v,H',os,I,un,J,r',q⟩:=h;have q':v = .bl true:=q;subst q';obtain rfl:u=Value.bool true:=r';refine⟨rfl,OldK.of_keep λb o e=>?_,os,I⟩;cases q:H b with
    | none=>exact un.keep b o e q (by intro z;exact absurd (show b∈([]:A0 A3)from z) (by simp)) (by simp)
    | some u =>
     rcases hO b with z | ⟨ob,xs,z⟩
     .rw[q]at z;cases z
     .have z2:=un.frzs b ob _ z;obtain⟨e1,_⟩:=C b _ z;obtain⟨e2,_⟩:=J b _ z2;rw[e]at e1;cases e1;exact e2
 cases X:K.lookup a with
 | some o =>
  have e:=Z a o X;rw[M]at e;cases e;refine l (λ_=>none) (λ_=>.inl rfl) (.inr ⟨_,vs.toArray,_,X,rfl,rfl,rfl,by rw[AQ,B];exact hl,by simpa using rv⟩) (λb u z=>by have L:(none:A5 HO)=some u:=z;cases L) (λb z=>absurd rfl z) λz=>absurd rfl z
 | none =>
  refine l (λb=>if b=a then some (.frz { cls:=.type "list",data:=.seq vs.toArray } (.lst (ns.map V.int)))else none) (λb=>?_) (.inl (.inr ⟨{ cls:=.type "list",data:=.seq vs.toArray },AN rfl⟩)) (λb u z=>?_) (λb z=>?_) λ_=>X
  .by_cases f:b=a
   .exact .inr ⟨_,_,AN f⟩
   .exact .inl (AI f)
  .by_cases f:b=a
   .have L:=(AN f).symm.trans z;cases L;subst f;exact⟨M,by rw[AB];exact hl,vs,_,rv,M⟩
   .have L:=(AI f).symm.trans z;cases L
  .by_cases f:b=a
   .exact f
   .exact absurd (AI f) z
def RE{l:PySem.W.OpenLaw}{n k:Nat}{q:HV}{j:A0 Str}{L:(Str->A5 A2)->H_->Prop}{I:HX->H_->Prop}{d:DefRec}{K:Params->VA}{CX:HX->QT}{sp:HX->Sp}{x:Str}
  (M:l.most=some n) (y:n<=sizeLine) (z:d.params.defaults = []) (N:JT k callerA)
  (O:∀(w:HX) (h:H_),I w h->(K w.params).In h)
  (F:∀(w:HX) (p:Str->A5 A2) (t:A3) (h:H_),(K w.params).In h->h.Ns mainGlobals p->p d.name=some (.ref t) ->
   ∃A:IT,(∀(s:A4) (u:A2),BindsTo s A ⟨[u],[]⟩ [(x,u)]) /\
    ∀c:H_,(K w.params).In c->c.Ns mainGlobals p->IJ l.prog w (K w.params) p c (CX w) k t A [x] (sp w))
  (B:∀(w:HX) (H:Hp) (a:A3) (ns:A0 Int),ns.length<=n->zFu H->IG (K w.params) H a (ns.map V.int)->sp w [.ref a] H (λv _=>v = .bl true) λ_ _ _=>False)
  (C:∀(w:HX) (H:Hp) (s:A4) (e:A2) (D:A4),CX w [] H s (λ_ _ _=>False) e D->False) :
  PySem.W.WalkO q j L I l.row.toRowW d [] (λf vs=>PySem.call f vs):=by
 refine Att.PR M z λw s₀ i1 p mb t o pm cd P a vs ns G Y ho hd Q E r m i R=>?_;have J:=O w _ Y;obtain⟨A,S,U⟩:=F w p t _ J G.T.g E;exact Vx J G.T.g G.T.b G.T.builtins G.T.nolimit R r m (VE i y) N U S (λH X Z=>B w H a ns i X Z) λH e D=>C w H i1 e D
def J9(s:IL)(j:Nat):IL:=match s with
 | .ClassDef _ _ _ a _ _ _ _ _ _ _=>a.getD j (.Pass ⟨0,0,0,0⟩)
 | _=>.Pass ⟨0,0,0,0⟩
def T7(s:IL):Arguments:=match s with
 | .FunctionDef _ a _ _ _ _ _ _ _ _=>a
 | _=>{ posonlyargs:=[],args:=[],vararg:=none,kwonlyargs:=[],kw_defaults:=[],kwarg:=none,defaults:=[] }
def S3(s:IL):A0 IL:=match s with
 | .FunctionDef _ _ b _ _ _ _ _ _ _=>b
 | _=>[]
def B6(s:IL):KM:=match s with
 | .FunctionDef _ _ _ _ _ _ a _ _ _=>a
 | _=>{ kind:=.function,names:=[],isGenerator:=false,isCoroutine:=false }
abbrev JQ:QT:=λ_ _ _ _ _ _=>False
abbrev E0:XK:=λ_ _ _=>False
def J6{X:Cx}:Bn JQ X E0:=λ_ _ _ _ _ _ _ h=>h.elim
structure PM(K:VA)(x qual:Str)(st:IL)(f:A3)(fd:IT):Prop where
 ex:∃(oc:A2) (od:A5 A3) (kV doc pm:A2) (an:A5 A3) (cdv ct:A2) (osl:HU (A5 A2)),
  fd=PySem.W.fnOf x qual (T7 st) (S3 st) (B6 st) .none kV doc pm an cdv ct/\K.lookup f=some ⟨oc,od,.func fd,osl⟩/\PySem.W.codeIn K cdv qual=true
 kp:PySem.W.keepIn K (.ref f)=true
section
variable{P:HV}{w:HX}{K:VA}{mg:Str->A5 A2}{base:H_}
theorem PM.ok{x b:Str}{st:IL}{f:A3}{j:IT}{N ps:A0 Str}{k:Nat}{sp:Sp}(F:PM K x b st f j)(S:IB N ps (B6 st))(e:∀vs H Q E,sp vs H Q E->vs.length=ps.length)
  (d:∀(c:A2) (A:IA) (a:A0 QS) (s:A4) (H:Hp) (vs:A0 V) (Q:VK) (E:XK),JT k (A.deeper (envOfC b (B6 st) s.heap.objs.size f c))->sp vs H Q E ->
   ∃t,QE (Yj JQ P w K mg base N b (B6 st) f c A a s H E).nox (S3 st) t/\t { nx:=λ_ H'=>Q .non H',rt:=Q } (Fe N vs) H):IJ P w K mg base JQ (k+1) f j ps sp:=by
 obtain⟨o,p,kV,l,r,u,c,v,m,rfl,lk,g⟩:=F.ex;refine zFs lk g S e λA a s H vs Q E n i=>?_;obtain⟨t,h,q⟩:=d c A a s H vs Q E n i;exact⟨t,h.nox,q⟩
theorem PM.binds{x a:Str}{st:IL}{f:A3}{g:IT}{ps:A0 Str}(F:PM K x a st f g)
  (h:∀(kV b d:A2) (e:A5 A3) (c ct:A2) (us:A0 A2),us.length=ps.length->bindArgs (PySem.W.fnOf x a (T7 st) (S3 st) (B6 st) .none kV b d e c ct) ⟨us,[]⟩=pure (ps.zip us)):Binds K g ps []:=by
 obtain⟨k,l,kV,b,d,e,c,ct,i,rfl,lk,j⟩:=F.ex;exact .all (h kV b d e c ct)
theorem KB{x a:Str}{st:IL}{f:A3}{i:A2}{j g:A5 A3}{e:HU (A5 A2)}{kV d h b ct:A2}(l:K.lookup f=some ⟨i,j,.func (PySem.W.fnOf x a (T7 st) (S3 st) (B6 st) .none kV d h g b ct),e⟩)
  (c:PySem.W.codeIn K b a=true) (k:PySem.W.keepIn K (.ref f)=true):PM K x a st f (PySem.W.fnOf x a (T7 st) (S3 st) (B6 st) .none kV d h g b ct):=⟨⟨i,j,kV,d,h,g,b,ct,e,rfl,l,c⟩,k⟩
end
def Q8{A:IA}{k:Nat}(a:JT k A):A.units+1<cLine:=Nat.lt_of_le_of_lt (ED (by decide:1<=64) _) a.units
section
variable{X:Cx}
theorem pv(i:Nat){x:Str}{a:Pos}(c:X.N[i]?=some x:=by rfl)(d:Vis X.env.scope x:=by first | exact Or.inl rfl | exact Or.inr (Or.inl rfl) | exact Or.inr (Or.inr rfl))(e:(x ==("__debug__":Str))=false:=by decide)
  (b:(x ==("__classdict__":Str))=false:=by decide):PE X (.Name x a) (T9 i):=zCf c d e b
def N9{A B:Prop}(h:B):if false=true then A else B:=by
 rw[AI BE];exact h
def Y6{A B:Prop}(h:A):if true=true then A else B:=by
 rw[AN rfl];exact h
def Z8{c A B:Prop}[Decidable c](h1:c->A)(h2:¬c->B):if c then A else B:=by
 by_cases h:c
 .rw[AN h];exact h1 h
 .rw[AI h];exact h2 h
def Cv(H H':Hp):Prop:=∀b o,H b=some o->H' b=some o
def Cv.refl(H:Hp):Cv H H:=λ_ _ h=>h
def Cv.trans{H d e:Hp}(a:Cv H d)(b:Cv d e):Cv H e:=λc o h=>b c o (a c o h)
def Cv.free{H H':Hp}(e:Cv H H'){l:A3}(h:H' l=Option.none):H l=Option.none:=by
 cases q:H l with
 | none=>rfl
 | some o =>
  rw[e l o q]at h;cases h
section
variable{Z:Type}[DecidableEq Z]
theorem Rk{kvs:A0 (Z×V)}{k:Z}{v:V}(h:W9 kvs k=some v):k∈kvs.map (·.1):=by
 have q:(kvs.any λa=>decide (a.1=k))=true:=by
  rw[t9,h]
  all_goals rfl
 obtain⟨p,b,e⟩:=GS.mp q;exact BK.mpr ⟨p,b,BL e⟩
end
def LU(X:Cx)(a:KM)(cl:A0 (Str×A3))(N':A0 Str)(b:A0 (A3×Obj))(ex:A0 A3)(c:A4)(d:Hp):Cx where
 prog:=X.prog
 w:=X.w
 K:=X.K
 mg:=X.mg
 base:=X.base
 A:=X.A
 N:=N'
 s₀:=c
 H₀:=d
 env:=compEnvC a cl c.heap.objs.size X.env
 outer:=X.stack
 stack:=X.stack
 ex:=ex
 fn:=λ_=>false
 calm:=X.calm
 pn:=X.pn++b
 xe:=λ_ _=>False
def NY(X:Cx)(a:KM)(cl:A0 (Str×A3)):A0 Str->A0 (A5 Nat)->Prop
 | [],[]=>True
 | _::N,none::c=>NY X a cl N c
 | x::N,some j::c=>(X.N[j]?=some x/\X.env.scope.names.lookup x=some .cell/\(relabel a X.env).names.lookup x=some .cell/\cl.lookup x=X.env.cells.lookup x)/\NY X a cl N c
 | _,_=>False
def QQ(X:Cx):A0 (Str×A3)->Prop
 | []=>True
 | p::r=>X.env.cells.lookup p.1=some p.2/\QQ X r
structure ME(X:Cx)(scope:KM)(cl:A0 (Str×A3))(N':A0 Str)(cap:A0 (A5 Nat)):Prop where
 kind:scope.kind = .function
 nocell:∀y∈scope.names,y.2≠ .cell
 loc:∀y∈scope.names,y.2 = .local->scope.names.lookup y.1=some .local
 clos:closureFor scope X.env=pure cl
 cin:QQ X cl
 has:((relabel scope X.env).names.all λy=>!(y.2 == .cell||y.2 == .free)||(cl.lookup y.1).isSome)=true
 caps:NY X scope cl N' cap
def Xk(cap:A0 (A5 Nat))(σ:St):St:=cap.map λo=>o.bind λj=>(σ[j]?).join
def QQ.get{X:Cx}:∀{cl:A0 (Str×A3)} {x:Str} {c:A3},QQ X cl->cl.lookup x=some c->X.env.cells.lookup x=some c
 | [],_,_,_,h=>by simp at h
 | (y,d)::r,x,c,⟨a,b⟩,h=>by
  rw[List.lookup_cons]at h;cases e:x == y with
  | true =>
   rw[e]at h;cases h;rw[beq_iff_eq.mp e];exact a
  | false =>
   rw[e]at h;exact QQ.get b h
def NY.len{X:Cx}{a:KM}{cl:A0 (Str×A3)}:∀{N:A0 Str} {cap:A0 (A5 Nat)},NY X a cl N cap->cap.length=N.length
 | [],[],_=>rfl
 | _::N,none::c,h=>by rw[BQ,BQ,NY.len (N:=N) (cap:=c) h]
 | _::N,some j::c,h=>by rw[BQ,BQ,NY.len h.2]
 | [],_::_,h=>h.elim
 | _::_,[],h=>h.elim
def NY.get{X:Cx}{a:KM}{cl:A0 (Str×A3)}{j:Nat}{x:Str}:∀{N:A0 Str} {cap:A0 (A5 Nat)} {i:Nat},NY X a cl N cap->N[i]?=some x->cap[i]?=some (some j) ->
  X.N[j]?=some x/\X.env.scope.names.lookup x=some .cell/\(relabel a X.env).names.lookup x=some .cell/\cl.lookup x=X.env.cells.lookup x
 | [],_,_,_,h,_=>by simp at h
 | _::_,[],_,_,_,h=>by simp at h
 | y::N,none::c,0,_,_,h=>by simp at h
 | y::N,none::c,i+1,h,b,d=>NY.get (N:=N) (cap:=c) (i:=i) h (by simpa using b) (by simpa using d)
 | y::N,some k::c,0,h,b,d=>by
  simp at b d;subst b;subst d;exact h.1
 | y::N,some k::c,i+1,h,b,d=>NY.get (N:=N) (cap:=c) (i:=i) h.2 (by simpa using b) (by simpa using d)
section
variable{X:Cx}{scope:KM}{cl:A0 (Str×A3)}{N':A0 Str}{cap:A0 (A5 Nat)}{pins:A0 (A3×Obj)}{σ:St}{H3:Hp}{s3:A4}{ex:A0 A3}
theorem Dd{p:NX->Bool}:∀{names:A0 (Str×NX)} {q:Str->NX->Bool} {x:Str} {k:NX},(names.all λy=>q y.1 y.2)=true->names.lookup x=some k->q x k=true
 | [],_,_,_,_,h=>by simp at h
 | (y,d)::r,q,x,k,a,h=>by
  rw[List.all_cons,DC]at a;rw[List.lookup_cons]at h;cases e:x == y with
  | true =>
   rw[e]at h;cases h;rw[beq_iff_eq.mp e];exact a.1
  | false =>
   rw[e]at h;exact Dd (p:=p) (names:=r) (q:=q) a.2 h
theorem Inv.block(I:Inv X pins σ H3 s3)(S:ME X scope cl N' cap)(hc:X.calm=true)(t:∀b∈ex,Ea X pins H3 b/\∃o,s3.heap.get? b=some o){h1:H_}{T:Nat}
  (G:h1.Ns s3.heap.objs.size (λ_=>none)) (B:∀b o,s3.heap.get? b=some o->h1.get? b=some o) :
  Inv (LU X scope cl N' pins ex s3 H3) [] (Xk cap σ) H3 { s3 with heap:=h1,toks:=T }:=by
 have C:∀b o,s3.heap.get? b=some o->b≠s3.heap.objs.size:=λb o e=>BA (AG e);have w:∀x c,cl.lookup x=some c->∃v,s3.heap.IsCell c v:=λx c e=>I.cell x c (S.cin.get e);have A:H3 s3.heap.objs.size=none:=I.hok.fresh (VD _);refine⟨⟨I.ok.mod,?_,I.ok.glob,I.ok.blt,VD _,λx y c H g=>I.ok.inj x y c (S.cin.get H) (S.cin.get g),λx U=>?_,λx c h _=>absurd h BE,I.ok.hd,I.ok.frames,.inl rfl,λb D=>?_,I.bs,VE I.ok.bsz I.sz,λb o e D=>?_,λb D=>?_,I.stack,I.stkFree⟩,
  rfl,I.bare,Un.kept B,⟨_,G,λi x v H g e3=>?_⟩,λx c e=>?_,A,λx c e=>I.freeC x c (S.cin.get e),λp V=>?_,I.hok.kept B,?_⟩
 .exact S.kind
 .have q:∀k,(relabel scope X.env).names.lookup x=some k->(!(k == .cell||k == .free)||(cl.lookup x).isSome)=true:=λk e=>Dd (p:=λ_=>true) (q:=λa k=>!(k == .cell||k == .free)||(cl.lookup a).isSome) S.has e;have J:(relabel scope X.env).names.lookup x=some .cell\/(relabel scope X.env).names.lookup x=some .free:=U;have:(cl.lookup x).isSome=true:=by
   rcases J with e | e
   .exact q _ e
   .exact q _ e
  exact FN.mp this
 .obtain⟨⟨_,_,_,_,W,_⟩,o,e⟩:=t b D;exact⟨C b o e,λx c E=>W x c (S.cin.get E)⟩
 .obtain⟨⟨f0,P,Q,f3,_⟩,_⟩:=t b D;rcases f3 with f3 | f3
  .exact I.ok.noex b o e f3
  .have:=(I.ok.bs b o e).1;exact absurd (BI (AG this) f3) (C_ _)
 .intro K;obtain⟨⟨_,P,Q,_⟩,_⟩:=t b D;rcases AR.mp (I.stkSub b K)with z | z
  .exact P z
  .exact Q z
 .unfold Xk at g;rw[AH]at g;cases E:cap[i]? with
  | none=>rw[E]at g;cases g
  | some o =>
   rw[E]at g;cases o with
   | none=>cases g
   | some j =>
    have f:(σ[j]?).join=some v:=BU g;obtain⟨Y,R,Z,c4⟩:=S.caps.get H E;have F:σ[j]?=some (some v):=by
     cases F:σ[j]? with
     | none=>rw[F]at f;cases f
     | some z=>rw[F]at f;cases z with
      | none=>cases f
      | some z=>cases f;rfl
    obtain⟨m,hn,hl⟩:=I.loc;obtain⟨u,r,l⟩:=hl j x v Y F (.inr (.inl R));refine⟨u,r,?_⟩;rcases l with⟨k,_⟩ | ⟨_,c,L,s⟩
    .have:X.env.scope.names.lookup x=some .local:=k;rw[R]at this;cases this
    .exact .inr ⟨.inl Z,c,c4.trans L,let⟨o,M,N⟩:=s;⟨o,B _ _ M,N⟩⟩
 .obtain⟨v,o,M,N⟩:=w x c e;exact⟨v,o,B _ _ M,N⟩
 .have O:p∈X.pn++pins:=by simpa [LU] using V
  obtain⟨e,n,ne,nf,d⟩:=I.pin p O;refine⟨B _ _ e,n,C _ _ e,λK=>?_,d⟩;rcases AR.mp (I.stkSub p.1 K)with z | z
  .exact ne z
  .exact nf z
 .unfold Xk;rw[AB];exact S.caps.len
theorem Inv.unblock{σ':St}{H':Hp}{s':A4}{h':H_}(I:Inv X pins σ H3 s3)(g:∀b∈ex,Ea X pins H3 b)(J:Inv (LU X scope cl N' pins ex s3 H3) [] σ' H' s')(f:Heap.SameBut s3.heap.objs.size s'.heap h') :
  Inv X pins σ H' { s' with heap:=h' }:=by
 have d:H' s3.heap.objs.size=none:=J.free;refine I.call' (ch:=ex) J.os ⟨λb o e n h a=>?_,λb o e n h a=>?_,λb o e n a=>?_,λb o e a=>?_,J.base.tups,J.base.frzs,J.base.tbls⟩ (λb j e=>?_) J.bare λb i=>?_
 .exact(f.2 b (BA (AG e))).trans (J.base.keep b o e n h a)
 .obtain⟨k,q⟩:=J.base.slot b o e n h a;exact⟨k,(f.2 b (BA (AG e))).trans q⟩
 .exact J.base.free b o e n a
 .obtain⟨l,q⟩:=J.base.there b o e a;exact⟨l,(f.2 b (BA (AG e))).trans q⟩
 .refine(J.hok b j e).stay (λc u m q=>(f.2 c ?_).trans q) (λ_ q=>q) λ_ _ q=>q;rintro rfl;rcases m with z | z
  .rw[<-z,d]at e;cases e
  .rw[d]at z;cases z
 .obtain⟨_,p,_,r,s,t⟩:=g b i;exact⟨r,p,s,t⟩
end
def Mm(e:IC)(d:Nat)(iter tg:IC)(ifs:A0 IC)(b:Sem Fin->Sem Fin)(g f:A2)(a:QS):Sem Fin:=do
 standAt iter.pos
 match <-pyNext g with
 | none=>pure (.done .next)
 | some v =>
  letOwnedTupleGo tg g v
  assign tg a v
  let mut h:=true
  for c in ifs do
   if h then h <-isTrue c a (eval c a)
  if h then b (again (.compLoop e d g f a))else again (.compLoop e d g f a)
def emL(a:IC)(b:A2)(c:QS)(k:Sem Fin):Sem Fin:=(do let _ <-call (.builtin "list.append") [b,<-eval a c]:Sem Unit) >>= λ_=>k
def emD(a b:IC)(D:A3)(c:QS)(k:Sem Fin):Sem Fin:=(do
   let d <-eval a c
   let e <-holding [d] (eval b c)
   standAt { a.pos with endLine:=b.pos.endLine,endCol:=b.pos.endCol }
   holding [d,e] (dictSet D d e):Sem Unit) >>= λ_=>k
def Di(b tg iter:IC)(ifs:A0 IC)(a:KM)(e:Pos)(f c:A2)(d:QS) :
  compTurn (.ListComp b [⟨tg,iter,ifs,0⟩] a e) 0 f c d=Mm (.ListComp b [⟨tg,iter,ifs,0⟩] a e) 0 iter tg ifs (emL b c d) f c d:=rfl
def Ec(k v tg iter:IC)(ifs:A0 IC)(a:KM)(c:Pos)(d:A2)(D:A3)(b:QS) :
  compTurn (.DictComp k v [⟨tg,iter,ifs,0⟩] a c) 0 d (.ref D) b=Mm (.DictComp k v [⟨tg,iter,ifs,0⟩] a c) 0 iter tg ifs (emD k v D b) d (.ref D) b:=rfl
abbrev RO:=St->Hp->(St->Hp->Prop)->Prop
def PEm(X:Cx)(b:Sem Fin->Sem Fin)(t:RO):Prop :=
 ∀(a:A0 (A3×Obj)) (s:A4) (σ:St) (H:Hp) (Q:St->Hp->Prop) (k:Sem Fin) (F:Fin->A4->Prop) (E:A2->A4->Prop),Inv X a σ H s->t σ H Q ->
  (∀c σ' d,Inv X a σ' d c->Q σ' d->wpAny (model X.prog X.w) X.A k F E c)->wpAny (model X.prog X.w) X.A (b k) F E s
def SH(X:Cx)(ifs:A0 IC)(t:TT):Prop :=
 ∀(a:A0 (A3×Obj)) (s:A4) (σ:St) (H:Hp) (Q:Bool->Hp->Prop),Inv X a σ H s->t σ H Q ->
  wpAny (model X.prog X.w) X.A (forIn ifs true λc r=>if r=true then do let b <-isTrue c X.env (eval c X.env);pure (ForInStep.yield b)else pure (ForInStep.yield r)) (TP X a σ Q) X.xe s
def Gn:TT:=λ_ H Q=>Q true H
def P5{X:Cx}:SH X [] Gn:=λ_ _ _ H _ I h=>wpAny_tests_nil ⟨H,I,h⟩
def K8{X:Cx}{c:IC}{t:TT}(h:PT X c t):SH X [c] t:=λa s σ H Q I q=>wpAny_tests_one (h a s σ H Q I q)
def Au(g:TG)(e:TT)(em:RO)(J:It)(σ:St)(H:Hp)(Q:St->Hp->Prop):Prop :=
 ∃W:Nat->Nat->St->Hp->Prop,(∃m,W 0 m σ H)/\∀i m σ H,W i m σ H->(J.stop i H/\Q σ H)\/(J.go i H/\∀x c,J.yld i H x c->g x σ c λσ2 f=>e σ2 f λb d =>
  if b=true then em σ2 d λσ3 h=>∃a,a < m/\W (i+1) a σ3 h else ∃a,a < m/\W (i+1) a σ2 d)
section
variable{X:Cx}{e tg iter:IC}{d:Nat}{ifs:A0 IC}{emit:Sem Fin->Sem Fin}{it:A3}{acc:A2}{g:TG}{tc:TT}{em:RO}{J:It}{fp:A0 A3}{tn:Nat->H_->Prop}{R:Result->A4->Prop}
theorem n9(G:X.A.under (.compLoop e d (.ref it) acc X.env)=X.A)(t:(model X.prog X.w).den (.compLoop e d (.ref it) acc X.env) =(compTurn e d (.ref it) acc X.env).onRaise (λx=>do noteFrame x X.env;theTreesLotGoes x))(V:X.calm=true)(L:X.xe=λ_ _=>False)(M:compTurn e d (.ref it) acc X.env=Mm e d iter tg ifs emit (.ref it) acc X.env)(hg:PG X tg g)(ht:SH X ifs tc)(N:PEm X emit em)
  (T:MJ X.prog X.w X.K tg J fp it tn) {a:A0 (A3×Obj)} {s:A4} {σ:St} {H:Hp} {Q:St->Hp->Prop} (I:Inv X a σ H s) (st:tn 0 s.heap) (Y:∀b∈fp,Ea X a H b) (h:Au g tc em J σ H Q)
  (hR:∀v σ' H',Inv X a σ' H' v->Q σ' H'->R (.ok .next) v):codeAny (model X.prog X.w) X.A (.compLoop e d (.ref it) acc X.env) R s:=by
 obtain⟨W,⟨m0,w0⟩,y⟩:=h;have c:∀{H':Hp},(∀b∈fp,H' b=none)->∀b∈fp,Ea X a H' b:=λhn b f=>⟨hn b f,(Y b f).2⟩;have Z:∀{α:Type} {m:Sem α} {P:α->A4->Prop} {E:A2->A4->Prop} {s:A4},wpAny (model X.prog X.w) X.A m P X.xe s->wpAny (model X.prog X.w) X.A m P E s:=λq=>by
  rw[L]at q;exact B_ q (λ_ _ z=>z) λ_ _ z=>z.elim
 refine codeAny_loop rfl (λn v=>∃i σ' H',Inv X a σ' H' v/\tn i v.heap/\(∀b∈fp,H' b=none)/\W i n σ' H') (λn s3 hI=>?_) m0 ⟨0,σ,H,I,st,λb f=>(Y b f).1,w0⟩;obtain⟨i,σ3,D,I3,B,C,w3⟩:=hI;rw[G,t];refine wpAny_noted ?_;rw[M];unfold Mm;refine AA (EZ (AA ?_));rcases y i n σ3 D w3 with⟨stop,qn⟩ | ⟨go,step⟩
 .refine B_ (T.done X rfl rfl rfl V i a s3 σ3 D _ I3 (c C) B stop) (λr s4 ⟨O,I4⟩=>?_) λ_ _ z=>z;subst O;exact AD (hR s4 σ3 D I4 qn)
 .refine B_ (T.item X rfl rfl rfl V i a s3 σ3 D _ I3 (c C) B go) (λr s4 ⟨u,O,h4⟩=>?_) λ_ _ z=>z;subst O;refine AA (B_ h4 (λ_ s5 ⟨x,H5,I5,r5,y5,j,S⟩=>?_) λ_ _ z=>z);have U:=I5.pinned (c S) (T.obj _ _ j);have again:∀{σ7:St} {k:Hp} {l:A4},Inv X (a++Gd fp s5.heap) σ7 k l->(∃F,F < n/\W (i+1) F σ7 k)->∃m,m<n/\∃i σ' H',Inv X a σ' H' l/\tn i l.heap/\(∀b∈fp,H' b=none)/\W i m σ' H':=fun{σ7 k l} p n7=>by
   obtain⟨F,hm,w7⟩:=n7;refine⟨F,hm,i+1,σ7,k,p.unpinned,T.keep _ _ _ j λb f o e=>(p.pin (b,o) (BN _ (BN _ (Y5 f e)))).1,λb f=>?_,w7⟩;obtain⟨o,e,d⟩:=T.obj _ _ j b f;exact(p.pin (b,o) (BN _ (BN _ (Y5 f e)))).2.1
  refine AA (B_ (Z (hg _ s5 σ3 H5 x u _ U r5 (step x H5 y5))) (λ_ s6 ⟨σ6,H6,I6,q6⟩=>?_) λ_ _ z=>z);refine AA (B_ (Z (ht _ s6 σ6 H6 _ I6 q6)) (λok l ⟨k,p,q7⟩=>?_) λ_ _ z=>z);cases ok with
  | false=>exact AD ⟨rfl,again p q7⟩
  | true =>
   exact N _ l σ6 k _ _ _ _ p q7 λs8 σ8 H8 I8 q8=>AD ⟨rfl,again I8 q8⟩
theorem Dl(f:X.A.under (.compStart e d (.ref it) acc X.env)=X.A)(b:(model X.prog X.w).den (.compStart e d (.ref it) acc X.env) =(compStart e d (.ref it) acc X.env).onRaise (λx=>do noteFrame x X.env;standAt theWindowsPlace)){gs:A0 Comprehension}(g:clausesOf e=gs)(k:gs[d]?=some ⟨tg,iter,ifs,0⟩){s:A4}(T:MJ X.prog X.w X.K tg J fp it tn)(st:tn 0 s.heap)
  (h:codeAny (model X.prog X.w) X.A (.compLoop e d (.ref it) acc X.env) R s):codeAny (model X.prog X.w) X.A (.compStart e d (.ref it) acc X.env) R s:=by
 refine codeAny_of_tree ?_;rw[f,b];refine wpAny_notedAt ?_;unfold compStart;rw[g,k];show wpAny _ X.A (ask >>= _) _ _ s;refine AA (GT (wpAny_ite ?_));have j:=T.self X.A 0 s (λa c=>codeAny (model X.prog X.w) X.A (.compLoop e d a acc X.env) R c) (notedBy (model X.prog X.w) X.A X.env λx c=>R (.error x) c) st h;split
 .first
   | exact AA (AD (AD (And.intro rfl h)))
   | exact AD (And.intro rfl h)
 .first
   | exact AA (DF (AA (EZ (AA (B_ j (λa c i=>AD (And.intro rfl i)) λ_ _ x=>x)))))
   | (refine AA (DF ?_);show wpAny _ _ (standAt iter.pos >>= _) _ _ s;exact AA (EZ (AA (B_ j (λa c i=>AD (And.intro rfl i)) λ_ _ x=>x))))
end
section
variable{X:Cx}{tg iter:IC}{ifs:A0 IC}{g:TG}{tc:TT}{em:RO}{scope:KM}{cl:A0 (Str×A3)}{N':A0 Str}{cap:A0 (A5 Nat)}{pos:Pos}{wi:TI}
def Kj(wi:TI)(o:A3->HO)(cap:A0 (A5 Nat))(b:A3->It->St->Hp->(St->Hp->Prop)->Prop):TE:=λσ H Q=>wi σ H λJ a=>∀D,a D=none->b D J (Xk cap σ) (HY a D (o D)) λ_ c=>Q (.ref D) c
theorem Lm{e:IC}{gs:A0 Comprehension}{newAcc:Sem A2}{p2:Pos}(r:clausesOf e =⟨tg,iter,ifs,0⟩::gs)(o:A3->HO)(hs:∀x,foldedSetIterable iter X.env x=pure x)(S:ME X scope cl N' cap)(hc:X.calm=true)(hi:PI X tg iter wi)
  {lp:A3->It->St->Hp->(St->Hp->Prop)->Prop}
  (t:∀(a:A0 (A3×Obj)) (s:A4) (σ:St) (H:Hp) (Q:A2->A4->Prop) (E:A2->A4->Prop),Inv X a σ H s->(∀l,Inv X a σ (HY H s.heap.objs.size (o s.heap.objs.size)) l->(∀b f,s.heap.get? b=some f->l.heap.get? b=some f)->Q (.ref s.heap.objs.size) l)->wpAny (model X.prog X.w) X.A newAcc Q E s)
  (G:∀(a:A0 (A3×Obj)) (L:A0 A3) (s3:A4) (M:Hp) (D k:A3) (fp:A0 A3) (tn:Nat->H_->Prop) (J:It) (σ:St) (s:A4) (H:Hp) (Q:St->Hp->Prop) (R:Result->A4->Prop),
   MJ X.prog X.w X.K tg J fp k tn->Inv (LU X scope cl N' a L s3 M) [] σ H s->tn 0 s.heap->(∀b∈fp,Ea (LU X scope cl N' a L s3 M) [] H b)->lp D J σ H Q ->
   (∀l σ' H',Inv (LU X scope cl N' a L s3 M) [] σ' H' l->Q σ' H'->R (.ok .next) l) ->
   codeAny (model X.prog X.w) X.A (.compLoop e 0 (.ref k) (.ref D) (compEnvC scope cl s3.heap.objs.size X.env)) R s)
  (N:∀k D g,X.A.under (.compStart e 0 (.ref k) (.ref D) g)=X.A) (u:∀k D g,(model X.prog X.w).den (.compStart e 0 (.ref k) (.ref D) g) =(compStart e 0 (.ref k) (.ref D) g).onRaise (λx=>do noteFrame x g;standAt theWindowsPlace))
  (O:∀E Q s,wpAny (model X.prog X.w) X.A (comprehension e scope X.env p2 newAcc false (eval iter X.env)) Q E s->wpAny (model X.prog X.w) X.A (eval e X.env) Q E s) :
  PE X e (Kj wi o cap lp):=by
 intro a s σ H Q I h;refine O _ _ _ (wpAny_comprehension_free (use:=none) r hs S.clos S.kind S.loc (I_ (hi a s σ H _ I h) λv s1 B=>I_ B λitv i h2=>?_));obtain⟨k,fp,tn,J,q,P,I2,T,C,f2,R2⟩:=h2;subst P;refine t a i σ q _ _ I2 λs3 U k3=>?_;have hD:q i.heap.objs.size=none:=I2.hok.fresh (VD _);have n:∀b∈fp,Ea X a (HY q i.heap.objs.size (o i.heap.objs.size)) b/\∃f,s3.heap.get? b=some f:=λb j=>by
  obtain⟨f,e,_⟩:=T.obj _ _ C b j;obtain⟨V,fr⟩:=f2 b j;exact⟨⟨by rw[B7 (BA (AG e))];exact V,fr⟩,f,k3 b f e⟩
 refine wpAny_newFunctionEnv S.nocell (by intro y hy;simp at hy) (λB W Y=>?_) S.kind;have hk:∀b f,s3.heap.get? b=some f->B.get? b=some f:=λb f e=>(Y.2 b (BA (AG e))).trans (AC _ e);have I4:Inv (LU X scope cl N' a fp s3 (HY q i.heap.objs.size (o i.heap.objs.size))) [] (Xk cap σ) (HY q i.heap.objs.size (o i.heap.objs.size)) { s3 with heap:=B,toks:=s3.toks +([]:A0 (Str×A2)).length } :=
  U.block S hc n W hk
 have F:tn 0 B:=T.keep 0 _ _ C λb j f e=>hk b f (k3 b f e);refine Dl (X:=LU X scope cl N' a fp s3 (HY q i.heap.objs.size (o i.heap.objs.size))) (gs:=⟨tg,iter,ifs,0⟩::gs) (e:=e) (d:=0) (tg:=tg) (iter:=iter) (ifs:=ifs) (N _ _ _) (u _ _ _) r rfl T F ?_;refine G a fp s3 _ i.heap.objs.size k fp tn J (Xk cap σ) _ _ _ _ T I4 F (λb j=>?_) (R2 _ hD) λl σ' H' I' q'=>?_
 .obtain⟨⟨V,f1,Z,f3,f4,f5⟩,f,eo⟩:=n b j;refine⟨V,BA (AG eo),λhf=>?_,.inl j,λx c e=>f4 x c (S.cin.get e),λp hp=>f5 p (by simpa [LU] using hp)⟩;rcases AR.mp (U.stkSub b hf)with z | z
  .exact f1 z
  .exact Z z
 .obtain⟨m,hn,_⟩:=I'.loc;exact⟨m,hn,λh' j=>⟨.ref _,H',U.unblock (λb j=>(n b j).1) I' j,rfl,q'⟩⟩
end
section
variable{X:Cx}{tg iter elt:IC}{ifs:A0 IC}{g:TG}{tc:TT}{te:TE}{scope:KM}{cl:A0 (Str×A3)}{N':A0 Str}{cap:A0 (A5 Nat)}{pos:Pos}{wi:TI}
def Z7(D:A3)(te:TE):RO:=λσ H Q=>te σ H λy b=>∃a,b D=some (.lst a)/\a.length<sizeLine/\Q σ (HY b D (.lst (a ++ [y])))
theorem Mo{α:Type}{X:Cx}(a:X.xe=λ_ _=>False){m:Sem α}{P:α->A4->Prop}{E:A2->A4->Prop}{s:A4}(q:wpAny (model X.prog X.w) X.A m P X.xe s):wpAny (model X.prog X.w) X.A m P E s:=by
 rw[a]at q;exact B_ q (λ_ _ z=>z) λ_ _ z=>z.elim
theorem Lb{D:A3}(b:X.xe=λ_ _=>False)(d:PE X elt te):PEm X (emL elt (.ref D) X.env) (Z7 D te):=by
 intro a s σ H Q k F E I h e;unfold emL;refine AA (AA (B_ (Mo b (d a s σ H _ I h)) (λu f ⟨y,g,i,j,l,m,n,o⟩=>?_) λ_ _ z=>z));refine AA (B_ (Mo b (R8 a f σ g (.ref D) [y] (.ref D) [u] (λv c=>v = .non/\Q σ c) i rfl (.cons j .nil) ⟨D,l,y,rfl,rfl,m,n,rfl,o⟩)) (λv p ⟨t,c,q,w,_,r⟩=>?_) λ_ _ z=>z);exact AD (e p σ c q r)
theorem V9(S:ME X scope cl N' cap)(i:X.calm=true)(hi:PI X tg iter wi)
  (j:∀(a:A0 (A3×Obj)) (c:A0 A3) (d:A4) (f:Hp),PG (LU X scope cl N' a c d f) tg g/\SH (LU X scope cl N' a c d f) ifs tc/\PE (LU X scope cl N' a c d f) elt te)
  (k:∀x,foldedSetIterable iter X.env x=pure x:=by intro _;rfl) :
  PE X (.ListComp elt [⟨tg,iter,ifs,0⟩] scope pos) (Kj wi (λ_=>.lst []) cap λD J σ H Q=>Au g tc (Z7 D te) J σ H Q):=by
 refine Lm (newAcc:=newList []) (p2:=firstIterPos [⟨tg,iter,ifs,0⟩] pos) rfl (λ_=>.lst []) k S i hi (λa s σ H Q E I h=>?_) (λa c d f D q r tn J σ s H Q R T I st l h m=>?_) (λ_ _ _=>rfl) (λ_ _ _=>rfl) (λE Q s h=>h)
 .refine wpAny_newList ?_;exact h _ (I.lnew (t':=s.toks) (its:=[]) .nil (CB _)) λb t e=>AC _ e
 .obtain⟨n,o,p⟩:=j a c d f;exact n9 (X:=LU X scope cl N' a c d f) rfl rfl i rfl (Di elt tg iter ifs scope pos _ _ _) n o (Lb rfl p) T I st l h m
def Ei(D:A3)(c d:TE):RO:=λσ H Q=>c σ H λy e=>d σ e λv b=>∃a k,b D=some (.dK a)/\y=kV k/\a.length<sizeLine/\Q σ (HY b D (.dK (Bd a k v)))
theorem Mb{D:A3}{a b:IC}{j m:TE}(d:X.xe=λ_ _=>False)(o:PE X a j)(p:PE X b m):PEm X (emD a b D X.env) (Ei D j m):=by
 intro c s σ H Q k F E I h t;unfold emD;refine AA (AA (B_ (Mo d (o c s σ H _ I h)) (λu w ⟨y,x,A,B,C⟩=>?_) λ_ _ z=>z));refine AA (BP (B_ (Mo d (p c w σ x _ A C)) (λr G ⟨v,W,n,J,f,kk,e,K,l,L⟩=>?_) λ_ _ z=>z));refine AA (EZ (BP ?_));subst K;obtain⟨z,M,N,g,O⟩:=Uz n.hok e;have P:N.length<=sizeLine:=by rw[<-g.length];exact z
 have R:(Bd f kk v).length<=sizeLine:=by have:=U8 f kk v;lia
 refine wpAny_dictSet_pairs (hsz:=P) (Io B) O λS i T=>?_;have U:∃q,S.get? D=some q:=let⟨q,_,_,V,_⟩:=i;⟨q,V⟩;exact t _ σ _ (Sy (t':=G.toks+1) n (by rw[e];exact VC) T U (Ky R M (g.put kk J) i)) L
theorem Oh{a b:IC}{j k:TE}(S:ME X scope cl N' cap)(l:X.calm=true)(hi:PI X tg iter wi)
  (m:∀(c:A0 (A3×Obj)) (d:A0 A3) (f:A4) (i:Hp),PG (LU X scope cl N' c d f i) tg g/\SH (LU X scope cl N' c d f i) ifs tc/\PE (LU X scope cl N' c d f i) a j/\PE (LU X scope cl N' c d f i) b k)
  (n:∀x,foldedSetIterable iter X.env x=pure x:=by intro _;rfl) :
  PE X (.DictComp a b [⟨tg,iter,ifs,0⟩] scope pos) (Kj wi (λ_=>.dK []) cap λD J σ H Q=>Au g tc (Ei D j k) J σ H Q):=by
 refine Lm (newAcc:=newDict) (p2:=firstIterPos [⟨tg,iter,ifs,0⟩] pos) rfl (λ_=>.dK []) n S l hi (λc s σ H Q E I h=>?_) (λc d f i D y z tn J σ s H Q R T I st p h r=>?_) (λ_ _ _=>rfl) (λ_ _ _=>rfl) (λE Q s h=>h)
 .refine BV ?_;exact h _ (I.laid (a:=s.heap.objs.size) (o:=.dK []) (t':=s.toks) (λ_ _ q=>AC _ q) (VD _) (Ey s.heap I.big)) λb A e=>AC _ e
 .obtain⟨t,u,v,w⟩:=m c d f i;exact n9 (X:=LU X scope cl N' c d f i) rfl rfl l rfl (Ec a b tg iter ifs scope pos _ _ _) t u (Mb rfl v w) T I st p h r
end
instance:LawfulBEq IQ where
 rfl {a}:=by cases a with
  | inl i=>show(i == i)=true;simp
  | inr x=>show(x == x)=true;simp
 eq_of_beq {a b} h:=by
  cases a with
  | inl i=>cases b with
   | inl j=>exact congrArg Sum.inl (eq_of_beq (show(i == j)=true from h))
   | inr j=>exact absurd h (by intro z;cases z)
  | inr i=>cases b with
   | inl j=>exact absurd h (by intro z;cases z)
   | inr j=>exact congrArg Sum.inr (eq_of_beq (show(i == j)=true from h))
def Ov(P:HV)(w:HX)(a:A3)(l:A0 IQ):HO:=.ext λh=>h.SetOf (C5 P w) a (λk=>decide (k∈l)) l.length
section
variable{X:Cx}{pins:A0 (A3×Obj)}{σ:St}{H:Hp}{s:A4}{a:A3}{l:A0 IQ}
theorem zCg{P:HV}{w:HX}{H:Hp}{h:H_}(z:h.SetOf (C5 P w) a (λk=>decide (k∈l)) l.length):IS P w H h a (Ov P w a l) :=
 ⟨z,let⟨o,_,_,_,e,_⟩:=z;⟨o,e⟩,λd f ⟨o,b,c,t,e,r⟩ k=>⟨o,b,c,t,k o e,r⟩⟩
theorem Inv.set(I:Inv X pins σ H s)(e:H a=some (Ov X.prog X.w a l)):s.heap.SetOf (C5 X.prog X.w) a (λk=>decide (k∈l)) l.length:=by
 obtain⟨z,_⟩:=(show IS X.prog X.w H s.heap a (Ov X.prog X.w a l)from I.hok a _ e);exact z
theorem Mg{k:IQ}{u:A2}(r:RelV (kV k) u):u.scannable=true:=by
 cases k with
 | inl i=>obtain⟨t,rfl⟩:=r;rfl
 | inr x=>obtain⟨t,rfl⟩:=r;rfl
def zEr(l:A0 IQ)(k:IQ):A0 IQ:=if k∈l then l else l ++ [k]
theorem Jt{P:HV}{w:HX}{h:H_}{S b:IQ->Bool}{n c:Nat}(z:h.SetOf (C5 P w) a S n)(e:∀k,b k=S k)(en:c=n):h.SetOf (C5 P w) a b c:=by
 have:b=S:=funext e;subst this;subst en;exact z
theorem Sk:K0 X (.type "set") (λxs H Q=>xs = []/\∀p,H p=none->Q (.ref p) (HY H p (Ov X.prog X.w p []))):=by
 intro pins s σ H xs c Q I r h;obtain⟨rfl,q⟩:=h;cases r;refine call_set_0 λa=>⟨.ref s.heap.objs.size,_,I.laid (t':=s.toks) (λb o e=>AC _ e) (VD _) (zCg ?_),rfl,q _ (I.hok.fresh (VD _))⟩;exact(setObjOf_fresh a).setOf (AW _ rfl) (by decide)
def zCl(P:HV)(w:HX):V->A0 V->Hp->VK->Prop:=λx b H Q=>∃a l k,x = .ref a/\b = [kV k]/\H a=some (Ov P w a l)/\l.length+1<4096/\Q .non (HY H a (Ov P w a (zEr l k)))
theorem zDs:P7 X "set.add" (zCl X.prog X.w):=by
 intro pins s σ H x r v t Q I g i h;obtain⟨a,l,k,rfl,rfl,c,j,q⟩:=h;cases g;obtain⟨u,rfl,d⟩:=i.one;refine call_set_add (Io d) (Mg d) (I.set c) j λy m z=>?_;refine⟨.non,_,I.write (x:=a) (e:=a) (t':=s.toks+1) (by rw[c];exact VC) (.inl rfl) (λb q n e=>(m.2 b n).trans e) (let⟨o,_,_,_,e,_⟩:=z;⟨o,e⟩) (zCg (Jt z (λp=>?_) ?_)),rfl,q⟩
 .unfold zEr;by_cases e:k∈l
  .rw[AN e];by_cases f:p=k
   .subst f;simp[e]
   .simp[f]
  .rw[AI e];simp
 .unfold zEr;by_cases e:k∈l
  .rw[AN e];simp[e]
  .rw[AI e];simp[e]
def zGv(P:HV)(w:HX)(neg:Bool):R2:=λx y H Q=>∃a l k,y = .ref a/\x=kV k/\H a=some (Ov P w a l)/\Q (.bl (if neg then !decide (k∈l)else decide (k∈l))) H
theorem Pt:KH X (compareOp .In) (zGv X.prog X.w false):=by
 intro pins s σ H x y v u Q I b c h;obtain⟨a,l,k,rfl,rfl,d,q⟩:=h;cases c;exact wpAny_inSet_of (Io b) (Mg b) (I.set d) ⟨.bl (decide (k∈l)),H,I.tok _,rfl,q⟩
end
def Its(x:Str):It:=⟨λi _=>i<x.cps.size,λi H v a=>a=H/\∃c,x.cps[i]?=some c/\v = .str ⟨#[c]⟩,λi _=>i=x.cps.size⟩
def Mi{P:HV}{w:HX}{K:VA}{tg:IC}(a:A3)(x:Str)(t:Tok)(ty:String)(p:["enumerate","zip","dict_itemiterator","dict_reverseitemiterator","odict_iterator","itertools.zip_longest","itertools.pairwise"].contains ty=false)
  (W:∀R:IA,R.handled=none->Walks P w R a [a] [a] x.cps.size (SignAt x) (λi h=>h.IsStrIter a ty x t i))
  (g:∀(A:IA) (i:Nat) (s:A4) (Q:A2->A4->Prop) (E:A2->A4->Prop),s.heap.IsStrIter a ty x t i->Q (.ref a) s->wpAny (model P w) A (pyIter (.ref a)) Q E s):MJ P w K tg (Its x) [a] a (λi h=>h.IsStrIter a ty x t i) where
 mem:=by simp
 obj:=λi h st b j=>by
  have e:b=a:=by simpa using j
  subst e;obtain⟨o,e,c,d⟩:=st;exact⟨o,e,λv z=>by rw[d]at z;cases z⟩
 keep:=λi h m st k=>let⟨o,e,r⟩:=st;⟨o,k a (by simp) o e,r⟩
 item:=by
  intro X q y B C i f s σ H E I n st D;subst q y B;obtain⟨F,G,S,J,L,M⟩:=n a (by simp);refine(W X.A (I.ok.hd C)).item i s _ _ D st λv m N T l k=>?_;obtain⟨c,u,U,V⟩:=T;have Y:Inv X f σ H { s with heap:=m,toks:=N }:=I.turned (λb o j e=>k b o (by simpa using j) e) F G J L M;obtain⟨o,e,Z,d⟩:=id l;exact⟨v,rfl,Vy (s:={ s with heap:=m,toks:=N }) e Z d p ⟨.str ⟨#[c]⟩,H,Y,⟨u,V⟩,⟨rfl,c,U,rfl⟩,l,λb j=>(n b j).1⟩⟩
 done:=by
  intro X q y B C i f s σ H E I n st D;subst q y B;obtain⟨F,G,S,J,L,M⟩:=n a (by simp);have O:i=x.cps.size:=D;subst O;exact(W X.A (I.ok.hd C)).done s _ _ st λm N k=>⟨rfl,I.turned (λb o j e=>k b o (by simpa using j) e) F G J L M⟩
 self:=λA i s Q E st h=>g A i s Q E st h
section
variable{X:Cx}{tg:IC}
def zHx(a:TE):TI:=λσ H R=>a σ H λx b=>∃z,x = .str z/\R (Its z) b
theorem Xq{l:IC}{tl:TE}(m:PE X l tl):PI X tg l (zHx tl):=by
 intro a s σ H R I h;refine I_ (m a s σ H _ I h) λv s1 ⟨x,n,g,p,r⟩=>?_;obtain⟨z,e,q⟩:=r;subst e;obtain⟨t,rfl⟩:=p;have f:∀(o:Obj) (ty:String),o.cls = .type ty->o.data = .fields #[.str z t,.int (0:Nat) 0]->o.isFreed=false->MJ X.prog X.w X.K tg (Its z) [s1.heap.objs.size] s1.heap.objs.size (λi h=>h.IsStrIter s1.heap.objs.size ty z t i) ->
   PIE X a σ tg R (.ref s1.heap.objs.size) { s1 with heap:=s1.heap.push o }:=λo ty c d u T=>by
  refine⟨s1.heap.objs.size,[s1.heap.objs.size],_,_,n,rfl,g.kept (t':=s1.toks) λb o e=>AC _ e,T,⟨o,AW _ u,c,d⟩,λb y=>?_,q⟩;have e:b=s1.heap.objs.size:=by simpa using y
  subst e;exact g.fpOk (VD _) (g.hok.fresh (VD _))
 cases k:z.cps.all (· < 128)
 .exact wpAny_pyIter_wide k (f _ _ rfl rfl rfl (Mi _ z t "str_iterator" (by decide) (λB j=>Walks.strWide j _ z t) λA i s Q E st h=>wpAny_pyIter_striter_wide st h))
 .exact wpAny_pyIter_ascii k (f _ _ rfl rfl rfl (Mi _ z t "str_ascii_iterator" (by decide) (λB j=>Walks.strAscii j _ z t) λA i s Q E st h=>wpAny_pyIter_striter_ascii st h))
end
theorem Vl(E:X.calm=true):K0 X (.builtin "all") (λxs H Q=>∃(p:A3) (bs:A0 Bool),xs = [.ref p]/\IG X.K H p (bs.map V.bl)/\Q (.bl (bs.all id)) H):=by
 intro B s σ H xs M Q I r h;obtain⟨p,bs,rfl,F,q⟩:=h;obtain⟨u,rfl,t⟩:=X5 r;cases t;obtain⟨a,w,x,N⟩:=I.list F;refine call_all_walk (FJ x.isList ?_);have y:p≠s.heap.objs.size:=by
  obtain⟨o,n,e,_⟩:=x;exact BA (AG e)
 refine⟨s.heap.objs.size,_,_,_,_,_,λi=>bs.getD i true,rfl,Walks.list (A:=X.A.in1) (show X.A.in1.handled=none from I.ok.hd E) _ p y a.toArray,⟨⟨_,AW _ rfl,rfl,rfl⟩,?_⟩,λi v O P R G J=>?_,λS T k=>?_⟩
 .obtain⟨o,n,e,c,d,L⟩:=x;exact⟨o,AC _ e,c,n,L⟩
 .have f:(bs.map V.bl)[i]?=some (V.bl (bs.getD i true))/\RelV (V.bl (bs.getD i true)) v:=by
   have g:a[i]?=some v:=by simpa using G
   have j:i<a.length:=(AJ.mp g).1;have m:=w.length;rw[AB]at m;have e:(bs.map V.bl)[i]?=some (V.bl (bs.getD i true)):=by
    rw[AH,AF (by lia)];simp[CA,AF (show i<bs.length by lia)]
   obtain⟨u,C,t⟩:=w.get e;rw[g]at C;cases C;exact⟨e,t⟩
  cases f.2;exact CZ J
 .have m:=w.length;rw[AB]at m;have e:(List.range a.toArray.size).all (λi=>bs.getD i true)=bs.all id:=by
   rw[AQ,<-m];rw[GA,EJ,EJ];constructor
   .intro z b f;obtain⟨i,j,rfl⟩:=EA.mp f;have:=z i (DB.mpr j);simpa [CA,AF j] using this
   .intro z i j;have l:=DB.mp j;have:=z bs[i] (DL l);simpa [CA,AF l] using this
  rw[e];exact⟨.bl (bs.all id),H,I.kept λb o D=>k b o (by
   intro f;have:b=s.heap.objs.size:=by simpa using f
   exact absurd (AG D) (by rw[this];exact C_ _)) (AC _ D),rfl,q⟩
theorem Y8:∀{ss:A0 Str} {us:A0 A2},IH (ss.map V.str) us->StrsAre us ss
 | [],_,.nil=>.nil
 | _::_,_,.cons ⟨t,e⟩ r=>by subst e;exact .cons _ _ (Y8 r)
def NL(a b:Str):Prop:=¬b.cps.toList<a.cps.toList
theorem Ai:K0 X (.builtin "sorted") (λxs H Q=>∃(p:A3) (ss:A0 Str),xs = [.ref p]/\IG X.K H p (ss.map V.str)/\∀(l:A3) (a:A0 Str),H l=none->a.Perm ss->a.Pairwise NL->Q (.ref l) (HY H l (.lst (a.map V.str)))):=by
 intro D s σ H xs d Q I r h;obtain⟨p,ss,rfl,J,q⟩:=h;obtain⟨u,rfl,L⟩:=X5 r;cases L;obtain⟨f,E,M,U⟩:=I.list J;have i:=Y8 E;have W:=E.length;refine TS.KP (collect_list (vs:=f) M.isList ?_ (by lia));refine⟨rfl,by lia,strKind,oneType',λY _=>TS.MG i,λout F e N k O=>?_⟩;have g:((s.heap.push (seqObj "list" #[] 0)).update s.heap.objs.size (Obj.mapSeq (· ++ f.toArray))).objs.size=s.heap.objs.size+1:=by rw[GQ,size_push']
 obtain⟨j,P⟩:=N;have m:∀v∈out.toList,∃x t,v = .str x t:=λv n=>i.all v (j.mem_iff.mp n);have n:IH ((out.toList.map strOf).map V.str) out.toList:=by
  have:∀d:A0 A2,(∀v∈d,∃x t,v = .str x t)->IH ((d.map strOf).map V.str) d:=by
   intro d
   induction d with
   | nil=>exact λ_=>.nil
   | cons v r R =>
    intro h;obtain⟨x,t,rfl⟩:=h v (AX ..);exact .cons ⟨t,rfl⟩ (R λu w=>h u (AL _ w))
  exact this _ m
 have c:(out.toList.map strOf).Perm ss:=by
  have:=j.map strOf
  rwa [i.strs]at this
 have z:(out.toList.map strOf).Pairwise NL:=by
  rw[CS];refine(EH.mp P).imp fun{u v} ⟨w,A,q⟩=>?_;obtain⟨x,t,rfl⟩:=m u w;obtain⟨y,t',rfl⟩:=m v A;have S:decide (y.cps.toList<x.cps.toList)=false:=q;exact HE S
 have B:∀b o,s.heap.get? b=some o->F.get? b=some o:=λb o G=>k b o (by
  rw[Heap.get?_update_ne _ _ _ _ (BA (AG G))];exact AC _ G)
 have T:H (s.heap.objs.size+1)=none:=I.hok.fresh (DM _);have C:F.get? (s.heap.objs.size+1)=some (seqObj "list" out e):=by rw[<-g];exact O
 refine⟨.ref (s.heap.objs.size+1),HY H (s.heap.objs.size+1) (.lst ((out.toList.map strOf).map V.str)),?_,by show Value.ref _=_;rw[<-g],q _ _ T c z⟩;refine I.laid (t':=s.toks) B (DM _) ⟨?_,out.toList,e,n,by simpa using C⟩;rw[AB,AB,j.length_eq];lia
def Hf{α β:Type}(f:α->β){l m:A0 β}(h:l.Perm m):∀ps:A0 α,m=ps.map f->∃a:A0 α,a.Perm ps/\l=a.map f:=by
 induction h with
 | nil=>intro ps e;exact⟨ps,.refl _,e⟩
 | cons x _ n =>
  intro ps e;cases ps with
  | nil=>cases e
  | cons p ps =>
   rw[BM]at e;obtain⟨rfl,b⟩:=List.cons.inj e;obtain⟨a,c,d⟩:=n ps b;exact⟨p::a,.cons _ c,by rw[BM,d]⟩
 | swap x y l =>
  intro ps e
  match ps,e with
  | p::q::ps,e =>
   rw[BM,BM]at e;obtain⟨rfl,b⟩:=List.cons.inj e;obtain⟨rfl,o⟩:=List.cons.inj b;exact⟨q::p::ps,.swap _ _ _,by rw[BM,BM,o]⟩
 | trans _ _ g i =>
  intro ps e;obtain⟨j,c,d⟩:=i ps e;obtain⟨k,r,s⟩:=g j d;exact⟨k,r.trans c,s⟩
abbrev IM:=A3×Str×Str
def Gc(q:IM):A0 Nat×A0 Nat:=(q.2.1.cps.toList,q.2.2.cps.toList)
def QB(q r:IM):Prop:=TS.JH (Gc r) (Gc q)=false
def G8(H:Hp)(q:IM):Prop:=H q.1=some (.tup [.str q.2.1,.str q.2.2])
def Ha:∀{ps:A0 IM} {us:A0 A2},IH (ps.map λq=>V.ref q.1) us->us=ps.map λq=>Value.ref q.1
 | [],_,.nil=>rfl
 | _::_,_,.cons r t=>by rw[BM,Ha t];cases r;rfl
def Gi:∀(ps:A0 IM),IH (ps.map λq=>V.ref q.1) (ps.map λq=>Value.ref q.1)
 | []=>.nil
 | _::ps=>.cons rfl (Gi ps)
theorem Inv.pairAt{a:A0 (A3×Obj)}{σ:St}{H:Hp}{s:A4}{q:IM}(I:Inv X a σ H s)(h:G8 H q):TS.MC s.heap (.ref q.1) q.2.1 q.2.2:=by
 obtain⟨b,f,⟨o,e,c,n,d⟩,_⟩:=I.tuple (IU.of h);obtain⟨i,j,rfl,⟨t,rfl⟩,⟨g,rfl⟩⟩:=f.two;exact⟨q.1,o,n,t,g,rfl,e,c,d⟩
theorem Hh:K0 X (.builtin "sorted") (λxs H Q=>∃(p:A3) (ps:A0 IM),xs = [.ref p]/\IG X.K H p (ps.map λq=>V.ref q.1)/\(∀q∈ps,G8 H q) /\
  ∀(l:A3) (c:A0 IM),H l=none->c.Perm ps->c.Pairwise QB->Q (.ref l) (HY H l (.lst (c.map λq=>V.ref q.1)))):=by
 intro A s σ H xs us Q I r h;obtain⟨p,ps,rfl,j,w,q⟩:=h;obtain⟨u,rfl,M⟩:=X5 r;cases M;obtain⟨d,B,N,C⟩:=I.list j;have D:=Ha B;have hl:=B.length;refine TS.KP (collect_list (vs:=d) N.isList ?_ (by lia));have f:((s.heap.push (seqObj "list" #[] 0)).update s.heap.objs.size (Obj.mapSeq (· ++ d.toArray))).objs.size=s.heap.objs.size+1:=by rw[GQ,size_push']
 have m:∀b o,s.heap.get? b=some o->((s.heap.push (seqObj "list" #[] 0)).update s.heap.objs.size (Obj.mapSeq (· ++ d.toArray))).get? b=some o:=λb o g=>by
  rw[Heap.get?_update_ne _ _ _ _ (BA (AG g))];exact AC _ g
 have i:∀q∈ps,TS.MC s.heap (.ref q.1) q.2.1 q.2.2:=λq j=>I.pairAt (w q j);refine⟨rfl,by lia,TS.pairKind s.heap,tuples' true,λs2 O=>TS.QC (λv E=>?_) (λb o g=>?_),λout P e R k S=>?_⟩
 .rw[D]at E;obtain⟨q,j,rfl⟩:=BK.mp E;exact⟨_,_,i q j⟩
 .have n:b≠((s.heap.push (seqObj "list" #[] 0)).update s.heap.objs.size (Obj.mapSeq (· ++ d.toArray))).objs.size:=by
   rw[f];exact BA (EU (AG g))
  exact⟨n,O b o n (m b o g)⟩
 .obtain⟨F,G⟩:=R;rw[D]at F;obtain⟨c,t,J⟩:=Hf (λq:IM=>Value.ref q.1) F ps rfl;have x:c.Pairwise QB:=by
   rw[J,CS]at G;refine(EH.mp G).imp fun{a b} ⟨T,U,z⟩=>?_;have W:=(i a (t.mem_iff.mp T)).key;have Y:=(i b (t.mem_iff.mp U)).key;have L:TS.JH ((TS.NM s.heap (.ref b.1)).getD ([],[])) ((TS.NM s.heap (.ref a.1)).getD ([],[]))=false:=z;rw[W,Y]at L;exact L
  have Z:H (s.heap.objs.size+1)=none:=I.hok.fresh (DM _);have y:P.get? (s.heap.objs.size+1)=some (seqObj "list" out e):=by rw[<-f];exact S
  refine⟨.ref (s.heap.objs.size+1),HY H (s.heap.objs.size+1) (.lst (c.map λq=>V.ref q.1)),?_,by show Value.ref _=_;rw[<-f],q _ _ Z t x⟩;refine I.laid (t':=s.toks) (λb o g=>k b o (m b o g)) (DM _) ⟨?_,out.toList,e,by rw[J];exact Gi c,by simpa using y⟩;rw[AB,t.length_eq];rw[AB]at C;exact C
end
def Inv.turnLaid{X:Cx}{d:A0 (A3×Obj)}{σ:St}{H:Hp}{s:A4}{h':H_}{t':Nat}{fp:A0 A3}{T:A3}{o:HO}(I:Inv X d σ H s)(k:∀b a,b∉fp->s.heap.get? b=some a->h'.get? b=some a)
  (i:∀b∈fp,Ea X d H b) (x:∀b∈fp,∃a,s.heap.get? b=some a) (l:s.heap.objs.size<=T) (j:IS X.prog X.w (HY H T o) h' T o):Inv X d σ (HY H T o) { s with heap:=h',toks:=t' }:=by
 have h:=I.hok.fresh l;have y:∀b a,s.heap.get? b=some a->b≠T:=λb a e=>BA (BI (AG e) l);have p:∀b u,H b=some u->b∉fp:=λb u e f=>by rw[(i b f).1]at e;cases e
 refine I.step (g':=s.gens) (d':=s.drawn) (ch:=fp) (λb f=>let⟨_,A,_,B,C,D⟩:=i b f;⟨B,A,C,D⟩) (λb a _ _ g e _=>k b a g e) (λb a _ _ g e _=>⟨a.slots,k b a g e⟩) (λb a _ e n=>by rw[B7 (y b a e)];exact n)
  (λb a g e=>⟨a,k b a g e⟩) (λb t e=>by rw[B7 (B0 e h)];exact e) (λb u t e=>by rw[B7 (B0 e h)];exact e) (λb ps e=>⟨#[],by rw[B7 (B0 e h),e];simp⟩) (λm E=>?_) (λb u e=>?_) I.bare
 .obtain⟨a,F,G,J,r⟩:=E;exact⟨a,F,G,k _ a (λf=>(i _ f).2.1 rfl) J,r⟩
 .by_cases f:b=T
  .subst f;rw[A7]at e;cases e;exact j
  .rw[B7 f]at e;refine(I.hok b u e).stay (λc v g q=>k c v ?_ q) (λc q=>by rw[B7 (B0 q h)];exact q) λc t q=>by rw[B7 (B0 q h)];exact q
   rcases g with z | z
   .rw[z];exact p b u e
   .exact p c _ z
end L2
namespace ST
open PySem
def stp(mask i:Nat):Nat:=(5*i+1) %(mask+1)
def RB(mask:Nat):Nat->Nat->Nat
 | 0,i=>i
 | t+1,i=>RB mask t (stp mask i)
def orb(mask:Nat):Nat->Nat->A0 Nat
 | 0,_=>[]
 | n+1,i=>i::orb mask n (stp mask i)
def Jl(mask a b i:Nat):RB mask (a+b) i=RB mask b (RB mask a i):=by
 induction a generalizing i with
 | zero=>rw[EL];rfl
 | succ a c=>rw[Nat.succ_add];exact c (stp mask i)
def Sr{mask j:Nat}:∀{n i:Nat},j∈orb mask n i->∃t,t<n/\RB mask t i=j
 | 0,_,h=>by simp[orb]at h
 | n+1,i,h=>by
  rcases AR.mp h with rfl | h
  .exact⟨0,by lia,rfl⟩
  .obtain⟨t,b,a⟩:=Sr h;exact⟨t+1,by lia,a⟩
def RD(mask:Nat):Prop:=mask=7\/mask=31\/mask=127\/mask=511
def QL(mask:Nat):Bool:=(List.range (mask+1)).all (λj=>(orb mask (mask+1) 0).contains j)&&RB mask (mask+1) 0 == 0
def zGf:QL 7=true:=by decide +kernel
def zCu:QL 31=true:=by decide +kernel
def Yh:QL 127=true:=by decide +kernel
def Yz:QL 511=true:=by decide +kernel
def RD.full{mask:Nat}(h:RD mask):QL mask=true:=by
 rcases h with rfl | rfl | rfl | rfl
 .exact zGf
 .exact zCu
 .exact Yh
 .exact Yz
def cyc{mask:Nat}(h:RD mask){i j:Nat}(hi:i<=mask)(l:j<=mask):∃t,t<=mask/\RB mask t i=j:=by
 have f:=h.full;unfold ST.QL at f;rw[DC,EJ]at f;obtain⟨m,d⟩:=f;have d:RB mask (mask+1) 0=0:=by simpa using d
 have c:∀k,k<=mask->∃t,t<mask+1/\RB mask t 0=k:=λk o=>Sr (by simpa using m k (DB.mpr (by lia)));obtain⟨a,p,e⟩:=c i hi;obtain⟨b,q,g⟩:=c j l;by_cases n:a<=b
 .refine⟨b-a,by lia,?_⟩;rw[<-e,<-Jl,show a +(b-a)=b by lia,g]
 .refine⟨mask+1-a+b,by lia,?_⟩;rw[<-e,<-Jl,show a +(mask+1-a+b) =(mask+1)+b by lia,Jl,d,g]
def OZ(mask:Nat):Nat->Nat×Nat->Nat×Nat
 | 0,x=>x
 | t+1,x=>OZ mask t (SetTable.leap mask x.1 x.2)
def Ya(mask a b:Nat)(x:Nat×Nat):OZ mask (a+b) x=OZ mask b (OZ mask a x):=by
 induction a generalizing x with
 | zero=>rw[EL];rfl
 | succ a c=>rw[Nat.succ_add];exact c _
def Me(mask:Nat):∀(t:Nat) (x:Nat×Nat),(OZ mask t x).2=x.2 / 32^t
 | 0,x=>by simp[OZ]
 | t+1,x=>by
  show(OZ mask t (SetTable.leap mask x.1 x.2)).2=_;rw[Me mask t];show x.2 / 32 / 32^t=_;rw[Nat.div_div_eq_div_mul,Nat.pow_succ,Nat.mul_comm]
def Xo(mask:Nat):∀(t:Nat) (x:Nat×Nat),x.1<=mask->(OZ mask t x).1<=mask
 | 0,_,h=>h
 | t+1,x,_=>Xo mask t _ (Nat.lt_succ_iff.mp (Nat.mod_lt _ (Nat.succ_pos _)))
def Mn(mask:Nat):∀(t i:Nat),OZ mask t (i,0) =(RB mask t i,0)
 | 0,_=>rfl
 | t+1,i=>by
  show OZ mask t ((i*5+1+0 / 32) %(mask+1),0 / 32)=_;rw[Nat.zero_div,Nat.add_zero,Mn mask t,Nat.mul_comm];rfl
def Pm{mask:Nat}(h:RD mask){i j p:Nat}(hi:i<=mask)(a:j<=mask)(b:p<2^64):∃t,t<=mask+13/\(OZ mask t (i,p)).1=j:=by
 have c:(OZ mask 13 (i,p)).2=0:=by
  rw[Me];exact Nat.div_eq_of_lt (BI b (by decide))
 obtain⟨t,e,d⟩:=cyc h (Xo mask 13 (i,p) hi) a;refine⟨13+t,by lia,?_⟩;rw[Ya];have:OZ mask 13 (i,p) =((OZ mask 13 (i,p)).1,0):=Prod.ext rfl c;rw[this,Mn];exact d
def NJ(t:II):Nat->SetTable.Probe->SetTable.Probe
 | 0,p=>p
 | n+1,p=>NJ t n (t.advance p)
def Su(t:II)(a b:Nat)(p:SetTable.Probe):NJ t (a+b) p=NJ t b (NJ t a p):=by
 induction a generalizing p with
 | zero=>rw[EL];rfl
 | succ a c=>rw[Nat.succ_add];exact c _
def Py(t:II):∀(m:Nat) (p:SetTable.Probe),p.more=m->∃a,NJ t (m+1) p=a/\a.i =(SetTable.leap t.mask p.i p.perturb).1/\a.perturb =(SetTable.leap t.mask p.i p.perturb).2/\a.j=a.i/\a.more=SetTable.runEnd t.mask a.i-a.i/\a.dummy=p.dummy
 | 0,p,h=>by
  have b:t.advance p ={ p with j:=(SetTable.leap t.mask p.i p.perturb).1,more:=SetTable.runEnd t.mask (SetTable.leap t.mask p.i p.perturb).1-(SetTable.leap t.mask p.i p.perturb).1,i:=(SetTable.leap t.mask p.i p.perturb).1,perturb:=(SetTable.leap t.mask p.i p.perturb).2 }:=by
   unfold SetTable.advance;rw[AI (by lia)]
  refine⟨t.advance p,rfl,?_⟩;rw[b];exact⟨rfl,rfl,rfl,rfl,rfl⟩
 | m+1,p,h=>by
  have b:t.advance p ={ p with j:=p.j+1,more:=p.more-1 }:=by unfold SetTable.advance;rw[AN (by lia)]
  obtain⟨a,d,c⟩:=Py t m (t.advance p) (by rw[b];show p.more-1=m;lia);rw[b]at c;exact⟨a,d,c⟩
def zBt(mask i:Nat):SetTable.runEnd mask i-i<=9:=by unfold SetTable.runEnd;split<;>lia
def Te(t:II):∀(n:Nat) (p:SetTable.Probe),p.j=p.i->p.more=SetTable.runEnd t.mask p.i-p.i->∃k,k<=10*n/\(NJ t k p).j =(OZ t.mask n (p.i,p.perturb)).1
 | 0,p,a,_=>⟨0,by lia,a⟩
 | n+1,p,a,l=>by
  obtain⟨b,e,c,d,f,g,_⟩:=Py t p.more p rfl;obtain⟨k,m,h⟩:=Te t n b f g;have:=zBt t.mask p.i;refine⟨p.more+1+k,by lia,?_⟩;rw[Su,e,h,c,d];rfl
def Iq(t:II):∀(n:Nat) (p:SetTable.Probe),(NJ t n p).dummy=p.dummy
 | 0,_=>rfl
 | n+1,p=>by
  show(NJ t n (t.advance p)).dummy=_;rw[Iq t n];unfold SetTable.advance;split<;>rfl
def Oz{t:II}(a:RD t.mask)(h:Int){j:Nat}(b:j<=t.mask):∃n,n<10*SetTable.turns t.mask/\(NJ t n (t.probeStart h)).j=j:=by
 have c:SetTable.bits h<2^64:=by
  unfold SetTable.bits;have g:0<=h %(2^64:Int):=GD _ (by decide);have i:h %(2^64:Int)<2^64:=FC _ (by decide);lia
 have d:SetTable.bits h %(t.mask+1)<=t.mask:=Nat.lt_succ_iff.mp (Nat.mod_lt _ (Nat.succ_pos _));obtain⟨n,l,e⟩:=Pm a d b c;obtain⟨k,m,f⟩:=Te t n (t.probeStart h) rfl rfl;refine⟨k,by unfold SetTable.turns;lia,f.trans e⟩
def w6{t:II}(a:t.dummies = #[])(j:Nat):t.slot j = .empty\/∃i,t.slot j = .live i/\t.place[i]?=some j:=by
 unfold SetTable.slot;dsimp only;by_cases h:(t.place[SetTable.below t.place j]? == some j)=true
 .rw[AN h];exact .inr ⟨_,rfl,by simpa using h⟩
 .rw[AI h];have:SetTable.has t.dummies j=false:=by
   rw[a];unfold SetTable.has;simp
  rw[this];exact .inl rfl
def Nh{t:II}(c:t.dummies = #[])(f:t.place.size<=t.mask):∃j,j<=t.mask/\t.slot j = .empty:=by
 by_cases h:∃j,j<=t.mask/\t.slot j = .empty
 .exact h
 .exfalso;have a:∀j∈List.range (t.mask+1),j∈t.place.toList:=λj d=>by
   have b:j<=t.mask:=by have:=DB.mp d;lia
   rcases w6 c j with e | ⟨i,_,e⟩
   .exact absurd ⟨j,b,e⟩ h
   .exact BB (by rw[BJ];exact e)
  have:=(List.nodup_range (n:=t.mask+1)).length_le_of_subset a;rw[DX,AU]at this;lia
def Xn{t:II}(o:t.dummies = #[])(hashAt:Nat->Int)(h:Int)(p:SetTable.Probe)(c:p.dummy=none):∀(k m n a:Nat),m+k=n->t.slot (NJ t n p).j = .empty->k<a ->
  (∃j,SetTable.probe.go t hashAt h a (NJ t m p)=some (.empty j none)/\t.slot j = .empty) \/
   ∃l i,m<=l/\l<n/\t.slot (NJ t l p).j = .live i/\hashAt i=h/\SetTable.probe.go t hashAt h a (NJ t m p)=some (.candidate (NJ t l p).j i (NJ t (l+1) p))
 | k,m,n,0,_,_,q=>absurd q (Nat.not_lt_zero _)
 | k,m,n,a+1,e,r,q=>by
  have d:(NJ t m p).dummy=none:=(Iq t m p).trans c;have s:NJ t (m+1) p=t.advance (NJ t m p):=Su t m 1 p;rcases w6 o (NJ t m p).j with b | ⟨i,b,A⟩
  .refine .inl ⟨(NJ t m p).j,?_,b⟩;unfold SetTable.probe.go;rw[b,d]
  .have B:k≠0:=by
    rintro rfl;have:m=n:=by lia
    subst this;rw[r]at b;cases b
   by_cases f:hashAt i=h
   .refine .inr ⟨m,i,VD _,by lia,b,f,?_⟩;unfold SetTable.probe.go;rw[b];dsimp only;rw[AN (by simpa using f),s]
   .have u:SetTable.probe.go t hashAt h (a+1) (NJ t m p)=SetTable.probe.go t hashAt h a (NJ t (m+1) p):=by
     conv=>lhs;unfold SetTable.probe.go
     rw[b];dsimp only;rw[AI (by simpa using f),s]
    rcases Xn o hashAt h p c (k-1) (m+1) n a (by lia) r (by lia)with⟨j,v,g⟩ | ⟨l,w,v,g,x,y,z⟩
    .exact .inl ⟨j,u.trans v,g⟩
    .exact .inr ⟨l,w,by lia,g,x,y,u.trans z⟩
def Fc{α β:Type}{f g:α->A5 β}:∀{l:A0 α},(∀x∈l,f x=g x)->l.filterMap f=l.filterMap g
 | [],_=>rfl
 | a::r,h=>by
  have b:=h a (AX ..);have c:=Fc (l:=r) λx d=>h x (AL _ d);rw[EW,EW,b,c]
def Xr{α:Type}{f g:Nat->A5 α}{j:Nat}{k:α}(d:g j=some k)(m:f j=none):∀{l:A0 Nat},l.Nodup->j∈l->(∀i,i≠j->g i=f i)->(l.filterMap g).Perm (k::l.filterMap f)
 | [],_,h,_=>by simp at h
 | i::r,o,h,a=>by
  obtain⟨p,q⟩:=CL.mp o;by_cases e:i=j
  .subst e;have s:r.filterMap g=r.filterMap f:=Fc λx t=>a x λz=>p (z▸t);rw[EN d,G_ m,s]
  .have n:=Xr d m q ((AR.mp h).resolve_left λz=>e z.symm) a;cases c:f i with
   | none=>rw[G_ ((a i e).trans c),G_ c];exact n
   | some b =>
    rw[EN ((a i e).trans c),EN c];exact(List.Perm.cons b n).trans (List.Perm.swap _ _ _)
def SZ(mask:Nat)(a:HU (A5 Nat)):A0 Nat:=(List.range (mask+1)).filterMap λj=>a.getD j none
structure LI(mask:Nat)(ow:HU (A5 Nat))(k:Nat):Prop where
 sz:ow.size=mask+1
 pm:(SZ mask ow).Perm (List.range k)
def Qb{mask:Nat}{b:HU (A5 Nat)}{j:Nat}(c:b[j]?=some none):∀(t a i p:Nat),(OZ mask t (i,p)).1=j->t<a->∃d,SetTable.layClean.free mask b a i p=some d/\b[d]?=some none
 | t,0,_,_,_,h=>absurd h (Nat.not_lt_zero _)
 | t,a+1,i,p,e,h=>by
  unfold SetTable.layClean.free;cases q:(List.range (SetTable.runEnd mask i+1-i)).find? λk=>(b.getD (i+k) (some 0)).isNone with
  | some k =>
   refine⟨i+k,rfl,?_⟩;have:=List.find?_some q;rw[CN]at this;cases g:b[i+k]? with
   | none=>rw[g]at this;simp at this
   | some z=>rw[g]at this;simp at this;rw[this]
  | none =>
   dsimp only;cases t with
   | zero =>
    exfalso;have f:i=j:=e;subst f;have l:0∈List.range (SetTable.runEnd mask i+1-i):=DB.mpr (by unfold SetTable.runEnd;split<;>lia);have:=List.find?_eq_none.mp q 0 l;rw[CN,Nat.add_zero,c]at this;simp at this
   | succ t=>exact Qb c t a _ _ e (by lia)
def LI.room{mask:Nat}{a:HU (A5 Nat)}{k:Nat}(h:LI mask a k)(p:k<=mask):∃j,j<=mask/\a[j]?=some none:=by
 by_cases q:∃j,j<=mask/\a[j]?=some none
 .exact q
 .exfalso;have b:∀j∈List.range (mask+1),∃v,a.getD j none=some v:=λj c=>by
   have g:j<a.size:=by rw[h.sz];exact DB.mp c
   cases e:a[j]? with
   | none=>rw[Array.getElem?_eq_none_iff]at e;lia
   | some v =>
    cases v with
    | none=>exact absurd ⟨j,by have:=DB.mp c;lia,e⟩ q
    | some v=>exact⟨v,by rw[CN,e];rfl⟩
  have i:∀l:A0 Nat,(∀j∈l,∃v,a.getD j none=some v)->(l.filterMap λj=>a.getD j none).length=l.length:=by
   intro l
   induction l with
   | nil=>intro _;rfl
   | cons j r m =>
    intro d;obtain⟨v,n⟩:=d j (AX ..);rw[EN (f:=λj=>a.getD j none) n,BQ,BQ,m λx o=>d x (AL _ o)]
  have:=h.pm.length_eq;unfold SZ at this;rw[i _ b,DX,DX]at this;lia
def LI.put{mask:Nat}{a:HU (A5 Nat)}{k j:Nat}(h:LI mask a k)(c:a[j]?=some none):LI mask (a.setIfInBounds j (some k)) (k+1):=by
 have b:j<a.size:=by
  obtain⟨d,_⟩:=CU.mp c;exact d
 refine⟨by rw[GZ];exact h.sz,?_⟩;have p:=Xr (f:=λj=>a.getD j none) (g:=λi=>(a.setIfInBounds j (some k)).getD i none) (j:=j) (k:=k) (by rw[CN,Array.getElem?_setIfInBounds_self_of_lt b];rfl) (by rw[CN,c];rfl)
  (l:=List.range (mask+1)) List.nodup_range (DB.mpr (by rw[<-h.sz];exact b)) λi m=>by
   rw[CN,Array.getElem?_setIfInBounds_ne (Ne.symm m),<-CN]
 have e:List.range (k+1)=List.range k ++ [k]:=List.range_succ;refine p.trans ?_;rw[e];exact(List.Perm.cons k h.pm).trans (CV (l₁:=[k]))
def Zo(h:Int):SetTable.bits h<2^64:=by
 unfold SetTable.bits;have a:0<=h %(2^64:Int):=GD _ (by decide);have b:h %(2^64:Int)<2^64:=FC _ (by decide);lia
def Ww{mask:Nat}(e:RD mask):∀(c:A0 Int) (a:HU (A5 Nat)) (k:Nat),LI mask a k->k+c.length<=mask->∃b,(c.foldl (init:=some (a,k)) λd h=>do
   let(owner,k) <-d
   let j <-SetTable.layClean.free mask owner (SetTable.turns mask) (SetTable.bits h %(mask+1)) (SetTable.bits h)
   pure (owner.setIfInBounds j (some k),k+1))=some (b,k+c.length)/\LI mask b (k+c.length)
 | [],a,k,h,_=>⟨a,rfl,h⟩
 | x::r,a,k,h,g=>by
  rw[BQ]at g;obtain⟨j,l,m⟩:=h.room (by lia);obtain⟨t,u,n⟩:=Pm e (i:=SetTable.bits x %(mask+1)) (j:=j) (Nat.lt_succ_iff.mp (Nat.mod_lt _ (Nat.succ_pos _))) l (Zo x);obtain⟨f,o,p⟩:=Qb m t (SetTable.turns mask) _ _ n (by unfold SetTable.turns;lia);obtain⟨b,q,s⟩:=Ww e r (a.setIfInBounds f (some k)) (k+1) (h.put p) (by lia);refine⟨b,?_,by rw[BQ,show k +(r.length+1)=k+1+r.length by lia];exact s⟩;rw[HC];show List.foldl _ ((SetTable.layClean.free mask a (SetTable.turns mask) (SetTable.bits x %(mask+1)) (SetTable.bits x)).bind λj=>some (a.setIfInBounds j (some k),k+1)) r=_;rw[o];show List.foldl _ (some (a.setIfInBounds f (some k),k+1)) r=_;rw[BQ,show k +(r.length+1)=k+1+r.length by lia];exact q
def Zx{mask:Nat}(h:RD mask)(finger moves:Nat)(led plain:Bool)(c:HU Int)(l:c.size<=mask) :
  ∃place a,SetTable.laid mask finger moves led plain c=some ({ mask,place,dummies:=#[],finger,led,moves,plain },a)/\place.size=c.size/\a.toList.Perm (List.range c.size):=by
 have i:LI mask (Array.replicate (mask+1) none) 0:=by
  refine⟨Array.size_replicate,?_⟩;have:SZ mask (Array.replicate (mask+1) none) = []:=by
   unfold SZ;rw[List.filterMap_eq_nil_iff];intro j m;rw[CN,Array.getElem?_replicate];split<;>rfl
  rw[this];exact List.Perm.refl _
 obtain⟨b,e,d⟩:=Ww h c.toList _ 0 i (by rw[AU];lia);rw[EL,AU]at e d;have k:SetTable.layClean mask c=some b:=by
  unfold SetTable.layClean;rw[<-Array.foldl_toList,e];rfl
 have g:((List.range (mask+1)).filterMap λj=>(b.getD j none).map (j,·)).map (·.2)=SZ mask b:=by
  unfold SZ;rw[List.map_filterMap];refine Fc λj _=>?_;cases b.getD j none<;>rfl
 refine⟨(((List.range (mask+1)).filterMap λj=>(b.getD j none).map (j,·)).map (·.1)).toArray,(((List.range (mask+1)).filterMap λj=>(b.getD j none).map (j,·)).map (·.2)).toArray,?_,?_,?_⟩
 .unfold SetTable.laid;rw[k];rfl
 .rw[AQ,AB,<-AB (f:=(·.2)),g,d.pm.length_eq,DX]
 .show(((List.range (mask+1)).filterMap λj=>(b.getD j none).map (j,·)).map (·.2)).Perm _;rw[g];exact d.pm
def Vn{c:HU (Int×A2)}{b:HU Nat}(h:b.toList.Perm (List.range c.size)):(b.filterMap (c[·]?)).toList.Perm c.toList:=by
 rw[Array.toList_filterMap];refine(h.filterMap _).trans (FE ?_);refine FI λt=>?_;have:(List.range c.size).filterMap (λx=>c[x]?)=c.toList:=by
  have:∀(l:A0 (Int×A2)),(List.range l.length).filterMap (λx=>l[x]?)=l:=by
   intro l
   induction l with
   | nil=>rfl
   | cons a r d =>
    rw[BQ,List.range_succ_eq_map,EN (by rfl:(a::r)[0]?=some a),List.filterMap_map];congr 1
  have q:=this c.toList;rw[AU]at q;simpa using q
 rw[this]
section
variable{prog:HV}{w:HX}{K:Type}[DecidableEq K]{knd:KeyKind prog w K}{A:IA}{E:A2->A4->Prop}{s:A4}
structure RY(t:II)(n:Nat):Prop where
 dm:t.dummies = #[]
 pl:t.place.size=n
 mm:RD t.mask
 rm:n*5<t.mask*3
theorem RY.fits{t:II}{n:Nat}(h:RY t n):t.fits n=true:=by
 have:=h.rm;have:=h.pl;unfold SetTable.fits SetTable.fill;rw[h.dm];simp;lia
theorem RY.odd{t:II}{n:Nat}(h:RY t n):t.gaveWay=false:=by
 unfold SetTable.gaveWay;rcases h.mm with e | e | e | e<;>rw[e]<;>rfl
def SL(knd:KeyKind prog w K)(a:HU (Int×A2))(b:A0 (A0 K×A3)):Prop:=a.toList.Perm (b.map λq=>((tupleKind knd).hash q.1,Value.ref q.2))
def MX(knd:KeyKind prog w K)(h:H_)(a:A3)(c:A0 (A0 K×A3)):Prop:=∃o b d t,h.get? a=some o/\o.ExactSet/\o.data = .set b d t/\SL knd b c/\RY t b.size
theorem SL.get{a:HU (Int×A2)}{b:A0 (A0 K×A3)}(h:SL knd a b){i:Nat}{e:Int×A2}(c:a[i]?=some e):∃k p,(k,p)∈b/\e =((tupleKind knd).hash k,.ref p):=by
 have:e∈a.toList:=BB (by rw[BJ];exact c);obtain⟨q,d,rfl⟩:=BK.mp (h.mem_iff.mp this);exact⟨q.1,q.2,d,rfl⟩
theorem Ck{β:Type}{c:β}{f:A2->β->Sem (ForInStep β)}:∀{l:A0 A2},(∀y∈l,f y c=pure (.yield c))->forIn l c f=pure c
 | [],_=>List.forIn_nil
 | a::r,h=>by
  rw[List.forIn_cons,h a (AX ..),pure_bind];exact Ck λy b=>h y (AL _ b)
theorem Iu{a:A0 K}{vs:A0 A2}(h:ItemsAre knd a vs):∀v∈vs,∃x,knd.is x v=true:=by
 induction h with
 | nil=>intro v hv;simp at hv
 | cons b _ c =>
  intro v hv;rcases AR.mp hv with rfl | hv
  .exact⟨_,b⟩
  .exact c v hv
def Flat(knd:KeyKind prog w K):Prop:=∀v,(∃x,knd.is x v=true)->carriedByValue v=true
theorem Flat.no{v:A2}(a:Flat knd)(h:∃x,knd.is x v=true)(d:Nat):ofAClassStatement d v=pure false:=by
 have:=a v h;cases v<;>first
  | (cases d<;>rfl)
  | (exact absurd this (by intro z;cases z))
theorem Xv{k:A0 K}{p:A3}{Q:Bool->A4->Prop}(c:Flat knd)(d:(tupleKind knd).is s.heap k p)(h:Q false s):wpAny (model prog w) A (ofAClassStatement 8 (.ref p)) Q E s:=by
 obtain⟨o,a,n,b,e,f,g⟩:=d;have i:s.TypeIs (.ref p) "tuple":=⟨o,b,e⟩;unfold ofAClassStatement;refine AA (EY i ?_);dsimp only;rw[AN (by rfl)];refine AA (AD ?_);simp only[EM,BD,CO];refine AA (DZ b f ?_);dsimp only;rw[<-Array.forIn_toList,Ck λy j=>by rw[c.no (Iu g y j)];rfl];exact AA (AD (AD h))
theorem zBo{m:A0 K}{b:A3}{Q:Bool->A4->Prop}(g:Flat knd)(i:(tupleKind knd).is s.heap m b)(h:Q false s){l:A0 A2}(n:∀v∈l,∃k p,v = .ref p/\(tupleKind knd).is s.heap k p) :
  wpAny (model prog w) A (searchCouldBeSeen (.ref b) l) Q E s:=by
 unfold searchCouldBeSeen;refine AA (wpAny_forIn_list _ (λa c d=>d=s/\c =(none,())/\∀v∈a,v∈l) _ ?_ ?_ l _ ⟨rfl,rfl,λ_ h=>h⟩)
 .rintro v a c d ⟨rfl,rfl,e⟩;obtain⟨k,p,rfl,j⟩:=n v (e v (AX ..));dsimp only;have o:carriedByValue (Value.ref b)=false:=rfl;rw[o,DP,Bool.or_false];split
  .exact AD ⟨rfl,rfl,λu f=>e u (AL _ f)⟩
  .refine AA ((tupleKind knd).quiet i ?_);simp only[EM,BD,CO];refine AA ((tupleKind knd).quiet j ?_);simp only[EM,BD,CO];refine AA (Xv g i ?_);simp only[BD,CO];refine AA (Xv g j ?_);simp only[BD,CO];exact AD ⟨rfl,rfl,λu f=>e u (AL _ f)⟩
 .rintro c d ⟨rfl,rfl,_⟩;exact AD h
theorem Ua(t:II):t.sameMemory t.moves t.mask=some true:=by
 unfold SetTable.sameMemory;simp
theorem Kl{a:A3}{o:Obj}{r:HU (Int×A2)}{ep:Nat}{t:II}{M:A0 (A0 K×A3)}{d:A0 K}{G:A3}{c:Bool}{Q:SetFound->A4->Prop}{n:Nat}
  (hr:(tupleKind knd).room A) (hF:Flat knd) (V:s.heap.get? a=some o) (W:o.data = .set r ep t) (X:SL knd r M) (D:RY t r.size)
  (H:∀q∈M,(tupleKind knd).is s.heap q.1 q.2) (Y:(tupleKind knd).is s.heap d G) (N:∀q∈M,q.1≠d) (hn:n<10*SetTable.turns t.mask)
  (he:t.slot (NJ t n (t.probeStart ((tupleKind knd).hash d))).j = .empty) (h:∀j,t.slot j = .empty->Q (.free j false) s) :
  ∀(k m b:Nat) (e:A5 SetTable.Probe),e.getD (t.probeStart ((tupleKind knd).hash d))=NJ t m (t.probeStart ((tupleKind knd).hash d))->m+k=n->k<b ->
   wpAny (model prog w) A (setSearchFrom a (.ref G) ((tupleKind knd).hash d) c b e) Q E s:=by
 intro k
 induction k using Nat.strongRecOn with
 | _ k ih =>
  intro m b e O P hf;cases b with
  | zero=>lia
  | succ b =>
   unfold setSearchFrom;refine AA (CD V W D.fits ?_);dsimp only;rw[D.odd];simp only[BD,CO];rw[O];unfold SetTable.probe;rcases Xn D.dm _ ((tupleKind knd).hash d) (t.probeStart ((tupleKind knd).hash d)) rfl k m n (10*SetTable.turns t.mask) P he (by lia)with⟨j,F,Z⟩ | ⟨l,i,h1,h2,F,Z,e3⟩
   .rw[F];dsimp only;exact AD (h j Z)
   .rw[e3];dsimp only;obtain⟨u,I,R⟩:∃u,t.slot (NJ t l (t.probeStart ((tupleKind knd).hash d))).j = .live u/\t.place[u]?=some (NJ t l (t.probeStart ((tupleKind knd).hash d))).j:=by
     rcases w6 D.dm (NJ t l (t.probeStart ((tupleKind knd).hash d))).j with z | z
     .rw[z]at F;cases F
     .exact z
    rw[F]at I;cases I;have S:i<r.size:=by
     have:=(CU.mp R).1;rw[D.pl]at this;exact this
    obtain⟨J,f⟩:∃J,r[i]?=some J:=⟨r[i],CU.mpr ⟨S,rfl⟩⟩;obtain⟨k',p',L,rfl⟩:=X.get f;have B:∀v∈(r.filter (·.1 ==(tupleKind knd).hash d)).toList.map (·.2),∃k p,v = .ref p/\(tupleKind knd).is s.heap k p:=by
     intro v hv;obtain⟨z,hz,rfl⟩:=BK.mp hv;have T:z∈r.toList:=by
      rw[Array.toList_filter]at hz;exact(AY.mp hz).1
     obtain⟨q,hq,rfl⟩:=BK.mp (X.mem_iff.mp T);exact⟨q.1,q.2,rfl,H q hq⟩
    have x:wpAny (model prog w) A (do
      let some (_,y):=r[i]? | unsupported "internal:set-entry"
      let g <-holding [y] (eqBool y (.ref G))
      let(U,_,t') <-setState a
      if c&&g then return .there none
      let some same:=t'.sameMemory t.moves t.mask | unsupported "set.changed-during-lookup:is-the-new-block-at-the-old-address"
      let C <-match(if same then t'.slot (NJ t l (t.probeStart ((tupleKind knd).hash d))).j else .empty)with
       | .live u=>match U[u]? with
        | some (_,y')=>do pure (if <-isSame y' y then some u else none)
        | none=>pure none
       | _=>pure none
      match C with
      | none=>rule "set.search.anew";setSearchFrom a (.ref G) ((tupleKind knd).hash d) c b none
      | some u=>if g then return .there (some u)else setSearchFrom a (.ref G) ((tupleKind knd).hash d) c b (some (NJ t (l+1) (t.probeStart ((tupleKind knd).hash d))))) Q E s:=by
     rw[f];dsimp only;refine AA (BP ((tupleKind knd).eqBool hr (H _ L) Y ?_));rw[AM (N _ L)];refine AA (CD V W D.fits ?_);dsimp only;rw[Ua,HI];simp only[BD,CO,GK];rw[F];dsimp only;rw[f];dsimp only;refine AA (wpAny_isSame_ref_self (AA (AD ?_)));simp only[GK];exact ih (n-(l+1)) (by lia) (l+1) b _ rfl (by lia) (by lia)
    cases hled:t.led with
    | true =>
     simp only[EM,BD,CO];exact x
    | false =>
     simp only[HJ,GK];refine AA (zBo hF Y ?_ B);simp only[BD,CO];exact x
theorem Bg{a:A3}{o:Obj}{f:HU (Int×A2)}{ep:Nat}{t:II}{g:A0 (A0 K×A3)}{d:A0 K}{l:A3}{b:Bool}{Q:SetFound->A4->Prop}
  (m:(tupleKind knd).room A) (p:Flat knd) (r:s.heap.get? a=some o) (u:o.data = .set f ep t) (v:SL knd f g) (c:RY t f.size)
  (i:∀q∈g,(tupleKind knd).is s.heap q.1 q.2) (x:(tupleKind knd).is s.heap d l) (k:∀q∈g,q.1≠d) (h:∀j,t.slot j = .empty->Q (.free j false) s) :
  wpAny (model prog w) A (setSearch a (.ref l) ((tupleKind knd).hash d) b) Q E s:=by
 obtain⟨j,y,z⟩:=Nh c.dm (by rw[c.pl];have:=c.rm;lia);obtain⟨n,B,e⟩:=Oz c.mm ((tupleKind knd).hash d) y;unfold setSearch;refine Kl m p r u v c i x k B (by rw[e];exact z) h n 0 100000 none rfl (by lia) ?_;have:SetTable.turns t.mask<=526:=by
  unfold SetTable.turns;rcases c.mm with e | e | e | e<;>lia
 lia
theorem MX.typeIs{a:A3}{b:A0 (A0 K×A3)}(h:MX knd s.heap a b):s.TypeIs (.ref a) "set":=let⟨o,_,_,_,c,d,_⟩:=h;⟨o,c,d.1⟩
theorem Pg{a:A3}{b:HU (Int×A2)}:byScan (.ref a) b=false:=rfl
theorem Tq{a:A3}{b:A0 (A0 K×A3)}{c:A0 K}{f:A3}{Q:A5 Nat->A4->Prop}(l:(tupleKind knd).room A)(m:Flat knd)(n:MX knd s.heap a b)
  (d:∀q∈b,(tupleKind knd).is s.heap q.1 q.2) (p:(tupleKind knd).is s.heap c f) (e:∀q∈b,q.1≠c) (h:Q none s):wpAny (model prog w) A (setFind a (.ref f) ((tupleKind knd).hash c)) Q E s:=by
 obtain⟨o,u,v,t,g,_,i,r,k⟩:=n;unfold setFind setFindIn;refine AA (CD g i k.fits ?_);dsimp only;rw[Pg];simp only[BD,CO];refine AA (Bg l m g i r k d p e λj _=>?_);dsimp only;exact AD h
theorem RM{neg:Bool}{a:A3}{d:A0 (A0 K×A3)}{b:A0 K}{e:A3}{Q:A2->A4->Prop}(i:A.units+1<cLine)(k:Flat knd)(c:MX knd s.heap a d)
  (f:∀q∈d,(tupleKind knd).is s.heap q.1 q.2) (j:(tupleKind knd).is s.heap b e) (g:∀q∈d,q.1≠b) (h:Q (.bool false) { s with toks:=s.toks +(tupleKind knd).draws b }) :
  wpAny (model prog w) A (compareOp .In (.ref e) (.ref a)) Q E s:=by
 show wpAny _ _ (do return .bool (<-contains (.ref a) (.ref e))) Q E s;refine AA ?_;unfold contains
 try with_reducible refine BP ?_
 refine AA (GC c.typeIs F.slot_set_contains.lookup ?_);show wpAny _ _ (if(some (Value.builtin "set.__contains__") == some Value.none)=true then _ else _) _ E s;rw[AI (by rw[beq_builtin_none];exact BE)];refine AA (wpAny_callSpecialUnlessNone?_slot (name:=Str.ofString "__contains__") c.typeIs F.slot_set_contains
  (CF F.slot_set_contains c.typeIs entry_set_contains ?_ (F.args_set_contains_2 _ _)))
 unfold Builtin.«frozenset.__contains__» Builtin.Frozenset.oneOther;simp only[List.isEmpty_nil,bind_assoc];unfold Builtin.Frozenset.addrOf Builtin.Frozenset.withSetAsKey setContains;refine AA (AD ?_)
 try dsimp only
 refine AA (AD ?_)
 try dsimp only
 refine AA (wpAny_tryCatch ?_);refine BP ?_;refine AA ((tupleKind knd).pyHash ?hroom j ?_)
 case hroom=>exact i
 refine AA (Tq (s:={ s with toks:=s.toks +(tupleKind knd).draws b }) ?hroom k c f j g ?_)
 case hroom=>exact i
 refine AD ?_;show wpAny _ _ (ret (Value.bool false)) _ _ _;exact AD ⟨_,rfl,CZ (AD h)⟩
def RR(knd:KeyKind prog w K):Prop:=∀v,(∃x,knd.is x v=true)->v.scannable=true
theorem hbv{j:A0 K}{f:A3}{Q:Bool->A4->Prop}(k:RR knd)(l:(tupleKind knd).is s.heap j f)(h:∀b,Q b s):wpAny (model prog w) A (hashByValue 8 (.ref f)) Q E s:=by
 obtain⟨o,d,n,g,m,p,r⟩:=l;have t:s.TypeIs (.ref f) "tuple":=⟨o,g,m⟩;unfold hashByValue;refine AA (GC t F.slot_tuple_hash.lookup ?_);dsimp only;refine AA (DZ g p ?_);dsimp only[Option.getD_some];rw[<-Array.forIn_toList];refine AA (B_ (wpAny_forIn_list _ (λa c e=>e=s/\c =(none,())/\∀v∈a,v∈d.toList) (λc e=>e=s/\(c =(none,())\/c =(some false,()))) ?_ ?_ _ _ ⟨rfl,rfl,λ_ z=>z⟩) ?_ λ_ _ q=>q)
 .rintro v a c e ⟨rfl,rfl,i⟩;rw[hashByValue_scannable _ (k v (Iu r v (i v (AX ..))))];refine AA (AD ?_);cases plainKind v with
  | true =>
   simp only[EM,BD,CO];exact AD ⟨rfl,rfl,λu x=>i u (AL _ x)⟩
  | false =>
   simp only[HJ,GK];exact AD ⟨rfl,.inr rfl⟩
 .rintro c e ⟨rfl,rfl,_⟩;exact⟨rfl,.inl rfl⟩
 .rintro c e ⟨rfl,rfl | rfl⟩
  .exact AD (h _)
  .exact AD (h _)
theorem o9{α:Type}(xs:HU α)(p:Nat)(x:α)(a:p<=xs.size):(SetTable.insertAt xs p x).size=xs.size+1:=by
 unfold SetTable.insertAt;rw[Array.size_append,Array.size_push,FV,FV];lia
theorem Ft{α:Type}(xs:HU α)(p:Nat)(x:α)(b:p<=xs.size):(SetTable.insertAt xs p x).toList.Perm (xs.toList ++ [x]):=by
 unfold SetTable.insertAt;rw[BT,DD,ER,ER];simp only[EF,EQ,Nat.sub_zero];have e:List.take (xs.size-p) (List.drop p xs.toList)=List.drop p xs.toList:=by
  rw[DU];rw[DJ,AU];lia
 rw[e];have a:xs.toList=xs.toList.take p++xs.toList.drop p:=(BX ..).symm
 conv=>rhs;rw[a]
 rw[BG,BG];exact CY _ CV
theorem i7(xs:HU Nat)(j:Nat):∀(f lo hi:Nat),lo<=hi->SetTable.below.go xs j f lo hi<=hi
 | 0,lo,hi,h=>h
 | f+1,lo,hi,h=>by
  unfold SetTable.below.go;split
  .rename_i a;dsimp only;split
   .exact i7 xs j f _ _ (by lia)
   .exact VE (i7 xs j f _ _ (by lia)) (by lia)
  .exact h
theorem Wn(xs:HU Nat)(j:Nat):SetTable.below xs j<=xs.size:=i7 xs j _ _ _ (CB _)
theorem zEd{t:II}(a:t.dummies = #[])(j:Nat):t.put j =({ t with place:=SetTable.insertAt t.place (SetTable.below t.place j) j },SetTable.below t.place j):=by
 unfold SetTable.put;have:SetTable.has t.dummies j=false:=by
  rw[a];unfold SetTable.has;simp
 rw[this];rfl
theorem zIb:SetTable.sizeAbove 20=32:=by decide
theorem zHm:SetTable.sizeAbove 76=128:=by decide
theorem zFz:SetTable.sizeAbove 308=512:=by decide
theorem Ve{f:HU (Int×A2)->A5 (II×HU Nat)->Sem (HU (Int×A2)×II)}(y:∀c g,f c g =(do
  let some (t,b):=g | unsupported "internal:set-table-without-room"
  let d:=b.filterMap (c[·]?)
  if d.size != c.size then unsupported "internal:set-table-lost-an-element"
  pure (d,t)))
  {a:A3} {o:Obj} {c:HU (Int×A2)} {ep:Nat} {t:II} {n m:Nat} {Q:Unit->A4->Prop} (q:s.heap.get? a=some o) (r:o.data = .set c ep t) (z:t.dummies = #[]) (j:t.fits c.size=true)
  (l:SetTable.sizeAbove n=m+1) (i:RD m) (hsz:c.size*5<m*3)
  (h:∀(d:HU (Int×A2)) (t':II),d.toList.Perm c.toList->RY t' d.size->Q () { s with heap:=s.heap.update a (Obj.putSet d t') }) :
  wpAny (model prog w) A (do
   let(c,_,t) <-setState a
   if SetTable.sizeAbove n>sizeLine then unsupported "set:memory"
   let(c,t) <-f c (t.relaid (c.map (·.1)) n)
   storeSet a c t) Q E s:=by
 refine AA (CD q r j ?_);dsimp only;have p:m<=511:=by rcases i with e | e | e | e<;>lia
 rw[l,AI (by rw[sizeLine_eq];lia)];rw[y];have B:(c.map (·.1)).size<=m:=by rw[HG];lia
 obtain⟨place,b,u,C,v⟩:=Zx i t.finger (t.movedTo (SetTable.sizeAbove n-1)) t.led t.plain (c.map (·.1)) B;have D:t.relaid (c.map (·.1)) n=some ({ mask:=m,place,dummies:=#[],finger:=t.finger,led:=t.led,moves:=t.movedTo (SetTable.sizeAbove n-1),plain:=t.plain },b):=by
  unfold SetTable.relaid;rw[l];rw[l]at u;exact u
 rw[D];dsimp only;have x:(b.filterMap (c[·]?)).toList.Perm c.toList:=Vn (by rw[HG]at v;exact v);have k:(b.filterMap (c[·]?)).size=c.size:=by rw[<-AU,x.length_eq,AU]
 rw[AI (by rw[k];simp)];refine AA (AD ?_);dsimp only;refine HK q r (h _ _ x ⟨rfl,?_,i,?_⟩) (by rw[k,sizeLine_eq];lia)
 .rw[k,C,HG]
 .rw[k];exact hsz
theorem Em{h:H_}{a:A3}{o:Obj}{d:HU (Int×A2)}{ep:Nat}{t:II}(e:h.get? a=some o)(c:o.data = .set d ep t)(b:HU (Int×A2))(t':II) :
  (h.update a (Obj.putSet b t')).get? a=some { o with data:=.set b (ep+1) t' }:=by
 have:=BZ (Obj.putSet b t') e (by rw[putSet_of b t' c];rfl);rw[putSet_of b t' c]at this;exact this
theorem Nu{a:A3}{p:A0 (A0 K×A3)}{g:A0 K}{l:A3}{Q:Bool->A4->Prop}(W:(tupleKind knd).room A)(X:Flat knd)(Y:RR knd)(Z:MX knd s.heap a p)
  (J:∀q∈p,(tupleKind knd).is s.heap q.1 q.2) (T:(tupleKind knd).is s.heap g l) (L:∀q∈p,q.1≠g) (hl:p.length+1<=300)
  (h:∀h',Heap.SameBut a s.heap h'->MX knd h' a (p ++ [(g,l)])->Q true { s with heap:=h' }) :
  wpAny (model prog w) A (setAddHashed a (.ref l) ((tupleKind knd).hash g)) Q E s:=by
 obtain⟨o,c,ep,t,z,B,C,M,i⟩:=Z;have hsz:c.size=p.length:=by
  have:=M.length_eq;rw[AU,AB]at this;exact this
 unfold setAddHashed setAddHashedIn;refine BP ?_;refine AA (CD z C i.fits ?_);dsimp only;rw[Pg];simp only[BD,CO];refine AA (Bg W X z C M i J T L λj hj=>?_);dsimp only;refine AA (CD z C i.fits ?_);dsimp only;rw[zEd i.dm];dsimp only;have N:=Wn t.place j;have D:SetTable.below t.place j<=c.size:=by rw[i.pl]at N;exact N
 have hrm:=i.rm;have r:=i.mm;have d:=o9 c (SetTable.below t.place j) ((tupleKind knd).hash g,Value.ref l) D;have O:=Ft c (SetTable.below t.place j) ((tupleKind knd).hash g,Value.ref l) D;have F:∀f:HU (Int×A2),f.toList.Perm (SetTable.insertAt c (SetTable.below t.place j) ((tupleKind knd).hash g,Value.ref l)).toList->SL knd f (p ++ [(g,l)]):=λf P=>by
  unfold SL;rw[AK];exact P.trans (O.trans (M.append_right _))
 have u:∀n:II,n.dummies = #[]->n.mask=t.mask->n.place.size=c.size+1->wpAny (model prog w) A (do
   storeSet a (SetTable.insertAt c (SetTable.below t.place j) ((tupleKind knd).hash g,Value.ref l)) n
   if(!false&&n.tooFull)=true then do
    setRelay a (SetTable.grown (c.size+1))
    pure true
   else pure true) Q E s:=by
  intro n H I R;refine AA (HK z C ?_ (by rw[d,sizeLine_eq];lia));have v:=Em z C (SetTable.insertAt c (SetTable.below t.place j) ((tupleKind knd).hash g,Value.ref l)) n;have G:=DN s.heap a (Obj.putSet (SetTable.insertAt c (SetTable.below t.place j) ((tupleKind knd).hash g,Value.ref l)) n);have S:n.tooFull=decide ((c.size+1)*5 ≥ t.mask*3):=by
   unfold SetTable.tooFull SetTable.fill;rw[H,I,R];rfl
  rw[S,HJ,HS];by_cases k:(c.size+1)*5 ≥ t.mask*3
  .rw[AS k,AN rfl];have x:∃m,SetTable.sizeAbove (SetTable.grown (c.size+1))=m+1/\RD m/\(c.size+1)*5<m*3:=by
    have hg:SetTable.grown (c.size+1) =(c.size+1)*4:=by
     unfold SetTable.grown;rw[AI (by lia)]
    rw[hg];rcases r with e | e | e | e
    .have:c.size+1=5:=by lia
     rw[this];exact⟨31,zIb,.inr (.inl rfl),by decide⟩
    .have:c.size+1=19:=by lia
     rw[this];exact⟨127,zHm,.inr (.inr (.inl rfl)),by decide⟩
    .have:c.size+1=77:=by lia
     rw[this];exact⟨511,zFz,.inr (.inr (.inr rfl)),by decide⟩
    .lia
   obtain⟨m,c1,c2,c3⟩:=x;refine AA ?_;unfold setRelay;refine Ve (λ_ _=>rfl) (s:={ s with heap:=_ }) v rfl H ?_ c1 c2 (by rw[d];exact c3) λf U P ht=>?_
   .unfold SetTable.fits SetTable.fill;rw[d,R,H,I];have V:c.size+1+0<=t.mask:=by rcases r with e | e | e | e<;>lia
    simp;lia
   .refine AD (h _ (G.trans (DN _ a _)) ?_);exact⟨_,f,_,U,Em v rfl f U,B,rfl,F f P,ht⟩
  .rw[AM k,AI (by decide)];refine AD (h _ G ⟨_,_,_,n,v,B,rfl,F _ (.refl _),⟨H,?_,?_,?_⟩⟩)
   .rw[R,d]
   .rw[I];exact r
   .rw[I,d];lia
 have y:(SetTable.insertAt t.place (SetTable.below t.place j) j).size=c.size+1:=by rw[o9 _ _ _ N,i.pl]
 cases hpl:t.plain with
 | true =>
  simp only[GK];refine AA (hbv Y T λb=>?_);cases b with
  | true =>
   simp only[GK];exact u _ i.dm rfl y
  | false =>
   simp only[BD,CO];exact u _ i.dm rfl y
 | false =>
  simp only[BD,CO];refine AA (AD ?_);simp only[GK];exact u _ i.dm rfl y
theorem QZ{a:A3}{b:A0 (A0 K×A3)}{c:A0 K}{d:A3}{Q:A2->A4->Prop}(j:A.units+1<cLine)(m:Flat knd)(n:RR knd)(k:MX knd s.heap a b)
  (e:∀q∈b,(tupleKind knd).is s.heap q.1 q.2) (l:(tupleKind knd).is s.heap c d) (f:∀q∈b,q.1≠c) (o:b.length+1<=300)
  (h:∀h',Heap.SameBut a s.heap h'->MX knd h' a (b ++ [(c,d)])->Q .none { s with heap:=h',toks:=s.toks +(tupleKind knd).draws c }) :
  wpAny (model prog w) A (call (.builtin "set.add") [.ref a,.ref d]) Q E s:=by
 refine CF F.slot_set_add k.typeIs F.entry_set_add ?_ (F.args_set_add_2 _ _);unfold Builtin.«set.add» Builtin.Frozenset.oneOther;simp only[List.isEmpty_nil,bind_assoc];unfold Builtin.Frozenset.addrOf setAdd;refine AA (AD ?_)
 try dsimp only
 refine AA (AD ?_)
 try dsimp only
 refine AA ?_;refine BP ?_;refine AA ((tupleKind knd).pyHash ?hroom l ?_)
 case hroom=>exact j
 refine Nu (s:={ s with toks:=s.toks +(tupleKind knd).draws c }) ?hroom m n k e l f o λh' g i=>?_
 case hroom=>exact j
 show wpAny _ _ (ret Value.none) _ _ _;exact AD ⟨_,rfl,h h' g i⟩
end
def Ml:Manifest.owners.lookup (String.ofList ['r','o','t','a','r','e','t','i','_','t','e','s'].reverse)=some Manifest.sig_set_iterator:=by kernel_rfl
def JK:Slot "set_iterator" "__next__" "set_iterator.__next__" :=
 .of (owner := "set_iterator") (n := "__next__") (by rw[typeLookup_type,builtinLookup_eq_fast];kernel_rfl) (by decide +kernel) (by decide +kernel) (by decide +kernel) (by first | exact .inl (by decide +kernel) | exact .inr (by decide +kernel)) (by rw[isSubtype_type];kernel_rfl)
def o8:entryFor table "set_iterator.__next__" = some Builtin.«set_iterator.__next__»:=entryFor_of_tree (by kernel_rfl)
def Ae(a:A2):argsOk "set_iterator.__next__" ⟨[a],[]⟩:=by
 unfold argsOk;rw[signature?_of (id := "set_iterator.__next__") (n:=['_','_','t','x','e','n','_','_']) (o:=['r','o','t','a','r','e','t','i','_','t','e','s']) (by kernel_rfl) Ml];kernel_rfl
def Ad:Slot "set_iterator" "__iter__" "set_iterator.__iter__" :=
 .of (owner := "set_iterator") (n := "__iter__") (by rw[typeLookup_type,builtinLookup_eq_fast];kernel_rfl) (by decide +kernel) (by decide +kernel) (by decide +kernel) (by first | exact .inl (by decide +kernel) | exact .inr (by decide +kernel)) (by rw[isSubtype_type];kernel_rfl)
def Ho(a:A2):argsOk "set_iterator.__iter__" ⟨[a],[]⟩:=by
 unfold argsOk;rw[signature?_of (id := "set_iterator.__iter__") (n:=['_','_','r','e','t','i','_','_']) (o:=['r','o','t','a','r','e','t','i','_','t','e','s']) (by kernel_rfl) Ml];kernel_rfl
def Et:entryFor table "set_iterator.__iter__" = some Builtin.«dict_keyiterator.__iter__» :=
 entryFor_alias (id' := "dict_keyiterator.__iter__") (by kernel_rfl) (by first | rfl | decide +kernel | (unfold String.splitOn;simp +decide [String.splitOnAux])) (by decide +kernel) (by kernel_rfl)
def Gx:entryFor table "set.__iter__" = some Builtin.«frozenset.__iter__» :=
 entryFor_alias (id' := "frozenset.__iter__") (by kernel_rfl) rfl (by decide +kernel) (by kernel_rfl)
def zFq:typeLookup (.type "set") "__len__" = pure (some (.builtin "set.__len__")):=by rw[typeLookup_type,builtinLookup_eq_fast];kernel_rfl
section
variable{prog:HV}{w:HX}{A:IA}{E:A2->A4->Prop}{s:A4}
theorem Qo{n:Nat}{Q:Nat->A4->Prop}(a:n≠0)(h:∀i d,i<n->Q i { s with drawn:=d }):wpAny (model prog w) A (choose .order n) Q E s:=λΓ p hΓ=>by
 unfold choose;rw[Sem.wp_choose];exact⟨a,h _ _ (Nat.mod_lt _ (Nat.pos_of_ne_zero a))⟩
theorem JS{α:Type}:∀{l:A0 α} {i:Nat} {x:α},l[i]?=some x->(x::l.eraseIdx i).Perm l
 | [],i,x,h=>by simp at h
 | y::l,0,x,h=>by
  have:y=x:=by simpa using h
  subst this;exact .refl _
 | y::l,i+1,x,h=>by
  have a:l[i]?=some x:=by simpa using h
  exact(List.Perm.swap y x _).trans ((JS a).cons y)
theorem Hu{α:Type}{l:A0 α}{i:Nat}{x:α}(h:l[i]?=some x):(l.eraseIdx i).length+1=l.length:=(JS h).length_eq
theorem Rj{α:Type}:∀(n:Nat) (l:A0 α) (s:A4) (Q:A0 α->A4->Prop),l.length=n->(∀b d,b.Perm l->Q b { s with drawn:=d })->wpAny (model prog w) A (drawOrder n l) Q E s
 | 0,l,s,Q,a,h=>by
  unfold drawOrder;obtain rfl:=FO.mp a;exact AD (h [] s.drawn (.refl _))
 | n+1,[],s,Q,a,h=>by simp at a
 | n+1,x::f,s,Q,a,h=>by
  unfold drawOrder;refine AA (Qo (by simp) λi d g=>?_);have e:(x::f)[i]?=some ((x::f)[i]):=AF g;rw[e];dsimp only;have j:=JS e;refine AA (Rj n _ _ _ (by have:=Hu e;lia) λb k c=>?_);exact AD (h _ k ((c.cons _).trans j))
theorem Pk{α:Type}(nx:Nat->Nat):∀(f k:Nat) (left:A0 α) (out:HU α),left.length=f->(pickOrder.go nx f k left out).toList.Perm (out.toList++left)
 | 0,k,left,out,h=>by
  obtain rfl:=FO.mp h;unfold pickOrder.go;simp
 | f+1,k,left,out,h=>by
  have a:nx k % left.length<left.length:=Nat.mod_lt _ (by lia);have e:left[nx k % left.length]?=some left[nx k % left.length]:=AF a;unfold pickOrder.go;rw[e];dsimp only;have b:=JS e;refine(Pk nx f (k+1) _ _ (by have:=Hu e;lia)).trans ?_;rw[DD,BG];exact b.append_left _
theorem Bf{α:Type}(nx:Nat->Nat)(xs:HU α):(pickOrder nx xs).toList.Perm xs.toList:=by
 unfold pickOrder;have:=Pk nx xs.size 0 xs.toList #[] (AU ..);simpa using this
structure RC(w:HX)(h:H_)(a:A3)(o:Obj)(es:HU (Int×A2))(ep:Nat)(t:II):Prop where
 ho:h.get? a=some o
 ex:o.ExactSet
 hd:o.data = .set es ep t
 ft:t.fits es.size=true
 led:t.led=!(w.params.followText "set-order")
 pln:t.plain=true->es.size=0
 few:es.size<4096
def RG(first:A2)(i n ep:Nat)(a:A3):Obj:={ cls:=.type "set_iterator",data:=.fields #[first,rawInt i,.ref a,rawInt n,rawInt ep] }
theorem S8{Q:Bool->A4->Prop}(h:Q (w.params.followText "set-order") s):wpAny (model prog w) A setsByText Q E s:=by
 unfold setsByText;exact AA (GT (AD h))
variable{a it:A3}{o:Obj}{es:HU (Int×A2)}{ep:Nat}{t:II}
theorem Ay{i g:Nat}{r:A5 (A2×Nat)}{Q:A5 A2->A4->Prop}(h:A.handled=none)(S:RC w s.heap a o es ep t)(n:it≠a)(hi:s.heap.get? it=some (RG (rawInt g) i es.size ep a))
  (c:∀(j:A5 (A2×Nat)->A4->Prop) (q:IA) (u:A2->A4->Prop),j r s->wpAny (model prog w) q (setNext a g i ep) j u s)
  (d:∀x nx h',r=some (x,nx)->h'.get? it=some (RG (rawInt nx) (i+1) es.size ep a)->Heap.SameBut it s.heap h'->Q (some x) { s with heap:=h' })
  (f:r=none->∀h',Heap.ExtBut it s.heap h'->Q none { s with heap:=h' }):wpAny (model prog w) A (pyNext (.ref it)) Q E s:=by
 have k:s.TypeIs (.ref it) "set_iterator":=⟨_,hi,rfl⟩;unfold pyNext;refine AA (GF (CG (name:=Str.ofString "__next__") k JK (CF JK k o8 ?_ (Ae _))));unfold Builtin.«set_iterator.__next__»;refine AA (EE (a:=(Value.ref it,[])) rfl ?_);dsimp only;refine AA (wpAny_fieldsOf hi rfl ?_);dsimp only[rawInt];refine AA (wpAny_setEntries_of S.ho S.hd S.ft ?_);rw[AI (by simp)];simp only[CH];refine AA (c _ _ _ ?_);cases r with
 | some p =>
  obtain⟨x,nx⟩:=p;dsimp only;refine AA (EB hi rfl (by simp) ?_);have l:=BZ (Obj.mapFields (·.setIfInBounds 0 (rawInt (nx:Nat)))) hi rfl;refine AA (EB l rfl (by simp) ?_);have v:=BZ (Obj.mapFields (·.setIfInBounds 1 (rawInt ((i:Int)+1)))) l rfl;refine AD ⟨x,rfl,AD (d x nx _ rfl ?_ ((DN ..).trans (DN ..)))⟩;exact v
 | none =>
  dsimp only;refine AA (EB hi rfl (by simp) ?_);refine AA ?_;simp only[newExc,newTuple];refine AA (BV ?_ (by size_fits));refine AA (m:=firstArgMember _ _) (EE (a:=Value.none) (by first | rfl | (simp only[firstArgMember];rfl)) ?_);refine BV ?_ (by size_fits);simp only[raiseNew];refine AA (wpAny_handled ?_)
  first | rw[show A.in1.handled=none from h] | rw[h]
  refine AA (AD (wpAny_throw ?_));refine AA (FP (T := "StopIteration") (b:=true) ⟨_,AW _ rfl,rfl⟩ isSubtype_stop ?_);exact AD (f rfl _ ((HP (HP (λb o y e=>(BH _ _ (Ne.symm y)).trans e) _)) _))
end
def TF(ps:A0 Nat):Obj:={ cls:=.type "tuple",data:=.seq (ps.map λ(i:Nat)=>rawInt i).toArray }
section
variable{prog:HV}{w:HX}{A:IA}{E:A2->A4->Prop}{s:A4}{a it T:A3}{o:Obj}{es:HU (Int×A2)}{ep:Nat}{t:II}
theorem Ku{i:Nat}{ps:A0 Nat}{Q:A5 A2->A4->Prop}(l:A.handled=none)(S:RC w s.heap a o es ep t)(hi:s.heap.get? it=some (RG (.ref T) i es.size ep a))(n:s.heap.get? T=some (TF ps))
  (f:∀p x h',ps[i]?=some p->es[p]?=some x->h'.get? it=some (RG (.ref T) (i+1) es.size ep a)->Heap.SameBut it s.heap h'->Q (some x.2) { s with heap:=h' }) (g:∀p∈ps,p<es.size)
  (h:ps.length<=i->∀h',Heap.ExtBut it s.heap h'->Q none { s with heap:=h' }):wpAny (model prog w) A (pyNext (.ref it)) Q E s:=by
 have d:s.TypeIs (.ref it) "set_iterator":=⟨_,hi,rfl⟩;unfold pyNext;refine AA (GF (CG (name:=Str.ofString "__next__") d JK (CF JK d o8 ?_ (Ae _))));unfold Builtin.«set_iterator.__next__»;refine AA (EE (a:=(Value.ref it,[])) rfl ?_);dsimp only;refine AA (wpAny_fieldsOf hi rfl ?_);dsimp only[rawInt];refine AA (wpAny_setEntries_of S.ho S.hd S.ft ?_);rw[AI (by simp)];simp only[CH];refine AA (DZ n rfl ?_);dsimp only;cases e:ps[i]? with
 | some p =>
  have q:(ps.map λ(i:Nat)=>Value.int (i:Int) 0).toArray[i]?=some (.int (p:Int) 0):=by
   rw[DY,AH,e];rfl
  have c:(ps.map λ(i:Nat)=>rawInt i).toArray[i]?=some (.int (p:Int) 0):=q;rw[c];have r:p<es.size:=g p (BB e);obtain⟨x,j⟩:∃x,es[p]?=some x:=⟨es[p],CU.mpr ⟨r,rfl⟩⟩;dsimp only;simp only[CH];unfold setNextDrawn;refine AA (AA (CD S.ho S.hd S.ft ?_));dsimp only;rw[AI (by simp),j];dsimp only;refine AD ?_;refine AA (EB hi rfl (by simp) ?_);have u:=BZ (Obj.mapFields (·.setIfInBounds 1 (rawInt ((i:Int)+1)))) hi rfl;exact AD ⟨x.2,rfl,AD (f p x _ e j u (DN ..))⟩
 | none =>
  have c:(ps.map λ(i:Nat)=>rawInt i).toArray[i]?=none:=by
   rw[DY,AH,e];rfl
  rw[c];dsimp only;refine AA (EB hi rfl (by simp) ?_);have v:=BZ (Obj.mapFields (·.setIfInBounds 0 (rawInt 0))) hi rfl;refine AA (EB v rfl (by simp) ?_);refine AA ?_;simp only[newExc,newTuple];refine AA (BV ?_ (by size_fits));refine AA (m:=firstArgMember _ _) (EE (a:=Value.none) (by first | rfl | (simp only[firstArgMember];rfl)) ?_);refine BV ?_ (by size_fits);simp only[raiseNew];refine AA (wpAny_handled ?_);rw[show A.in1.handled=none from l];refine AA (AD (wpAny_throw ?_));refine AA (FP (T := "StopIteration") (b:=true) ⟨_,AW _ rfl,rfl⟩ isSubtype_stop ?_);refine AD (h (GV.mp e) _ (HP (HP (λb z k y=>?_) _) _));exact(BH _ _ (Ne.symm k)).trans ((BH _ _ (Ne.symm k)).trans y)
def zGk(w:HX)(a T:A3)(es:HU (Int×A2))(ep:Nat)(t:II)(b:A0 A2)(i:Nat)(h:H_)(first:A2):Prop :=
 (w.params.followText "set-order" = true/\first=rawInt (0:Nat)/\b =(pickOrder (w.params.setOrder a ep) es).toList.map (·.2)) \/
 (w.params.followText "set-order" = false/\∃ps:A0 Nat,first = .ref T/\h.get? T=some (TF ps)/\ps.Perm (List.range es.size)/\b=ps.filterMap λp=>es[p]?.map (·.2)) \/
 (w.params.followText "set-order" = false/\es.size<=1/\b=es.toList.map (·.2)/\∃c:Nat,first=rawInt c/\(i=0->c=0)/\(i=1->∃j,t.place = #[j]/\c=j+1))
def SSt(w:HX)(a it T:A3)(o:Obj)(es:HU (Int×A2))(ep:Nat)(t:II)(b:A0 A2)(i:Nat)(h:H_):Prop :=
 RC w h a o es ep t/\∃first,h.get? it=some (RG first i es.size ep a)/\zGk w a T es ep t b i h first
theorem RC.at{h h':H_}(S:RC w h a o es ep t)(e:h'.get? a=some o):RC w h' a o es ep t:=⟨e,S.ex,S.hd,S.ft,S.led,S.pln,S.few⟩
theorem zDf(j:Nat):SetTable.below #[j] 0=0:=by simp[SetTable.below,SetTable.below.go]
theorem zDn(j:Nat):SetTable.below #[j] (j+1)=1:=by simp[SetTable.below,SetTable.below.go]
theorem Ue(S:RC w s.heap a o es ep t):t.place.size=es.size:=by
 have:=S.ft;unfold SetTable.fits at this;rw[DC]at this;simpa using this.1
theorem Rh(L:A.handled=none){u:A0 A2}(m:it≠a)(Z:it≠T):Walks prog w A it [it,a,T] [it] es.size (λi v=>u[i]?=some v) (SSt w a it T o es ep t u) where
 sub:=λb M=>by simp at M;simp[M]
 frame:=λi h c ⟨S,first,B,N⟩ k=>by
  refine⟨S.at (k a (by simp) _ S.ho),first,k it (by simp) _ B,?_⟩;rcases N with z | ⟨g,ps,V,n,F,G⟩ | z
  .exact .inl z
  .exact .inr (.inl ⟨g,ps,V,k T (by simp) _ n,F,G⟩)
  .exact .inr (.inr z)
 item:=λi s Q E hlt ⟨S,first,B,N⟩ I=>by
  have d:∀c,Heap.SameBut it s.heap c->∀b H,b∉[it]->s.heap.get? b=some H->c.get? b=some H:=λc f b H M e=>(f.2 b (by simpa using M)).trans e;rcases N with⟨g,rfl,n⟩ | ⟨g,ps,rfl,n,F,G⟩ | ⟨g,V,n,sl,rfl,G,z6⟩
  .have J:=Bf (w.params.setOrder a ep) es;have C:(pickOrder (w.params.setOrder a ep) es).size=es.size:=by rw[<-AU,J.length_eq,AU]
   obtain⟨x,P⟩:∃x,(pickOrder (w.params.setOrder a ep) es)[i]?=some x:=⟨_,CU.mpr ⟨by rw[C];exact hlt,rfl⟩⟩;refine Ay (r:=some (x.2,0)) L S m B (λR A' E' q=>?_) (λy nx c D O f=>?_) (λe=>nomatch e)
   .unfold setNext setWalk;refine AA (CD S.ho S.hd S.ft ?_);dsimp only;refine AA (S8 ?_);rw[g,AN rfl,AI (by simp)];refine AA (AA (CD S.ho S.hd S.ft ?_));dsimp only;refine AA (S8 ?_);rw[g,AN rfl];refine AA (GT (AD (AD ?_)));show R (((pickOrder (w.params.setOrder a ep) es)[i]?).map λe=>(e.2,0)) s;rw[P];exact q
   .cases D;have:=I x.2 c s.toks (by rw[n,AH,BJ,P];rfl) ⟨S.at ((f.2 a (Ne.symm m)).trans S.ho),_,O,.inl ⟨g,rfl,n⟩⟩ (d c f);exact this
  .refine Ku L S B n (λp x c D O e3 f=>?_) (λp hp=>DB.mp (F.mem_iff.mp hp)) (λhle=>?_)
   .have U:∀q∈ps,(es[q]?.map (·.2)).isSome=true:=λq hq=>by
     have:q<es.size:=DB.mp (F.mem_iff.mp hq);rw[CU.mpr ⟨this,rfl⟩];rfl
    refine I x.2 c s.toks ?_ ⟨S.at ((f.2 a (Ne.symm m)).trans S.ho),_,e3,.inr (.inl ⟨g,ps,rfl,(f.2 T (Ne.symm Z)).trans n,F,G⟩)⟩ (d c f);have gen:∀(l:A0 Nat) (i p:Nat),(∀q∈l,(es[q]?.map (·.2)).isSome=true)->l[i]?=some p->(l.filterMap λp=>es[p]?.map (·.2))[i]?=es[p]?.map (·.2):=by
     intro l
     induction l with
     | nil=>intro i p _ e;simp at e
     | cons q r ih =>
      intro i p W e;obtain⟨v,hv⟩:=FN.mp (W q (AX ..));rw[EW,hv];dsimp only;cases i with
      | zero =>
       have:q=p:=by simpa using e
       subst this;simpa using hv.symm
      | succ i=>simpa using ih i p (λq hq=>W q (AL _ hq)) (by simpa using e)
    rw[G,gen ps i p U D,O];rfl
   .have:=F.length_eq;rw[DX]at this;lia
  .have X:i=0:=by lia
   have h1:es.size=1:=by lia
   obtain⟨j,Y⟩:∃j,t.place = #[j]:=Array.size_eq_one_iff.mp ((Ue S).trans h1);obtain⟨x,P⟩:∃x,es = #[x]:=Array.size_eq_one_iff.mp h1;have hs0:=G X;subst hs0;have hx0:es[0]?=some x:=by rw[P];rfl
   refine Ay (r:=some (x.2,j+1)) L S m B (λR A' E' q=>?_) (λy nx c D O f=>?_) (λe=>nomatch e)
   .unfold setNext;refine AA (CD S.ho S.hd S.ft ?_);dsimp only;refine AA (S8 ?_);rw[g,AI (by decide)];show wpAny _ _ (if(!t.plain&&decide (es.size>1))=true then _ else _) _ _ _;rw[AI (by rw[h1];simp)];show wpAny _ _ (do (if(!t.led&&!es.isEmpty)=true then unsupported "set:maker-not-led" else pure ());_) _ _ _;rw[S.led,g,AI (by simp)];refine AA (AD ?_);rw[Y,zDf,hx0];exact AD q
   .cases D;refine I x.2 c s.toks (by rw[n,X,P];rfl) ⟨S.at ((f.2 a (Ne.symm m)).trans S.ho),_,O,.inr (.inr ⟨g,V,n,j+1,rfl,λe=>by lia,λ_=>⟨j,Y,rfl⟩⟩)⟩ (d c f)
 done:=λs Q E ⟨S,first,B,N⟩ I=>by
  have d:∀c,Heap.ExtBut it s.heap c->∀b H,b∉[it]->s.heap.get? b=some H->c.get? b=some H:=λc f b H M e=>f b H (by simpa using M) e;rcases N with⟨g,rfl,n⟩ | ⟨g,ps,rfl,n,F,G⟩ | ⟨g,V,n,sl,rfl,G,z6⟩
  .have J:=Bf (w.params.setOrder a ep) es;have C:(pickOrder (w.params.setOrder a ep) es).size=es.size:=by rw[<-AU,J.length_eq,AU]
   refine Ay (r:=none) L S m B (λR A' E' q=>?_) (λy nx c D=>nomatch D) (λ_ c f=>I c s.toks (d c f));unfold setNext setWalk;refine AA (CD S.ho S.hd S.ft ?_);dsimp only;refine AA (S8 ?_);rw[g,AN rfl,AI (by simp)];refine AA (AA (CD S.ho S.hd S.ft ?_));dsimp only;refine AA (S8 ?_);rw[g,AN rfl];refine AA (GT (AD (AD ?_)));show R (((pickOrder (w.params.setOrder a ep) es)[es.size]?).map λe=>(e.2,0)) s;rw[EC (by rw[C];exact VD _)];exact q
  .have W:=F.length_eq;rw[DX]at W;refine Ku L S B n (λp x c D O e3 f=>?_) (λp hp=>DB.mp (F.mem_iff.mp hp)) (λ_ c f=>I c s.toks (d c f));have:=(AJ.mp D).1;lia
  .refine Ay (r:=none) L S m B (λR A' E' q=>?_) (λy nx c D=>nomatch D) (λ_ c f=>I c s.toks (d c f));unfold setNext;refine AA (CD S.ho S.hd S.ft ?_);dsimp only;refine AA (S8 ?_);rw[g,AI (by decide)];show wpAny _ _ (if(!t.plain&&decide (es.size>1))=true then _ else _) _ _ _;rw[AI (by simp;intro _;lia)];show wpAny _ _ (do (if(!t.led&&!es.isEmpty)=true then unsupported "set:maker-not-led" else pure ());_) _ _ _;rw[S.led,g,AI (by simp)];refine AA (AD ?_);have K:es[SetTable.below t.place sl]?=none:=by
    by_cases X:es.size=0
    .exact EC (by rw[X];exact CB _)
    .obtain⟨j,Y,rfl⟩:=z6 (by lia);rw[Y,zDn];exact EC (by lia)
   rw[K];exact AD q
 self:=λi s Q E ⟨S,first,B,N⟩ h=>by
  have hT:s.TypeIs (.ref it) "set_iterator":=⟨_,B,rfl⟩;refine wpAny_pyIter_slot hT Ad (CF Ad hT Et ?_ (Ho _));show wpAny _ _ (ret (.ref it)) _ _ s;exact AD ⟨_,rfl, "set_iterator",_,hT,JK.lookup,h⟩
theorem Wd{Q:A2->A4->Prop}(S:RC w s.heap a o es ep t)
  (h:∀(it T:A3) (c:A0 A2) (h':H_) (d:Drawn),it≠a->it≠T->(T=a\/s.heap.objs.size<=T)->s.heap.objs.size<=it->(∀b g,s.heap.get? b=some g->h'.get? b=some g)->c.Perm (es.toList.map (·.2))->SSt w a it T o es ep t c 0 h'->(∀b∈[it,a,T],b<h'.objs.size) ->
   (∀H:IA,H.handled=none->Walks prog w H it [it,a,T] [it] es.size (λi v=>c[i]?=some v) (SSt w a it T o es ep t c))->Q (.ref it) { s with heap:=h',drawn:=d }):wpAny (model prog w) A (pyIter (.ref a)) Q E s:=by
 have L:s.TypeIs (.ref a) "set":=⟨_,S.ho,S.ex.1⟩;have D:=AG S.ho;refine wpAny_pyIter_slot L F.slot_set_iter (CF F.slot_set_iter L Gx ?_ (F.args_set_iter_1 _));unfold Builtin.«frozenset.__iter__» Builtin.Frozenset.slot0 Builtin.Frozenset.sizeOf;refine AA (AA (EE (a:=(Value.ref a,[])) rfl ?_));dsimp only;refine EE (a:=a) rfl ?_;refine AA (AA (wpAny_setEntries_of S.ho S.hd S.ft (AD ?_)));have m:∀(first:A2) (T:A3) (c:A0 A2) (f:H_) (d:Drawn),(∀b g,s.heap.get? b=some g->f.get? b=some g)->s.heap.objs.size<=f.objs.size->c.Perm (es.toList.map (·.2))->T<f.objs.size->(T=a\/s.heap.objs.size<=T) ->
   (∀q:H_,(∀b g,f.get? b=some g->q.get? b=some g)->zGk w a T es ep t c 0 q first) ->
   wpAny (model prog w) A.in1 (do let e <-setEpoch a;let x <-newFields "set_iterator" [first,rawInt 0,.ref a,rawInt (es.size:Nat),rawInt (e:Nat)];ret x) (λr M=>∃v,r=Fin.done (Flow.ret v)/\∃N r,M.TypeIs v N/\typeLookup (Value.type N) (Str.ofString "__next__")=pure (some r)/\Q v M) E { s with heap:=f,drawn:=d }:=by
  intro first T c f d k n l y I O
  refine AA (wpAny_setEpoch_of (s:={ s with heap:=f,drawn:=d }) (k a o S.ho) S.hd S.ft ?_);refine AA (BV ?_);have G:(f.push (RG first 0 es.size ep a)).get? f.objs.size=some (RG first 0 es.size ep a):=AW _ rfl;have z:∀b g,f.get? b=some g->(f.push (RG first 0 es.size ep a)).get? b=some g:=λb g e=>AC _ e;have B:f.objs.size≠a:=λe=>absurd (BI D n) (by rw[<-e];exact C_ _);have C:f.objs.size≠T:=λe=>absurd y (by rw[<-e];exact C_ _);refine AD ⟨.ref f.objs.size,rfl, "set_iterator",_,⟨_,G,rfl⟩,JK.lookup,?_⟩;refine h f.objs.size T c (f.push (RG first 0 es.size ep a)) d B C I n (λb g e=>z b g (k b g e)) l ⟨S.at (z a o (k a o S.ho)),first,G,O _ z⟩ (λb u=>?_) λH P=>Rh P B C;rw[CT];simp only[AR,A_,or_false]at u;rcases u with rfl | rfl | rfl
  .exact FA _
  .exact EU (BI D n)
  .exact EU y
 unfold setDrawn;refine AA (AA (CD S.ho S.hd S.ft ?_));dsimp only;refine AA (S8 (AD ?_));cases u:w.params.followText "set-order" with
 | true =>
  show wpAny _ _ (if(!true &&(!t.plain&&decide (es.size>1)))=true then _ else _) _ _ _;rw[EM,DP,AI (by decide)];refine AA (AD ?_);exact m _ a _ s.heap s.drawn (λ_ _ e=>e) (VD _) ((Bf _ es).map _) D (.inl rfl) λq _=>.inl ⟨u,rfl,rfl⟩
 | false =>
  show wpAny _ _ (if(!false &&(!t.plain&&decide (es.size>1)))=true then _ else _) _ _ _;by_cases j:(!t.plain&&decide (es.size>1))=true
  .rw[HJ,HS,AN j];refine AA (Rj es.size (List.range es.size) s _ (DX ..) λps d l=>AA ?_);unfold newTuple;refine BV ?_ ?_
   .have G:(s.heap.push (TF ps)).get? s.heap.objs.size=some (TF ps):=AW _ rfl;refine m _ s.heap.objs.size (ps.filterMap λp=>es[p]?.map (·.2)) (s.heap.push (TF ps)) d (λb g e=>AC _ e) (by rw[CT];exact DM _) ?_ (by rw[CT];exact FA _) (.inr (VD _)) λq z=>.inr (.inl ⟨u,ps,rfl,z _ _ G,l,rfl⟩);refine(l.filterMap _).trans (FE ?_);have:=filterMap_getElem?_range es;rw[<-this,List.map_filterMap]
   .have f:=l.length_eq;have q:=S.few;rw[DX]at f;show(List.map _ ps).toArray.size<=sizeLine;rw[AQ,AB,sizeLine_eq];lia
  .rw[HJ,HS,AI j];refine AA (AD ?_);have J:es.size<=1:=by
    by_cases l:t.plain=true
    .have:=S.pln l;lia
    .have K:t.plain=false:=by simpa using l
     rw[K]at j;simp at j;lia
   exact m _ a _ s.heap s.drawn (λ_ _ e=>e) (VD _) (.refl _) D (.inl rfl) λq _=>.inr (.inr ⟨u,J,rfl,0,rfl,λ_=>rfl,λe=>absurd e (by decide)⟩)
end
section
variable{prog:HV}{w:HX}{A:IA}{E:A2->A4->Prop}{s:A4}{a:A3}{o:Obj}{es:HU (Int×A2)}{ep:Nat}{t:II}
theorem Vu{a:A0 A2}{b:HU A2}(h:ItemsOf (λi v=>a[i]?=some v) b a.length):b.toList=a:=by
 refine FI λi=>?_;rw[BJ];by_cases c:i<b.size
 .have e:b[i]?=some b[i]:=CU.mpr ⟨c,rfl⟩;rw[e,h.2 i _ e]
 .rw[EC (by lia),GH (by have:=h.1;lia)]
theorem PQ{Q:A0 A2->A4->Prop}(O:A.handled=none)(S:RC w s.heap a o es ep t)
  (U:∀f q,(∀b c,s.heap.get? b=some c->f.heap.get? b=some c)->f.gens=s.gens->f.os=s.os->s.heap.objs.size<f.heap.objs.size->q.Perm (es.toList.map (·.2))->Q q f):wpAny (model prog w) A (collect (.ref a)) Q E s:=by
 have V:=AG S.ho;unfold collect;refine AA (wpAny_runValue (DH F.entry_proto_collect ?_));rw[Around.under_plainId F.plain_proto_collect _];show wpAny _ A.in1 (newList [] >>= λl=>again (.builtin "list.__iadd__" ⟨[l,.ref a],[]⟩)) _ _ s;refine AA (BV ?_);refine AD ⟨plainId_quiet F.plain_list_iadd _,DH F.entry_list_iadd ?_⟩;rw[Around.under_plainId F.plain_list_iadd _];show wpAny _ A.in1 (Builtin.List.listExtendWith (.ref s.heap.objs.size) (.ref a) (.ref s.heap.objs.size)) _ _ _;unfold Builtin.List.listExtendWith;have h:s.heap.objs.size≠a:=λe=>absurd V (by rw[<-e];exact C_ _);generalize J:s.heap.push { cls:=.type "list",data:=.seq ([]:A0 A2).toArray }=H;have G:∀b c,s.heap.get? b=some c->H.get? b=some c:=λb c e=>by rw[<-J];exact AC _ e
 have i:H.objs.size=s.heap.objs.size+1:=by rw[<-J,CT]
 have X:H.get? s.heap.objs.size=some { cls:=.type "list",data:=.seq ([]:A0 A2).toArray }:=by rw[<-J];exact AW _ rfl
 have Y:Shared.TypeIs { s with heap:=H } (.ref a) "set":=⟨o,G a o S.ho,S.ex.1⟩;refine AA (EY Y ?_);have Z:Builtin.List.listSameRef (.ref s.heap.objs.size) (.ref a)=false:=by simp[Builtin.List.listSameRef,h]
 have h2:(Value.type "set" == Value.type "list")=false:=by decide
 have h3:(Value.type "set" == Value.type "tuple")=false:=by decide
 simp only[Z,h2,h3,Bool.or_false,BD,CO];refine AA (Wd (s:={ s with heap:=H }) (S.at (G a o S.ho)) λI T j r d hia hiT K u k P st hlt W=>?_);have m:Shared.TypeIs { s with heap:=r,drawn:=d } (.ref a) "set":=⟨o,k a o (G a o S.ho),S.ex.1⟩;refine AA (BP ?_);unfold Builtin.List.listLengthHint;refine AA (GC m zFq ?_);wp_delta;refine AA (FP m (b:=true) (by rw[isSubtype_type];kernel_rfl) ?_);show wpAny _ A.in1 (typeOf (Value.ref a) >>= _) _ _ _;refine AA (EY m ?_);refine AD ?_;rw[AN (by decide)];refine AA (DF ?_);have v:r.get? s.heap.objs.size=some { cls:=.type "list",data:=.seq ([]:A0 A2).toArray }:=k _ _ X;refine AA ?_;show wpAny _ A.in1 (updateSeq s.heap.objs.size (·.push .none) >>= λ_=>updateSeq s.heap.objs.size (·.pop)) _ _ _;refine AA (wpAny_updateSeq v rfl ?_);have x:=BZ (Obj.mapSeq (·.push Value.none)) v rfl;refine wpAny_updateSeq x rfl ?_;have L:=BZ (Obj.mapSeq (·.pop)) x rfl;have y:∀b c,b≠s.heap.objs.size->r.get? b=some c->((r.update s.heap.objs.size (Obj.mapSeq (·.push Value.none))).update s.heap.objs.size (Obj.mapSeq (·.pop))).get? b=some c :=
  λb c p e=>(BH _ _ (Ne.symm p)).trans ((BH _ _ (Ne.symm p)).trans e)
 have B:s.heap.objs.size∉[I,a,T]:=by
  have e1:s.heap.objs.size≠I:=λe=>absurd u (by
   show ¬H.objs.size<=I;rw[i,<-e];exact Nat.not_succ_le_self _)
  have e2:s.heap.objs.size≠T:=λe=>by
   rcases K with z | z
   .exact h (e.trans z)
   .exact absurd z (by
     show ¬H.objs.size<=T;rw[i,<-e];exact Nat.not_succ_le_self _)
  simp only[AR,A_,or_false,not_or];exact⟨e1,h,e2⟩
 have M:es.size=j.length:=by
  have:=P.length_eq;rw[AB,AU]at this;exact this.symm
 have R:=S.few;refine AD ⟨plainId_quiet F.plain_extend_loop _,codeAny_extend_loopS (W A.in1 O).toS (by rw[sizeLine_eq];lia) _ B _ es.size 0 _ _ _ rfl (CB _)
  ((W A.in1 O).frame 0 r _ st λb p c e=>y b c (λz=>B (z▸p)) e) L (ItemsOf.nil _) λf C c' N D g=>?_⟩
 show wpAny _ A (load s.heap.objs.size >>= _) _ _ f;refine AA (wpAny_load D ?_);rw[M]at g;refine AD (U f C.toList (λb c e=>N.heap b c (λp=>?_) (y b c (λz=>?_) (k b c (G b c e)))) N.gens N.os (AG D) (by rw[Vu g];exact P))
 .have n:=AG e;rcases AR.mp p with z | z
  .exact absurd n (by rw[z];exact C_ _)
  .rw[AE.mp z]at n;have:H.objs.size<=I:=u;rw[i]at this;exact absurd (BI n (Nat.le_of_succ_le this)) (C_ _)
 .exact absurd (AG e) (by rw[z];exact C_ _)
end
end ST
namespace ST
open PySem L2
def zDe(t:II)(n:Nat):(t.orStandIn n).led=t.led:=by
 unfold SetTable.orStandIn;split<;>rfl
def zAp(t:II)(a:HU (Int×A2))(h:Int)(x:A2):(layNew t a h x).2.1.led=t.led:=by
 unfold layNew;split
 .rename_i b c e;show((t.put b).1.orStandIn _).led=_;rw[zDe];rfl
 .rfl
def Oc{t t':II}{b:HU Int}{n:Nat}{a:HU Nat}(h:t.relaid b n=some (t',a)):t'.led=t.led/\t'.plain=t.plain:=by
 unfold SetTable.relaid SetTable.laid at h;cases e:SetTable.layClean (SetTable.sizeAbove n-1) b with
 | none=>rw[e]at h;cases h
 | some c =>
  rw[e]at h;cases h;exact⟨rfl,rfl⟩
def Rs(t:II)(a:HU (Int×A2))(n:Nat)(b:t.plain=false):(relayAll t a n).2.1.led=t.led/\(relayAll t a n).2.1.plain=false:=by
 unfold relayAll;split
 .rename_i g c e;obtain⟨d,f⟩:=Oc e;dsimp only;split
  .exact⟨d,f.trans b⟩
  .exact⟨rfl,rfl⟩
 .exact⟨rfl,rfl⟩
def zHt:A2->Str
 | .str x _=>x
 | _=>Str.empty
section
variable{prog:HV}{w:HX}{A:IA}{E:A2->A4->Prop}{s:A4}{a:A3}
structure MS(w:HX)(es:HU (Int×A2))(ss:A0 Str):Prop where
 el:∀e∈es.toList,∃x tk,e =(hashStr w x,Value.str x tk)
 pm:(es.toList.map λe=>zHt e.2).Perm ss
 nd:ss.Nodup
def WS(w:HX)(h:H_)(a:A3)(ss:A0 Str):Prop:=∃o b c t,RC w h a o b c t/\MS w b ss
theorem MS.elems{a:HU (Int×A2)}{ss:A0 Str}(h:MS w a ss):ElemsOf (C5 prog w) a.toList:=λe b=>by
 obtain⟨x,c,rfl⟩:=h.el e b;exact⟨⟨.inr x,X1 x c,rfl⟩,rfl⟩
theorem MS.mem{d:HU (Int×A2)}{ss:A0 Str}(h:MS w d ss)(x:Str):x∈ss↔∃e∈d.toList,(C5 prog w).is (.inr x) e.2=true:=by
 rw[<-h.pm.mem_iff];constructor
 .intro g;obtain⟨e,a,rfl⟩:=BK.mp g;obtain⟨y,b,rfl⟩:=h.el e a;exact⟨_,a,X1 y b⟩
 .rintro⟨e,a,j⟩;obtain⟨y,b,rfl⟩:=h.el e a;have:y=x:=by
   rcases G7 (show Dc (.inr x) (.str y b)=true from j)with⟨i,t,f,c⟩ | ⟨z,t,f,c⟩
   .cases c
   .cases f;cases c;rfl
  subst this;exact BK.mpr ⟨_,a,rfl⟩
theorem MS.int{a:HU (Int×A2)}{ss:A0 Str}(h:MS w a ss)(i:Int):¬∃e∈a.toList,(C5 prog w).is (.inl i) e.2=true:=by
 rintro⟨e,d,f⟩;obtain⟨y,g,rfl⟩:=h.el e d;rcases G7 (show Dc (.inl i) (.str y g)=true from f)with⟨i,t,b,c⟩ | ⟨z,t,b,c⟩
 .cases c
 .cases b
theorem MS.len{a:HU (Int×A2)}{ss:A0 Str}(h:MS w a ss):a.size=ss.length:=by
 have:=h.pm.length_eq;rw[AB,AU]at this;exact this
def inS(ss:A0 Str):IQ->Bool
 | .inl _=>false
 | .inr x=>decide (x∈ss)
theorem WS.setOf{h:H_}{ss:A0 Str}(S:WS w h a ss):h.SetOf (C5 prog w) a (inS ss) ss.length:=by
 obtain⟨o,b,c,t,S,T⟩:=S;refine⟨o,b,c,t,S.ho,S.ex,S.hd,T.elems,λk=>?_,S.few,S.ft,T.len⟩;cases k with
 | inl i=>exact⟨λz=>Bool.noConfusion (show false=true from z),λz=>absurd z (T.int i)⟩
 | inr x =>
  show decide (x∈ss)=true↔_;rw[decide_eq_true_eq];exact T.mem x
theorem QJ{ss:A0 Str}{x:Str}{m:Tok}{Q:Bool->A4->Prop}(S:WS w s.heap a ss)(hl:ss.length+1<4096)
  (h:∀h' b,Heap.SameBut a s.heap h'->WS w h' a (if x∈ss then ss else ss ++ [x])->Q b { s with heap:=h' }) :
  wpAny (model prog w) A (setAddHashed a (.str x m) (hashStr w x)) Q E s:=by
 obtain⟨o,n,ep,t,S,T⟩:=id S;have C:(C5 prog w).is (.inr x) (.str x m)=true:=X1 x m;have hsz:=T.len;unfold setAddHashed setAddHashedIn;refine BP (AA (CD S.ho S.hd S.ft ?_));dsimp only;rw[byScan_of (knd:=C5 prog w) rfl S.few T.elems,AN rfl];unfold setAddByScan;refine AA (AA (DF ?_));refine AA (wpAny_setScan_of C S.ho S.hd S.ft T.elems ?_);cases W:List.findIdx? (λe=>(C5 prog w).is (.inr x) e.2) n.toList with
 | some j =>
  dsimp only;obtain⟨hj,M,_⟩:=List.findIdx?_eq_some_iff_getElem.mp W;have p:x∈ss:=(T.mem (prog:=prog) x).mpr ⟨n.toList[j],DL hj,M⟩;refine AD (AD ?_);have:=h s.heap false (Heap.SameBut.refl a s.heap) (by rw[AN p];exact⟨o,n,ep,t,S,T⟩);exact this
 | none =>
  dsimp only;have p:¬x∈ss:=λp=>by
   obtain⟨e,N,K⟩:=(T.mem (prog:=prog) x).mp p;have:=List.findIdx?_eq_none_iff.mp W e N;rw[K]at this;exact Bool.noConfusion this
  have D:∀(b:Bool) {O:A4} {P:Unit->A4->Prop},P () O->wpAny (model prog w) A (match b with | true=>rule "set.scan.the-table-gave-way" | false=>pure ()) P E O :=
   λb O P X=>by cases b<;>first | exact AD X | exact DF X
  have d:=layNew_perm t n (hashStr w x) (.str x m);have g:=layNew_fits t n (hashStr w x) (.str x m);have k:=zAp t n (hashStr w x) (.str x m);show wpAny _ _ (match layNew t n (hashStr w x) (.str x m)with | (n,t,f,F)=>_) _ _ _;generalize layNew t n (hashStr w x) (.str x m)=L at d g k⊢;obtain⟨c,t1,f,F⟩:=L;dsimp only at d g k⊢;rw[DD]at d;have q:∀u:HU (Int×A2),u.toList.Perm c.toList->MS w u (ss ++ [x]):=λu G=>by
   refine⟨λe N=>?_,?_,?_⟩
   .rcases AO.mp (d.mem_iff.mp (G.mem_iff.mp N))with z | z
    .exact T.el e z
    .exact⟨x,m,AE.mp z⟩
   .refine((G.trans d).map _).trans ?_;rw[AK];exact T.pm.append (.refl _)
   .rw[CI];refine⟨T.nd,by simp,λy hy z hz=>?_⟩;rw[AE.mp hz];rintro rfl;exact p hy
  have l:c.size=ss.length+1:=by
   have:=(q c (.refl _)).len;rw[AV]at this;exact this
  refine AA (D _ ?_);have H:∀i:II,i.led=t.led->i.plain=false->i.fits c.size=true->wpAny (model prog w) A (do
    storeSet a c i
    if(!f&&i.tooFull)=true then do
      (match(relayAll i c (SetTable.grown c.size)).2.2 with | true=>rule "set.scan.the-table-gave-way" | false=>pure ())
      storeSet a (relayAll i c (SetTable.grown c.size)).1 (relayAll i c (SetTable.grown c.size)).2.1
      pure (some true)
     else pure (some true)) (λr s'=>wpAny (model prog w) A (match r with | some v=>pure v | none=>setAddHashedIn a (.str x m) (hashStr w x) 99999) Q E s') E s:=by
   intro i Y Z f2;refine AA (HK S.ho S.hd ?_ (by rw[l,sizeLine_eq];lia));have B:=Em S.ho S.hd c i;have I:=DN s.heap a (Obj.putSet c i);split
   .have K:=relayAll_perm i c (SetTable.grown c.size);have hf:=relayAll_fits i c (SetTable.grown c.size);obtain⟨R,U⟩:=Rs i c (SetTable.grown c.size) Z;have J:(relayAll i c (SetTable.grown c.size)).1.size=c.size:=by rw[<-AU,K.length_eq,AU]
    refine AA (D _ ?_);refine AA (HK B rfl ?_ (by rw[J,l,sizeLine_eq];lia));refine AD (AD (h _ true (I.trans (DN _ a _)) ?_));rw[AI p];exact⟨_,_,_,_,⟨Em B rfl _ _,S.ex,rfl,hf,R.trans (Y.trans S.led),(λz=>by rw[U]at z;cases z),by rw[J,l];lia⟩,q _ K⟩
   .refine AD (AD (h _ true I ?_));rw[AI p];exact⟨_,c,_,i,⟨B,S.ex,rfl,f2,Y.trans S.led,(λz=>by rw[Z]at z;cases z),by rw[l];lia⟩,q _ (.refl _)⟩
  cases V:t1.plain with
  | true =>
   rw[AN rfl,hashByValue_scannable 8 (x:=Value.str x m) rfl];refine AA (AD ?_);exact H { t1 with plain:=false } k rfl (SetTable.fits_plain_off g)
  | false =>
   rw[AI (by decide)];refine AA (AD ?_);exact H t1 k V g
end
end ST
namespace L2
open PySem PySem.Spec PyProof.Rows
def Cg(w:HX)(a:A3)(ss:A0 Str):HO:=.ext λh=>ST.WS w h a ss
section
variable{X:Cx}{pins:A0 (A3×Obj)}{σ:St}{H:Hp}{s:A4}{a:A3}{ss:A0 Str}
theorem Xu{P:HV}{w:HX}{H:Hp}{h:H_}(z:ST.WS w h a ss):IS P w H h a (Cg w a ss) :=
 ⟨z,let⟨o,_,_,_,S,_⟩:=z;⟨o,S.ho⟩,λd e ⟨o,b,c,t,S,r⟩ k=>⟨o,b,c,t,S.at (k o S.ho),r⟩⟩
theorem Inv.setw(I:Inv X pins σ H s)(e:H a=some (Cg X.w a ss)):ST.WS X.w s.heap a ss:=by
 obtain⟨z,_⟩:=(show IS X.prog X.w H s.heap a (Cg X.w a ss)from I.hok a _ e);exact z
def Wu(l:A0 Str)(x:Str):A0 Str:=if x∈l then l else l ++ [x]
def zBy(w:HX):V->A0 V->Hp->VK->Prop:=λx b H Q=>∃a l k,x = .ref a/\b = [.str k]/\H a=some (Cg w a l)/\l.length+1<4096/\Q .non (HY H a (Cg w a (Wu l k)))
theorem WS.typeIs{ss:A0 Str}(z:ST.WS X.w s.heap a ss):s.TypeIs (.ref a) "set":=let⟨o,_,_,_,S,_⟩:=z;⟨o,S.ho,S.ex.1⟩
theorem Zh:P7 X "set.add" (zBy X.w):=by
 intro pins s σ H x n v p Q I g i h;obtain⟨a,l,k,rfl,rfl,d,j,q⟩:=h;cases g;obtain⟨u,rfl,⟨r,rfl⟩⟩:=i.one;have z:=I.setw d;refine CF F.slot_set_add (WS.typeIs z) F.entry_set_add ?_ (F.args_set_add_2 _ _);unfold Builtin.«set.add» Builtin.Frozenset.oneOther;simp only[List.isEmpty_nil,bind_assoc];unfold Builtin.Frozenset.addrOf setAdd;refine AA (AD ?_)
 try dsimp only
 refine AA (AD ?_)
 try dsimp only
 refine AA ?_;refine BP ?_;refine AA (wpAny_pyHash_str ?_);refine ST.QJ (s:={ s with toks:=s.toks+1 }) z j λt b c f=>?_;show wpAny _ _ (ret Value.none) _ _ _;refine AD ⟨_,rfl,.non,_,I.write (x:=a) (e:=a) (t':=s.toks+1) (by rw[d];exact VC) (.inl rfl) (λb q m e=>(c.2 b m).trans e) (let⟨o,_,_,_,S,_⟩:=f;⟨o,S.ho⟩) (Xu f),rfl,q⟩
def zGn(w:HX)(neg:Bool):R2:=λx y H Q=>∃a l k,y = .ref a/\x = .str k/\H a=some (Cg w a l)/\Q (.bl (if neg then !decide (k∈l)else decide (k∈l))) H
theorem Ff:KH X (compareOp .NotIn) (zGn X.w true):=by
 intro pins s σ H x y v u Q I b c h;obtain⟨a,l,k,rfl,rfl,d,q⟩:=h;cases c;obtain⟨e,rfl⟩:=b;exact wpAny_notInSet_of (knd:=C5 X.prog X.w) (k:=.inr k) (X1 k e) rfl (I.setw d).setOf ⟨.bl (!decide (k∈l)),H,I.tok _,rfl,q⟩
end
def Inv.drawn{X:Cx}{a:A0 (A3×Obj)}{σ:St}{H:Hp}{s:A4}(I:Inv X a σ H s)(d:Drawn):Inv X a σ H { s with drawn:=d } :=
 ⟨I.ok,I.os,I.bare,I.base,I.loc,I.cell,I.free,I.freeC,I.pin,I.hok,I.len⟩
section
variable{X:Cx}
theorem Ip(Y:X.calm=true):K0 X (.builtin "sorted") (λxs H Q=>∃(p:A3) (ss:A0 Str),xs = [.ref p]/\H p=some (Cg X.w p ss)/\∀(l:A3) (d:A0 Str),H l=none->d.Perm ss->d.Pairwise NL->Q (.ref l) (HY H l (.lst (d.map V.str)))):=by
 intro O s σ H xs j Q I r h;obtain⟨p,ss,rfl,Z,q⟩:=h;obtain⟨u,rfl,ru⟩:=X5 r;cases ru;obtain⟨o,es,ep,t,S,T⟩:=I.setw Z;refine TS.KP (ST.PQ (show X.A.in1.handled=none from I.ok.hd Y) S λC c k1 g1 P D f=>?_);have R:∀v∈c,∃x g,v=Value.str x g:=λv m=>by
  obtain⟨e,E,rfl⟩:=BK.mp (f.mem_iff.mp m);obtain⟨x,g,rfl⟩:=T.el e E;exact⟨x,g,rfl⟩
 have n:StrsAre c (c.map strOf):=by
  have:∀l:A0 A2,(∀v∈l,∃x g,v=Value.str x g)->StrsAre l (l.map strOf):=by
   intro l
   induction l with
   | nil=>exact λ_=>.nil
   | cons v r F =>
    intro h;obtain⟨x,g,rfl⟩:=h v (AX ..);exact .cons _ _ (F λu z=>h u (AL _ z))
  exact this c R
 have U:c.length=es.size:=by rw[f.length_eq,AB,AU]
 have W:=S.few;have G:(c.map strOf).Perm ss:=by
  refine(f.map strOf).trans ?_;rw[BS];refine List.Perm.trans (FE ?_) T.pm;refine List.map_congr_left λe E=>?_;obtain⟨x,g,rfl⟩:=T.el e E;rfl
 refine⟨P,by rw[sizeLine_eq];lia,strKind,oneType',λs2 _=>TS.MG n,λout h' e ho k hg=>?_⟩;obtain⟨J,hs⟩:=ho;have K:∀v∈out.toList,∃x t,v = .str x t:=λv m=>R v (J.mem_iff.mp m);have m:IH ((out.toList.map strOf).map V.str) out.toList:=by
  have:∀j:A0 A2,(∀v∈j,∃x t,v = .str x t)->IH ((j.map strOf).map V.str) j:=by
   intro j
   induction j with
   | nil=>exact λ_=>.nil
   | cons v r F =>
    intro h;obtain⟨x,t,rfl⟩:=h v (AX ..);exact .cons ⟨t,rfl⟩ (F λu z=>h u (AL _ z))
  exact this _ K
 have i:(out.toList.map strOf).Perm ss:=(J.map strOf).trans G;have L:(out.toList.map strOf).Pairwise NL:=by
  rw[CS];refine(EH.mp hs).imp fun{u v} ⟨z,M,q⟩=>?_;obtain⟨x,t,rfl⟩:=K u z;obtain⟨y,t',rfl⟩:=K v M;have q':decide (y.cps.toList<x.cps.toList)=false:=q;exact HE q'
 have k0:∀b o,s.heap.get? b=some o->h'.get? b=some o:=λb o eb=>k b o (k1 b o eb);have B:s.heap.objs.size<=C.heap.objs.size:=DR D;have hn:H C.heap.objs.size=none:=I.hok.fresh B;obtain⟨N,g',d',t',o'⟩:=C;have eo:o'=s.os:=P;have eg:g'=s.gens:=g1;subst eo;subst eg;refine⟨.ref N.objs.size,HY H N.objs.size (.lst ((out.toList.map strOf).map V.str)),?_,rfl,q _ _ hn i L⟩;exact(I.laid (a:=N.objs.size) (o:=.lst ((out.toList.map strOf).map V.str)) (t':=t') k0 B ⟨by rw[AB,AB,J.length_eq,sizeLine_eq];lia,out.toList,e,m,by simpa using hg⟩).drawn d'
end
def Ox(P:HV)(w:HX)(a:A3)(b:A0 (A0 IQ×A3)):HO:=.ext λh=>ST.MX (C5 P w) h a b
def Mc(H:Hp)(a:A0 (A0 IQ×A3)):Prop:=∀q∈a,H q.2=some (.tup (q.1.map kV))
section
variable{X:Cx}{pins:A0 (A3×Obj)}{σ:St}{H:Hp}{s:A4}{a:A3}{ks:A0 (A0 IQ×A3)}
theorem Lw(P:HV)(w:HX):ST.Flat (C5 P w):=λv ⟨x,h⟩=>(C5 P w).byValue x v h
theorem Uq(P:HV)(w:HX):ST.RR (C5 P w):=λv ⟨x,h⟩=>by
 rcases G7 (show Dc x v=true from h)with⟨i,t,_,rfl⟩ | ⟨y,t,_,rfl⟩<;>rfl
theorem Xd{P:HV}{w:HX}{H:Hp}{h:H_}(z:ST.MX (C5 P w) h a ks):IS P w H h a (Ox P w a ks) :=
 ⟨z,let⟨o,_,_,_,e,_⟩:=z;⟨o,e⟩,λd f ⟨o,b,c,t,e,r⟩ k=>⟨o,b,c,t,k o e,r⟩⟩
theorem Inv.sett(I:Inv X pins σ H s)(e:H a=some (Ox X.prog X.w a ks)):ST.MX (C5 X.prog X.w) s.heap a ks:=by
 obtain⟨z,_⟩:=(show IS X.prog X.w H s.heap a (Ox X.prog X.w a ks)from I.hok a _ e);exact z
theorem Nf:K0 X (.type "set") (λxs H Q=>xs = []/\∀p,H p=none->Q (.ref p) (HY H p (Ox X.prog X.w p []))):=by
 intro pins s σ H xs c Q I r h;obtain⟨rfl,q⟩:=h;cases r;refine call_set_0 λa=>⟨.ref s.heap.objs.size,_,I.laid (t':=s.toks) (λb o e=>AC _ e) (VD _) (Xd ?_),rfl,q _ (I.hok.fresh (VD _))⟩;exact⟨_,#[],0,_,AW _ rfl,⟨rfl,rfl,rfl⟩,rfl,.refl _,⟨rfl,rfl,.inl rfl,by show 0*5<7*3;decide⟩⟩
def zGo(P:HV)(w:HX):R2:=λx y H Q=>∃a p ks k,y = .ref a/\x = .ref p/\H a=some (Ox P w a ks)/\H p=some (.tup (k.map kV))/\Mc H ks/\(∀q∈ks,q.1≠k)/\Q (.bl false) H
theorem Ou(b:X.A.units+1<cLine):KH X (compareOp .In) (zGo X.prog X.w):=by
 intro pins s σ H x y v u Q I c d h;obtain⟨a,p,ks,k,rfl,rfl,e,f,g,i,q⟩:=h;cases d;cases c;exact ST.RM (neg:=false) b (Lw _ _) (I.sett e) (λz j=>Ag I.hok (g z j)) (Ag I.hok f) i ⟨.bl false,H,I.tok _,rfl,q⟩
def zDw(P:HV)(w:HX):V->A0 V->Hp->VK->Prop:=λx b H Q=>∃a p ks k,x = .ref a/\b = [.ref p]/\H a=some (Ox P w a ks)/\H p=some (.tup (k.map kV))/\Mc H ks/\(∀q∈ks,q.1≠k)/\ks.length+1<=300/\Q .non (HY H a (Ox P w a (ks ++ [(k,p)])))
theorem zAm(d:X.A.units+1<cLine):P7 X "set.add" (zDw X.prog X.w):=by
 intro pins s σ H x B v C Q I f g h;obtain⟨a,p,ks,k,rfl,rfl,c,i,j,l,m,q⟩:=h;cases f;obtain⟨u,rfl,n⟩:=g.one;cases n;refine ST.QZ d (Lw _ _) (Uq _ _) (I.sett c) (λz r=>Ag I.hok (j z r)) (Ag I.hok i) l m λD t z=>?_;exact⟨.non,_,I.write (x:=a) (e:=a) (by rw[c];exact VC) (.inl rfl) (λb q y e=>(t.2 b y).trans e) (let⟨o,_,_,_,e,_⟩:=z;⟨o,e⟩) (Xd z),rfl,q⟩
end
section
variable{X:Cx}
theorem Rf:K0 X (.builtin "isinstance") (λxs H Q=>∃x n t b,xs = [x,.ty n]/\MA X.K H x t/\PySem.W.kitOne X.K t (.type n)=some b/\Q (.bl b) H):=by
 intro a s σ H xs g Q I r h;obtain⟨x,n,t,b,rfl,c,d,q⟩:=h;obtain⟨u,v,rfl,e,f⟩:=r.two;cases f;exact Tl I e c d λi=>⟨.bl b,H,I.tok _,rfl,q⟩
end
mutual
def Rp(K:VA)(H:Hp):PyData->V->Prop
 | .none,v=>v = .non
 | .bool b,v=>v = .bl b
 | .int i,v=>v = .int i
 | .str x,v=>v = .str x
 | .list d,v=>∃a c,v = .ref a/\IG K H a c/\PJ K H d c
 | .tuple d,v=>∃a c,v = .ref a/\IU K H a c/\PJ K H d c
 | .dict _,_=>False
def PJ(K:VA)(H:Hp):A0 PyData->A0 V->Prop
 | [],a=>a = []
 | d::b,a=>∃v r,a=v::r/\Rp K H d v/\PJ K H b r
end
section
variable{X:Cx}{pins:A0 (A3×Obj)}{σ:St}{H:Hp}{s:A4}
mutual
theorem Inv.reads(I:Inv X pins σ H s):∀(d:PyData) (v:V) (u:A2),Rp X.K H d v->RelV v u->∃as,Reads s.heap u d as
 | .none,v,u,h,r=>by
  cases(show v = .non by simpa [Rp] using h);cases r;exact⟨_,.none⟩
 | .bool b,v,u,h,r=>by
  cases(show v = .bl b by simpa [Rp] using h);cases r;exact⟨_,.bool b⟩
 | .int i,v,u,h,r=>by
  cases(show v = .int i by simpa [Rp] using h);obtain⟨t,rfl⟩:=r;exact⟨_,.int i t⟩
 | .str x,v,u,h,r=>by
  cases(show v = .str x by simpa [Rp] using h);obtain⟨t,rfl⟩:=r;exact⟨_,.str x t⟩
 | .list j,v,u,h,r=>by
  obtain⟨a,c,e,k,l⟩:=(show ∃a c,v=V.ref a/\IG X.K H a c/\PJ X.K H j c by simpa [Rp] using h);subst e;cases r;obtain⟨f,m,⟨o,n,e,p,q,g⟩,_⟩:=I.list k;obtain⟨as,z⟩:=I.readsAll j c f l m;exact⟨_,.list e p g (by simpa using z)⟩
 | .tuple j,v,u,h,r=>by
  obtain⟨a,c,e,k,l⟩:=(show ∃a c,v=V.ref a/\IU X.K H a c/\PJ X.K H j c by simpa [Rp] using h);subst e;cases r;obtain⟨f,m,⟨o,e,p,n,g⟩,_⟩:=I.tuple k;obtain⟨as,z⟩:=I.readsAll j c f l m;exact⟨_,.tuple e p g (by simpa using z)⟩
 | .dict _,v,u,h,r=>by simp[Rp]at h
theorem Inv.readsAll(I:Inv X pins σ H s):∀(ds:A0 PyData) (vs:A0 V) (us:A0 A2),PJ X.K H ds vs->IH vs us->∃as,ReadsAll s.heap us ds as
 | [],vs,us,h,r=>by
  cases(show vs = [] by simpa [PJ] using h);cases r;exact⟨_,.nil⟩
 | d::ds,vs,us,h,r=>by
  obtain⟨v,a,e,b,c⟩:=(show ∃v r,vs=v::r/\Rp X.K H d v/\PJ X.K H ds r by simpa [PJ] using h);subst e;cases r with
  | cons f g =>
   obtain⟨as,z⟩:=I.reads d v _ b f;obtain⟨j,i⟩:=I.readsAll ds a _ c g;exact⟨_,.cons z i⟩
end
def Pl(d:PyData):Prop:=d.canLay0=true/\d.depth<=50
def SS(K:VA):R2:=λx y H Q=>∃d e,Rp K H d x/\Rp K H e y/\Pl d/\Pl e/\Q (.bl (PyData.eqv d e)) H
def TD(K:VA):R2:=λx y H Q=>∃d e,Rp K H d x/\Rp K H e y/\Pl d/\Pl e/\Q (.bl (!PyData.eqv d e)) H
def zCo(m:X.A.units+64<cLine):KH X (compareOp .Eq) (SS X.K):=by
 intro a s σ H x y v u Q I f g h;obtain⟨d,e,i,j,b,c,q⟩:=h;obtain⟨n,k⟩:=I.reads d x v i f;obtain⟨o,l⟩:=I.reads e y u j g;exact PySem.SeqAt.compareEq_reads k l b.1 c.1 (by have:=b.2;have:=c.2;lia) ⟨.bl (PyData.eqv d e),H,I,rfl,q⟩
def zDt(m:X.A.units+64<cLine):KH X (compareOp .NotEq) (TD X.K):=by
 intro a s σ H x y v u Q I f g h;obtain⟨d,e,i,j,b,c,q⟩:=h;obtain⟨n,k⟩:=I.reads d x v i f;obtain⟨o,l⟩:=I.reads e y u j g;exact PySem.SeqAt.compareNe_reads k l b.1 c.1 (by have:=b.2;have:=c.2;lia) ⟨.bl (!PyData.eqv d e),H,I,rfl,q⟩
def SV(K:VA)(neg:Bool):R2:=λx y H Q=>∃d a,Rp K H d x/\(Rp K H (.list a) y\/Rp K H (.tuple a) y)/\Pl d/\PyData.canLayAll0 a=true/\Q (.bl (if neg then !(a.any λz=>PyData.eqv z d)else a.any λz=>PyData.eqv z d)) H
def zDu(n:X.A.units+64<cLine):KH X (compareOp .In) (SV X.K false):=by
 intro f s σ H x y v u Q I k g h;obtain⟨d,b,l,h2,c,i,q⟩:=h;obtain⟨o,j⟩:=I.reads d x v l k;have a:X.A.units+1+min (PyData.depthAll b) d.depth<cLine:=by have:=c.2;lia
 rcases h2 with h2 | h2
 .obtain⟨m,e⟩:=I.reads (.list b) y u h2 g;exact PySem.SeqAt.in_list_reads e j i c.1 a ⟨.bl _,H,I,rfl,q⟩
 .obtain⟨m,e⟩:=I.reads (.tuple b) y u h2 g;exact PySem.SeqAt.in_tuple_reads e j i c.1 a ⟨.bl _,H,I,rfl,q⟩
def Pi(n:X.A.units+64<cLine):KH X (compareOp .NotIn) (SV X.K true):=by
 intro f s σ H x y v u Q I k g h;obtain⟨d,b,l,h2,c,i,q⟩:=h;obtain⟨o,j⟩:=I.reads d x v l k;have a:X.A.units+1+min (PyData.depthAll b) d.depth<cLine:=by have:=c.2;lia
 rcases h2 with h2 | h2
 .obtain⟨m,e⟩:=I.reads (.list b) y u h2 g;exact PySem.SeqAt.notIn_list_reads e j i c.1 a ⟨.bl _,H,I,rfl,q⟩
 .obtain⟨m,e⟩:=I.reads (.tuple b) y u h2 g;exact PySem.SeqAt.notIn_tuple_reads e j i c.1 a ⟨.bl _,H,I,rfl,q⟩
end
section
variable{X:Cx}
def Px(K:VA):V->A0 V->Hp->VK->Prop:=λx b H Q=>∃(l:A3) (a:A0 Str) (y:Str) (j:Nat),x = .ref l/\b = [.str y]/\IG K H l (a.map V.str)/\a[j]?=some y/\(∀m,m<j->a[m]?≠some y)/\Q (.int (j:Nat)) H
theorem X9{ss:A0 Str}{us:A0 A2}(h:IH (ss.map V.str) us){i:Nat}(hi:i<us.length):∃x t,ss[i]?=some x/\us[i] = .str x t:=by
 have b:=h.length;rw[AB]at b;obtain⟨x,a⟩:∃x,ss[i]?=some x:=⟨ss[i]'(by lia),AF (by lia)⟩;obtain⟨u,c,t,rfl⟩:=h.get (i:=i) (x:=.str x) (by rw[AH,a];rfl);refine⟨x,t,a,?_⟩;have:=AF hi;rw[c]at this;exact(BU this).symm
theorem Tf:P7 X "list.index" (Px X.K):=by
 intro B s σ H x W v Y Q I L M h;obtain⟨l,Z,y,j,rfl,rfl,N,C,k,q⟩:=h;cases L;obtain⟨u,rfl,⟨D,rfl⟩⟩:=M.one;obtain⟨a,r,⟨o,n,e,E,O,c⟩,G⟩:=I.list N;have d:=r.length;rw[AB]at d G;have b:j<a.length:=by
  have:=(AJ.mp C).1;lia
 obtain⟨P,R,J,S⟩:=o;simp only at E O c;subst E c
 let p:A2->Bool:=λv=>match v with | .str x _=>x == y | _=>false
 have T:=PySem.SeqAt.list_indexAt l a.toArray n R S (.str y D) p j (by simpa using b) (by rw[sizeLine_eq]at G;lia) ?_ ?_
 .refine call_meets F.slot_list_index ⟨_,e,rfl⟩ F.entry_list_index (F.args_list_index_2 _ _) T ⟨e,?_,?_⟩
  .intro v U;have w:v∈a:=by simpa using U
   obtain⟨i,V,rfl⟩:=List.getElem_of_mem w;obtain⟨x,t,_,f⟩:=X9 r V;rw[f];exact PySem.SeqAt.EqAt.str_str x t y D
  .exact⟨.int (j:Nat),H,I.tok _,⟨_,rfl⟩,q⟩
 .obtain⟨x,t,g,f⟩:=X9 r b;rw[C]at g;cases g;show p (a.toArray[j]'(by simpa using b))=true;rw[show a.toArray[j]'(by simpa using b)=a[j]from by simp,f];exact beq_self_eq_true y
 .intro m hm z;have A:m<a.length:=by simpa using hm
  obtain⟨x,t,g,f⟩:=X9 r A;show p (a.toArray[m]'hm)=false;rw[show a.toArray[m]'hm=a[m]from by simp,f];show(x == y)=false;rw[beq_eq_false_iff_ne];rintro rfl;exact k m z g
end
end L2
namespace L2
open PySem PySem.Spec PyProof.Rows
section
variable{X:Cx}
def Im(x:Str)(n:Nat):Str:=⟨(List.replicate n x.cps).foldl (· ++ ·) #[]⟩
theorem Va(x:Str):Im x 1=x:=by
 unfold Im;simp
theorem Ic:∀(n:Nat) (a:HU Nat),(List.replicate n (#[]:HU Nat)).foldl (· ++ ·) a=a
 | 0,_=>rfl
 | n+1,a=>by rw[DA,HC,Array.append_empty];exact Ic n a
theorem Ma(a:HU Nat):∀(n:Nat) (b:HU Nat),((List.replicate n a).foldl (· ++ ·) b).size=b.size+n*a.size
 | 0,_=>by simp
 | n+1,b=>by rw[DA,HC,Ma a n,Array.size_append,Nat.succ_mul];lia
theorem Nq:KH X (binaryOp .Mult) (λx y H Q=>∃z i n,x = .str z/\y = .int i/\i =((n:Nat):Int)/\n<=100/\z.length<=1000/\Q (.str (Im z n)) H):=by
 intro j s σ H x y v u Q I l m h;obtain⟨z,i,n,rfl,rfl,w,o,e,q⟩:=h;obtain⟨t,rfl⟩:=l;obtain⟨A,rfl⟩:=m;have d:z.length=z.cps.size:=rfl;refine PySem.P.mul_str ?_ ?_ ?_ ?_
 .rw[AM (by lia),AM (by lia)];rfl
 .intro f _ p;have k:(z.length:Int)*i<=1000*100:=Int.mul_le_mul (by lia) (by lia) (by lia) (by lia);have:=Int.le_ediv_of_mul_le (a:=(z.length:Int)) (b:=2^63-1) (c:=i) (by lia) (by lia);lia
 .intro _ _;have k:z.length*i.toNat<=1000*100:=Nat.mul_le_mul e (by lia);unfold Builtin.Str.tooLong;exact AM (by rw[sizeLine_eq];lia)
 .have r:i.toNat=n:=by lia
  rw[r];by_cases f:i<1
  .rw[AN f];have:n=0:=by lia
   subst this;exact⟨by decide,.str (Im z 0),H,I.tok _,⟨_,rfl⟩,q⟩
  .rw[AI f];by_cases g:(i == 1||z.length == 0)=true
   .rw[AN g];have e:Im z n=z:=by
     rcases Bool.or_eq_true _ _▸g with z1 | z1
     .have:n=1:=by have:=eq_of_beq z1;lia
      subst this;exact Va z
     .have:z.cps = #[]:=Array.eq_empty_of_size_eq_zero (by rw[d]at z1;exact eq_of_beq z1);unfold Im;rw[this,Ic];cases z;simp at this;rw[this]
    rw[e]at q;exact⟨.str z,H,I,⟨t,rfl⟩,q⟩
   .rw[AI g];refine⟨?_,.str (Im z n),H,I.tok _,⟨_,rfl⟩,q⟩;show(Im z n).cps.size<=sizeLine;unfold Im;rw[Ma,sizeLine_eq];have k:n*z.cps.size<=100*1000:=Nat.mul_le_mul o (by rw[<-d];exact e);simp only[Array.size_empty];lia
set_option genInjectivity false in
structure Fn(K:VA)(mg:Str->A5 A2)(x:Str)(st:IL)(ps:A0 Str) where
 f:A3
 fd:IT
 F:PM K x x st f fd
 b:Binds K fd ps []
 m:mg x=some (.ref f)
set_option genInjectivity false in
structure Mt(K:VA)(C:A3)(m qual:Str)(st:IL)(ps:A0 Str) where
 f:A3
 fd:IT
 F:PM K m qual st f fd
 b:Binds K fd ps []
 m:QG K C m f
theorem E3{x:Str}{st:IL}{ps:A0 Str}{k:Nat}{sp:Sp}{e:IC}{a:A0 IC}{t:TA}{p c:Pos}(D:Fn X.K X.mg x st ps)(G:IJ X.prog X.w X.K X.mg X.base JQ k D.f D.fd ps sp)(h:JT k X.A)(i:PA X (e::a) t)
  (j:Gl X x:=by rfl) (d:(x ==("__debug__":Str))=false:=by decide) (l:starEach (e::a) X.env =(false,eval e X.env)::starEach a X.env:=by rfl) (g:(backTo c (starEach a X.env)).any (·.1)=false:=by rfl) :
  PE X (.Call (.Name x p) (e::a) [] c) (Sl sp [] E0 t):=Zz G h j D.m D.F.kp D.b .nil J6 i d l g
def Qm(P:HV)(w:HX)(x:V)(H:Hp):Prop:=∃p,x = .ref p/\((∃l,H p=some (Ov P w p l))\/(∃l,H p=some (Cg w p l))\/∃a,H p=some (Ox P w p a))
theorem zCx{c:A0 (A3×Obj)}{σ:St}{H:Hp}{s:A4}{x:V}{v:A2}(I:Inv X c σ H s)(r:RelV x v)(ty:Qm X.prog X.w x H):s.TypeIs v "set"/\∀a,v = .ref a->∃d,s.heap.get? a=some d/\d.dict=none:=by
 obtain⟨p,rfl,h⟩:=ty;cases r;have z:∃o,s.heap.get? p=some o/\o.ExactSet:=by
  rcases h with⟨l,h⟩ | ⟨l,h⟩ | ⟨l,h⟩
  .obtain⟨o,_,_,_,e,b,_⟩:=I.set h;exact⟨o,e,b⟩
  .obtain⟨o,_,_,_,S,_⟩:=I.setw h;exact⟨o,S.ho,S.ex⟩
  .obtain⟨o,_,_,_,e,b,_⟩:=I.sett h;exact⟨o,e,b⟩
 obtain⟨o,e,b⟩:=z;refine⟨⟨o,e,b.1⟩,λa f=>?_⟩;cases f;exact⟨o,e,b.2.1⟩
def zGw(P:HV)(w:HX)(r:V->A0 V->Hp->VK->Prop)(b:TE)(t:TA):TE:=λσ H Q=>b σ H λx a=>Qm P w x a/\t σ a λc d=>r x c d Q
theorem Zu{o e:IC}{i:TE}{t:TA}{c a:Pos}{r:V->A0 V->Hp->VK->Prop}(m:P7 X "set.add" r)(n:PE X o i)(p:PA X [e] t)
  (d:attributeBase o "add" X.env (eval o X.env)=eval o X.env:=by rfl)
  (g:((backTo a (starEach [e] X.env)).all (λx=>!x.1) &&(backToKw a (keywordEach [] X.env)).all (λx=>x.1.isSome)
   && decide ([e].length +([]:A0 Keyword).length +(if([]:A0 Keyword).isEmpty then 0 else 1)<30))=true:=by rfl)
  (f:(c.endLine == a.line)=true:=by rfl) (q:starEach [e] X.env = [(false,eval e X.env)]:=by rfl) :
  PE X (.Call (.Attribute o "add" c) [e] [] a) (zGw X.prog X.w r i t):=by
 intro b s σ H Q I h;refine wpAny_Call_method_late d g f rfl (I_ (n b s σ H _ I h) λv u ⟨x,y,j,k,ty,z⟩=>?_);obtain⟨A,B⟩:=zCx j k ty;refine⟨"set", "set.add",F.plainAttrs_set,F.slot_set_add,F.type_set_add,A,B,?_⟩;have l:=p a b u σ y _ j z;rw[q]at l⊢;refine Calls.callWith_builtin rfl (Calls.evalArgs_plain ?_);exact I_ l λC D ⟨E,G,J,K,L⟩=>m b D σ G x E v C Q J k K L
theorem zFc{x:Str}{i:Int}{a:Pos}(h:∃t,X.mg x=some (.int i t))(b:Gl X x:=by rfl)(c:(x ==("__debug__":Str))=false:=by decide):PE X (.Name x a) (tC (.int i)):=by
 obtain⟨t,e⟩:=h;exact Rl b e ⟨t,rfl⟩ c
theorem zFv{x y:Str}{a:Pos}(h:∃t,X.mg x=some (.str y t))(b:Gl X x:=by rfl)(c:(x ==("__debug__":Str))=false:=by decide):PE X (.Name x a) (tC (.str y)):=by
 obtain⟨t,e⟩:=h;exact Rl b e ⟨t,rfl⟩ c
theorem i6{x:Str}{n:String}{a:Pos}(b:X.mg x=none)(c:bootBuiltins x=some (.type n))(d:Gl X x:=by rfl)(e:x≠ "__name__":=by decide)(f:(x ==("__debug__":Str))=false:=by decide):PE X (.Name x a) (tC (.ty n)) :=
 zAd d b c rfl e f
theorem I0{x:Str}{id:String}{r:A0 V->Hp->VK->Prop}{e:IC}{a:A0 IC}{t:TA}{p b:Pos}(f:K0 X (.builtin id) r)(g:X.mg x=none)(h:bootBuiltins x=some (.builtin id))(i:PA X (e::a) t)(j:Gl X x:=by rfl)(k:x≠ "__name__":=by decide)(c:(x ==("__debug__":Str))=false:=by decide)
  (l:starEach (e::a) X.env =(false,eval e X.env)::starEach a X.env:=by rfl) (d:(backTo b (starEach a X.env)).any (·.1)=false:=by rfl):PE X (.Call (.Name x p) (e::a) [] b) (R_ r t):=Ui f j g h i k c l d
theorem y8{x:Str}{T:String}{r:A0 V->Hp->VK->Prop}{e:IC}{a:A0 IC}{t:TA}{p b:Pos}(f:K0 X (.type T) r)(g:X.mg x=none)(h:bootBuiltins x=some (.type T))(i:PA X (e::a) t)(j:Gl X x:=by rfl)(k:x≠ "__name__":=by decide)(c:(x ==("__debug__":Str))=false:=by decide)
  (l:starEach (e::a) X.env =(false,eval e X.env)::starEach a X.env:=by rfl) (d:(backTo b (starEach a X.env)).any (·.1)=false:=by rfl):PE X (.Call (.Name x p) (e::a) [] b) (R_ r t):=Rz f j g h i k c l d
theorem O7{a:KM}{cl:A0 (Str×A3)}{N':A0 Str}{cap:A0 (A5 Nat)}(c:NY X a cl N' cap)(e:QQ X cl)(d:closureFor a X.env=pure cl:=by rfl)(kind:a.kind = .function:=by rfl)(b:∀y∈a.names,y.2≠ .cell:=by decide +kernel)
  (f:∀y∈a.names,y.2 = .local->a.names.lookup y.1=some .local:=by decide +kernel) (g:((relabel a X.env).names.all λy=>!(y.2 == .cell||y.2 == .free)||(cl.lookup y.1).isSome)=true:=by rfl):ME X a cl N' cap:=⟨kind,b,f,d,e,g,c⟩
theorem LS{a:KM}{cl:A0 (Str×A3)}{N':A0 Str}{b:A0 (A3×Obj)}{c:A0 A3}{d:A4}{e:Hp}{x:Str}{f:Pos}(i:Nat)(g:N'.Nodup:=by decide +kernel)(hi:N'[i]?=some x:=by rfl)(h:Loc (LU X a cl N' b c d e).env.scope x:=by exact Or.inl rfl)
  (j:(LU X a cl N' b c d e).env.scope.names.lookup x=some .local:=by rfl):PG (LU X a cl N' b c d e) (.Name x f) (O0 i):=J0 (X:=LU X a cl N' b c d e) g hi h (.inr j)
def O8:bootBuiltins "len" = some (.builtin "len"):=by decide +kernel
def Gr:bootBuiltins "enumerate" = some (.type "enumerate"):=by decide +kernel
def zBj:bootBuiltins "min" = some (.builtin "min"):=by decide +kernel
def zBn:bootBuiltins "max" = some (.builtin "max"):=by decide +kernel
def Xe:bootBuiltins "abs" = some (.builtin "abs"):=by decide +kernel
def M9:bootBuiltins "sorted" = some (.builtin "sorted"):=by decide +kernel
def Xx:bootBuiltins "int" = some (.type "int"):=by decide +kernel
def Ld:bootBuiltins "str" = some (.type "str"):=by decide +kernel
def Ki:bootBuiltins "bool" = some (.type "bool"):=by decide +kernel
def T3:bootBuiltins "list" = some (.type "list"):=by decide +kernel
def Ax:bootBuiltins "tuple" = some (.type "tuple"):=by decide +kernel
def Pb:bootBuiltins "set" = some (.type "set"):=by decide +kernel
def D0:bootBuiltins "isinstance" = some (.builtin "isinstance"):=by decide +kernel
def Qg:bootBuiltins "all" = some (.builtin "all"):=by decide +kernel
def JU(a:A3)(b H:Hp):Prop:=∀o,b a=some o->H a=some o
def Sm(D:A0 A3)(H H':Hp):Prop:=∀b o,H b=some o->b∉D->H' b=some o
def Cv.at{b H:Hp}(h:Cv b H)(a:A3):JU a b H:=λo e=>h a o e
def Cv.new{H:Hp}{p:A3}{o:HO}(h:H p=none):Cv H (HY H p o):=λb u e=>by rw[B7 (B0 e h)];exact e
def Cv.upd{a H:Hp}{p:A3}{o:HO}(s:Cv a H)(h:a p=none):Cv a (HY H p o):=λb u e=>by rw[B7 (B0 e h)];exact s b u e
def Cv.sm{D:A0 A3}{H H':Hp}(h:Cv H H'):Sm D H H':=λb o e _=>h b o e
def Sm.refl(D:A0 A3)(H:Hp):Sm D H H:=λ_ _ e _=>e
def Sm.trans{D:A0 A3}{H d e:Hp}(a:Sm D H d)(b:Sm D d e):Sm D H e:=λc o h n=>b c o (a c o h n) n
def Sm.new{D:A0 A3}{H c:Hp}{p:A3}{o:HO}(a:Sm D H c)(h:c p=none):Sm D H (L2.HY c p o):=λb u e n=>by
 have:=a b u e n;rw[B7 (B0 this h)];exact this
def Sm.upd{D:A0 A3}{H c:Hp}{p:A3}{o:HO}(a:Sm D H c)(h:p∈D):Sm D H (L2.HY c p o):=λb u e n=>by
 rw[B7 (show b≠p from λz=>n (by rw[z];exact h))];exact a b u e n
def Sm.updN{D:A0 A3}{H c:Hp}{p:A3}{o:HO}(a:Sm D H c)(h:H p=none):Sm D H (L2.HY c p o):=λb u e n=>by rw[B7 (B0 e h)];exact a b u e n
def JU.seqL{K:VA}{H H':Hp}{a:A3}{xs:A0 V}(e:JU a H H')(h:IG K H a xs):IG K H' a xs:=by
 rcases h with(h | ⟨o,h⟩) | h
 .exact .inl (.inl (e _ h))
 .exact .inl (.inr ⟨o,e _ h⟩)
 .exact .inr h
def JU.seqT{K:VA}{H H':Hp}{a:A3}{xs:A0 V}(e:JU a H H')(h:IU K H a xs):IU K H' a xs:=by
 rcases h with(h | ⟨o,h⟩) | h
 .exact .inl (.inl (e _ h))
 .exact .inl (.inr ⟨o,e _ h⟩)
 .exact .inr h
def QK(K:VA)(H:Hp)(a:A3)(xs:A0 V):Prop:=IG K H a xs\/IU K H a xs
def JU.seq{K:VA}{H H':Hp}{a:A3}{xs:A0 V}(e:JU a H H')(h:QK K H a xs):QK K H' a xs:=h.imp e.seqL e.seqT
structure NK(J:It)(xs:A0 V)(a:A3)(H0:Hp):Prop where
 go:∀H i,JU a H0 H->i<xs.length->J.go i H
 stop:∀H,JU a H0 H->J.stop xs.length H
 yld:∀H i x H',JU a H0 H->i<xs.length->J.yld i H x H'->H'=H/\xs[i]?=some x
def PF{K:VA}{b:Hp}{a:A3}{xs:A0 V}(h:IG K b a xs):NK (P_ K a) xs a b :=
 ⟨λH i k c=>⟨xs,xs[i],k.seqL h,AF c⟩,λH k=>⟨xs,k.seqL h,VD _⟩,λH i x d k c ⟨e,y⟩=>⟨e,y xs (k.seqL h)⟩⟩
def asT{K:VA}{b:Hp}{a:A3}{xs:A0 V}(h:IU K b a xs):NK (Itt K a) xs a b :=
 ⟨λH i k c=>⟨xs,xs[i],k.seqT h,AF c⟩,λH k=>⟨xs,k.seqT h,VD _⟩,λH i x d k c ⟨e,y⟩=>⟨e,y xs (k.seqT h)⟩⟩
def Wl{J:It}{n:Nat}{g:TG}{f:TS}{D:Ends}{σ:St}{H:Hp}(Pv:Nat->St->Hp->Prop)(j:Pv 0 σ H)(b:∀i σ H,i<n->Pv i σ H->J.go i H)(c:∀σ H,Pv n σ H->J.stop n H)
  (k:∀i σ H x H',i<n->Pv i σ H->J.yld i H x H'->g x σ H' λσ2 d=>f { D with nx:=Pv (i+1),ct:=Pv (i+1),bk:=D.nx } σ2 d) (l:∀σ H,Pv n σ H->D.nx σ H) :
  ∃W:Nat->Nat->St->Hp->Prop,(∃m,W 0 m σ H)/\∀i m σ H,W i m σ H ->
   (J.stop i H/\D.nx σ H)\/(J.go i H/\∃N:St->Hp->Prop,(∀σ' H',N σ' H'->∃h,h < m/\W (i+1) h σ' H')/\∀x H',J.yld i H x H'->g x σ H' λσ2 d=>f { D with nx:=N,ct:=N,bk:=D.nx } σ2 d):=by
 refine⟨λi m σ H=>m=n-i/\i<=n/\Pv i σ H,⟨n,by simp,CB _,j⟩,?_⟩;rintro i m σ H ⟨rfl,q,p⟩;by_cases a:i<n
 .exact .inr ⟨b i σ H a p,Pv (i+1),λσ' H' o=>⟨n-(i+1),by lia,rfl,a,o⟩,λx H' y=>k i σ H x H' a p y⟩
 .have e:i=n:=by lia
  subst e;exact .inl ⟨c σ H p,l σ H p⟩
def zCy{J:It}{xs:A0 V}{a:A3}{f:Hp}(as:NK J xs a f){g:TG}{h:TS}{D:Ends}{σ:St}{H:Hp}(Pv:Nat->St->Hp->Prop)(k:Pv 0 σ H)(c:∀i σ H,i<=xs.length->Pv i σ H->JU a f H)
  (l:∀i σ H x,xs[i]?=some x->Pv i σ H->g x σ H λσ2 d=>h { D with nx:=Pv (i+1),ct:=Pv (i+1),bk:=D.nx } σ2 d) (o:∀σ H,Pv xs.length σ H->D.nx σ H) :
  ∃W:Nat->Nat->St->Hp->Prop,(∃m,W 0 m σ H)/\∀i m σ H,W i m σ H ->
   (J.stop i H/\D.nx σ H)\/(J.go i H/\∃N:St->Hp->Prop,(∀σ' H',N σ' H'->∃j,j < m/\W (i+1) j σ' H')/\∀x H',J.yld i H x H'->g x σ H' λσ2 d=>h { D with nx:=N,ct:=N,bk:=D.nx } σ2 d) :=
 Wl (n:=xs.length) Pv k (λi σ H b p=>as.go H i (c i σ H (DR b) p) b) (λσ H p=>as.stop H (c _ σ H (VD _) p)) (λi σ H x H' b p y=>by
  obtain⟨rfl,e⟩:=as.yld H i x H' (c i σ H (DR b) p) b y;exact l i σ _ x e p) o
def Gu{J:It}{n:Nat}{g:TG}{f:TT}{em:RO}{σ:St}{H:Hp}{Q:St->Hp->Prop}(Pv:Nat->St->Hp->Prop)(j:Pv 0 σ H)(c:∀i σ H,i<n->Pv i σ H->J.go i H)(d:∀σ H,Pv n σ H->J.stop n H)
  (k:∀i σ H x H' (N:St->Hp->Prop),i<n->Pv i σ H->J.yld i H x H'->(∀σ' H',Pv (i+1) σ' H'->N σ' H')->g x σ H' λσ2 l=>f σ2 l λb h=>if b=true then em σ2 h N else N σ2 h)
  (o:∀σ H,Pv n σ H->Q σ H):Au g f em J σ H Q:=by
 refine⟨λi m σ H=>m=n-i/\i<=n/\Pv i σ H,⟨n,by simp,CB _,j⟩,?_⟩;rintro i m σ H ⟨rfl,r,p⟩;by_cases a:i<n
 .exact .inr ⟨c i σ H a p,λx H' y=>k i σ H x H' _ a p y λσ3 s q=>⟨n-(i+1),by lia,rfl,a,q⟩⟩
 .have e:i=n:=by lia
  subst e;exact .inl ⟨d σ H p,o σ H p⟩
def P1{J:It}{xs:A0 V}{a:A3}{f:Hp}(as:NK J xs a f){g:TG}{h:TT}{em:RO}{σ:St}{H:Hp}{Q:St->Hp->Prop}(Pv:Nat->St->Hp->Prop)(k:Pv 0 σ H)(d:∀i σ H,i<=xs.length->Pv i σ H->JU a f H)
  (l:∀i σ H x (N:St->Hp->Prop),xs[i]?=some x->Pv i σ H->(∀σ' H',Pv (i+1) σ' H'->N σ' H')->g x σ H λσ2 m=>h σ2 m λb j=>if b=true then em σ2 j N else N σ2 j)
  (o:∀σ H,Pv xs.length σ H->Q σ H):Au g h em J σ H Q :=
 Gu (n:=xs.length) Pv k (λi σ H c p=>as.go H i (d i σ H (DR c) p) c) (λσ H p=>as.stop H (d _ σ H (VD _) p)) (λi σ H x H' N c p y q=>by
  obtain⟨rfl,e⟩:=as.yld H i x H' (d i σ H (DR c) p) c y;exact l i σ _ x N e p q) o
def Dz{em:RO}{N:St->Hp->Prop}{σ:St}{H:Hp}{i:Nat}{x:V}(h:em (σ.set i (some x)) H N):O0 i x σ H λσ2 c=>Gn σ2 c λb a=>if b=true then em σ2 a N else N σ2 a:=by
 show if true=true then em (σ.set i (some x)) H N else N (σ.set i (some x)) H
 rw[AN rfl];exact h
section
variable{X:Cx}(K:VA)(P:HV)(w:HX){tg:IC}
theorem MW{l:IC}{tl:TE}(a:PE X l tl)(b:X.K=K:=by rfl):PI X tg l (zBz K tl):=by subst b;exact zAb a
theorem piT{l:IC}{tl:TE}(a:PE X l tl)(b:X.K=K:=by rfl):PI X tg l (zFo K tl):=by subst b;exact zEa a
theorem SW{a:IC}{c:TA}{p b:Pos}(d:X.mg "range" = none)(e:PA X [a] c)(f:Gl X "range":=by rfl)(g:starEach [a] X.env = [(false,eval a X.env)]:=by rfl):PI X tg (.Call (.Name "range" p) [a] [] b) (zEk c):=Sc f d e g
theorem QX{a:A0 IC}{k:Nat}{t:Q_}{n:Nat}{b:Pos}(h:SJ X a t)(d:X.calm=true:=by rfl)(e:(assignEach a X.env).length=n:=by rfl)(c:(assignEach a X.env).findIdx? (·.1)=none:=by rfl)(f:X.K=K:=by rfl):PG X (.Tuple a k b) (SX K n t):=by subst f;exact zBs d h e c
theorem MZ{e:IC}{b:TE}{f:Str}{a:Pos}(c:PE X e b)(d:attributeBase e f X.env (eval e X.env)=eval e X.env:=by rfl)(g:X.K=K:=by rfl):PE X (.Attribute e f a) (zGu K b f):=by subst g;exact zCh c d
theorem QW{o a:IC}{d e:TE}{f:Str}{c b:Pos}(g:PE X o d)(h:PE X a e)(i:swapsWith a (some (.Attribute o f b)) c.line X.env=pure false:=by rfl)(j:X.K=K:=by rfl):PS X (.Assign [.Attribute o f b] a c) (zGt K d e f):=by subst j;exact zBm g h i
theorem P4(b:X.K=K:=by rfl):K0 X (.builtin "len") (λxs H Q=>∃p a,xs = [.ref p]/\(IG K H p a\/IU K H p a)/\Q (.int a.length) H):=by subst b;exact Gg
theorem X3(b:X.K=K:=by rfl):K0 X (.type "list") (λxs H Q=>∃p a,xs = [.ref p]/\(IG K H p a\/IU K H p a)/\∀l,H l=none->Q (.ref l) (HY H l (.lst a))):=by subst b;exact Gs
theorem Rv(a:X.calm=true:=by rfl)(b:X.K=K:=by rfl):K0 X (.builtin "all") (λxs H Q=>∃(p:A3) (bs:A0 Bool),xs = [.ref p]/\IG K H p (bs.map V.bl)/\Q (.bl (bs.all id)) H):=by subst b;exact Vl a
theorem n8(b:X.K=K:=by rfl):K0 X (.builtin "sorted") (λxs H Q=>∃(p:A3) (ss:A0 Str),xs = [.ref p]/\IG K H p (ss.map V.str)/\∀(l:A3) (a:A0 Str),H l=none->a.Perm ss->a.Pairwise NL->Q (.ref l) (HY H l (.lst (a.map V.str)))):=by subst b;exact Ai
theorem Ev(b:X.K=K:=by rfl):K0 X (.builtin "sorted") (λxs H Q=>∃(p:A3) (ps:A0 IM),xs = [.ref p]/\IG K H p (ps.map λq=>V.ref q.1)/\(∀q∈ps,G8 H q)/\∀(l:A3) (a:A0 IM),H l=none->a.Perm ps->a.Pairwise QB->Q (.ref l) (HY H l (.lst (a.map λq=>V.ref q.1)))):=by subst b;exact Hh
theorem Wo(b:X.calm=true:=by rfl)(hw:X.w=w:=by rfl):K0 X (.builtin "sorted") (λxs H Q=>∃(p:A3) (ss:A0 Str),xs = [.ref p]/\H p=some (Cg w p ss)/\∀(l:A3) (a:A0 Str),H l=none->a.Perm ss->a.Pairwise NL->Q (.ref l) (HY H l (.lst (a.map V.str)))):=by subst hw;exact Ip b
theorem Q6(a:X.K=K:=by rfl):K0 X (.builtin "isinstance") (λxs H Q=>∃x n t b,xs = [x,.ty n]/\MA K H x t/\PySem.W.kitOne K t (.type n)=some b/\Q (.bl b) H):=by subst a;exact Rf
theorem Zs(a:X.prog=P:=by rfl)(hw:X.w=w:=by rfl):K0 X (.type "set") (λxs H Q=>xs = []/\∀p,H p=none->Q (.ref p) (HY H p (Ov P w p []))):=by subst a;subst hw;exact Sk
theorem Vz(a:X.prog=P:=by rfl)(hw:X.w=w:=by rfl):K0 X (.type "set") (λxs H Q=>xs = []/\∀p,H p=none->Q (.ref p) (HY H p (Ox P w p []))):=by subst a;subst hw;exact Nf
theorem zFp(a:X.A.units+64<cLine)(b:X.K=K:=by rfl):KH X (compareOp .In) (SV K false):=by subst b;exact zDu a
theorem Lq(a:X.A.units+64<cLine)(b:X.K=K:=by rfl):KH X (compareOp .NotIn) (SV K true):=by subst b;exact Pi a
theorem Oi(a:X.A.units+64<cLine)(b:X.K=K:=by rfl):KH X (compareOp .Eq) (SS K):=by subst b;exact zCo a
theorem Vb(a:X.A.units+64<cLine)(b:X.K=K:=by rfl):KH X (compareOp .NotEq) (TD K):=by subst b;exact zDt a
theorem Og(a:X.K=K:=by rfl):KH X (compareOp .In) (SC K false):=by subst a;exact Qr
theorem o0(a:X.K=K:=by rfl):KH X (compareOp .NotIn) (SC K true):=by subst a;exact Hy
theorem zGb(a:X.prog=P:=by rfl)(hw:X.w=w:=by rfl):KH X (compareOp .In) (zGv P w false):=by subst a;subst hw;exact Pt
theorem zFy(a:X.A.units+1<cLine)(b:X.prog=P:=by rfl)(hw:X.w=w:=by rfl):KH X (compareOp .In) (zGo P w):=by subst b;subst hw;exact Ou a
theorem zBd(a:X.prog=P:=by rfl)(hw:X.w=w:=by rfl):P7 X "set.add" (zCl P w):=by subst a;subst hw;exact zDs
theorem zDi(a:X.A.units+1<cLine)(b:X.prog=P:=by rfl)(hw:X.w=w:=by rfl):P7 X "set.add" (zDw P w):=by subst b;subst hw;exact zAm a
theorem Se{o e:IC}{g:TE}{t:TA}{b a:Pos}{r:V->A0 V->Hp->VK->Prop}(h:P7 X "set.add" r)(i:PE X o g)(j:PA X [e] t)
  (c:attributeBase o "add" X.env (eval o X.env)=eval o X.env:=by rfl)
  (f:((backTo a (starEach [e] X.env)).all (λx=>!x.1) &&(backToKw a (keywordEach [] X.env)).all (λx=>x.1.isSome)
   && decide ([e].length +([]:A0 Keyword).length +(if([]:A0 Keyword).isEmpty then 0 else 1)<30))=true:=by rfl)
  (d:(b.endLine == a.line)=true:=by rfl) (k:starEach [e] X.env = [(false,eval e X.env)]:=by rfl) (l:X.prog=P:=by rfl) (hw:X.w=w:=by rfl) :
  PE X (.Call (.Attribute o "add" b) [e] [] a) (zGw P w r g t):=by subst l;subst hw;exact Zu h i j c f d k
theorem KN(a:X.K=K:=by rfl):S1 X (SO K):=by subst a;exact Yv
theorem OP(a:X.K=K:=by rfl):S1 X (zGh K):=by subst a;exact zDo
theorem Mf(a:X.K=K:=by rfl):P7 X "list.index" (Px K):=by subst a;exact Tf
theorem ptV{a:IC}{c:TE}(d:PE X a c)(e:∀b,isTrue a X.env b =(do let v <-b;standAt a.pos;holding [v] (truthy v)):=by intro _;rfl)(f:X.K=K:=by rfl):PT X a (λσ H Q=>c σ H λx H'=>∃k,zGe K x H' k/\Q k H'):=by subst f;exact Wg d e
theorem Ps{T id:String}{name:Str}{o e:IC}{d:A0 IC}{k:TE}{t:TA}{c a:Pos}{r:V->A0 V->Hp->VK->Prop}(l:PlainAttrs T)(h:Slot T name id)(j:typeOf (.builtin id)=pure (.type "method_descriptor"))(m:P7 X id r)(n:PE X o k)(p:PA X (e::d) t)
  (f:attributeBase o name X.env (eval o X.env)=eval o X.env:=by rfl)
  (i:((backTo a (starEach (e::d) X.env)).all (λx=>!x.1) &&(backToKw a (keywordEach [] X.env)).all (λx=>x.1.isSome)
   && decide ((e::d).length +([]:A0 Keyword).length +(if([]:A0 Keyword).isEmpty then 0 else 1)<30))=true:=by rfl)
  (g:(c.endLine == a.line)=true:=by rfl) (q:starEach (e::d) X.env =(false,eval e X.env)::starEach d X.env:=by rfl) (b:(backTo a (starEach d X.env)).any (·.1)=false:=by rfl) (s:X.K=K:=by rfl) :
  PE X (.Call (.Attribute o name c) (e::d) [] a) (tBM K T r k t):=by subst s;exact zGc l h j m n p f i g q b
theorem zEu{T id:String}{name:Str}{o:IC}{g:TE}{a b:Pos}{r:V->A0 V->Hp->VK->Prop}(h:PlainAttrs T)(e:Slot T name id)(f:typeOf (.builtin id)=pure (.type "method_descriptor"))(i:P7 X id r)(j:PE X o g)
  (c:attributeBase o name X.env (eval o X.env)=eval o X.env:=by rfl) (d:(a.endLine == b.line)=true:=by rfl) (k:X.K=K:=by rfl):PE X (.Call (.Attribute o name a) [] [] b) (zGl K T r g):=by subst k;exact zDd h e f i j c d
end
section
variable{prog:HV}{w:HX}{A:IA}{E:A2->A4->Prop}{s:A4}
theorem Jh{t:A3}{vs:A0 A2}{Q:A0 A2->A4->Prop}(k:IsTup s.heap t vs.toArray)(hsz:vs.length<=sizeLine)(h:∀h',(∀b u,s.heap.get? b=some u->h'.get? b=some u)->s.heap.objs.size<=h'.objs.size->Q vs { s with heap:=h' }):wpAny (model prog w) A (collect (.ref t)) Q E s:=by
 obtain⟨o,m,p,n,q⟩:=k;unfold collect;refine AA (wpAny_runValue (DH F.entry_proto_collect ?_));rw[show A.under _=A.in1 from Around.under_plainId F.plain_proto_collect _];show wpAny _ A.in1 (newList [] >>= λl=>again (.builtin "list.__iadd__" ⟨[l,.ref t],[]⟩)) _ _ s;refine AA (BV (AD ⟨plainId_quiet F.plain_list_iadd _,DH F.entry_list_iadd ?_⟩));rw[show A.under _=A.in1 from Around.under_plainId F.plain_list_iadd _];show wpAny _ A.in1 (Builtin.List.listExtendWith (.ref s.heap.objs.size) (.ref t) (.ref s.heap.objs.size)) _ _ _;have i:(s.heap.push { cls:=.type "list",data:=.seq ([]:A0 A2).toArray }).get? s.heap.objs.size=some { cls:=.type "list",data:=.seq #[] 0 }:=AW _ rfl;have v:=BZ (Obj.mapSeq (· ++ vs.toArray)) i rfl;have d:wpAny (model prog w) A (match Value.ref s.heap.objs.size with
   | Value.ref a=>do
    match(<-load a).data with
     | Data.seq x _=>pure x.toList
     | _=>unsupported "internal:collect"
   | _=>unsupported "internal:collect") Q E { s with heap:=(s.heap.push { cls:=.type "list",data:=.seq ([]:A0 A2).toArray }).update s.heap.objs.size (Obj.mapSeq (· ++ vs.toArray)) }:=by
  show wpAny _ A (load s.heap.objs.size >>= _) _ _ _;refine AA (wpAny_load v (AD ?_));show Q ((#[]:HU A2)++vs.toArray).toList _;rw[show((#[]:HU A2)++vs.toArray).toList=vs from by simp];exact h _ (λb u j=>(BH _ _ (GR (AG j))).trans (AC _ j)) (by rw[GQ,CT];lia)
 refine B_ (wpAny_extend_seq (A:=A) (hsz:=by rw[AQ];exact hsz) (R:=λr g=>r = .ok (.ret (.ref s.heap.objs.size))/\g ={ s with heap:=(s.heap.push { cls:=.type "list",data:=.seq ([]:A0 A2).toArray }).update s.heap.objs.size (Obj.mapSeq (· ++ vs.toArray)) })
  (s:={ s with heap:=s.heap.push { cls:=.type "list",data:=.seq ([]:A0 A2).toArray } }) _ t _ 0 (.inr rfl) i (AC _ m) p q ⟨rfl,rfl⟩) (λf g z=>?_) (λe g z=>absurd z.1 (by simp))
 match f,z with
 | .done f,⟨y,B⟩=>subst B;cases y;exact d
 | .again c,z=>exact⟨z.1,FK z.2 λr D C=>by obtain⟨rfl,rfl⟩:=C;exact d⟩
end
theorem Hq:K0 X (.builtin "sorted") (λxs H Q=>∃(p:A3) (ss:A0 Str),xs = [.ref p]/\QK X.K H p (ss.map V.str)/\∀(l:A3) (a:A0 Str),H l=none->a.Perm ss->a.Pairwise NL->Q (.ref l) (HY H l (.lst (a.map V.str)))):=by
 intro f s σ H xs c Q I r h;obtain⟨p,ss,rfl,hq,q⟩:=h;rcases hq with hq | hq
 .exact Ai f s σ H _ c Q I r ⟨p,ss,rfl,hq,q⟩
 obtain⟨u,rfl,G⟩:=X5 r;cases G;obtain⟨J,E,⟨o,i,L,n,M⟩,W⟩:=I.tuple hq;have j:=Y8 E;have Y:=E.length;refine TS.KP (Jh ⟨o,i,L,n,M⟩ (by lia) λF N g=>?_);refine⟨rfl,by lia,strKind,oneType',λZ _=>TS.MG j,λout O e i k P=>?_⟩;obtain⟨m,R⟩:=i;have w:∀v∈out.toList,∃x t,v = .str x t:=λv z=>j.all v (m.mem_iff.mp z);have z:IH ((out.toList.map strOf).map V.str) out.toList:=by
  have:∀c:A0 A2,(∀v∈c,∃x t,v = .str x t)->IH ((c.map strOf).map V.str) c:=by
   intro c
   induction c with
   | nil=>exact λ_=>.nil
   | cons v r S =>
    intro h;obtain⟨x,t,rfl⟩:=h v (AX ..);exact .cons ⟨t,rfl⟩ (S λu A=>h u (AL _ A))
  exact this _ w
 have d:(out.toList.map strOf).Perm ss:=by
  have:=m.map strOf
  rwa [j.strs]at this
 have B:(out.toList.map strOf).Pairwise NL:=by
  rw[CS];refine(EH.mp R).imp fun{u v} ⟨A,C,q⟩=>?_;obtain⟨x,t,rfl⟩:=w u A;obtain⟨y,t',rfl⟩:=w v C;have T:decide (y.cps.toList<x.cps.toList)=false:=q;exact HE T
 have D:∀b o,s.heap.get? b=some o->O.get? b=some o:=λb o U=>k b o (N b o U);refine⟨.ref F.objs.size,HY H F.objs.size (.lst ((out.toList.map strOf).map V.str)),?_,rfl,q _ _ (I.hok.fresh g) d B⟩;refine I.laid (t':=s.toks) D g ⟨?_,out.toList,e,z,by simpa using P⟩;rw[AB,AB,m.length_eq];lia
theorem Na{f:A0 (A3×Obj)}{σ:St}{H:Hp}{s:A4}{A:IA}{E:A2->A4->Prop}{Q:A2->A4->Prop}{b:Bool}{x:V}{u t:A2}{l:A3}{its:A0 A2}(I:Inv X f σ H s)(g:RelV x u)(ty:MA X.K H x t)(i:IsTup s.heap l its.toArray)(e:PySem.W.kitAny X.K t its=some b)(m:(∃y,x = .str y)\/(∃a xs,x = .ref a/\(H a=some (.lst xs)\/H a=some (.tup xs))))(h:∀r,Q (.bool b) { s with toks:=r }) :
  wpAny (model X.prog X.w) A (call (.builtin "isinstance") [u,.ref l]) Q E s:=by
 obtain⟨⟨G,J,v,B⟩,j,C,n,D⟩:=i;cases C;cases D;rcases m with⟨y,rfl⟩ | ⟨a,xs,rfl,ea | ea⟩
 .cases ty;obtain⟨t,q⟩:=(show ∃t,u=Value.str y t from g);cases q;exact VR PySem.W.kitx_str I.kIn VC j e (λz=>nomatch z) h
 .cases(show u=Value.ref a from g);have d:t = .type "list":=by cases ty with
   | lst=>rfl
   | frz=>rfl
   | tup c=>rw[ea]at c;cases c
   | dK c=>rw[ea]at c;cases c
   | dT c=>rw[ea]at c;cases c
   | ins c=>rw[ea]at c;cases c
  subst d;obtain⟨_,_,n,_,k⟩:=(show IS X.prog X.w H s.heap a (.lst xs)from I.hok a _ ea);exact VR PySem.W.kitx_list I.kIn ⟨_,k,rfl⟩ j e (λz=>nomatch z) h
 .cases(show u=Value.ref a from g);have d:t = .type "tuple":=by cases ty with
   | tup=>rfl
   | frz c=>rw[ea]at c;cases c
   | lst c=>rw[ea]at c;cases c
   | dK c=>rw[ea]at c;cases c
   | dT c=>rw[ea]at c;cases c
   | ins c=>rw[ea]at c;cases c
  subst d;obtain⟨_,_,_,p⟩:=(show IS X.prog X.w H s.heap a (.tup xs)from I.hok a _ ea);obtain⟨o,k,F,_⟩:=p;exact VR PySem.W.kitx_tuple I.kIn ⟨o,k,F⟩ j e (λz=>nomatch z) h
def zBv(K:VA):A0 V->Hp->VK->Prop:=λc H Q=>∃(x:V) (p:A3) (d:A0 String) (t:A2) (b:Bool),c = [x,.ref p]/\H p=some (.tup (d.map V.ty))/\MA K H x t/\((∃y,x = .str y)\/(∃a c,x = .ref a/\(H a=some (.lst c)\/H a=some (.tup c))))/\PySem.W.kitAny K t (d.map Value.type)=some b/\Q (.bl b) H
theorem Ri:∀{ns:A0 String} {us:A0 A2},IH (ns.map V.ty) us->us=ns.map Value.type
 | [],_,.nil=>rfl
 | _::_,_,.cons r t=>by rw[BM,Ri t];cases r;rfl
theorem Op:K0 X (.builtin "isinstance") (zBv X.K):=by
 intro c s σ H l m Q I r h;obtain⟨x,p,n,t,b,rfl,e,f,g,i,q⟩:=h;obtain⟨u,v,rfl,j,a⟩:=r.two;cases a;obtain⟨k,a,d,o⟩:=I.tuple (IU.of e);rw[Ri a]at d;exact Na I j f d i g λw=>⟨.bl b,H,I.tok _,rfl,q⟩
variable(K:VA)
theorem Uk(b:X.K=K:=by rfl):K0 X (.builtin "sorted") (λxs H Q=>∃(p:A3) (ss:A0 Str),xs = [.ref p]/\QK K H p (ss.map V.str)/\∀(l:A3) (a:A0 Str),H l=none->a.Perm ss->a.Pairwise NL->Q (.ref l) (HY H l (.lst (a.map V.str)))):=by subst b;exact Hq
theorem Uy(a:X.K=K:=by rfl):K0 X (.builtin "isinstance") (zBv K):=by subst a;exact Op
section
variable{prog:HV}{w:HX}{A:IA}{E:A2->A4->Prop}{s:A4}{it l:A3}{i:Nat}{items:HU A2}{x:A2}{Q:A2->A4->Prop}
theorem Zf{α:Type}{Q:α->A4->Prop}(a:A.handled=none)(h:∀h' e,(∀b o,s.heap.get? b=some o->h'.get? b=some o)->(∃o,h'.get? e=some o/\o.cls = .type "StopIteration")->E (.ref e) { s with heap:=h' }):wpAny (model prog w) A (Builtin.SmallTypes.stopIteration (α:=α)) Q E s:=by
 refine AA (AA (GO (AA (AD (BV ?_ (sizeOk_excFields ..)))) (by show 0<=sizeLine;decide)));refine AA (wpAny_handled ?_);rw[a];exact wpAny_throw (h _ _ (λb o e=>AC _ (AC _ e)) ⟨_,AW _ rfl,rfl⟩)
theorem T5(a:s.heap.IsTupleIter it l i)(g:s.heap.IsTuple l items)(h:items[i]?=some x)
  (j:∀h',h'.IsTupleIter it l (i+1)->Heap.SameBut it s.heap h'->Q x { s with heap:=h' }):wpAny (model prog w) A (Builtin.SmallTypes.nextOf (.ref it)) Q E s:=by
 obtain⟨o,d,k,b⟩:=id a;obtain⟨m,e,_,n,f⟩:=g;refine AA (CG a.typeIs F.slot_tuple_iterator_next (CF F.slot_tuple_iterator_next a.typeIs F.entry_tuple_iterator_next ?_ (F.args_tuple_iterator_next_1 _)));refine AA (AD (AA (CC d b rfl ?_)));refine DI (c:=(Value.ref l == Value.none)=true) rfl ?_;refine AA (CC d b rfl (AA (DZ e f ?_)));dsimp only;rw[show items[(i:Int).toNat]?=some x from h];refine AA (EB d b (FA 1) (AD ⟨x,rfl,AD (j _ ⟨_,BZ _ d (Obj.isFreed_of_fields (Obj.data_mapFields b _)),(Obj.cls_mapFields o _).trans k,(Obj.data_mapFields b _).trans ?_⟩ (DN _ _ _))⟩));rfl
theorem g9(j:A.handled=none)(a:s.heap.IsTupleIter it l i)(m:s.heap.IsTuple l items)(n:items[i]?=none)
  (p:∀h' e,Heap.ExtBut it s.heap h'->(∃o,h'.get? e=some o/\o.cls = .type "StopIteration")->E (.ref e) { s with heap:=h' }):wpAny (model prog w) A (Builtin.SmallTypes.nextOf (.ref it)) Q E s:=by
 obtain⟨o,d,r,f⟩:=id a;obtain⟨t,g,_,u,h⟩:=m;refine AA (CG a.typeIs F.slot_tuple_iterator_next (CF F.slot_tuple_iterator_next a.typeIs F.entry_tuple_iterator_next ?_ (F.args_tuple_iterator_next_1 _)));refine AA (AD (AA (CC d f rfl ?_)));refine DI (c:=(Value.ref l == Value.none)=true) rfl ?_;refine AA (CC d f rfl (AA (DZ g h ?_)));dsimp only;rw[show items[(i:Int).toNat]?=none from n];refine AA (DF (AA (EB d f (FQ 1) ?_)));exact Zf j λh' e k d=>p h' e (λb o q e=>k b o (((DN _ _ _).2 b q).trans e)) d
theorem Sa{M:Model}{α β:Type}{a b:α}{i u v:β}{f:α->β->Sem (ForInStep β)}{Q:β->A4->Prop}(h:wpAny M A (f a i) (λr c=>r = .yield u/\wpAny M A (f b u) (λr c=>r = .yield v/\Q v c) E c) E s):wpAny M A (forIn [a,b] i f) Q E s:=by
 rw[List.forIn_cons];refine AA (B_ h (λr c z=>?_) λe c z=>z);obtain⟨rfl,z⟩:=z;show wpAny M A (forIn [b] u f) Q E c;rw[List.forIn_cons];refine AA (B_ z (λr c z=>?_) λe c z=>z);obtain⟨rfl,z⟩:=z;exact AD z
theorem Ct{z TI TO d f m l2:A3}{r t:Nat}{xs K:HU A2}{x y a b:A2}(D:ZipApart z TI TO d f m l2)(hz:IsZip s.heap z TI TO .none)(B:IsPair s.heap TI (.ref d) (.ref f))(C:IsPair s.heap TO a b)
  (h1:s.heap.IsTupleIter d m r) (h2:s.heap.IsTupleIter f l2 t) (T:s.heap.IsTuple m xs) (U:s.heap.IsTuple l2 K) (V:xs[r]?=some x) (W:K[t]?=some y)
  (X:∀h',IsZip h' z TI TO (rawInt s.heap.objs.size)->IsPair h' TO x y->h'.IsTupleIter d m (r+1)->h'.IsTupleIter f l2 (t+1)->IsPair h' s.heap.objs.size x y->h'.objs.size=s.heap.objs.size+1->(∀c o,c≠z->c≠TO->c≠d->c≠f->s.heap.get? c=some o->h'.get? c=some o)->Q (.ref s.heap.objs.size) { s with heap:=h' }) :
  wpAny (model prog w) A (Builtin.«zip.__next__» ⟨[.ref z],[]⟩) (λfin Y=>∃v,fin = .done (.ret v)/\Q v Y) E s:=by
 obtain⟨F,gg,dd,tt,oo⟩:=s;refine AA (AD (AA (CC hz rfl rfl (AA (CC hz rfl rfl (AA (DZ B rfl ?_)))))));refine DI rfl (AA (AA (CC hz rfl rfl (AD (FD rfl ?_)))));refine AA (DF (AA (CC hz rfl rfl (AA (DG hz (FQ 4) λh3 Z g=>?_)))));have a3:=h1.extBut g.extBut D.i1z;have b3:=h2.extBut g.extBut D.i2z;have c3:=T.extBut g.extBut D.l1z;have d3:=U.extBut g.extBut D.l2z;have e3:=(g.2 TO D.TOz).trans C;refine AA ?_;rw[show(#[Value.ref d,Value.ref f].toList.zipIdx) = [(Value.ref d,0),(Value.ref f,1)]from rfl];refine Sa (u:=(none,())) (v:=(none,())) ?_;refine AA (wpAny_onRaise (DI rfl (AA (T5 a3 c3 V λh4 a4 h=>AD ?_))));have L:=(h.2 TO D.TOi1).trans e3;refine AA (DZ L rfl (AA (wpAny_updateSeq_pair L λh5 e5 i=>AA (wpAny_letGo (AD ⟨rfl,?_⟩)))));have b5:=(b3.extBut h.extBut D.i12.symm).extBut i.extBut D.TOi2.symm;have d5:=(d3.extBut h.extBut D.l2i1).extBut i.extBut D.l2TO;refine AA (wpAny_onRaise (DI rfl (AA (T5 b5 d5 W λh6 b6 j=>AD ?_))));have M:=(j.2 TO D.TOi2).trans e5;refine AA (DZ M rfl (AA (wpAny_updateSeq_pair M λn N k=>AA (wpAny_letGo (AD ⟨rfl,?_⟩)))));have z7:=(k.2 z D.TOz.symm).trans ((j.2 z D.i2z.symm).trans ((i.2 z D.TOz.symm).trans ((h.2 z D.i1z.symm).trans Z)));have G:n.objs.size=F.objs.size:=k.1.trans (j.1.trans (i.1.trans (h.1.trans g.1)));have O:∀{c:A3} {o:Obj},F.get? c=some o->c≠n.objs.size:=λe=>by rw[G];exact BA (AG e)
 refine AA (DZ N rfl (AA (GO (AA (AA (DG (AC _ z7) (FQ 4) λh8 z8 H=>DG z8 (Nat.succ_lt_succ (FQ 3)) λp P I=>AD ⟨_,rfl,?_⟩))) (by show 2<=sizeLine;decide))));have q:∀{c:A3} {o:Obj},c≠z->n.get? c=some o->p.get? c=some o:=λl e=>(I.2 _ l).trans ((H.2 _ l).trans (AC _ e));have J:p.objs.size=F.objs.size+1:=I.1.trans (H.1.trans ((CT ..).trans (congrArg (· + 1) G)));have R:p.get? n.objs.size=some ⟨.type "tuple",none,.seq #[x,y],#[]⟩:=(I.2 _ (O hz).symm).trans ((H.2 _ (O hz).symm).trans (AW _ rfl));rw[G]at P R⊢;refine X p P (q D.TOz N) (a4.at λo e=>?_) (b6.at λo e=>?_) R J λc o l S n1 n2 e=>q l ?_
 .exact q D.i1z ((k.2 _ D.TOi1.symm).trans ((j.2 _ D.i12).trans ((i.2 _ D.TOi1.symm).trans e)))
 .exact q D.i2z ((k.2 _ D.TOi2.symm).trans e)
 .exact(k.2 _ S).trans ((j.2 _ n2).trans ((i.2 _ S).trans ((h.2 _ n1).trans ((g.2 _ l).trans e))))
theorem Ez{z TI TO a b f l2:A3}{j:Nat}{xs:HU A2}{Q:PySem.Fin->A4->Prop}(p:A.handled=none)(D:ZipApart z TI TO a b f l2)(hz:IsZip s.heap z TI TO .none)(g:IsPair s.heap TI (.ref a) (.ref b))
  (h1:s.heap.IsTupleIter a f j) (r:s.heap.IsTuple f xs) (t:xs[j]?=none)
  (u:∀h' e,(∀c o,c≠z->c≠TO->c≠a->c≠b->s.heap.get? c=some o->h'.get? c=some o)->(∃o,h'.get? e=some o/\o.cls = .type "StopIteration")->E (.ref e) { s with heap:=h' }) :
  wpAny (model prog w) A (Builtin.«zip.__next__» ⟨[.ref z],[]⟩) Q E s:=by
 obtain⟨B,C,F,tt,G⟩:=s;refine AA (AD (AA (CC hz rfl rfl (AA (CC hz rfl rfl (AA (DZ g rfl ?_)))))));refine DI rfl (AA (AA (CC hz rfl rfl (AD (FD rfl ?_)))));refine AA (DF (AA (CC hz rfl rfl (AA (DG hz (FQ 4) λH k h=>?_)))));refine AA ?_;rw[show(#[Value.ref a,Value.ref b].toList.zipIdx) = [(Value.ref a,0),(Value.ref b,1)]from rfl,List.forIn_cons];refine AA (AA (wpAny_onRaise (DI rfl (AA (g9 p (h1.extBut h.extBut D.i1z) (r.extBut h.extBut D.l1z) t λI e i d=>?_)))));refine DG (i z _ D.i1z.symm k) (FQ 4) λv J l=>u v e (λc o m _ x _ e=>(l.2 _ m).trans (i c o x ((h.2 _ m).trans e))) ?_;obtain⟨o,d,n⟩:=d;have y:e≠z:=λq=>by
  subst q;rw[i e _ D.i1z.symm k]at d;cases d;exact absurd (show Value.type "zip" = .type "StopIteration" from n) (by decide)
 exact⟨o,(l.2 _ y).trans d,n⟩
theorem Lu{z TI TO:A3}{a:A2}(hz:IsZip s.heap z TI TO a):s.TypeIs (.ref z) "zip":=⟨_,hz,rfl⟩
theorem zAh(O:A.handled=none)(z TI TO f g j l2:A3)(D:ZipApart z TI TO f g j l2)(xs v:HU A2)(P:xs.size<=v.size) :
  WalksT prog w A z [z,TI,TO,f,g,j,l2] [z,TO,f,g] xs.size (λi C=>∃x y,xs[i]?=some x/\v[i]?=some y/\C = #[x,y])
   (λi h=>IsZip h z TI TO .none/\IsPair h TI (.ref f) (.ref g)/\(∃a b,IsPair h TO a b)/\h.IsTupleIter f j i/\h.IsTupleIter g l2 i/\h.IsTuple j xs/\h.IsTuple l2 v)
   (λi T h=>IsZip h z TI TO (rawInt T)/\IsPair h TI (.ref f) (.ref g)/\(∃a b,IsPair h TO a b)/\h.IsTupleIter f j (i+1)/\h.IsTupleIter g l2 (i+1)/\h.IsTuple j xs/\h.IsTuple l2 v/\T≠z/\T≠TO/\T≠f/\T≠g) where
 sub:=by simp
 frame:=λi h B ⟨c,l,⟨a,b,p⟩,m,r,n,t⟩ k=>⟨k z (by simp) _ c,k TI (by simp) _ l,⟨a,b,k TO (by simp) _ p⟩,m.at (k f (by simp)),r.at (k g (by simp)),n.at (k j (by simp)),t.at (k l2 (by simp))⟩
 item:=λi s Q E K ⟨c,l,⟨a,b,p⟩,m,r,n,t⟩ G=>by
  have H:xs[i]?=some xs[i]:=EG K;have L:v[i]?=some (v[i]'(BI K P)):=EG _;refine AA (GF (CG (Lu c) F.slot_zip_next (CF F.slot_zip_next (Lu c) F.entry_zip_next (Ct D c l p m r n t H L λB I R S U V sz k=>AD ?_) (F.args_zip_next_1 _))));refine G _ _ B s.toks ⟨_,_,H,L,rfl⟩ (VD _) ⟨_,V,rfl,_,rfl⟩ ⟨I,k TI _ D.TIz D.TITO D.TIi1 D.TIi2 l,⟨_,_,R⟩,S,U,n.at λo e=>k j o D.l1z D.l1TO D.l1i1 D.l1i2 e,t.at λo e=>k l2 o D.l2z D.l2TO D.l2i1 D.l2i2 e,?_,?_,?_,?_⟩ λb o d e=>?_
  .exact(BA (AG c)).symm
  .exact(BA (AG p)).symm
  .obtain⟨o,e,_⟩:=m;exact(BA (AG e)).symm
  .obtain⟨o,e,_⟩:=r;exact(BA (AG e)).symm
  .simp only[AR,A_,or_false,not_or]at d;exact k b o d.1 d.2.1 d.2.2.1 d.2.2.2 e
 go:=λM k W i T s Q E ⟨c,l,⟨a,b,p⟩,m,r,n,t,_⟩ G=>wpAny_letOwnedTupleGo_zip c λB I u=>G B ⟨I,(u.2 _ D.TIz).trans l,⟨a,b,(u.2 _ D.TOz).trans p⟩,m.extBut u.extBut D.i1z,r.extBut u.extBut D.i2z,n.extBut u.extBut D.l1z,t.extBut u.extBut D.l2z⟩ λb o d e=>(u.2 b λq=>d (by rw[q];exact AX ..)).trans e
 apart:=λi T h ⟨_,_,_,_,_,_,_,X,Y,Z,n4⟩ N=>by
  simp only[AR,A_,or_false]at N;rcases N with e | e | e | e
  .exact X e
  .exact Y e
  .exact Z e
  .exact n4 e
 done:=λs Q E ⟨c,l,⟨a,b,p⟩,m,r,n,t⟩ G=>by
  have H:xs[xs.size]?=none:=EC (VD _);refine AA (GF (CG (Lu c) F.slot_zip_next (CF F.slot_zip_next (Lu c) F.entry_zip_next (Ez O D c l m n H λB e k J=>?_) (F.args_zip_next_1 _))));obtain⟨o,J,hc⟩:=J;refine AA (FP ⟨o,J,hc⟩ isSubtype_stop (AD (G B s.toks λb o d e=>?_)));simp only[AR,A_,or_false,not_or]at d;exact k b o d.1 d.2.1 d.2.2.1 d.2.2.2 e
 self:=λi s Q E ⟨c,_⟩ q=>HQ c q
end
section
variable{prog:HV}{w:HX}{A:IA}{E:A2->A4->Prop}{s:A4}
theorem Ah{M:Model}{T:String}{vs:A0 A2}{Q:A2->A4->Prop}(h:Q (.ref s.heap.objs.size) { s with heap:=s.heap.push { cls:=.type T,data:=.fields vs.toArray } })(a:sizeOk (.fields vs.toArray)):wpAny M A (Builtin.SmallTypes.newRecord (.type T) vs) Q E s:=BV h a
theorem Pp{d l2:A3}{xs n:HU A2}{Q:A2->A4->Prop}(y:s.heap.IsTuple d xs)(z:s.heap.IsTuple l2 n)
  (B:∀h',IsZip h' (s.heap.objs.size+4) (s.heap.objs.size+2) (s.heap.objs.size+3) .none->IsPair h' (s.heap.objs.size+2) (.ref s.heap.objs.size) (.ref (s.heap.objs.size+1))->IsPair h' (s.heap.objs.size+3) .none .none ->
   h'.IsTupleIter s.heap.objs.size d 0->h'.IsTupleIter (s.heap.objs.size+1) l2 0->(∀c o,s.heap.get? c=some o->h'.get? c=some o)->Q (.ref (s.heap.objs.size+4)) { s with heap:=h' }) :
  wpAny (model prog w) A (call (.type "zip") [.ref d,.ref l2]) Q E s:=by
 refine callType_new (S:=λA R j=>j=s/\∀h',IsZip h' (s.heap.objs.size+4) (s.heap.objs.size+2) (s.heap.objs.size+3) .none->IsPair h' (s.heap.objs.size+2) (.ref s.heap.objs.size) (.ref (s.heap.objs.size+1))->IsPair h' (s.heap.objs.size+3) .none .none ->
   h'.IsTupleIter s.heap.objs.size d 0->h'.IsTupleIter (s.heap.objs.size+1) l2 0->(∀c o,s.heap.get? c=some o->h'.get? c=some o)->R (.ok (.ret (.ref (s.heap.objs.size+4)))) { s with heap:=h' }) F.called_zip rfl (F.typeCall_zip_2 _ _) (F.newCall_zip_2 _ _) (λ_=>F.args_object_init_3 _ _ _) F.entry_zip_new (.of_wp λprog w A R j l=>?_) ⟨rfl,λh' p C D G H k=>⟨⟨_,p,rfl⟩,B h' p C D G H k⟩⟩
 obtain⟨rfl,l⟩:=l;obtain⟨a,I,J,tt,K⟩:=j;refine AA (AA (AD (DI rfl (AA (EE sub_zip (DI rfl (AD ?_)))))))
 let b:=a.push { cls:=.type "tuple_iterator",data:=.fields #[.ref d,.int 0 0] }
 let f:=b.push { cls:=.type "tuple_iterator",data:=.fields #[.ref l2,.int 0 0] }
 let g:=f.push { cls:=.type "tuple",data:=.seq #[.ref a.objs.size,.ref b.objs.size] }
 let i:=g.push { cls:=.type "tuple",data:=.seq #[.none,.none] }
 have r:b.objs.size=a.objs.size+1:=CT ..;have t:f.objs.size=a.objs.size+2:=(CT ..).trans (congrArg (· + 1) r);have x:g.objs.size=a.objs.size+3:=(CT ..).trans (congrArg (· + 1) t);have L:i.objs.size=a.objs.size+4:=(CT ..).trans (congrArg (· + 1) x);have m:b.IsTuple l2 n:=z.at λo e=>AC _ e;have M:b.get? a.objs.size=some { cls:=.type "tuple_iterator",data:=.fields #[.ref d,.int 0 0] }:=AW _ rfl;have N:f.get? b.objs.size=some { cls:=.type "tuple_iterator",data:=.fields #[.ref l2,.int 0 0] }:=AW _ rfl;have O:g.get? f.objs.size=some { cls:=.type "tuple",data:=.seq #[.ref a.objs.size,.ref b.objs.size] }:=AW _ rfl;have P:i.get? g.objs.size=some { cls:=.type "tuple",data:=.seq #[.none,.none] }:=AW _ rfl;have u:∀{h:H_} {o:Obj} {c:A3} {q:Obj},h.get? c=some q->(h.push o).get? c=some q:=λe=>AC _ e;refine DI rfl (AA (AA (Sa (u:=#[.ref a.objs.size]) (v:=#[.ref a.objs.size,.ref b.objs.size]) (AA (BP (FW y (AD ⟨rfl,AA (BP (FW m (AD ⟨rfl,AD ?_⟩)))⟩)))))));refine AA (GO (AA (GO (AA (Ah (AD ⟨_,rfl,?_⟩) ?_)) (by show 2<=sizeLine;decide))) (by show 2<=sizeLine;decide))
 .have T:=AW i (o:={ cls:=.type "zip",data:=.fields #[.none,.bool false,.bool false,.ref f.objs.size,.ref g.objs.size] }) rfl;have q:=l (i.push { cls:=.type "zip",data:=.fields #[.none,.bool false,.bool false,.ref f.objs.size,.ref g.objs.size] });rw[show(Shared.mk a I J tt K).heap.objs.size=a.objs.size from rfl,<-r,<-t,<-x,<-L]at q;exact q T (u (u O)) (u P) ⟨_,u (u (u (u M))),rfl,rfl⟩ ⟨_,u (u (u N)),rfl,rfl⟩ λc o e=>u (u (u (u (u e))))
 .show 5<=sizeLine+2;decide
end
def SN(e:Hp->A3->A0 V->Prop)(a b:A3):It :=
  ⟨λi H=>∃c d x y,e H a c/\e H b d/\c.length<=d.length/\c[i]?=some x/\d[i]?=some y,λi H v f=>∃T x y,v = .ref T/\H T=none/\f=HY H T (.tup [x,y])/\(∀c,e H a c->c[i]?=some x)/\∀d,e H b d->d[i]?=some y,
   λi H=>∃c d,e H a c/\e H b d/\c.length<=d.length/\c.length=i⟩
def Qx(isIt:H_->A3->A3->Nat->Prop)(z TI TO c d a b:A3)(i:Nat)(h:H_):Prop:=IsZip h z TI TO .none/\IsPair h TI (.ref c) (.ref d)/\(∃u v,IsPair h TO u v)/\isIt h c a i/\isIt h d b i
section
variable{P:HV}{w:HX}{K:VA}{elts:A0 IC}{kk:Nat}{tp:Pos}{isIt:H_->A3->A3->Nat->Prop}{isq:H_->A3->HU A2->Prop}{sq:Hp->A3->A0 V->Prop}
theorem Go(oI:∀h c l i,isIt h c l i->∃o,h.get? c=some o/\∀v,o.data≠ .cell v)(kI:∀h h' c l i,isIt h c l i->(∀o,h.get? c=some o->h'.get? c=some o)->isIt h' c l i)
  (gI:∀(X:Cx) f σ H s c xs,X.K=K->Inv X f σ H s->sq H c xs->∃its,IH xs its/\isq s.heap c its.toArray) (uI:∀(X:Cx) f σ H s c xs D,X.K=K->Inv X f σ H s->sq H c xs->sq H c D->xs=D)
  (z TI TO g j a b:A3) (WI:∀(A:IA),A.handled=none->∀xs D:HU A2,xs.size<=D.size->WalksT P w A z [z,TI,TO,g,j,a,b] [z,TO,g,j] xs.size (λi G=>∃x y,xs[i]?=some x/\D[i]?=some y/\G = #[x,y])
   (λi h=>IsZip h z TI TO .none/\IsPair h TI (.ref g) (.ref j)/\(∃a b,IsPair h TO a b)/\isIt h g a i/\isIt h j b i/\isq h a xs/\isq h b D)
   (λi T h=>IsZip h z TI TO (rawInt T)/\IsPair h TI (.ref g) (.ref j)/\(∃a b,IsPair h TO a b)/\isIt h g a (i+1)/\isIt h j b (i+1)/\isq h a xs/\isq h b D/\T≠z/\T≠TO/\T≠g/\T≠j)) :
  MJ P w K (.Tuple elts kk tp) (SN sq a b) [z,TI,TO,g,j] z (Qx isIt z TI TO g j a b) where
 mem:=AX ..
 obj:=λi h st c t=>by
  obtain⟨h1,R,⟨u,v,U⟩,V,Y⟩:=st;simp only[AR,A_,or_false]at t;rcases t with rfl | rfl | rfl | rfl | rfl
  .exact⟨_,h1,λv z=>by cases z⟩
  .exact⟨_,R,λv z=>by cases z⟩
  .exact⟨_,U,λv z=>by cases z⟩
  .exact oI _ _ _ _ V
  .exact oI _ _ _ _ Y
 keep:=λi h h' st k=>by
  obtain⟨h1,R,⟨u,v,U⟩,V,Y⟩:=st;exact⟨k z (by simp) _ h1,k TI (by simp) _ R,⟨u,v,k TO (by simp) _ U⟩,kI _ _ _ _ _ V (k g (by simp)),kI _ _ _ _ _ Y (k j (by simp))⟩
 item:=by
  intro X hP hw L t i f s σ H E I S st hg;subst hP hw;obtain⟨xs,D,x,y,hq,hr,M,hx,hy⟩:=hg;obtain⟨its,rv,p⟩:=gI _ _ _ _ _ _ _ L I hq;obtain⟨N,F,p'⟩:=gI _ _ _ _ _ _ _ L I hr;obtain⟨u,hu,ru⟩:=rv.get hx;obtain⟨v,hv,rv'⟩:=F.get hy;have hl:=rv.length;have O:=F.length;have W:=WI X.A (I.ok.hd t) its.toArray N.toArray (by rw[AQ,AQ,<-hl,<-O];exact M);have hi:i<its.toArray.size:=by rw[AQ];exact(AJ.mp hu).1
  obtain⟨s1,s2,s3,Z,s5⟩:=id st;refine W.item i s _ _ hi ⟨s1,s2,s3,Z,s5,p,p'⟩ λT G h' tk hvs hT ht hm k=>?_;obtain⟨x',y',hx',hy',rfl⟩:=hvs;have ex:x'=u:=BU (hx'.symm.trans ((DY ..).trans hu));have ey:y'=v:=BU (hy'.symm.trans ((DY ..).trans hv));subst ex ey;refine⟨.ref T,rfl,W.go elts kk tp i T _ _ _ hm λR C k2=>?_⟩;have kk2:∀b o,b∉[z,TI,TO,g,j]->s.heap.get? b=some o->R.get? b=some o:=λc o d ec=>by
   have n4:c∉[z,TO,g,j]:=λm=>d (by
    simp only[AR,A_,or_false]at m⊢;exact m.imp_right .inr)
   exact k2 c o n4 (k c o n4 ec)
  have hT2:R.IsTuple T #[x',y']:=ht.at λo e=>k2 T o (W.apart i T h' hm) e;have J:∀c∈[z,TI,TO,g,j],∃B,s.heap.get? c=some B:=λc d=>by
   obtain⟨u3,v3,U⟩:=s3;obtain⟨o4,V,_⟩:=oI _ _ _ _ Z;obtain⟨o5,Y,_⟩:=oI _ _ _ _ s5;simp only[AR,A_,or_false]at d;rcases d with rfl | rfl | rfl | rfl | rfl
   .exact⟨_,s1⟩
   .exact⟨_,s2⟩
   .exact⟨_,U⟩
   .exact⟨_,V⟩
   .exact⟨_,Y⟩
  refine⟨.ref T,HY H T (.tup [x,y]),I.turnLaid (fp:=[z,TI,TO,g,j]) kk2 S J hT ⟨?_,[x',y'],.cons ru (.cons rv' .nil),hT2⟩,rfl,⟨T,x,y,rfl,I.hok.fresh hT,rfl,λzs hz=>by rw[uI _ _ _ _ _ _ _ _ L I hz hq];exact hx,λzs hz=>by rw[uI _ _ _ _ _ _ _ _ L I hz hr];exact hy⟩,⟨C.1,C.2.1,C.2.2.1,C.2.2.2.1,C.2.2.2.2.1⟩,λc d=>?_⟩
  .show 2<=sizeLine;decide
  .obtain⟨B,eb⟩:=J c d;rw[B7 (BA (BI (AG eb) hT))];exact(S c d).1
 done:=by
  intro X hP hw L t i f s σ H E I S st hg;subst hP hw;obtain⟨xs,D,hq,hr,M,hx⟩:=hg;obtain⟨its,rv,p⟩:=gI _ _ _ _ _ _ _ L I hq;obtain⟨N,F,p'⟩:=gI _ _ _ _ _ _ _ L I hr;have hl:=rv.length;have O:=F.length;have W:=WI X.A (I.ok.hd t) its.toArray N.toArray (by rw[AQ,AQ,<-hl,<-O];exact M);have hi:i=its.toArray.size:=by rw[AQ,<-hl,hx]
  obtain⟨s1,s2,s3,Z,s5⟩:=id st;rw[hi]at Z s5;refine W.done s _ _ ⟨s1,s2,s3,Z,s5,p,p'⟩ λh' tk k=>⟨rfl,?_⟩;have nf:∀b u,H b=some u->b∉[z,TI,TO,g,j]:=λb u e hb=>by rw[(S b hb).1]at e;cases e
  have k':∀c o,c∉[z,TI,TO,g,j]->s.heap.get? c=some o->h'.get? c=some o:=λc o d ec=>k c o (λm=>d (by
    simp only[AR,A_,or_false]at m⊢;exact m.imp_right .inr)) ec
  refine I.step (h':=h') (H':=H) (t':=tk) (g':=s.gens) (d':=s.drawn) (ch:=[z,TI,TO,g,j]) (λb hb=>let⟨_,f1,_,f3,f4,f5⟩:=S b hb;⟨f3,f1,f4,f5⟩) (λb B _ _ t e _=>k' b B t e) (λb B _ _ t e _=>⟨B.slots,k' b B t e⟩) (λ_ _ _ _ n=>n)
   (λb B t e=>⟨B,k' b B t e⟩) (λ_ _ e=>e) (λ_ _ _ e=>e) (λb ps e=>⟨#[],by rw[e];simp⟩) (λm hm=>?_) (λb u eb=>?_) I.bare
  .obtain⟨B,es,ep,ho,r⟩:=hm;exact⟨B,es,ep,k' _ B (λhb=>(S _ hb).2.1 rfl) ho,r⟩
  .refine(I.hok b u eb).stay (λc v t q=>k' c v ?_ q) (λ_ q=>q) λ_ _ q=>q;rcases t with z | z
   .rw[z];exact nf b u eb
   .exact nf c _ z
 self:=λA i s Q E st h=>HQ st.1 h
theorem Pc(z TI TO f g a b:A3)(D:ZipApart z TI TO f g a b):MJ P w K (.Tuple elts kk tp) (SN (IG K) a b) [z,TI,TO,f,g] z (Qx Heap.IsListIter z TI TO f g a b) :=
 Go (isq:=Heap.IsList) (λh c l i ⟨o,e,_,d⟩=>⟨o,e,λv z=>by rw[d]at z;cases z⟩) (λh C c l i z k=>z.at k) (λX j σ H s c m n I q=>by subst n;obtain⟨r,u,p,_⟩:=I.list q;exact⟨r,u,p.isList⟩) (λX j σ H s c m t n I q x=>by subst n;exact I.list_inj q x)
  z TI TO f g a b λA y m t B=>by
   have W:=WalksT.zip2 (prog:=P) (w:=w) y z TI TO f g a b D m t
   rwa [FZ B]at W
theorem Rg(z TI TO f g a b:A3)(D:ZipApart z TI TO f g a b):MJ P w K (.Tuple elts kk tp) (SN (IU K) a b) [z,TI,TO,f,g] z (Qx Heap.IsTupleIter z TI TO f g a b) :=
 Go (isq:=Heap.IsTuple) (λh c l i ⟨o,e,_,d⟩=>⟨o,e,λv z=>by rw[d]at z;cases z⟩) (λh C c l i z k=>z.at k) (λX j σ H s c m n I q=>by subst n;obtain⟨r,u,p,_⟩:=I.tuple q;exact⟨r,u,p⟩) (λX j σ H s c m t n I q x=>by subst n;exact I.tuple_inj q x)
  z TI TO f g a b λA y m t B=>zAh y z TI TO f g a b D m t B
end
section
variable{X:Cx}{elts:A0 IC}{kk:Nat}{tp:Pos}
def zHa(K:VA)(R:It->Hp->Prop)(a b:A3)(xs c:A0 V)(H:Hp):Prop:=IG K H a xs/\IG K H b c/\R (SN (IG K) a b) H\/IU K H a xs/\IU K H b c/\R (SN (IU K) a b) H
def zBe(K:VA)(c:TA):TI:=λσ H R=>c σ H λd e=>∃a b f g,d = [.ref a,.ref b]/\zHa K R a b f g e
theorem Zk:bootBuiltins "zip" = some (.type "zip"):=by decide +kernel
theorem zAj{a b:IC}{M:TA}{p i:Pos}(O:Gl X "zip")(P:X.mg "zip" = none)(Q:PA X [a,b] M)(S:starEach [a,b] X.env =(false,eval a X.env)::starEach [b] X.env:=by rfl)(w:(backTo i (starEach [b] X.env)).any (·.1)=false:=by rfl):PI X (.Tuple elts kk tp) (.Call (.Name "zip" p) [a,b] [] i) (zBe X.K M):=by
 intro f s σ H R I h;refine Call_ (Am I O P Zk (VP (I_ (Q i f s σ H _ I h) λus d ⟨vs,x,g,T,U⟩=>?_) S w));obtain⟨l,m,xs,ys,e,q⟩:=U;subst e;obtain⟨u,v,rfl,V,W⟩:=T.two;cases V;cases W;have j:∀c∈[d.heap.objs.size+4,d.heap.objs.size+2,d.heap.objs.size+3,d.heap.objs.size,d.heap.objs.size+1],Ea X f x c:=λc N=>by
  have n:d.heap.objs.size<=c:=by
   simp only[AR,A_,or_false]at N;rcases N with rfl | rfl | rfl | rfl | rfl
   .exact EI ..
   .exact EI ..
   .exact EI ..
   .exact VD _
   .exact EI ..
  exact g.fpOk n (g.hok.fresh n)
 rcases q with⟨y,z,q⟩ | ⟨y,z,q⟩
 .obtain⟨A,Y,o,Z⟩:=g.list y;obtain⟨B,ry,r,C⟩:=g.list z;have D:l<d.heap.objs.size:=by obtain⟨_,e,_⟩:=o.isList;exact AG e
  have E:m<d.heap.objs.size:=by obtain⟨_,e,_⟩:=r.isList;exact AG e
  refine call_zip_2 o.isList r.isList λh' t F G J L hsz k=>HQ t ?_;exact⟨d.heap.objs.size+4,_,_,_,x,rfl,g.kept (t':=d.toks) k,Pc _ _ _ _ _ l m (zipApart_new D E),⟨t,F,⟨_,_,G⟩,J,L⟩,j,q⟩
 .obtain⟨A,Y,o,Z⟩:=g.tuple y;obtain⟨B,ry,r,C⟩:=g.tuple z;have D:l<d.heap.objs.size:=by obtain⟨_,e,_⟩:=id o;exact AG e
  have E:m<d.heap.objs.size:=by obtain⟨_,e,_⟩:=id r;exact AG e
  refine Pp o r λh' t F G J L k=>HQ t ?_;exact⟨d.heap.objs.size+4,_,_,_,x,rfl,g.kept (t':=d.toks) k,Rg _ _ _ _ _ l m (zipApart_new D E),⟨t,F,⟨_,_,G⟩,J,L⟩,j,q⟩
variable(K:VA)
theorem zHy{a b:IC}{e:TA}{p c:Pos}(f:X.mg "zip" = none)(g:PA X [a,b] e)(h:Gl X "zip":=by rfl)(i:starEach [a,b] X.env =(false,eval a X.env)::starEach [b] X.env:=by rfl)(d:(backTo c (starEach [b] X.env)).any (·.1)=false:=by rfl)(j:X.K=K:=by rfl):PI X (.Tuple elts kk tp) (.Call (.Name "zip" p) [a,b] [] c) (zBe K e):=by subst j;exact zAj h f g i d
end
section
variable{prog:HV}{w:HX}{A:IA}{E:A2->A4->Prop}{s:A4}{e it l:A3}{i:Nat}{items:HU A2}{x old:A2}{Q:A2->A4->Prop}
theorem Br(d:IsEnum s.heap e it (i:Int) old)(h1:s.heap.IsTupleIter it l i)(G:s.heap.IsTuple l items)(H:items[i]?=some x)(f:e≠it)
  (I:∀h',IsEnumOut h' e it ((i:Int)+1) x s.heap.objs.size->h'.IsTupleIter it l (i+1)->h'.get? s.heap.objs.size=some { cls:=.type "tuple",data:=.seq #[.int (i:Int) s.toks,x] }->(∀b o,b≠e->b≠it->s.heap.get? b=some o->h'.get? b=some o)->Q (.ref s.heap.objs.size) { s with heap:=h',toks:=s.toks+1 }) :
  wpAny (model prog w) A (Builtin.«enumerate.__next__» ⟨[.ref e],[]⟩) (λfin J=>∃v,fin = .done (.ret v)/\Q v J) E s:=by
 obtain⟨p,U,V,tt,W⟩:=s;refine AA (AD (AA (CC d rfl rfl (AA (T5 h1 G H λK L j=>?_)))));have k:=(j.2 e f).trans d;refine AA (CC k rfl rfl (AA (CC k rfl rfl (FD rfl ?_))));refine AA (wpAny_mkInt (AA (DG k (CJ rfl) λX M q=>AA (DG M (CJ rfl) λg N r=>?_))));have t:g.objs.size=p.objs.size:=r.1.trans (q.1.trans j.1);have m:∀{c:A3} {o:Obj},p.get? c=some o->c≠g.objs.size:=λe=>by rw[t];exact BA (AG e)
 refine AA (GO ?_ (by show 2<=sizeLine;decide));have n:=AC { cls:=.type "tuple",data:=.seq [.int (i:Int) tt,x].toArray } N;refine AA (AA (CC n rfl rfl (AD (FD rfl ?_))));refine AA (DF (AA (CC n rfl rfl (AA (DG n (CJ rfl) λY O u=>?_)))));refine AA (AA (DG O (CJ rfl) λZ P y=>DG P (CJ rfl) λh B C=>AA (wpAny_letGo (AD ⟨_,rfl,?_⟩))));have R:∀{c:A3} {o:Obj},c≠e->g.get? c=some o->h.get? c=some o:=λa z=>(C.2 _ a).trans ((y.2 _ a).trans ((u.2 _ a).trans (AC _ z)));have D:∀{c:A3} {o:Obj},c≠e->K.get? c=some o->h.get? c=some o:=λa z=>R a ((r.2 _ a).trans ((q.2 _ a).trans z));have F:h.get? g.objs.size=some { cls:=.type "tuple",data:=.seq #[.int (i:Int) tt,x] }:=(C.2 _ (m d).symm).trans ((y.2 _ (m d).symm).trans ((u.2 _ (m d).symm).trans (AW _ rfl)));rw[t]at B F⊢;exact I h B (L.at λo z=>D f.symm z) F λb o S T z=>D S ((j.2 _ T).trans z)
theorem Cu{Q:PySem.Fin->A4->Prop}(a:A.handled=none)(b:IsEnum s.heap e it (i:Int) old)(h1:s.heap.IsTupleIter it l i)(c:s.heap.IsTuple l items)(d:items[i]?=none)
  (f:∀h' z,Heap.ExtBut it s.heap h'->(∃o,h'.get? z=some o/\o.cls = .type "StopIteration")->E (.ref z) { s with heap:=h' }) :
  wpAny (model prog w) A (Builtin.«enumerate.__next__» ⟨[.ref e],[]⟩) Q E s :=
 AA (AD (AA (CC b rfl rfl (AA (g9 a h1 c d f)))))
theorem Ew(a:IsEnum s.heap e it (i:Int) old):s.TypeIs (.ref e) "enumerate":=⟨_,a,rfl⟩
theorem Zt(G:A.handled=none)(e it l:A3)(j:e≠it)(m:l≠e)(u:l≠it)(items:HU A2) :
  WalksT prog w A e [e,it,l] [e,it] items.size (λi n=>∃t x,items[i]?=some x/\n = #[.int (i:Int) t,x])
   (λi h=>(∃old,IsEnum h e it (i:Int) old)/\h.IsTupleIter it l i/\h.IsTuple l items)
   (λi T h=>(∃x,IsEnumOut h e it ((i:Int)+1) x T)/\h.IsTupleIter it l (i+1)/\h.IsTuple l items/\T≠e/\T≠it) where
 sub:=by simp
 frame:=λi h g ⟨⟨old,a⟩,c,d⟩ k=>⟨⟨old,k e (by simp) _ a⟩,c.at (k it (by simp)),d.at (k l (by simp))⟩
 item:=λi s Q E H ⟨⟨old,a⟩,c,d⟩ p=>by
  have r:items[i]?=some items[i]:=EG H;refine AA (GF (CG (Ew a) F.slot_enumerate_next (CF F.slot_enumerate_next (Ew a) F.entry_enumerate_next (Br a c d r j λg v I J k=>AD ?_) (F.args_enumerate_next_1 _))));refine p _ _ g (s.toks+1) ⟨_,_,r,rfl⟩ (VD _) ⟨_,J,rfl,_,rfl⟩ ⟨⟨_,v⟩,I,d.at λo z=>k l o m u z,?_,?_⟩ λb o f z=>?_
  .exact(BA (AG a)).symm
  .obtain⟨o,z,_⟩:=c;exact(BA (AG z)).symm
  .simp only[AR,A_,or_false,not_or]at f;exact k b o f.1 f.2 z
 go:=λC k K i T s Q E ⟨⟨x,a⟩,c,d,_⟩ p=>wpAny_letOwnedTupleGo_enum a λg v y=>p g ⟨⟨_,v⟩,c.extBut y.extBut j.symm,d.extBut y.extBut m⟩ λb o f z=>(y.2 b λq=>f (by rw[q];exact AX ..)).trans z
 apart:=λi T h ⟨_,_,_,L,M⟩ D=>by
  simp only[AR,A_,or_false]at D;rcases D with z | z
  .exact L z
  .exact M z
 done:=λs Q E ⟨⟨old,a⟩,c,d⟩ p=>by
  have r:items[items.size]?=none:=EC (VD _);refine AA (GF (CG (Ew a) F.slot_enumerate_next (CF F.slot_enumerate_next (Ew a) F.entry_enumerate_next (Cu G a c d r λg z k B=>?_) (F.args_enumerate_next_1 _))));obtain⟨o,B,N⟩:=B;refine AA (FP ⟨o,B,N⟩ isSubtype_stop (AD (p g s.toks λb o f z=>?_)));simp only[AR,A_,or_false,not_or]at f;exact k b o f.2 z
 self:=λi s Q E ⟨⟨_,a⟩,_⟩ q=>HL a q
theorem zEm{M:Model}{α:Type}{c:Prop}[Decidable c]{a b:Sem α}{Q:α->A4->Prop}(h1:wpAny M A a Q E s)(h2:wpAny M A b Q E s):wpAny M A (if c then a else b) Q E s:=by
 by_cases h:c
 .rw[AN h];exact h1
 .rw[AI h];exact h2
theorem Nz(n:s.heap.IsTuple l items)
  (p:∀h',IsEnum h' (s.heap.objs.size+1) s.heap.objs.size 0 .none->h'.IsTupleIter s.heap.objs.size l 0->(∀b o,s.heap.get? b=some o->h'.get? b=some o)->Q (.ref (s.heap.objs.size+1)) { s with heap:=h' }) :
  wpAny (model prog w) A (call (.type "enumerate") [.ref l]) Q E s:=by
 refine callType_new (S:=λA R f=>f=s/\∀h',IsEnum h' (s.heap.objs.size+1) s.heap.objs.size 0 .none->h'.IsTupleIter s.heap.objs.size l 0->(∀b o,s.heap.get? b=some o->h'.get? b=some o)->R (.ok (.ret (.ref (s.heap.objs.size+1)))) { s with heap:=h' })
  F.called_enumerate rfl (F.typeCall_enumerate_1 _) (F.newCall_enumerate_1 _) (λ_=>F.args_object_init_2 _ _) F.entry_enumerate_new (.of_wp λprog w A R f g=>?_) ⟨rfl,λh' h t k=>⟨⟨_,h,rfl⟩,p h' h t k⟩⟩
 obtain⟨rfl,g⟩:=g;obtain⟨c,i,j,tt,m⟩:=f;have u:(c.push { cls:=.type "tuple_iterator",data:=.fields #[.ref l,.int 0 0] }).objs.size=c.objs.size+1:=CT ..;refine AA (AA (AD (DI rfl (AA (EE sub_enumerate (DI rfl (AD ?_)))))));refine FD rfl (AA (AA (wpAny_stack_any λst=>AD ?_)));have d:wpAny (model prog w) A.in1 (pyIter (.ref l) >>= λv=>Builtin.SmallTypes.newRecord (.type "enumerate") (Builtin.SmallTypes.ownedTupleFields ++ [v,rawInt 0,.none,.none]) >>= λr=>ret r) (λd f=>∃v,d = .done (.ret v)/\R (.ok (.ret v)) f) (λe f=>R (.error e) f) ⟨c,i,j,tt,m⟩:=by
  refine AA (FW n (AA (Ah (AD ⟨_,rfl,?_⟩) (by show 6<=sizeLine+2;decide))));have x:=AW (c.push { cls:=.type "tuple_iterator",data:=.fields #[.ref l,.int 0 0] }) (o:={ cls:=.type "enumerate",data:=.fields #[.none,.bool false,.ref c.objs.size,rawInt 0,.none,.none] }) rfl;have q:=g ((c.push { cls:=.type "tuple_iterator",data:=.fields #[.ref l,.int 0 0] }).push { cls:=.type "enumerate",data:=.fields #[.none,.bool false,.ref c.objs.size,rawInt 0,.none,.none] });rw[show(Shared.mk c i j tt m).heap.objs.size=c.objs.size from rfl,<-u]at q;exact q x ⟨_,AC _ (AW _ rfl),rfl,rfl⟩ λb o z=>AC _ (AC _ z)
 exact zEm (AA (EE (a:=(Value.ref l,none)) rfl d)) (AA (EE (a:=(Value.ref l,none)) rfl d))
end
def SQ(c:Hp->A3->A0 V->Prop)(a:A3):It :=
 ⟨λi H=>∃b x,c H a b/\b[i]?=some x,λi H v d=>∃T x,v = .ref T/\H T=none/\d=HY H T (.tup [.int i,x])/\∀b,c H a b->b[i]?=some x,λi H=>∃b,c H a b/\b.length=i⟩
section
variable{P:HV}{w:HX}{K:VA}{elts:A0 IC}{kk:Nat}{tp:Pos}{isIt:H_->A3->A3->Nat->Prop}{isq:H_->A3->HU A2->Prop}{sq:Hp->A3->A0 V->Prop}
theorem Do(oI:∀h c l i,isIt h c l i->∃o,h.get? c=some o/\∀v,o.data≠ .cell v)(kI:∀h h' c l i,isIt h c l i->(∀o,h.get? c=some o->h'.get? c=some o)->isIt h' c l i)
  (gI:∀(X:Cx) g σ H s c xs,X.K=K->Inv X g σ H s->sq H c xs->∃its,IH xs its/\isq s.heap c its.toArray) (uI:∀(X:Cx) g σ H s c xs ys,X.K=K->Inv X g σ H s->sq H c xs->sq H c ys->xs=ys)
  (nE:∀h c e f i d its,IsEnum h e f i d->isq h c its->c≠e) (nI:∀h c l i its e,isIt h e l i->isq h c its->c≠e)
  (a f e:A3) (hei:e≠f) (WI:∀(A:IA),A.handled=none->a≠e->a≠f->∀items:HU A2,WalksT P w A e [e,f,a] [e,f] items.size (λi C=>∃t x,items[i]?=some x/\C = #[.int (i:Int) t,x])
   (λi h=>(∃d,IsEnum h e f (i:Int) d)/\isIt h f a i/\isq h a items)
   (λi T h=>(∃x,IsEnumOut h e f ((i:Int)+1) x T)/\isIt h f a (i+1)/\isq h a items/\T≠e/\T≠f)) :
  MJ P w K (.Tuple elts kk tp) (SQ sq a) [e,f] e (λi h=>(∃d,IsEnum h e f (i:Int) d)/\isIt h f a i) where
 mem:=AX ..
 obj:=λi h st b hb=>by
  obtain⟨⟨d,U⟩,V⟩:=st;rcases AR.mp hb with rfl | hb
  .exact⟨_,U,λv z=>by cases z⟩
  .rw[AE.mp hb];exact oI _ _ _ _ V
 keep:=λi h h' st k=>⟨let⟨d,U⟩:=st.1;⟨d,k e (by simp) _ U⟩,kI _ _ _ _ _ st.2 (k f (by simp))⟩
 item:=by
  intro X Y Z L y i g s σ H E I F st hg;subst Y Z;obtain⟨xs,x,M,N⟩:=hg;obtain⟨its,rv,p⟩:=gI _ _ _ _ _ _ _ L I M;obtain⟨u,hu,ru⟩:=rv.get N;obtain⟨⟨d,O⟩,R⟩:=id st;have W:=WI X.A (I.ok.hd y) (nE _ _ _ _ _ _ _ O p) (nI _ _ _ _ _ _ R p) its.toArray;have hi:i<its.toArray.size:=by rw[AQ];exact(AJ.mp hu).1
  refine W.item i s _ _ hi ⟨st.1,st.2,p⟩ λT C h' tk hv hT ht S k=>?_;obtain⟨t,x',hx',rfl⟩:=hv;have ex:x'=u:=BU (hx'.symm.trans ((DY ..).trans hu));subst ex;refine⟨.ref T,rfl,W.go elts kk tp i T _ _ _ S λV J k2=>?_⟩;have hT2:V.IsTuple T #[.int i t,x']:=ht.at λo z=>k2 T o (W.apart i T h' S) z;have D:∀c∈[e,f],∃j,s.heap.get? c=some j:=λc B=>by
   rcases AR.mp B with rfl | hb
   .exact⟨_,O⟩
   .rw[AE.mp hb];obtain⟨o,h4,_⟩:=oI _ _ _ _ R;exact⟨o,h4⟩
  refine⟨.ref T,HY H T (.tup [.int i,x]),I.turnLaid (fp:=[e,f]) (λb o hb G=>k2 b o hb (k b o hb G)) F D hT ⟨?_,[.int i t,x'],.cons ⟨t,rfl⟩ (.cons ru .nil),hT2⟩,rfl,⟨T,x,rfl,I.hok.fresh hT,rfl,λzs hz=>by rw[uI _ _ _ _ _ _ _ _ L I hz M];exact N⟩,⟨J.1,J.2.1⟩,λc B=>?_⟩
  .show 2<=sizeLine;decide
  .obtain⟨j,G⟩:=D c B;rw[B7 (BA (BI (AG G) hT))];exact(F c B).1
 done:=by
  intro X Y Z L y i g s σ H E I F st hg;subst Y Z;obtain⟨xs,M,N⟩:=hg;obtain⟨its,rv,p⟩:=gI _ _ _ _ _ _ _ L I M;obtain⟨⟨d,O⟩,R⟩:=id st;have W:=WI X.A (I.ok.hd y) (nE _ _ _ _ _ _ _ O p) (nI _ _ _ _ _ _ R p) its.toArray;have hi:i=its.toArray.size:=by rw[AQ,<-rv.length,N]
  rw[hi]at st;refine W.done s _ _ ⟨st.1,st.2,p⟩ λh' tk k=>⟨rfl,?_⟩;refine I.step (h':=h') (H':=H) (t':=tk) (g':=s.gens) (d':=s.drawn) (ch:=[e,f]) (λb hb=>let⟨_,f1,_,f3,f4,f5⟩:=F b hb;⟨f3,f1,f4,f5⟩) (λb j _ _ y e _=>k b j y e) (λb j _ _ y e _=>⟨j.slots,k b j y e⟩) (λ_ _ _ _ n=>n)
   (λb j y e=>⟨j,k b j y e⟩) (λ_ _ e=>e) (λ_ _ _ e=>e) (λb ps e=>⟨#[],by rw[e];simp⟩) (λm S=>?_) (λb u G=>?_) I.bare
  .obtain⟨j,es,ep,ho,r⟩:=S;exact⟨j,es,ep,k _ j (λhb=>(F _ hb).2.1 rfl) ho,r⟩
  .have nf:∀b u,H b=some u->b∉[e,f]:=λb u e hb=>by rw[(F b hb).1]at e;cases e
   refine(I.hok b u G).stay (λc v y q=>k c v ?_ q) (λ_ q=>q) λ_ _ q=>q;rcases y with z | z
   .rw[z];exact nf b u G
   .exact nf c _ z
 self:=λA i s Q E st h=>let⟨_,he⟩:=st.1;HL he h
theorem Of(a b e:A3)(j:e≠b):MJ P w K (.Tuple elts kk tp) (SQ (IG K) a) [e,b] e (λi h=>(∃m,IsEnum h e b (i:Int) m)/\h.IsListIter b a i) :=
 Do (isIt:=Heap.IsListIter) (isq:=Heap.IsList) (λh c l i ⟨o,e,_,d⟩=>⟨o,e,λv z=>by rw[d]at z;cases z⟩) (λh L c l i z k=>z.at k) (λX n σ H s c B t I u=>by subst t;obtain⟨f,C,p,_⟩:=I.list u;exact⟨f,C,p.isList⟩) (λX n σ H s c B M t I u D=>by subst t;exact I.list_inj u D)
  (λh c e b i m f E ⟨o,q,r,_⟩ z=>by
   rw[z,E]at q;cases q;exact absurd (show Value.type "enumerate" = .type "list" from r) (by decide))
  (λh c l i f e ⟨N,x,y,_⟩ ⟨o,q,r,_⟩ z=>by
   rw[z,x]at q;cases q;rw[y]at r;exact absurd r (by decide)) a b e j λA F G J g=>WalksT.enumerate F e b a j G J g
theorem Nb(a b e:A3)(j:e≠b):MJ P w K (.Tuple elts kk tp) (SQ (IU K) a) [e,b] e (λi h=>(∃m,IsEnum h e b (i:Int) m)/\h.IsTupleIter b a i) :=
 Do (isIt:=Heap.IsTupleIter) (isq:=Heap.IsTuple) (λh c l i ⟨o,e,_,d⟩=>⟨o,e,λv z=>by rw[d]at z;cases z⟩) (λh L c l i z k=>z.at k) (λX n σ H s c B t I u=>by subst t;obtain⟨f,C,p,_⟩:=I.tuple u;exact⟨f,C,p⟩) (λX n σ H s c B M t I u D=>by subst t;exact I.tuple_inj u D)
  (λh c e b i m f E ⟨o,q,r,_⟩ z=>by
   rw[z,E]at q;cases q;exact absurd (show Value.type "enumerate" = .type "tuple" from r) (by decide))
  (λh c l i f e ⟨N,x,y,_⟩ ⟨o,q,r,_⟩ z=>by
   rw[z,x]at q;cases q;rw[y]at r;exact absurd r (by decide)) a b e j λA F G J g=>Zt F e b a j G J g
end
section
variable{X:Cx}{elts:A0 IC}{kk:Nat}{tp:Pos}
def zDx(K:VA)(R:It->Hp->Prop)(a:A3)(xs:A0 V)(H:Hp):Prop:=IG K H a xs/\R (SQ (IG K) a) H\/IU K H a xs/\R (SQ (IU K) a) H
def Xj(K:VA)(b:TA):TI:=λσ H R=>b σ H λc d=>∃a e,c = [.ref a]/\zDx K R a e d
theorem Vt{a:IC}{v:TA}{p i:Pos}(w:Gl X "enumerate")(x:X.mg "enumerate" = none)(y:bootBuiltins "enumerate" = some (.type "enumerate"))(A:PA X [a] v)(B:starEach [a] X.env = [(false,eval a X.env)]:=by rfl):PI X (.Tuple elts kk tp) (.Call (.Name "enumerate" p) [a] [] i) (Xj X.K v):=by
 intro d s σ H R I h;refine Call_ (Am I w x y (VP (I_ (A i d s σ H _ I h) λM c ⟨N,n,f,C,D⟩=>?_) B rfl));obtain⟨l,O,e,q⟩:=D;subst e;obtain⟨u,rfl,E⟩:=X5 C;cases E;have j:∀b∈[c.heap.objs.size+1,c.heap.objs.size],Ea X d n b:=λb hb=>by
  rcases AR.mp hb with z | hb
  .rw[z];exact f.fpOk (DM _) (f.hok.fresh (DM _))
  .rw[AE.mp hb];exact f.fpOk (VD _) (f.hok.fresh (VD _))
 rcases q with⟨o,q⟩ | ⟨o,q⟩
 .obtain⟨r,F,t,G⟩:=f.list o;exact call_enumerate_list t.isList λJ m g L k=>HL m ⟨c.heap.objs.size+1,_,_,_,n,rfl,f.kept (t':=c.toks) k,Of l c.heap.objs.size (c.heap.objs.size+1) (Nat.succ_ne_self _),⟨⟨_,m⟩,g⟩,j,q⟩
 .obtain⟨r,F,t,G⟩:=f.tuple o;exact Nz t λJ m g k=>HL m ⟨c.heap.objs.size+1,_,_,_,n,rfl,f.kept (t':=c.toks) k,Nb l c.heap.objs.size (c.heap.objs.size+1) (Nat.succ_ne_self _),⟨⟨_,m⟩,g⟩,j,q⟩
end
def Kx{K:VA}{R:It->Hp->Prop}{a:A3}{xs:A0 V}{H H':Hp}(h:QK K H a xs)(k:JU a H H')(q:∀c:Hp->A3->A0 V->Prop,(∀b,JU a H b->c b a xs)->R (SQ c a) H'):zDx K R a xs H':=by
 rcases h with h | h
 .exact .inl ⟨k.seqL h,q _ λb k=>k.seqL h⟩
 .exact .inr ⟨k.seqT h,q _ λb k=>k.seqT h⟩
section
variable{X:Cx}(K:VA)
theorem zFn{b:A0 IC}{kk:Nat}{e:Pos}{a:IC}{d:TA}{p c:Pos}(f:X.mg "enumerate" = none)(g:PA X [a] d)(h:Gl X "enumerate":=by rfl)(i:starEach [a] X.env = [(false,eval a X.env)]:=by rfl)(j:X.K=K:=by rfl) :
  PI X (.Tuple b kk e) (.Call (.Name "enumerate" p) [a] [] c) (Xj K d):=by subst j;exact Vt h f Gr g i
end
section
variable{X:Cx}{tg iter elt:IC}{ifs:A0 IC}{scope:KM}{cl:A0 (Str×A3)}{N':A0 Str}{cap:A0 (A5 Nat)}{wi:TI}{pos:Pos}
theorem Hk{e:IC}{gs:A0 Comprehension}{newAcc:Sem A2}{p2:Pos}{use:A5 (A2->Sem Unit)}{Qv:A2->A4->Prop}(q:clausesOf e =⟨tg,iter,ifs,0⟩::gs)(o:A3->HO)(hs:∀x,foldedSetIterable iter X.env x=pure x)(S:ME X scope cl N' cap)(hc:X.calm=true)(hi:PI X tg iter wi)
  {lp:A3->It->St->Hp->(St->Hp->Prop)->Prop}
  (r:∀(a:A0 (A3×Obj)) (s:A4) (σ:St) (H:Hp) (Q:A2->A4->Prop) (E:A2->A4->Prop),Inv X a σ H s->(∀g,Inv X a σ (HY H s.heap.objs.size (o s.heap.objs.size)) g->(∀b f,s.heap.get? b=some f->g.heap.get? b=some f)->Q (.ref s.heap.objs.size) g)->wpAny (model X.prog X.w) X.A newAcc Q E s)
  (G:∀(a:A0 (A3×Obj)) (L:A0 A3) (s3:A4) (M:Hp) (D l:A3) (fp:A0 A3) (tn:Nat->H_->Prop) (J:It) (σ:St) (s:A4) (H:Hp) (Q:St->Hp->Prop) (R:Result->A4->Prop),
   MJ X.prog X.w X.K tg J fp l tn->Inv (LU X scope cl N' a L s3 M) [] σ H s->tn 0 s.heap->(∀b∈fp,Ea (LU X scope cl N' a L s3 M) [] H b)->lp D J σ H Q ->
   (∀g σ' H',Inv (LU X scope cl N' a L s3 M) [] σ' H' g->Q σ' H'->R (.ok .next) g) ->
   codeAny (model X.prog X.w) X.A (.compLoop e 0 (.ref l) (.ref D) (compEnvC scope cl s3.heap.objs.size X.env)) R s)
  (N:∀l D i,X.A.under (.compStart e 0 (.ref l) (.ref D) i)=X.A) (t:∀l D i,(model X.prog X.w).den (.compStart e 0 (.ref l) (.ref D) i) =(compStart e 0 (.ref l) (.ref D) i).onRaise (λx=>do noteFrame x i;standAt theWindowsPlace))
  {a:A0 (A3×Obj)} {s:A4} {σ:St} {H:Hp} {Q:V->Hp->Prop} (I:Inv X a σ H s) (h:Kj wi o cap lp σ H Q)
  (u:∀(D:A3) (fp:A0 A3) (k:Hp) (s3 g:A4) (σ':St) (H':Hp),Inv X a σ k s3->(∀b∈fp,Ea X a k b)->Inv (LU X scope cl N' a fp s3 k) [] σ' H' g->Q (.ref D) H'->compPost (model X.prog X.w) X.A X.xe use Qv (.ref D) s3.heap.objs.size (.ok .next) g) :
  wpAny (model X.prog X.w) X.A (comprehension e scope X.env p2 newAcc false (eval iter X.env) use) Qv X.xe s:=by
 refine wpAny_comprehension_free q hs S.clos S.kind S.loc (I_ (hi a s σ H _ I h) λv s1 B=>I_ B λitv j h2=>?_);obtain⟨l,fp,tn,J,k,O,I2,T,C,f2,R2⟩:=h2;subst O;refine r a j σ k _ _ I2 λs3 P k3=>?_;have hD:k j.heap.objs.size=none:=I2.hok.fresh (VD _);have n:∀b∈fp,Ea X a (HY k j.heap.objs.size (o j.heap.objs.size)) b/\∃f,s3.heap.get? b=some f:=λb m=>by
  obtain⟨f,e,_⟩:=T.obj _ _ C b m;obtain⟨U,fr⟩:=f2 b m;exact⟨⟨by rw[B7 (BA (AG e))];exact U,fr⟩,f,k3 b f e⟩
 refine wpAny_newFunctionEnv S.nocell (by intro y hy;simp at hy) (λB W Y=>?_) S.kind;have hk:∀b f,s3.heap.get? b=some f->B.get? b=some f:=λb f e=>(Y.2 b (BA (AG e))).trans (AC _ e);have I4:Inv (LU X scope cl N' a fp s3 (HY k j.heap.objs.size (o j.heap.objs.size))) [] (Xk cap σ) (HY k j.heap.objs.size (o j.heap.objs.size)) { s3 with heap:=B,toks:=s3.toks +([]:A0 (Str×A2)).length } :=
  P.block S hc n W hk
 have F:tn 0 B:=T.keep 0 _ _ C λb m f e=>hk b f (k3 b f e);refine Dl (X:=LU X scope cl N' a fp s3 (HY k j.heap.objs.size (o j.heap.objs.size))) (gs:=⟨tg,iter,ifs,0⟩::gs) (e:=e) (d:=0) (tg:=tg) (iter:=iter) (ifs:=ifs) (N _ _ _) (t _ _ _) q rfl T F ?_;refine G a fp s3 _ j.heap.objs.size l fp tn J (Xk cap σ) _ _ _ _ T I4 F (λb m=>?_) (R2 _ hD) λg σ' H' I' q'=>?_
 .obtain⟨⟨U,f1,Z,f3,f4,f5⟩,f,eo⟩:=n b m;refine⟨U,BA (AG eo),λhf=>?_,.inl m,λx c e=>f4 x c (S.cin.get e),λp hp=>f5 p (by simpa [LU] using hp)⟩;rcases AR.mp (P.stkSub b hf)with z | z
  .exact f1 z
  .exact Z z
 .exact u _ fp _ s3 g σ' H' P (λb m=>(n b m).1) I' q'
theorem V4{i:Nat}{x:Str}{o j:Pos}{g:TG}{V:TT}{W:TE}(hN:X.N.Nodup)(hi:X.N[i]?=some x)(hx:Loc X.env.scope x)(S:ME X scope cl N' cap)(p:X.calm=true)(hI:PI X tg iter wi)
  (t:∀(d:A0 (A3×Obj)) (y:A0 A3) (l:A4) (A:Hp),PG (LU X scope cl N' d y l A) tg g/\SH (LU X scope cl N' d y l A) ifs V/\PE (LU X scope cl N' d y l A) elt W)
  (hs:∀x,foldedSetIterable iter X.env x=pure x:=by intro _;rfl)
  (F:swapsWith (.ListComp elt [⟨tg,iter,ifs,0⟩] scope j) (some (.Name x o)) pos.line X.env=pure true:=by rfl)
  (G:X.fn x=true\/X.env.scope.names.lookup x=some .local:=by first | exact .inl rfl | exact .inr rfl | assumption) :
  PS X (.Assign [.Name x o] (.ListComp elt [⟨tg,iter,ifs,0⟩] scope j) pos) (SU (Kj wi (λ_=>.lst []) cap λD J σ H Q=>Au g V (Z7 D W) J σ H Q) (O0 i)):=by
 intro d s σ H D I h;rw[exec_Assign];refine AA (EZ (AA (EE F (FD rfl (AA (AA ?_))))));refine Hk (newAcc:=newList []) (p2:=firstIterPos [⟨tg,iter,ifs,0⟩] j) rfl (λ_=>.lst []) hs S p hI (λd s σ H Q E I h=>?_) (λd y l A D it fp tn J σ s H Q R T I st G h hR=>?_) (λ_ _ _=>rfl) (λ_ _ _=>rfl) I h λE fp H2 l s' σ' H' Y K L q=>?_
 .refine wpAny_newList ?_;exact h _ (I.lnew (t':=s.toks) (its:=[]) .nil (CB _)) λb f e=>AC _ e
 .obtain⟨b1,b2,b3⟩:=t d y l A;exact n9 (X:=LU X scope cl N' d y l A) rfl rfl p rfl (Di elt tg iter ifs scope j _ _ _) b1 b2 (Lb rfl b3) T I st G h hR
 .have IX:Inv X d σ H' s':=Y.unblock K L ⟨rfl,λ_ _=>rfl⟩;have w:Ea X d H' l.heap.objs.size:=Y.fpOk (VD _) L.free;obtain⟨m,hn,_⟩:=L.loc;show wpAny _ _ (assign (.Name x o) X.env (.ref E)) _ _ _;refine wpAny_assign_Name (Cj (v:=.ref E) IX hN hi hx rfl (λC M ⟨a,O,ha⟩=>?_) G);have nC:l.heap.objs.size≠a:=by
   rcases ha with rfl | ha
   .exact w.2.1
   .exact(w.2.2.2.2.1 _ _ ha).symm
  refine⟨m,?_,λh' B=>AD (AD ?_)⟩
  .obtain⟨f,P,U,e1,r⟩:=hn;exact⟨f,P,U,(O.2 _ nC).trans e1,r⟩
  refine⟨_,H',?_,q⟩;have k:∀b f,b∉[l.heap.objs.size]->C.heap.get? b=some f->h'.get? b=some f:=λb f t e=>(B.2 b λz=>t (AE.mpr z)).trans e;refine M.step (h':=h') (H':=H') (t':=C.toks) (g':=C.gens) (d':=C.drawn) (ch:=[l.heap.objs.size]) (λb t=>by rw[AE.mp t];exact⟨w.2.2.2.1,w.2.1,w.2.2.2.2⟩) (λb f _ _ p e _=>k b f p e) (λb f _ _ p e _=>⟨f.slots,k b f p e⟩) (λ_ _ _ _ n=>n)
   (λb f p e=>⟨f,k b f p e⟩) (λ_ _ e=>e) (λ_ _ _ e=>e) (λb ps e=>⟨#[],by rw[e];simp⟩) (λm hm=>?_) (λb u Z=>?_) M.bare
  .obtain⟨f,P,U,ho,r⟩:=hm;exact⟨f,P,U,k _ f (λt=>w.2.1 (AE.mp t).symm) ho,r⟩
  .have nf:∀b u,H' b=some u->b∉[l.heap.objs.size]:=λb u e t=>by rw[AE.mp t,w.1]at e;cases e
   refine(M.hok b u Z).stay (λc v p q=>k c v ?_ q) (λ_ q=>q) λ_ _ q=>q;rcases p with z | z
   .rw[z];exact nf b u Z
   .exact nf c _ z
end
structure IsC(K:VA)(C:A3):Prop where
 ha:PySem.W.findIn K (.ref C) "__class__" = some (some (.builtin "object.__class__"))
 hn:PySem.W.specialIn K (.builtin "object.__class__") "__get__" = some (some (.builtin "getset_descriptor.__get__"))
 htk:PySem.W.takesIn K (.builtin "object.__class__")=some true
 hm:PySem.W.mroIn K C (.type "object")=some true
 one:PySem.W.kitOne K (.ref C) (.ref C)=some true
def NF(K:VA)(a:A3):PySem.W.kitOne K (.ref a) (.ref a)=some true:=AN (beq_self_eq_true _)
def Bo(l xs:A0 Str):A0 Str:=xs.foldl Wu l
def Up(l:A0 Str)(x:Str):(Wu l x).length<=l.length+1:=by
 unfold Wu;split
 .lia
 .rw[AV];exact VD _
def zBq{w:HX}{h h':H_}{a:A3}{ss:A0 Str}(z:ST.WS w h a ss)(k:∀o,h.get? a=some o->h'.get? a=some o):ST.WS w h' a ss:=by
 obtain⟨o,b,c,t,S,r⟩:=z;exact⟨o,b,c,t,S.at (k o S.ho),r⟩
section
variable{prog:HV}{w:HX}{A:IA}{R:Result->A4->Prop}{I:A3}{fp wr:A0 A3}{G:HU GenState->HU GenState->Prop}{n:Nat}{P:Nat->A2->Prop}{St:Nat->A4->Prop}
theorem Sn(W:WalksS prog w A.in1 I fp wr G n P St)(S:A3)(d:S∉fp)(xs:A0 Str)(E:xs.length=n)(f:∀i v,P i v->∃x t,xs[i]?=some x/\v = .str x t) :
  ∀(k i:Nat) (s:A4) (ss:A0 Str),n-i=k->i<=n->St i s->ST.WS w s.heap S ss->ss.length+k<4096 ->
   (∀s',Moved (S::wr) G s s'->ST.WS w s'.heap S (Bo ss (xs.drop i))->R (.ok (.ret .none)) s') ->
   codeAny (model prog w) A (.builtin "set.update.loop" ⟨[.ref S,.ref I],[]⟩) R s:=by
 have g:S∉wr:=λh=>d (W.sub _ h);have a:∀b∈wr,b∈S::wr:=λb j=>AL _ j;intro k
 induction k with
 | zero =>
  intro i s ss H J c y _ z;have B:i=n:=by lia
  subst B;refine DH F.entry_set_update_loop ?_;rw[Around.under_plainId F.plain_set_update_loop _];refine AA (W.done s _ _ c λs' l=>?_);have q:=z s' (l.mono a);rw[<-E,HR]at q;exact AD (q (zBq y λo=>l.heap S o g))
 | succ k K =>
  intro i s ss H J c y T z;refine DH F.entry_set_update_loop ?_;rw[Around.under_plainId F.plain_set_update_loop _];refine AA (W.item i s _ _ (by lia) c λv s' L m l=>?_);obtain⟨x,t,M,rfl⟩:=f i v L;show wpAny _ A.in1 (holding [Value.str x t] (setAdd S (.str x t)) >>= _) _ _ s';refine AA (BP ?_);unfold setAdd;refine BP (AA (wpAny_pyHash_str ?_));refine ST.QJ (s:={ s' with toks:=s'.toks+1 }) (zBq y λo=>l.heap S o g) (by lia) λU b p N=>?_;refine AD ⟨plainId_quiet F.plain_set_update_loop _,K (i+1) _ (Wu ss x) (by lia) (by lia) (W.frame _ s' _ _ m (DM _) λb j o e=>?_) N (by have:=Up ss x;lia) λC r u=>?_⟩
  .rw[p.2 b (λh:b=S=>d (by rw[<-h];exact j))];exact e
  .refine z C (Moved.trans W.gtrans ((l.mono a).then_heap (DM _) λb o j e=>?_) r) ?_
   .rw[p.2 b (λh:b=S=>j (by rw[h];exact AX))];exact e
   .have O:xs.drop i=x::xs.drop (i+1):=by
     obtain⟨D,Q⟩:=AJ.mp M;rw[<-Q];exact DV D
    rw[O];exact u
end
section
variable{prog:HV}{w:HX}{A:IA}{E:A2->A4->Prop}{s:A4}
abbrev K3(w:HX):Obj:={ cls:=.type "set",dict:=none,data:=.set #[] 0 (.fresh 0 0 (!(w.params.followText "set-order"))) }
theorem Ws{h:H_}{a:A3}(e:h.get? a=some (K3 w)):ST.WS w h a [] :=
 ⟨_,#[],0,_,⟨e,⟨rfl,rfl,rfl⟩,rfl,by rfl,rfl,λ_=>rfl,by decide⟩,⟨λe b=>by simp at b,by simp,D_⟩⟩
theorem Uf(a:A2){Q₁:A2->A4->Prop}(h:Q₁ (.ref s.heap.objs.size) { s with heap:=s.heap.push (K3 w) }) :
  codeAny (model prog w) A (.call (.builtin "set.__new__") ⟨[.type "set",a],[]⟩) (wants Q₁ E) s:=by
 refine codeAny_of_tree ?_;show wpAny _ A.in1 (do checkBuiltinCall "set.__new__" ⟨[.type "set",a],[]⟩;again (.builtin "set.__new__" ⟨[.type "set",a],[]⟩)) _ _ s;refine AA (EE (F.newCall_set_1 a) (AD ⟨plainId_quiet F.plain_set_new _,DH F.entry_set_new ?_⟩));rw[Around.under_plainId F.plain_set_new _];unfold Builtin.«set.__new__» Builtin.Frozenset.newClass;have b:=sub_set_self;obtain⟨c,g,d,e,os⟩:=s;dsimp only;wp_walk;refine GT (AD ?_);dsimp only;simp only[newObj];refine AA (wpAny_alloc (AD ?_));exact AD h
set_option maxHeartbeats 3200000 in
theorem Dw{l:A3}{g H:Obj}{z:String}{xs:A0 Str}{n:Nat}{P:Nat->A2->Prop}{St:A3->Nat->H_->Prop}{Q:A2->A4->Prop}(hh:A.handled=none)(j:s.heap.get? l=some g)(k:g.cls = .type z)
  (hs1:isSubtype (.type z) (.type "set")=pure false) (hs2:isSubtype (.type z) (.type "frozenset")=pure false) (hne:(Value.type z == Value.type "dict")=false)
  (J:∀{A:IA} {E:A2->A4->Prop} {Q:A2->A4->Prop} (s1:A4),s1.heap.get? l=some g->Q (.ref s1.heap.objs.size) { s1 with heap:=s1.heap.push H }->wpAny (model prog w) A (pyIter (.ref l)) Q E s1)
  (hW:∀(A:IA) (I:A3),A.handled=none->l≠I->Walks prog w A I [I,l] [I] n P (St I)) (K:∀(h:H_) (I:A3),h.get? I=some H->h.get? l=some g->St I 0 h) (m:H.isFreed=false)
  (hn:xs.length=n) (p:∀i v,P i v->∃x t,xs[i]?=some x/\v = .str x t) (B:n<4096)
  (h:∀(h':H_) (C:Nat),ST.WS w h' s.heap.objs.size (Bo [] xs)->(∀b o,s.heap.get? b=some o->h'.get? b=some o)->Q (.ref s.heap.objs.size) { s with heap:=h',toks:=C }) :
  wpAny (model prog w) A (call (.type "set") [.ref l]) Q E s:=by
 obtain⟨c,tl,hmro⟩:=F.called_set.mro;have L:=F.called_set.made;have hsub:=F.called_set.sub;refine wpAny_call (codeAny_of_tree ?_);show wpAny _ _ (callAny (.type "set") _) _ _ _;refine AD ⟨Code.quiet_builtin _ (by decide +kernel),DH F.entry_type_call ?_⟩;rw[Around.under_plain (weight_type_call_type "set" [.ref l] []) rfl];have h1:=F.called_set.notType;have h2:=F.called_set.canCreate;have hct:=F.typeCall_set_1 (.ref l)
 repeat (any_goals (first | assumption | wp_step))
 refine FK (Uf (.ref l) (E:=E) (Q₁:=λq i1=>q = .ref s.heap.objs.size/\i1 ={ s with heap:=s.heap.push (K3 w) }) ⟨rfl,rfl⟩) λr i1 d=>?_;cases r with
 | error e=>exact d
 | ok M =>
  cases M with
  | ret q =>
   obtain⟨rfl,rfl⟩:=d;have hS:(s.heap.push (K3 w)).get? s.heap.objs.size=some (K3 w):=AW _ rfl;have hT:Shared.TypeIs { s with heap:=s.heap.push (K3 w) } (.ref s.heap.objs.size) "set":=⟨_,hS,rfl⟩;have hli:=F.called_set.init.lookup;have hbi:=F.called_set.init.bind (.ref s.heap.objs.size)
   repeat (any_goals (first | assumption | wp_step))
   refine FK (codeAny_call_builtin (R:=wants (λr n0=>r = .none/\∃h' C,n0 ={ s with heap:=h',toks:=C }/\ST.WS w h' s.heap.objs.size (Bo [] xs) /\
     (∀b o,s.heap.get? b=some o->h'.get? b=some o)) E) F.called_set.init.plain F.entry_set_init (check_set_init_1 hT ?_)) λr₂ n0 d₂=>?_
   .have a:(s.heap.push (K3 w)).get? l=some g:=AC _ j;obtain⟨ocls,N,O,D⟩:=g;simp only at k;subst k;unfold Builtin.«set.__init__» noKeywords Builtin.Frozenset.updateFrom;generalize S:pyIter=PI;wp_walk;subst S;refine J _ a ?_;refine AA (wpAny_runValue ?_);have u:l<s.heap.objs.size:=AG j;have T:A.in1.in1.in1.handled=none:=by simp[hh]
    have y:l≠(s.heap.push (K3 w)).objs.size:=by
     rw[CT];exact BA (EU u)
    have U:s.heap.objs.size∉[(s.heap.push (K3 w)).objs.size,l]:=by
     rw[CT];simp only[AR,A_,or_false,not_or];exact⟨BA (FA _),GR u⟩
    refine Sn ((hW _ _ T y).toS) s.heap.objs.size U xs hn p (n-0) 0 _ [] rfl (CB _) (K _ _ (AW _ m) (AC _ a)) (Ws (AC _ hS)) (by simpa using B) λs' G f=>?_;obtain⟨h',g',d',V,W⟩:=s';have eg:g'=s.gens:=G.gens;have ed:d'=s.drawn:=G.drawn;have eo:W=s.os:=G.os;subst eg;subst ed;subst eo;show wpAny _ _ _ _ _ _;refine AD ?_;show wpAny _ _ (ret Value.none) _ _ _;refine AD ⟨rfl,h',V,rfl,f,λb o e=>?_⟩;have B:=AG e;have X:b≠s.heap.objs.size:=BA B;have Y:b≠(s.heap.push (K3 w)).objs.size:=by
     rw[CT];exact BA (EU B)
    exact G.heap b o (by simp only[AR,A_,or_false,not_or];exact⟨X,Y⟩) (AC _ (AC _ e))
   .cases r₂ with
    | error e=>exact d₂
    | ok M₂ =>
     cases M₂ with
     | ret r =>
      obtain⟨rfl,h',C,rfl,f,Z⟩:=d₂
      repeat (any_goals (first | assumption | wp_step))
      exact h _ _ f Z
     | _=>exact d₂.elim
  | _=>exact d.elim
end
def Gb:isSubtype (.type "tuple") (.type "set")=pure false:=by rw[isSubtype_type];kernel_rfl
def j7:isSubtype (.type "tuple") (.type "frozenset")=pure false:=by rw[isSubtype_type];kernel_rfl
def Ht:∀{xs l:A0 Str},xs.Nodup->(∀x∈xs,x∉l)->Bo l xs=l++xs
 | [],l,_,_=>(BW l).symm
 | x::xs,l,c,a=>by
  obtain⟨d,f⟩:=CL.mp c;show Bo (Wu l x) xs=_;have e:Wu l x=l ++ [x]:=AI (a x (AX ..));rw[e,Ht f λy b hm=>?_,BG]
  .rfl
  .rcases AO.mp hm with hm | hm
   .exact a y (AL _ b) hm
   .exact d (AE.mp hm▸b)
def Re{ss:A0 Str}{its:A0 A2}(r:IH (ss.map V.str) its)(i:Nat)(v:A2)(e:its.toArray[i]?=some v):∃x t,ss[i]?=some x/\v = .str x t:=by
 rw[DY]at e;cases h:ss[i]? with
 | none =>
  have:=r.none_of (i:=i) (by rw[AH,h];rfl);rw[this]at e;cases e
 | some x =>
  obtain⟨u,a,t,b⟩:=r.get (i:=i) (x:=.str x) (by rw[AH,h];rfl);rw[a]at e;cases e;exact⟨x,t,rfl,b⟩
theorem Zj(K:VA)(w:HX)(E:X.calm=true:=by rfl)(J:X.K=K:=by rfl)(hw:X.w=w:=by rfl):K0 X (.type "set") (λxs H Q=>∃(p:A3) (ss:A0 Str),xs = [.ref p]/\(IG K H p (ss.map V.str)\/IU K H p (ss.map V.str))/\ss.Nodup/\ss.length<4096/\∀l,H l=none->Q (.ref l) (HY H l (Cg w l ss))):=by
 subst J;subst hw;intro g s σ H xs R Q I r h;obtain⟨p,ss,rfl,hq,L,G,q⟩:=h;obtain⟨u,rfl,M⟩:=X5 r;cases M;have N:Bo [] ss=ss:=Ht L λ_ _ h=>nomatch h
 have i:∀(t:H_) (v:Nat),ST.WS X.w t s.heap.objs.size (Bo [] ss)->(∀b o,s.heap.get? b=some o->t.get? b=some o)->EP X g σ Q (.ref s.heap.objs.size) { s with heap:=t,toks:=v }:=λt v z k=>by
  rw[N]at z;exact⟨.ref s.heap.objs.size,_,I.laid (t':=v) k (VD _) (Xu z),rfl,q _ (I.hok.fresh (VD _))⟩
 rcases hq with hq | hq
 .obtain⟨d,j,x,O⟩:=I.list hq;have a:=j.length;rw[AB]at a;obtain⟨o,y,c,n,m⟩:=x.isList;exact Dw (I.ok.hd E) y c F.sub_list_set F.sub_list_frozenset (by decide) (λP e q=>FJ ⟨_,e,c,n,m⟩ q) (λA I B f=>Walks.list B I p f d.toArray) (λh I C D=>⟨⟨_,C,rfl,rfl⟩,⟨_,D,c,n,m⟩⟩) rfl (by simp[a]) (Re j) (by simpa [<-a] using G) i
 .obtain⟨d,j,x,O⟩:=I.tuple hq;have a:=j.length;rw[AB]at a;obtain⟨o,y,c,n,m⟩:=x;exact Dw (I.ok.hd E) y c Gb j7 (by decide) (λP e q=>FW ⟨_,e,c,n,m⟩ q) (λA I B f=>Walks.tuple B I p f d.toArray) (λh I C D=>⟨⟨_,C,rfl,rfl⟩,⟨_,D,c,n,m⟩⟩) rfl (by simp[a]) (Re j) (by simpa [<-a] using G) i
theorem zBc(w:HX)(hw:X.w=w:=by rfl):P7 X "set.add" (zBy w):=by subst hw;exact Zh
section
variable{X:Cx}{tg iter elt:IC}{ifs:A0 IC}{scope:KM}{cl:A0 (Str×A3)}{N':A0 Str}{cap:A0 (A5 Nat)}{wi:TI}{pos:Pos}
theorem Ud{i:Nat}{x:Str}{p j:Pos}{g:TG}{W:TT}{a b:IC}{Y Z:TE}(hN:X.N.Nodup)(hi:X.N[i]?=some x)(hx:Loc X.env.scope x)(S:ME X scope cl N' cap)(t:X.calm=true)(hI:PI X tg iter wi)
  (w:∀(d:A0 (A3×Obj)) (y:A0 A3) (l:A4) (A:Hp),PG (LU X scope cl N' d y l A) tg g/\SH (LU X scope cl N' d y l A) ifs W/\PE (LU X scope cl N' d y l A) a Y/\PE (LU X scope cl N' d y l A) b Z)
  (hs:∀x,foldedSetIterable iter X.env x=pure x:=by intro _;rfl)
  (G:swapsWith (.DictComp a b [⟨tg,iter,ifs,0⟩] scope j) (some (.Name x p)) pos.line X.env=pure true:=by rfl)
  (K:X.fn x=true\/X.env.scope.names.lookup x=some .local:=by first | exact .inl rfl | exact .inr rfl | assumption) :
  PS X (.Assign [.Name x p] (.DictComp a b [⟨tg,iter,ifs,0⟩] scope j) pos) (SU (Kj wi (λ_=>.dK []) cap λD J σ H Q=>Au g W (Ei D Y Z) J σ H Q) (O0 i)):=by
 intro d s σ H D I h;rw[exec_Assign];refine AA (EZ (AA (EE G (FD rfl (AA (AA ?_))))));refine Hk (newAcc:=newDict) (p2:=firstIterPos [⟨tg,iter,ifs,0⟩] j) rfl (λ_=>.dK []) hs S t hI (λd s σ H Q E I h=>?_) (λd y l A D it fp tn J σ s H Q R T I st K h hR=>?_) (λ_ _ _=>rfl) (λ_ _ _=>rfl) I h λE fp H2 l s' σ' H' I3 L M q=>?_
 .refine BV ?_;exact h _ (I.laid (a:=s.heap.objs.size) (o:=.dK []) (t':=s.toks) (λ_ _ q=>AC _ q) (VD _) (Ey s.heap I.big)) λb f e=>AC _ e
 .obtain⟨b1,b2,b3,b4⟩:=w d y l A;exact n9 (X:=LU X scope cl N' d y l A) rfl rfl t rfl (Ec a b tg iter ifs scope j _ _ _) b1 b2 (Mb rfl b3 b4) T I st K h hR
 .have IX:Inv X d σ H' s':=I3.unblock L M ⟨rfl,λ_ _=>rfl⟩;have B:Ea X d H' l.heap.objs.size:=I3.fpOk (VD _) M.free;obtain⟨m,hn,_⟩:=M.loc;show wpAny _ _ (assign (.Name x p) X.env (.ref E)) _ _ _;refine wpAny_assign_Name (Cj (v:=.ref E) IX hN hi hx rfl (λF O ⟨a,P,ha⟩=>?_) K);have nC:l.heap.objs.size≠a:=by
   rcases ha with rfl | ha
   .exact B.2.1
   .exact(B.2.2.2.2.1 _ _ ha).symm
  refine⟨m,?_,λh' C=>AD (AD ?_)⟩
  .obtain⟨f,U,V,e1,r⟩:=hn;exact⟨f,U,V,(P.2 _ nC).trans e1,r⟩
  refine⟨_,H',?_,q⟩;have k:∀b f,b∉[l.heap.objs.size]->F.heap.get? b=some f->h'.get? b=some f:=λb f w e=>(C.2 b λz=>w (AE.mpr z)).trans e;refine O.step (h':=h') (H':=H') (t':=F.toks) (g':=F.gens) (d':=F.drawn) (ch:=[l.heap.objs.size]) (λb w=>by rw[AE.mp w];exact⟨B.2.2.2.1,B.2.1,B.2.2.2.2⟩) (λb f _ _ t e _=>k b f t e) (λb f _ _ t e _=>⟨f.slots,k b f t e⟩) (λ_ _ _ _ n=>n)
   (λb f t e=>⟨f,k b f t e⟩) (λ_ _ e=>e) (λ_ _ _ e=>e) (λb ps e=>⟨#[],by rw[e];simp⟩) (λm hm=>?_) (λb u eb=>?_) O.bare
  .obtain⟨f,U,V,ho,r⟩:=hm;exact⟨f,U,V,k _ f (λw=>B.2.1 (AE.mp w).symm) ho,r⟩
  .have nf:∀b u,H' b=some u->b∉[l.heap.objs.size]:=λb u e w=>by rw[AE.mp w,B.1]at e;cases e
   refine(O.hok b u eb).stay (λc v t q=>k c v ?_ q) (λ_ q=>q) λ_ _ q=>q;rcases t with z | z
   .rw[z];exact nf b u eb
   .exact nf c _ z
end
theorem We(E:X.calm=true):K0 X (.builtin "any") (λxs H Q=>∃(p:A3) (bs:A0 Bool),xs = [.ref p]/\IG X.K H p (bs.map V.bl)/\Q (.bl (bs.any id)) H):=by
 intro B s σ H xs M Q I r h;obtain⟨p,bs,rfl,F,q⟩:=h;obtain⟨u,rfl,t⟩:=X5 r;cases t;obtain⟨a,w,x,N⟩:=I.list F;refine call_any_walk (FJ x.isList ?_);have y:p≠s.heap.objs.size:=by
  obtain⟨o,n,e,_⟩:=x;exact BA (AG e)
 refine⟨s.heap.objs.size,_,_,_,_,_,λi=>bs.getD i false,rfl,Walks.list (A:=X.A.in1) (show X.A.in1.handled=none from I.ok.hd E) _ p y a.toArray,⟨⟨_,AW _ rfl,rfl,rfl⟩,?_⟩,λi v O P R G J=>?_,λS T k=>?_⟩
 .obtain⟨o,n,e,c,d,L⟩:=x;exact⟨o,AC _ e,c,n,L⟩
 .have f:(bs.map V.bl)[i]?=some (V.bl (bs.getD i false))/\RelV (V.bl (bs.getD i false)) v:=by
   have g:a[i]?=some v:=by simpa using G
   have j:i<a.length:=(AJ.mp g).1;have m:=w.length;rw[AB]at m;have e:(bs.map V.bl)[i]?=some (V.bl (bs.getD i false)):=by
    rw[AH,AF (by lia)];simp[CA,AF (show i<bs.length by lia)]
   obtain⟨u,C,t⟩:=w.get e;rw[g]at C;cases C;exact⟨e,t⟩
  cases f.2;exact CZ J
 .have m:=w.length;rw[AB]at m;have e:(List.range a.toArray.size).any (λi=>bs.getD i false)=bs.any id:=by
   rw[AQ,<-m,GA,GS,GS];constructor
   .rintro⟨i,j,z⟩;have l:=DB.mp j;refine⟨bs[i],DL l,?_⟩;simpa [CA,AF l] using z
   .rintro⟨b,f,z⟩;obtain⟨i,j,rfl⟩:=EA.mp f;refine⟨i,DB.mpr j,?_⟩;simpa [CA,AF j] using z
  rw[e];exact⟨.bl (bs.any id),H,I.kept λb o D=>k b o (by
   intro f;have:b=s.heap.objs.size:=by simpa using f
   exact absurd (AG D) (by rw[this];exact C_ _)) (AC _ D),rfl,q⟩
theorem zBx:bootBuiltins "any" = some (.builtin "any"):=by decide +kernel
variable(K:VA)
theorem zCm(a:X.calm=true:=by rfl)(b:X.K=K:=by rfl):K0 X (.builtin "any") (λxs H Q=>∃(p:A3) (bs:A0 Bool),xs = [.ref p]/\IG K H p (bs.map V.bl)/\Q (.bl (bs.any id)) H):=by subst b;exact We a
def X7(kvs more:A0 (IQ×V)):A0 (IQ×V):=more.foldl (λa b=>Bd a b.1 b.2) kvs
def KV.mrg:∀{more:A0 (IQ×V)} {a:A0 (IQ×A2)} {kvs:A0 (IQ×V)} {vs:A0 (IQ×A2)},KV kvs vs->KV more a->KV (X7 kvs more) (merged vs a)
 | [],[],_,_,r,_=>r
 | [],_::_,_,_,_,b=>by cases b
 | _::_,[],_,_,_,b=>by cases b
 | (k,y)::m,(c,u)::n,kvs,vs,r,b=>by
  cases b with
  | cons h t =>
   obtain⟨e,d⟩:=h;have e:k=c:=e;subst e;show KV (X7 (Bd kvs k y) m) (merged (stored vs k u) n);exact KV.mrg (r.put k d) t
def T0(kvs more:A0 (IQ×V)):(X7 kvs more).length<=kvs.length+more.length:=by
 induction more generalizing kvs with
 | nil=>exact VD _
 | cons a r b =>
  have c:=b (Bd kvs a.1 a.2);have d:=U8 kvs a.1 a.2;show(X7 (Bd kvs a.1 a.2) r).length<=kvs.length +(r.length+1);lia
theorem Sd:K0 X (.type "dict") (λxs H Q=>∃p kvs,xs = [.ref p]/\H p=some (.dK kvs)/\∀l,H l=none->Q (.ref l) (HY H l (.dK kvs))):=by
 intro d s σ H xs m Q I r h;obtain⟨p,kvs,rfl,f,q⟩:=h;obtain⟨u,rfl,g⟩:=X5 r;cases g;obtain⟨z,i,n,a,j⟩:=Uz I.hok f;refine kt_call_dict i j (by rw[<-a.length];exact z) λt c k=>?_;refine⟨.ref s.heap.objs.size,HY H s.heap.objs.size (.dK kvs),I.laid (t':=s.toks) (λb o e=>?_) (VD _) (Ky z (beq_eq_false_iff_ne.mpr (GR I.big)) a c),rfl,q _ I.fresh⟩;rw[k.2 b (BA (AG e))];exact AC _ e
theorem zFr{b:A0 (A3×Obj)}{σ:St}{H:Hp}{s:A4}{a o:A3}{kvs more:A0 (IQ×V)}{A:IA}{E:A2->A4->Prop}{Q:A2->A4->Prop}(I:Inv X b σ H s)(i:H a=some (.dK kvs))(n:H o=some (.dK more))(p:a≠o)(j:kvs.length+more.length<=sizeLine)
  (h:∀k,Inv X b σ (HY H a (.dK (X7 kvs more))) k->Q .none k):wpAny (model X.prog X.w) A (call (.builtin "dict.update") [.ref a,.ref o]) Q E s:=by
 obtain⟨z,r,t,d,l⟩:=Uz I.hok i;obtain⟨B,e,f,c,g⟩:=Uz I.hok n;refine call_meetsIn PySem.F.slot_dict_update l.typeIs PySem.F.entry_dict_update (PySem.F.args_dict_update_2 _ _) (meets_dict_update (C5 X.prog X.w) a o p e) ⟨t,f,l,g,by rw[<-d.length,<-c.length];exact j,λu m _ v=>?_⟩;have x:∃q,u.get? a=some q:=let⟨q,_,_,y,_⟩:=m;⟨q,y⟩;exact h _ (Sy I (t':=s.toks) (by rw[i];exact VC) v x (Ky (VE (T0 ..) j) r (d.mrg c) m))
def zGa(f ty:TE):TE:=λσ H Q=>f σ H λx e=>∃a,x = .ref a/\IsD e a/\ty σ e λy d=>∃o c b,y = .ref o/\d a=some (.dK c)/\d o=some (.dK b)/\a≠o/\c.length+b.length<=sizeLine/\Q .non (HY d a (.dK (X7 c b)))
theorem Jb{o e:IC}{b c:Pos}{g ty:TE}(k:PE X o g)(l:PE X e ty)(m:M1 X o "update" b e c):PE X (.Call (.Attribute o "update" b) [e] [] c) (zGa g ty):=by
 intro f s σ H Q I h;refine wpAny_Call_method m.base m.few m.line PySem.F.plainAttrs_dict PySem.F.slot_dict_update PySem.F.type_dict_update (I_ (k f s σ H _ I h) λu n ⟨x,p,i,q,a,r,d,t⟩=>?_);subst r;obtain rfl:u=Value.ref a:=q;obtain⟨v,w,_⟩:=Wt i d;refine⟨v,w,?_⟩;rw[m.trees];refine Calls.callWith_builtin rfl (Calls.evalArgs_plain (Calls.spliced_cons (I_ (l f n σ p _ i t) λz O ⟨y,P,A,B,C,D,j,E,G,J,K,L,M⟩=>Calls.spliced_nil ?_)));subst E;obtain rfl:z=Value.ref C:=B;exact zFr A G J K L λR N=>⟨.non,_,N,rfl,M⟩
theorem Jy:bootBuiltins "dict" = some (.type "dict"):=by decide +kernel
def Lg:entryFor table "dict.update.loop" = some Builtin.«dict.update.loop»:=entryFor_of_tree (by kernel_rfl)
def Bc:plainId "dict.update.loop" = true:=by decide +kernel
section
variable{prog:HV}{w:HX}{A:IA}{E:A2->A4->Prop}{s:A4}
theorem Ga{a:A3}{xs:HU A2}{k:Nat}{l:HU (A5 A2)}{name:Str}{Q:A5 A2->A4->Prop}
  (m:s.heap.get? a=some { cls:=.type "list",dict:=none,data:=.seq xs k,slots:=l }) (c:typeLookup (.type "list") name=pure none) (f:(["__module__","__name__","__qualname__","__doc__","__annotations__"]:A0 Str).contains name=false) (q:A.handled=none)
  (h:∀h' n,(∀b o,s.heap.get? b=some o->h'.get? b=some o)->Q none { s with heap:=h',toks:=n }) (hsz:name.length+100<=sizeLine) :
  wpAny (model prog w) A (getAttr? (.ref a) name) Q E s:=by
 obtain⟨r,g,d,n,os⟩:=s;have p:∀i,(⟨r,g,d,i,os⟩:A4).TypeIs (.ref a) "list":=λ_=>⟨_,m,rfl⟩;have t:=sub_AttributeError;have u:=F.slot_list_getattribute.lookup;have v:=F.slot_list_getattribute.bind (.ref a);have x:=am_list_getattr_none;unfold getAttr? getAttrBy? getAttrBy
 repeat (any_goals (first | assumption | exact p _ | ((with_reducible show wpAny _ _ (call (Value.builtin "list.__getattribute__") _ _) _ _ _);refine call_meets F.slot_list_getattribute (p _) am_entry_list_getattribute (F.args_list_getattribute_2 _ _) (meets_getattribute_miss_list a xs k l name _ c f hsz) ⟨m,q,λh' i e j=>?_⟩) | wp_step))
 obtain⟨y,z,B⟩:=j.there;show wpAny _ _ (getattributeRaised _ _ _ _ _ _ _) _ _ _;unfold getattributeRaised
 repeat (any_goals (first | assumption | wp_step))
 exact h _ _ j.keeps
end
section
variable{prog:HV}{w:HX}{A:IA}{R:Result->A4->Prop}{I:A3}{fp wr:A0 A3}{G:HU GenState->HU GenState->Prop}{n:Nat}{P:Nat->A2->Prop}{St:Nat->A4->Prop}{K:Type}[DecidableEq K]{knd:KeyKind prog w K}
theorem Tu(W:WalksS prog w A.in1 I fp wr G n P St)(D:A3)(p:D∉fp)(Z:H_)(more:A0 (K×A2))(hn:more.length=n)
  (x:∀i v,P i v->∃t o k c u m,v = .ref t/\t∉D::wr/\Z.get? t=some o/\o.cls = .type "tuple"/\o.data = .seq #[c,u] m/\more[i]?=some (k,u)/\knd.is k c=true) :
  ∀(k i:Nat) (s:A4) (kvs:A0 (K×A2)) (M:Tok),n-i=k->i<=n->St i s->(∀b o,b∉D::wr->Z.get? b=some o->s.heap.get? b=some o)->s.heap.DictOf knd D kvs->kvs.length+k<=sizeLine ->
   (∀f,Moved (D::wr) G s f->f.heap.DictOf knd D (merged kvs (more.drop i))->R (.ok (.ret .none)) f) ->
   codeAny (model prog w) A (.builtin "dict.update.loop" ⟨[.ref D,.ref I,.int (i:Int) M,.none],[]⟩) R s:=by
 have y:D∉wr:=λh=>p (W.sub _ h);have a:∀b∈wr,b∈D::wr:=λb d=>AL _ d;have B:∀{h N:H_} {kvs:A0 (K×A2)},h.DictOf knd D kvs->(∀o,h.get? D=some o->N.get? D=some o)->N.DictOf knd D kvs:=λ⟨o,es,ep,ho,r⟩ k=>⟨o,es,ep,k o ho,r⟩;intro k
 induction k with
 | zero =>
  intro i s kvs M hk hi g O Q _ S;have U:i=n:=by lia
  subst U;refine DH Lg ?_;rw[Around.under_plainId Bc _];refine AA (W.done s _ _ g λf j=>?_);have q:=S f (j.mono a);rw[<-hn,HR]at q;show wpAny _ _ (Builtin.Dict.addKeywords D [] >>= _) _ _ _;exact AA (AD (AD (q (B Q λo=>j.heap D o y))))
 | succ k ih =>
  intro i s kvs M hk hi g O Q hz S;refine DH Lg ?_;rw[Around.under_plainId Bc _];refine AA (W.item i s _ _ (by lia) g λv f hP C j=>?_);obtain⟨t,o,kk,c,u,m,rfl,E,ht,hc,V,hx,F⟩:=x i v hP;have H:f.heap.get? t=some o:=j.heap t o (λz=>E (a _ z)) (O t o E ht);refine AA (BP (AA (wpAny_tryCatch ?_)));unfold Builtin.Dict.pairItems;refine AA (EY (T := "tuple") ⟨o,H,hc⟩ ?_);rw[AN (by decide)];refine AA (DZ H V (AD ?_));show wpAny _ _ (holding [c,u] (dictSet D c u)) _ _ _;refine BP (wpAny_dictSet_pairs F (B Q λo=>j.heap D o y) (λN d' l=>?_) (by lia));refine AD ⟨plainId_quiet Bc _,ih (i+1) _ (stored kvs kk u) _ (by lia) (by lia) (W.frame _ f _ _ C (DM _) λb d o e=>?_) (λb o d e=>?_) d' (by
   have:=stored_length_le kvs kk u;lia) λX J L=>?_⟩
  .rw[l.2 b (λh:b=D=>p (by rw[<-h];exact d))];exact e
  .rw[l.2 b (λh:b=D=>d (by rw[h];exact AX))];exact j.heap b o (λz=>d (a _ z)) (O b o d e)
  .refine S X (Moved.trans W.gtrans ((j.mono a).then_heap (DM _) λb o d e=>?_) J) ?_
   .rw[l.2 b (λh:b=D=>d (by rw[h];exact AX))];exact e
   .have V:more.drop i =(kk,u)::more.drop (i+1):=by
     obtain⟨Y,ex⟩:=AJ.mp hx;rw[<-ex];exact DV Y
    rw[V];exact L
end
theorem Dy:∀{as:A0 A3} {its:A0 A2},IH (as.map V.ref) its->its=as.map Value.ref
 | [],_,.nil=>rfl
 | _::_,_,.cons r t=>by rw[BM,Dy t];cases r;rfl
theorem Sg{b:A0 (A3×Obj)}{σ:St}{H:Hp}{s:A4}(I:Inv X b σ H s):∀ps:A0 (A3×IQ×V),(∀q∈ps,H q.1=some (.tup [kV q.2.1,q.2.2]))->∃more:A0 (IQ×A2),KV (ps.map λq=>q.2) more /\
  ∀(i:Nat) (q:A3×IQ×V),ps[i]?=some q->∃(o:Obj) (a u:A2) (m:Nat),s.heap.get? q.1=some o/\o.cls = .type "tuple"/\o.data = .seq #[a,u] m/\more[i]?=some (q.2.1,u)/\(C5 X.prog X.w).is q.2.1 a=true
 | [],_=>⟨[],.nil,λi q h=>by simp at h⟩
 | p::ps,h=>by
  obtain⟨more,r,d⟩:=Sg I ps λq c=>h q (AL _ c);obtain⟨_,e,f,o,g,j,n,k⟩:=(show IS X.prog X.w H s.heap p.1 (.tup [kV p.2.1,p.2.2])from I.hok _ _ (h p (AX ..)));obtain⟨a,u,rfl,l,t⟩:=f.two;refine⟨(p.2.1,u)::more,.cons ⟨rfl,t⟩ r,λi q c=>?_⟩;cases i with
  | zero=>cases c;exact⟨o,a,u,n,g,j,by simpa using k,rfl,Io l⟩
  | succ i=>exact d i q c
theorem Ug(hc:X.calm=true):K0 X (.type "dict") (λxs H Q=>∃(p:A3) (ps:A0 (A3×IQ×V)),xs = [.ref p]/\H p=some (.lst (ps.map λq=>V.ref q.1))/\(∀q∈ps,H q.1=some (.tup [kV q.2.1,q.2.2]))/\ps.length<=1000/\∀l,H l=none->Q (.ref l) (HY H l (.dK (X7 [] (ps.map λq=>q.2))))):=by
 intro R s σ H xs us Q I r h;obtain⟨p,ps,rfl,hp,ht,hl,q⟩:=h;obtain⟨u,rfl,ru⟩:=X5 r;cases ru;obtain⟨a,G,rv,g,hz⟩:=I.lst hp;have S:a =(ps.map λq=>q.1).map Value.ref:=Dy (by rw[BS];exact rv);obtain⟨j,U,hm⟩:=Sg I ps ht;have lm:j.length=ps.length:=by rw[<-U.length,AB]
 have W:a.toArray.size=ps.length:=by rw[S];simp
 have t:p<s.heap.objs.size:=AG g;refine callType_codes (Q₁:=λx i1=>x = .ref s.heap.objs.size/\i1 ={ s with heap:=s.heap.push { cls:=.type "dict",data:=.dict #[] } }) PySem.F.kt_called_dict (PySem.F.kt_typeCall_dict_1 _) PySem.F.entry_dict_init (kt_code_dict_new _ ⟨rfl,rfl⟩) ?_;rintro x i1 ⟨rfl,rfl⟩;have c:(s.heap.push { cls:=.type "dict",data:=.dict #[] }).DictOf (C5 X.prog X.w) s.heap.objs.size []:=Heap.DictOf.new s.heap;have k:(s.heap.push { cls:=.type "dict",data:=.dict #[] }).get? p=some { cls:=.type "list",data:=.seq a.toArray G }:=AC _ g;refine⟨c.typeIs,PySem.F.args_dict_init_2 _ _,?_⟩;unfold Builtin.«dict.__init__»;refine AA ?_;unfold Builtin.Dict.selfAndRest;refine AA (wpAny_notOrdered_dict c.typeIs ?_);show wpAny _ _ (pure (s.heap.objs.size,[Value.ref p])) _ _ _;refine AD ?_;show wpAny _ _ (Builtin.Dict.updateFrom "dict.__init__" s.heap.objs.size (.ref p) [] .none) _ _ _;unfold Builtin.Dict.updateFrom;refine AA (EY (T := "list") ⟨_,k,rfl⟩ ?_);rw[AN (by decide)];have Y:X.A.in1.in1.handled=none:=I.ok.hd hc;refine AA (Ga k (am_miss_of_fast (by decide +kernel)) (by decide +kernel) Y (λn tk1 J=>?_) (by decide +kernel));refine FD rfl ?_;have y:n.DictOf (C5 X.prog X.w) s.heap.objs.size []:=let⟨o,K,L,g,r⟩:=c;⟨o,K,L,J _ _ g,r⟩;have B:=J _ _ k;have d:s.heap.objs.size<n.objs.size:=let⟨_,_,_,g,_⟩:=y;AG g;have C:p≠n.objs.size:=BA (Nat.lt_trans t d);refine AA (DF (AA (FJ (l:=p) (items:=a.toArray) ⟨_,B,rfl,G,rfl⟩ (AD ⟨plainId_quiet Bc _,?_⟩))));have Z:∀b o,s.heap.get? b=some o->n.get? b=some o:=λb o e=>J b o (AC _ e);refine Tu (A:=X.A.in1) (knd:=C5 X.prog X.w) ((Walks.list (A:=X.A.in1.in1) Y n.objs.size p C a.toArray).toS) s.heap.objs.size ?_ n j (lm.trans W.symm) (λi v E=>?_) _ 0 _ [] _ rfl (CB _) ⟨⟨_,AW _ rfl,rfl,rfl⟩,⟨_,AC _ B,rfl,G,rfl⟩⟩ (λb o _ e=>AC _ e) (let⟨o,K,L,g,r⟩:=y;⟨o,K,L,AC _ g,r⟩) ?_ λs' f M=>?_
 .simp only[AR,A_,or_false,not_or];exact⟨BA d,GR t⟩
 .have E:a.toArray[i]?=some v:=E;rw[DY,S,BS,AH]at E;obtain⟨z,N,rfl⟩:=BF.mp E;obtain⟨o,O,u,m,e1,e2,e3,e4,e5⟩:=hm i z N;have D:=AG e1;refine⟨z.1,o,z.2.1,O,u,m,rfl,?_,Z _ _ e1,e2,e3,e4,e5⟩;simp only[AR,A_,or_false,not_or];exact⟨BA D,BA (Nat.lt_trans D d)⟩
 .rw[W,sizeLine_eq];simp;lia
 .obtain⟨h',g',d',tk',P⟩:=s';have eg:g'=s.gens:=f.gens;have ed:d'=s.drawn:=f.drawn;have eo:P=s.os:=f.os;subst eg;subst ed;subst eo;refine⟨rfl,.ref s.heap.objs.size,HY H s.heap.objs.size (.dK (X7 [] (ps.map λq=>q.2))),I.laid (λb o eb=>?_) (VD _) (Ky ?_ (beq_eq_false_iff_ne.mpr (GR I.big)) (KV.mrg .nil U) M),rfl,q _ I.fresh⟩
  .have D:=AG eb;refine f.heap b o ?_ (AC _ (Z b o eb));simp only[AR,A_,or_false,not_or];exact⟨BA D,BA (Nat.lt_trans D d)⟩
  .have:=T0 [] (ps.map λq=>q.2);rw[AB]at this;rw[sizeLine_eq];simp at this;lia
end
section
variable{prog:HV}{w:HX}{A:IA}{E:A2->A4->Prop}{s:A4}
theorem Ib{g:A3}{xs:HU A2}{fp k:A0 A3}{St:Nat->H_->Prop}(W:Walks prog w A g fp k xs.size (λi v=>xs[i]?=some v) St):∀(n i:Nat) (s:A4) (Q:A0 A2->A4->Prop),St i s.heap->i+n<=xs.size ->
  (∀h' m,St (i+n) h'->(∀b o,b∉k->s.heap.get? b=some o->h'.get? b=some o)->Q ((xs.toList.drop i).take n) { s with heap:=h',toks:=m })->wpAny (model prog w) A (draw (.ref g) n) Q E s
 | 0,i,s,Q,a,_,h=>by
  show wpAny _ _ (pure []) Q E s;exact AD (by simpa using h s.heap s.toks a λb o _ e=>e)
 | n+1,i,s,Q,a,p,h=>by
  have c:i<xs.size:=by lia
  show wpAny _ _ (pyNext (.ref g) >>= _) Q E s;refine AA (W.item i s _ _ c a λv C r t d u=>?_);have x:v=xs[i]:=by
   have:xs[i]?=some v:=t;rw[EG c]at this;exact(BU this).symm
  refine AA (BP (Ib W n (i+1) _ _ d (by lia) λy j f z=>AD ?_));have B:xs.toList.drop i=xs[i]::xs.toList.drop (i+1):=by simp[DV,c]
  have q:=h y j (by rw[show i +(n+1)=i+1+n by lia];exact f) λb o l e=>z b o l (u b o l e);rw[B,List.take_succ_cons,<-x]at q;exact q
theorem Jn{l:A3}{items:HU A2}{a:A0 (Bool×(A2->Sem Unit))}{Q:Unit->A4->Prop}(q:A.handled=none)(g:s.heap.IsList l items)
  (r:a.length=items.size) (d:a.findIdx? (·.1)=none)
  (h:∀h' t,(∀b o,s.heap.get? b=some o->h'.get? b=some o)->wpAny (model prog w) A (assignInOrder (a.map (·.2)) items.toList) Q E { s with heap:=h',toks:=t }) :
  wpAny (model prog w) A (unpack (.ref l) a) Q E s:=by
 have i:l≠s.heap.objs.size:=by obtain⟨o,j,_⟩:=g;exact BA (AG j)
 have W:=Walks.list (prog:=prog) (w:=w) (A:=A) q s.heap.objs.size l i items;unfold unpack;rw[r,d];refine AA (BP ?_);unfold unpackItems;refine AA ?_;unfold notIterableAtAll;refine AA (GC g.typeIs slot_list_iter.lookup ?_);refine AD ?_;simp only[BD,CO];refine AA (BP (FJ g ?_));have k:(s.heap.push { cls:=.type "list_iterator",data:=.fields #[.ref l,.int 0 0] }).IsList l items:=by
  obtain⟨o,j,u,n,v⟩:=g;exact⟨o,AC _ j,u,n,v⟩
 refine AA (BP (Ib W items.size 0 _ _ ⟨⟨_,AW _ rfl,rfl,rfl⟩,k⟩ (by lia) λD x c y=>?_));have f:List.take items.size (List.drop 0 items.toList)=items.toList:=by
  rw[EQ];exact DU (by simp)
 rw[f,AI (by simp)];refine AA (BP (W.done _ _ _ (by rw[EL]at c;exact c) λB m C=>?_));simp only[Option.isSome_none,BD,CO];refine AD (h B m λb o e=>?_);have p:b∉[s.heap.objs.size]:=λz=>absurd (AG e) (by rw[AE.mp z];exact C_ _);exact C b o p (y b o p (AC _ e))
end
section
variable{X:Cx}{pos:Pos}
def zHb(K:VA)(n:Nat)(t:Q_):TG:=λv σ H Q=>∃a b,v = .ref a/\IG K H a b/\b.length=n/\t b σ H Q
theorem Zc{c:A0 IC}{k:Nat}{t:Q_}{n:Nat}(g:X.calm=true)(h:SJ X c t)
  (i:(assignEach c X.env).length=n:=by rfl) (d:(assignEach c X.env).findIdx? (·.1)=none:=by rfl):PG X (.Tuple c k pos) (zHb X.K n t):=by
 intro b s σ H v u Q I r e;obtain⟨a,j,l,m,o,e⟩:=e;subst l;cases r;obtain⟨p,f,q,y⟩:=I.list m;rw[assign_Tuple];refine AA (EZ (Jn (I.ok.hd g) q.isList (by simp[i,<-o,f.length]) d λz w x=>?_));exact h b _ σ H j _ Q (I.kept (t':=w) x) (by simpa using f) e
variable(K:VA)
theorem pgL{a:A0 IC}{k:Nat}{t:Q_}{n:Nat}(h:SJ X a t)(c:X.calm=true:=by rfl)(d:(assignEach a X.env).length=n:=by rfl)(b:(assignEach a X.env).findIdx? (·.1)=none:=by rfl)(e:X.K=K:=by rfl):PG X (.Tuple a k pos) (zHb K n t):=by subst e;exact Zc c h d b
theorem Vi(a:X.calm=true:=by rfl):K0 X (.type "dict") (λxs H Q=>∃(p:A3) (ps:A0 (A3×IQ×V)),xs = [.ref p]/\H p=some (.lst (ps.map λq=>V.ref q.1))/\(∀q∈ps,H q.1=some (.tup [kV q.2.1,q.2.2]))/\ps.length<=1000/\∀l,H l=none->Q (.ref l) (HY H l (.dK (X7 [] (ps.map λq=>q.2))))):=Ug a
end
section
variable{X:Cx}(K:VA)
theorem TK(a:X.K=K:=by rfl):RQ X (zEq K):=by subst a;exact QU
end
section
variable{prog:HV}{w:HX}{A:IA}{E:A2->A4->Prop}{s:A4}
theorem Vq{t b:A3}{vs g:A0 A2}{Q:A2->A4->Prop}(o:IsTup s.heap t vs.toArray)(p:IsTup s.heap b g.toArray)(q:vs = [])(h:Q (.ref b) s):wpAny (model prog w) A (binaryOp .Add (.ref t) (.ref b)) Q E s:=by
 obtain⟨⟨r,u,i,v⟩,j,k,n,l⟩:=id o;obtain⟨⟨m,e,data2,f⟩,a,c,x,d⟩:=id p;simp only at k l c d;subst k l c d;exact concat_meets ⟨_,j,rfl⟩ ⟨_,a,rfl⟩ noFill_tuple_add seq_tuple_add VN VO (PySem.F.args_tuple_add_2 _ _)
  (tuple_addW0 t b vs.toArray g.toArray n x u e v f (by simp[q])) ⟨j,a,h⟩
end
section
variable{X:Cx}(K:VA)
def zEv:R2:=λx y H Q=>∃a b c d,x = .ref a/\y = .ref b/\IU K H a c/\IU K H b d/\d≠[]/\c.length+d.length<=sizeLine /\
 (c = []->Q (.ref b) H)/\(c≠[]->∀p,H p=none->Q (.ref p) (HY H p (.tup (c++d))))
theorem Zy(n:X.K=K:=by rfl):KH X (binaryOp .Add) (zEv K):=by
 subst n;intro d s σ H x y v u Q I e f h;obtain⟨a,b,g,o,i,j,k,l,p,q,r,t⟩:=h;by_cases c:g = []
 .subst i j c;cases e;cases f;obtain⟨w,A,B,_⟩:=I.tuple k;obtain⟨m,D,C,_⟩:=I.tuple l;exact Vq B C (A.nil_iff.mpr rfl) ⟨.ref b,H,I,rfl,r rfl⟩
 .exact Yc _ _ _ _ _ _ _ _ _ I e f ⟨a,b,g,o,i,j,k,l,c,q,λz=>absurd z p,λ_=>t c⟩
end
def XO(x C:A3)(d:A5 A3):HO:=.ext λh=>∃o a,h.get? x=some o/\o.cls = .ref C/\o.dict=d/\o.data = .fields a
def XO.ok{P:HV}{w:HX}{H:Hp}{h:H_}{x C:A3}{d:A5 A3}{o:Obj}{vs:HU A2}(e:h.get? x=some o)(a:o.cls = .ref C)(b:o.dict=d)(c:o.data = .fields vs):IS P w H h x (XO x C d) :=
 ⟨⟨o,vs,e,a,b,c⟩,⟨o,e⟩,λf g ⟨o,vs,e,r⟩ k=>⟨o,vs,k o e,r⟩⟩
def Fl(H:Hp)(n:Nat)(x:A3)(h:H_):Prop :=
 ∃o a,h.get? x=some o/\o.data = .fields a/\1<a.size/\(a[1]?=some .none\/∃T b ts,a[1]?=some (.ref T)/\T≠x/\n<=T/\H T=none/\h.get? T=some b/\b.data = .fields ts/\3<ts.size)
structure RX(P:HV)(w:HX)(base:H_)(fs:A0 QS)(env:QS)(outer:A0 QS)(H0:Hp)(s0:A4)(x C:A3)(d:A5 A3)(H:Hp)(s:A4):Prop where
 os:s.os=s0.os
 bare:AllBare s.gens
 un:Un (NW fs) [] H0 H s0.heap s.heap
 hok:MU P w H s.heap
 bsz:base.objs.size<=s0.heap.objs.size
 bs:∀b o,base.get? b=some o->s.heap.get? b=some o/\H b=none
 funs:s.heap.FunFrames base (env::outer)
 frf:∀b∈NW (env::outer),H b=none
 loc:∃L,env.frame=some L
 old:∀b o,s0.heap.get? b=some o->b∉NW fs->b∉NW (env::outer)
 sub:∀b∈NW fs,b∈NW (env::outer)
 hx:H x=some (XO x C d)
 nx:s0.heap.objs.size<=x
 fl:Fl H s0.heap.objs.size x s.heap
section
variable{P:HV}{w:HX}{base:H_}{env:QS}{fs outer:A0 QS}{H0 H:Hp}{s0 s:A4}{x C:A3}{d:A5 A3}{h':H_}
theorem RX.chg(r:RX P w base fs env outer H0 s0 x C d H s){TT:A0 A3}(tt:∀T∈TT,H T=none/\s0.heap.objs.size<=T/\∃o ts,s.heap.get? T=some o/\o.data = .fields ts)
  (a:∀b o,b≠x->b∉TT->b∉NW (env::outer)->s.heap.get? b=some o->h'.get? b=some o)
  (f:∀b o,b∈NW (env::outer)->s.heap.get? b=some o->∃B,h'.get? b=some { o with slots:=B })
  (N:∀T∈TT,∃o,h'.get? T=some o) (D:∀o,s.heap.get? x=some o->∃vs,h'.get? x=some { o with data:=.fields vs }) (O:Fl H s0.heap.objs.size x h') :
  RX P w base fs env outer H0 s0 x C d H { s with heap:=h' }:=by
 obtain⟨Q,V,L,E,F,G⟩:∃o vs,s.heap.get? x=some o/\o.cls = .ref C/\o.dict=d/\o.data = .fields vs:=(r.hok x _ r.hx).1;obtain⟨R,l⟩:=D Q L;have S:∀b,b∈NW (env::outer)->b≠x:=λb g z=>by
  have:=r.frf b g;rw[z,r.hx]at this;cases this
 have U:∀b,b∈NW (env::outer)->b∉TT:=λb g z=>by
  obtain⟨_,o,I,i⟩:=r.funs.mem g;obtain⟨_,_,m,ts,h,j⟩:=tt b z;rw[I]at h;cases h;exact i ts j
 have p:∀b o,s0.heap.get? b=some o->b≠x/\b∉TT:=λb o e=>⟨λz=>absurd (AG e) (by rw[z];exact Nat.not_lt.mpr r.nx),λz=>absurd (AG e) (Nat.not_lt.mpr (tt b z).2.1)⟩;have k:∀b o,s.heap.get? b=some o->∃m,h'.get? b=some m:=λb o e=>by
  by_cases t:b=x
  .rw[t];exact⟨_,l⟩
  by_cases v:b∈TT
  .exact N b v
  by_cases y:b∈NW (env::outer)
  .obtain⟨B,q⟩:=f b o y e;exact⟨_,q⟩
  .exact⟨_,a b o t v y e⟩
 have RZ:∀b u,H b=some u->b≠x->∀o,s.heap.get? b=some o->h'.get? b=some o:=λb u e c o I =>
  a b o c (λz=>by rw[(tt b z).1]at e;cases e) (λz=>by rw[r.frf b z]at e;cases e) I
 refine⟨r.os,r.bare,⟨λb o e n g A=>?_,λb o e n g A=>?_,r.un.free,λb o e A=>?_,r.un.tups,r.un.frzs,r.un.tbls⟩,λb u e=>?_,r.bsz,λb o e=>?_,?_,r.frf,r.loc,r.old,r.sub,r.hx,r.nx,O⟩
 .exact a b o (p b o e).1 (p b o e).2 (r.old b o e g) (r.un.keep b o e n g A)
 .obtain⟨B,q⟩:=r.un.slot b o e n g A;obtain⟨J,K⟩:=f b _ (r.sub b g) q;exact⟨J,K⟩
 .obtain⟨m,q⟩:=r.un.there b o e A;exact k b m q
 .by_cases c:b=x
  .subst c;rw[r.hx]at e;cases e;exact XO.ok l E F rfl
  .refine(r.hok b u e).stay (λM o g q=>?_) (λ_ q=>q) λ_ _ q=>q;rcases g with z | z
   .subst z;exact RZ M u e c o q
   .refine RZ M _ z (λK=>?_) o q;rw[K,r.hx]at z;cases z
 .refine⟨a b o (λz=>?_) (λz=>?_) (λz=>?_) (r.bs b o e).1,(r.bs b o e).2⟩
  .have:=(r.bs b o e).2;rw[z,r.hx]at this;cases this
  .exact absurd (AG e) (Nat.not_lt.mpr (VE r.bsz (tt b z).2.1))
  .have:=(r.funs.mem z).1;rw[e]at this;cases this
 .refine r.funs.of_keeps λb o e i=>?_;by_cases t:b=x
  .subst t;rw[L]at e;cases e;exact absurd G (i _)
  by_cases v:b∈TT
  .obtain⟨_,_,m,ts,h,j⟩:=tt b v;rw[e]at h;cases h;exact absurd j (i _)
  by_cases y:b∈NW (env::outer)
  .obtain⟨B,q⟩:=f b o y e;exact⟨_,q,rfl⟩
  .exact⟨o,a b o t v y e,rfl⟩
def Tb(H:Hp)(n:Nat)(x:A3)(h:H_):Prop :=
 ∃o a T b ts,h.get? x=some o/\o.data = .fields a/\a[1]?=some (.ref T)/\T≠x/\n<=T/\H T=none/\h.get? T=some b/\b.data = .fields ts/\3<ts.size
theorem Tb.fl{H:Hp}{n:Nat}{x:A3}{h:H_}(t:Tb H n x h):Fl H n x h:=by
 obtain⟨o,b,T,c,ts,e,d,a,r⟩:=t;exact⟨o,b,e,d,(CU.mp a).1,.inr ⟨T,c,ts,a,r⟩⟩
theorem zHs{o:Obj}{vs:HU A2}(f:HU A2->HU A2)(e:o.data = .fields vs):Obj.mapFields f o ={ o with data:=.fields (f vs) }:=by
 obtain⟨a,b,c,d⟩:=o;have e:c = .fields vs:=e;subst e;rfl
section
variable{M:Model}{A:IA}{E:A2->A4->Prop}{Q:Unit->A4->Prop}
theorem RX.entry(r:RX P w base fs env outer H0 s0 x C d H s)(n:A.frames=some (env::outer)){L:A3}(B:env.frame=some L){e:A2}{f:Bool}
  (h:∀h',RX P w base fs env outer H0 s0 x C d H { s with heap:=h' }->Tb H s0.heap.objs.size x h'->Q () { s with heap:=h' }) :
  wpAny M A (do let a <-frameOf env;let pl <-entryPlaceOf L f;let b <-EntryCells.newEntry e a .none (rawInt L) .none pl;setField (.ref x) 1 b) Q E s:=by
 obtain⟨o,J,c,p,g,_⟩:=id r.fl;have i:∀b,b∈NW (env::outer)->b≠x:=λb j z=>by
  have:=r.frf b j;rw[z,r.hx]at this;cases this
 refine AA (wpAny_frameOf_fun n r.funs B λq0 m₁=>?_);refine AA (wpAny_entryPlaceOf λpl t=>?_);unfold EntryCells.newEntry newFields;refine AA (BV ?_ (t.sizeOk5 _ _ _ _ _));have r3:q0.get? x=some o:=(m₁.2.1 x λD=>i x D rfl).trans c;have k:3 <([e,Value.ref L,.none,rawInt L,.none] ++(if pl.isEmpty then List.replicate 6 Value.none else pl)).toArray.size:=by
  simp only[AQ,AV,BQ,List.length_nil];lia
 generalize ([e,Value.ref L,.none,rawInt L,.none] ++(if pl.isEmpty then List.replicate 6 Value.none else pl)).toArray=ts at k;have c₂:=AC (h:=q0) { cls:=.type "traceback",dict:=none,data:=.fields ts } r3;have l:q0.objs.size≠x:=GR (AG r3);have F₃:=(BH (q0.push { cls:=.type "traceback",dict:=none,data:=.fields ts }) (Obj.mapFields (·.setIfInBounds 1 (Value.ref q0.objs.size))) (Ne.symm l)).trans (AW q0 rfl);have c₃:=BZ (Obj.mapFields (·.setIfInBounds 1 (Value.ref q0.objs.size))) c₂ (Obj.isFreed_of_fields (Obj.data_mapFields p _));rw[zHs _ p]at c₃;have y:Tb H s0.heap.objs.size x ((q0.push { cls:=.type "traceback",dict:=none,data:=.fields ts }).update x (Obj.mapFields (·.setIfInBounds 1 (Value.ref q0.objs.size)))) :=
  ⟨_,_,q0.objs.size,_,ts,c₃,rfl,by simp[g],l,VE r.nx (DR (AG r3)),r.hok.fresh (by rw[m₁.1];exact VD _),F₃,rfl,k⟩
 refine EB c₂ p g (h _ (r.chg (TT:=[]) (λ_ z=>nomatch z) (λb u j _ v q=>?_) (λb u j q=>?_) (λ_ z=>nomatch z) (λu q=>?_) y.fl) y)
 .rw[BH _ _ (Ne.symm j)];exact AC _ ((m₁.2.1 b v).trans q)
 .obtain⟨G,I⟩:=m₁.2.2 b u q;refine⟨G,?_⟩;rw[BH _ _ (Ne.symm (i b j))];exact AC _ I
 .rw[c]at q;cases q;exact⟨_,c₃⟩
theorem RX.setT(r:RX P w base fs env outer H0 s0 x C d H s){o k:Obj}{vs ts:HU A2}{T:A3}{v:A2}(l:s.heap.get? x=some o)(m:o.data = .fields vs)(h1:vs[1]?=some (.ref T))(n:T≠x)(p:s0.heap.objs.size<=T)(t:H T=none)(e:s.heap.get? T=some k)(a:k.data = .fields ts)(u:3<ts.size)
  (h:∀h',RX P w base fs env outer H0 s0 x C d H { s with heap:=h' }->Tb H s0.heap.objs.size x h'->Q () { s with heap:=h' }):wpAny M A (setField (.ref T) 3 v) Q E s:=by
 have c:=(BH s.heap (Obj.mapFields (·.setIfInBounds 3 v)) n).trans l;have f:=BZ (Obj.mapFields (·.setIfInBounds 3 v)) e (Obj.isFreed_of_fields (Obj.data_mapFields a _));have y:Tb H s0.heap.objs.size x (s.heap.update T (Obj.mapFields (·.setIfInBounds 3 v))):=⟨o,vs,T,_,_,c,m,h1,n,p,t,f,Obj.data_mapFields a _,by simpa using u⟩;refine EB e a u (h _ (r.chg (TT:=[T]) (λb z=>?_) (λb g B i _ q=>?_) (λb g B q=>?_) (λb z=>?_) (λg q=>?_) y.fl) y)
 .rw[AE.mp z];exact⟨t,p,_,_,e,a⟩
 .rw[BH _ _ (λz=>i (by rw[z];exact AE.mpr rfl))];exact q
 .refine⟨g.slots,?_⟩;rw[BH _ _ (λz=>by
   obtain⟨_,F,D,j⟩:=r.funs.mem B;rw[<-z,e]at D;cases D;exact j _ a)]
  exact q
 .rw[AE.mp z];exact⟨_,f⟩
 .rw[l]at q;cases q;exact⟨vs,by rw[c,<-m]⟩
theorem RX.note(r:RX P w base fs env outer H0 s0 x C d H s)(b:A.frames=some (env::outer))
  (h:∀h',RX P w base fs env outer H0 s0 x C d H { s with heap:=h' }->Tb H s0.heap.objs.size x h'->Q () { s with heap:=h' }):wpAny M A (noteFrame (.ref x) env) Q E s:=by
 obtain⟨L,j⟩:=r.loc;obtain⟨o,p,g,i,q,c⟩:=id r.fl;unfold noteFrame;simp only[j];rcases c with f | ⟨T,t,ts,f,l,m,n,e,a,k⟩
 .refine AA (CC g i f ?_);rw[AI (by decide)];exact r.entry b j h
 .refine AA (CC g i f ?_);rw[AN (show(Value.ref T != Value.none)=true from by simp)];refine AA (CC e a (EG k) ?_);split
  .exact AD (h s.heap r ⟨o,p,T,t,ts,g,i,f,l,m,n,e,a,k⟩)
  .refine AA (r.setT g i f l m n e a k λh' u _=>?_);exact u.entry b j h
theorem RX.flight(r:RX P w base fs env outer H0 s0 x C d H s){i:A5 A3}
  (h:∀h',RX P w base fs env outer H0 s0 x C d H { s with heap:=h' }->(Tb H s0.heap.objs.size x s.heap->Tb H s0.heap.objs.size x h')->Q () { s with heap:=h' }):wpAny M A (setFlight (.ref x) i) Q E s:=by
 obtain⟨o,t,b,f,j,c⟩:=id r.fl;unfold setFlight;rcases c with a | ⟨T,u,ts,a,k,l,m,e,g,n⟩
 .refine AA (CC b f a ?_);rw[AI (by decide)];exact AD (h s.heap r id)
 .refine AA (CC b f a ?_);rw[AN (show(Value.ref T != Value.none)=true from by simp)];exact r.setT b f a k l m e g n λh' p q=>h h' p λ_=>q
end
end
def RT(P:HV)(w:HX):QT:=λa H s E e b =>
 ∃x C d c,e = .ref x/\b.os=s.os/\AllBare b.gens/\Un (NW a) [] H c s.heap b.heap/\MU P w c b.heap/\c x=some (XO x C d)/\s.heap.objs.size<=x/\Tb c s.heap.objs.size x b.heap/\E (.ref C) d c
structure XC(K:VA)(C:A3)(bm:A0 A2):Prop where
 obj:∃nm q N bs hdct sn sub ab col dd k0 k1 k2 k3 k5,K.lookup C=some (excClassObj nm q C N bs bm hdct sn sub ab col dd k0 k1 k2 k3 k5 "ValueError.__new__")
 tail:PySem.W.tailIn K [.type "ValueError",.type "Exception",.type "BaseException",.type "object"] bm=true
 kp:PySem.W.keepIn K (.ref C)=true
 sa:PySem.W.findIn K (.ref C) "__setattr__" = some (some (.builtin "object.__setattr__"))
 hd:PySem.W.hasDictIn K C=true
def XC.base{K:VA}{C:A3}{a:A0 A2}(c:XC K C a){h:H_}(X:K.In h):a.contains (.type "BaseException")=true:=(PySem.W.tail_of_in X c.tail).hasType rfl
def PEx(X:Cx)(e:IC)(t:XK->TE):Prop:=∀(a:A0 (A3×Obj)) (s:A4) (σ:St) (H:Hp) (Q:VK) (E:XK),Inv X a σ H s->t E σ H Q ->
 wpAny (model X.prog X.w) X.A (eval e X.env) (EP X a σ Q) (λd f=>∃b c,Inv X a σ c b/\RT X.prog X.w X.stack c b E d f) s
section
variable{X:Cx}{pins:A0 (A3×Obj)}{σ:St}{H:Hp}{s:A4}
theorem n6{M:Model}{A:IA}{E:A2->A4->Prop}{i:Nat}{x:Str}{B:Pos}{Q:Unit->A4->Prop}(I:Inv X pins σ H s)(P:X.N.Nodup)(hi:X.N[i]?=some x)(f:X.env.scope.names.lookup x=some .local)
  (h:∀G,Inv X pins (σ.set i none) H G->Q () G):wpAny M A (do bindName X.env x .none;unbindBehindTheSuite X.env x B) Q E s:=by
 obtain⟨m,J,R⟩:=id I.loc;have t:(X.env.scope.kind == .class||(X.env.scope.kind == .module&&X.env.locals != X.env.globals))=false:=by rw[I.ok.kind];rfl
 have u:=I.cne;refine wpAny_nameGoes_keeps f J t λS v C g=>?_;obtain⟨oL,_,_,T,_⟩:=id J;have D:∀b o,X.s₀.heap.get? b=some o->b≠X.env.locals:=λb o e=>BA (BI (AG e) I.ok.above);have a:MU X.prog X.w H S:=λb U e=>by
  refine(I.hok b U e).stay (λc K hc q=>(g.2 c ?_).trans q) (λ_ q=>q) λ_ _ q=>q;rintro rfl;rcases hc with rfl | hc
  .rw[I.free]at e;cases e
  .rw[I.free]at hc;cases hc
 refine h _ ⟨I.ok,I.os,I.bare,⟨λb o e n F f=>?_,λb o e n F f=>?_,I.base.free,λb o e f=>?_,I.base.tups,I.base.frzs,I.base.tbls⟩,⟨_,C,λj y V l r W=>?_⟩,λy c e=>?_,I.free,I.freeC,λp Y=>?_,a,by simpa using I.len⟩
 .exact(g.2 b (D b o e)).trans (I.base.keep b o e n F f)
 .obtain⟨Z,l⟩:=I.base.slot b o e n F f;exact⟨Z,(g.2 b (D b o e)).trans l⟩
 .obtain⟨o',l⟩:=I.base.there b o e f;exact⟨o',(g.2 b (D b o e)).trans l⟩
 .have L:j≠i:=λz=>by
   rw[z,List.getElem?_set]at r;split at r
   .split at r<;>cases r
   .rename_i q;exact q rfl
  rw[GP (Ne.symm L)]at r;obtain⟨u',r',q⟩:=R j y V l r W;refine⟨u',r',?_⟩;rcases q with⟨k,e⟩ | ⟨k,c,e,z⟩
  .refine .inl ⟨k,?_⟩;have:y≠x:=λe=>L (Fm P l (e▸hi));simp[this,e]
  .exact .inr ⟨k,c,e,z.sameBut g (u y c e)⟩
 .obtain⟨K,z⟩:=I.cell y c e;exact⟨K,z.sameBut g (u y c e)⟩
 .obtain⟨e,n,O,nf,d⟩:=I.pin p Y;exact⟨(g.2 p.1 O).trans e,n,O,nf,d⟩
end
section
variable{M:Model}{A:IA}{E:A2->A4->Prop}{h:H_}{g:HU GenState}{dn:Drawn}{tk:Nat}{os:OsState}
variable{nm q nm' q':Str}{C N S N':A3}{bs bm bs' bm':A0 A2}{hdct hdct':Bool}{sn sn':A0 Str}{sub sub':A0 A2}{ab ab':Bool}{col col':A5 Bool}{dd dd':A5 A3}{k0 k1 k2 k3 k5 j0 j1 j2 j3 j5:A5 A2}{newId newId':String}
theorem zHd{e:A3}{c:Obj}{Q:Bool->A4->Prop}(d:h.get? C=some (excClassObj nm q C N bs bm hdct sn sub ab col dd k0 k1 k2 k3 k5 newId))(i:h.get? S=some (excClassObj nm' q' S N' bs' bm' hdct' sn' sub' ab' col' dd' j0 j1 j2 j3 j5 newId'))(j:h.get? e=some c)(a:c.cls = .ref C)
  (k:bm'.contains (.type "BaseException")=true) (l:(Value.ref C::bm).contains (.ref S)=true) (m:Q true ⟨h,g,dn,tk,os⟩):wpAny M A (excMatches (.ref e) (.ref S)) Q E ⟨h,g,dn,tk,os⟩:=by
 have b:(Value.ref S::bm').contains (.type "BaseException")=true:=by rw[List.contains_cons,k,Bool.or_true]
 have f:=tc_notTuple;unfold excMatches
 repeat (first | (with_reducible refine wpAny_loadPart_at j ?_;rw[a]) | with_reducible refine wpAny_loadPart_at i ?_ | with_reducible refine wpAny_loadPart_at d ?_ | (with_reducible refine wpAny_isSubtype_exc i ?_;rw[b]) | (with_reducible refine wpAny_isSubtype_exc d ?_;rw[l]) | wp_step)
 exact m
end
abbrev Xm(X:Cx)(a:A2):Cx:={ X with A:=X.A.mark (some a),calm:=false }
section
variable{X:Cx}{pins:A0 (A3×Obj)}{σ:St}{H:Hp}{s:A4}{ev:A2}
theorem Inv.mark(I:Inv X pins σ H s)(ev:A2):Inv (Xm X ev) pins σ H s :=
 ⟨⟨I.ok.mod,I.ok.kind,I.ok.glob,I.ok.blt,I.ok.above,I.ok.inj,I.ok.has,I.ok.cab,λz=>absurd z (by simp),I.ok.frames,I.ok.stk,I.ok.exf,I.ok.bs,I.ok.bsz,I.ok.noex,I.ok.exfs,I.ok.funs,I.ok.frf⟩,I.os,I.bare,I.base,I.loc,I.cell,I.free,I.freeC,I.pin,I.hok,I.len⟩
theorem Inv.unmark(a:X.Ok)(I:Inv (Xm X ev) pins σ H s):Inv X pins σ H s:=⟨a,I.os,I.bare,I.base,I.loc,I.cell,I.free,I.freeC,I.pin,I.hok,I.len⟩
end
def Dh(i:Nat)(D:Ends):Ends:={ nx:=λσ H=>D.nx (σ.set i none) H,rt:=D.rt,bk:=λσ H=>D.bk (σ.set i none) H,ct:=λσ H=>D.ct (σ.set i none) H }
structure XG(K:VA)(C:A3):Prop where
 ga:PySem.W.findIn K (.ref C) "__getattribute__" = some (some (.builtin "BaseException.__getattribute__"))
 gn:PySem.W.findIn K (.ref C) "__getattr__" = some none
 mb:PySem.W.mroIn K C (.type "BaseException")=some true
 hd:PySem.W.hasDictIn K C=true
def M_{K:VA}{e q:Str}{C N:A3}{bs b:A0 A2}{a:Bool}{f:A0 Str}{sub:A0 A2}{g:Bool}{c:A5 Bool}{h:A5 A3}{i j m n o:A5 A2}
  (l:K.lookup C=some (excClassObj e q C N bs b a f sub g c h i j m n o "ValueError.__new__")) (t:PySem.W.tailIn K [.type "ValueError",.type "Exception",.type "BaseException",.type "object"] b=true) (k:PySem.W.keepIn K (.ref C)=true)
  (s:PySem.W.findIn K (.ref C) "__setattr__" = some (some (.builtin "object.__setattr__"))) (d:PySem.W.hasDictIn K C=true):XC K C b:=⟨⟨_,_,_,_,_,_,_,_,_,_,_,_,_,_,_,l⟩,t,k,s,d⟩
section
variable{X:Cx}{k:Nat}{f C:A3}{fd:IT}{ps:A0 Str}{sp:Sp}{x m:Str}{p pos apos:Pos}{e o:IC}{es:A0 IC}{ta:TE}{t:TA}
theorem Ys{a:A0 (A3×Obj)}{σ:St}{H:Hp}{s:A4}{Q:VK}{E:XK}{us:A0 A2}{vs:A0 V}(F:IJ X.prog X.w X.K X.mg X.base (RT X.prog X.w) k f fd ps sp)(j:JT k X.A)(l:Binds X.K fd ps [])
  (I:Inv X a σ H s) (r:IH vs us) (h:sp vs H Q E):wpAny (model X.prog X.w) X.A (call (.ref f) us) (EP X a σ Q) (λm c=>∃d g,Inv X a σ g d/\RT X.prog X.w X.stack g d E m c) s:=by
 have n:us.length=ps.length:=by rw[<-r.length];exact F.len _ _ _ _ h
 have i:=l s us I.kIn (by rw[BW];exact n);rw[BW]at i;refine wpAny_call (FK (F.run X.A X.stack s H ⟨us,[]⟩ us vs Q E j I.env0 i r h) λr c b=>?_);cases r with
 | error e=>exact⟨_,_,I,b⟩
 | ok o =>
  cases o with
  | ret u=>exact I.after b
  | next=>exact VB b
  | brk=>exact VB b
  | cont=>exact VB b
theorem Bb{pl:Sem Bool}(d:∀e s,¬X.xe e s)(y:PE X o ta)(c:QP X.K C)(j:QG X.K C m f)(F:IJ X.prog X.w X.K X.mg X.base (RT X.prog X.w) k f fd ps sp)(B:JT k X.A)(D:Binds X.K fd ps [])(G:PA X (e::es) t)
  (g:starEach (e::es) X.env =(false,eval e X.env)::starEach es X.env:=by rfl) (i:(backTo pos (starEach es X.env)).any (·.1)=false:=by rfl)
  (J:eval (.Call (.Attribute o m apos) (e::es) [] pos) X.env =(do
   let n <-eval o X.env
   standAt apos.atName
   let(f,first) <-holding [n] (getMethod n m pl)
   callWith pos f first (backTo pos (starEach (e::es) X.env)) (backToKw pos (keywordEach [] X.env))):=by rfl) :
  PEx X (.Call (.Attribute o m apos) (e::es) [] pos) (λE=>Ye C m sp [] E ta t):=by
 intro b s σ H Q E I h;refine PySem.W.methodCall_KW (pl:=pl) (B_ (y b s σ H _ I h) (λu L ⟨x,M,p,N,a,S,T,O,P,l,q⟩=>?_) λ_ _ z=>(d _ _ z).elim) J;subst O;obtain rfl:u=Value.ref a:=N;refine y3 p P c j l ?_;refine PySem.W.callWith_K (first:=[.ref a]) (h₀:=X.base) I.ok.mod.kin j.kp (B_ (G pos b L σ M _ p q) (λus U ⟨vs,Y,v,r,R⟩=>⟨v.kIn,?_⟩) λ_ _ z=>(d _ _ z).elim) g i;refine Ys (us:=.ref a::us) (vs:=.ref a::vs) F B D v (.cons rfl r) ?_;rw[<-BW (V.ref a::vs)];exact R
end
def TN(X:Cx)(st:A0 IL)(t:XK->TS):Prop:=∀(a:A0 (A3×Obj)) (s:A4) (σ:St) (H:Hp) (D:Ends) (E:XK),Inv X a σ H s->t E D σ H ->
 wpAny (model X.prog X.w) X.A (execs st X.env) (SP X a D) (λd e=>∃b c,Inv X a σ c b/\RT X.prog X.w X.stack c b E d e) s
section
variable{X:Cx}{c e:IC}{pos p1:Pos}{a b:A0 IL}
theorem Qe{k:TT}{t u:XK->TS}(j:∀e s,¬X.xe e s)(p:PT X c k)(q:TN X a t)(r:TN X b u):TN X [.If c a b pos] (λE=>zGx k (t E) (u E)):=by
 intro f s σ H D E I h;refine HN (wpAny_If (B_ (p f s σ H _ I h) (λd l ⟨m,n,o⟩=>?_) λ_ _ z=>(j _ _ z).elim));have v:∀g i,SP X f D g i->_:=λg i z=>z;cases d with
 | true =>
  refine B_ (q f l σ m D E n o) (λg w z=>?_) λx i z=>?_
  .cases g with
   | next=>exact EV z
   | brk=>exact z
   | cont=>exact z
   | ret u=>exact z
  .exact z
 | false =>
  refine B_ (r f l σ m D E n o) (λg w z=>?_) λx i z=>?_
  .cases g with
   | next=>exact EV z
   | brk=>exact z
   | cont=>exact z
   | ret u=>exact z
  .exact z
end
def zEx(K:VA)(S:A3)(i:Nat)(t:XK->TS)(c:TS):TS:=λD σ H =>
 t (λe d a=>∃C b,e = .ref C/\XC K C b/\(Value.ref C::b).contains (.ref S)=true/\∀x,a x=some (XO x C d)->c (Dh i D) (σ.set i (some (.ref x))) a) D σ H
def zAg{X:Cx}{S:A3}{T:A0 A2}{i:Nat}{n c:Str}{cp hp U:Pos}{b₀:IL}{P j:A0 IL}{t:XK->TS}{th:TS}(V:∀e s,¬X.xe e s)(st:X.stack=X.env::X.outer)(fr:X.env.frame=some X.env.locals)(E:X.N.Nodup)(hi:X.N[i]?=some n)(a:X.env.scope.names.lookup n=some .local)
  (hg:Gl X c) (hm:X.mg c=some (.ref S)) (cS:XC X.K S T) (he:TN X P t) (hh:∀ev,QE (Xm X ev) (b₀::j) th) (W:(c ==("__debug__":Str))=false:=by decide) :
  PS X (.Try P [.ExceptHandler (some (.Name c cp)) (some n) (b₀::j) hp] [] [] U) (zEx X.K S i t th):=by
 intro g s σ H D I h;refine wpAny_Try_except ?_;refine B_ (he g s σ H _ _ I h) (λfl s1 z=>?_) λev s' z=>?_
 .cases fl with
  | next=>exact EV z
  | brk=>exact z
  | cont=>exact z
  | ret u=>exact z
 obtain⟨s1,H1,F,x,C,d,G,rfl,os,k,un,J,hx,nx,P,C',bm,ec,cC,L,q⟩:=z;cases ec;have Y:Inv X g σ G s':=F.call' os un J k (λb z=>absurd z (by simp));have r:RX X.prog X.w X.base X.stack X.env X.outer H1 s1 x C d G s':=⟨os,k,un,J,VE F.ok.bsz F.sz,Y.bs,by have:=Y.stack;rw[st]at this;exact this,by have:=Y.stkFree;rw[st]at this;exact this,⟨_,fr⟩,λb o _ M=>by rw[st]at M;exact M,λb M=>by rw[st]at M;exact M,hx,nx,P.fl⟩;have Z:X.A.frames=some (X.env::X.outer):=by rw[I.ok.frames,st]
 refine r.note Z λh' r' t'=>r'.flight λh2 l _=>?_;have Q:Inv X g σ G { s' with heap:=h2 }:=F.call' l.os l.un l.hok l.bare (λb z=>absurd z (by simp));refine wpAny_handleBy_cons (codeAny_handlers_test ?_) (by intro q;cases q);refine Fj (Q.mark (.ref x)) hg hm ?_ W;obtain⟨nm,q1,N,bs,hdct,sn,sub,ab,col,dd,k0,k1,k2,k3,k5,O⟩:=cC.obj;obtain⟨nm',q1',N',bs',hdct',sn',sub',ab',col',dd',j0,j1,j2,j3,j5,m⟩:=cS.obj;obtain⟨ox,vx,ex,hcx,_⟩:∃o vs,h2.get? x=some o/\o.cls = .ref C/\o.dict=d/\o.data = .fields vs:=(l.hok x _ l.hx).1;refine zHd (Q.kIn _ _ O) (Q.kIn _ _ m) ex hcx (cS.base Q.kIn) L ?_;refine codeAny_handlers_suite_as (l.flight λh4 R _=>?_);have I4:Inv X g σ G { s' with heap:=h4 }:=F.call' R.os R.un R.hok R.bare (λb z=>absurd z (by simp));refine U9 I4 E hi (.inl a) (v:=.ref x) rfl (λs5 I5=>?_) (.inr a);refine B_ (hh (.ref x) g s5 _ G (Dh i D) (I5.mark _) (q x hx)) (λf s6 z=>?_) λ_ _ z=>(V _ _ z).elim;cases f with
 | next =>
  obtain⟨σ',H6,p,y⟩:=z;exact n6 (p.unmark I.ok) E hi a λs7 B=>⟨_,_,B,y⟩
 | brk =>
  obtain⟨σ',H6,p,y⟩:=z;exact n6 (p.unmark I.ok) E hi a λs7 B=>⟨_,_,B,y⟩
 | cont =>
  obtain⟨σ',H6,p,y⟩:=z;exact n6 (p.unmark I.ok) E hi a λs7 B=>⟨_,_,B,y⟩
 | ret u =>
  obtain⟨v,σ',H6,p,r6,y⟩:=z;exact n6 (p.unmark I.ok) E hi a λs7 B=>⟨v,_,_,B,r6,y⟩
def KV.atV{kvs:A0 (IQ×V)}{vs:A0 (IQ×A2)}(h:KV kvs vs):∀{i:Nat} {k:IQ} {v:V},kvs[i]?=some (k,v)->∃u,vs[i]?=some (k,u)/\RelV v u:=by
 induction h with
 | nil=>intro i k v e;rw[List.getElem?_nil]at e;cases e
 | cons r _ c =>
  intro i k v e;cases i with
  | zero =>
   rw[List.getElem?_cons_zero]at e⊢;cases e;obtain⟨a,b⟩:=r;exact⟨_,by rw[show k=_ from a],b⟩
  | succ i=>exact c e
section
variable{X:Cx}{i:Nat}{x:Str}{e:IC}{pos pos':Pos}
theorem Ek{t:XK->TE}(b:X.N.Nodup)(hi:X.N[i]?=some x)(c:Loc X.env.scope x)(d:PEx X e t)(f:swapsWith e (some (.Name x pos')) pos.line X.env=pure false:=by rfl)(g:X.fn x=true\/X.env.scope.names.lookup x=some .local:=by first | exact .inl rfl | exact .inr rfl | assumption) :
  TN X [.Assign [.Name x pos'] e pos] (λE=>SU (t E) (O0 i)):=by
 intro a s σ H D E I h;refine HN (wpAny_Assign_Name (B_ (d a s σ H _ E I h) (λv o ⟨y,j,k,l,m⟩=>?_) λ_ _ z=>z) f);exact U9 k b hi c l (λp n=>EV ⟨_,j,n,m⟩) g
end
end L2
namespace TS
open PySem
section
variable{prog:HV}{w:HX}{K:Type}[DecidableEq K]{knd:KeyKind prog w K}{A:IA}{E:A2->A4->Prop}{s:A4}
theorem Rc{d:A3}{kvs:A0 (K×A2)}{Q:Bool->A4->Prop}(e:s.heap.DictOf knd d kvs)(h:Q false s):wpAny (model prog w) A (Builtin.List.listLengthHint (.ref d)) Q E s:=by
 unfold Builtin.List.listLengthHint;refine AA (GC e.typeIs F.slot_dict_len.lookup ?_);generalize c:("dict.__len__":String)=f;wp_delta;rw[show splitId f=some ("dict", "__len__")from by subst c;decide +kernel];subst c;refine AA (FP (T := "dict") (b:=true) e.typeIs (by rw[isSubtype_type];kernel_rfl) ?_);refine wpAny_ite_split (λa=>absurd a (by decide)) (λ_=>?_);refine wpAny_ite_split (λ_=>?_) (λa=>absurd (by decide +kernel) a);refine AA (EY (T := "dict") e.typeIs ?_);exact AD h
def Zm(knd:KeyKind prog w K)(kvs:A0 (K×A2))(i:Nat)(v:A2):Prop:=∃k x,kvs[i]?=some (k,x)/\knd.is k v=true
theorem Jj{R:Result->A4->Prop}{d:A3}{kvs:A0 (K×A2)}{ep:Nat}(I:A.handled=none)(J:(d == sysModules)=false)(i:s.heap.DictAt knd d kvs ep)(D:kvs.length<=2^24)(S:A3)(res:A2)(c₀:Nat)(a:s.heap.get? S=some { cls:=.type "list",data:=.seq #[] c₀ })
  (L:∀h' u g n,(∀b o,b≠S->s.heap.get? b=some o->h'.get? b=some o)->h'.get? S=some { cls:=.type "list",dict:=none,data:=.seq g n,slots:=#[] } ->
   ItemsOf (Zm knd kvs) g kvs.length->R (.ok (.ret res)) { s with heap:=h',toks:=u }) :
  wpAny (model prog w) A.in1 (Builtin.List.listExtendWith (.ref S) (.ref d) res)
   (λfin l=>match fin with | .done f=>R (.ok f) l | .again n=>n.quiet=true/\codeAny (model prog w) A n R l) (λe l=>R (.error e) l) s:=by
 have E:=i.dictOf.typeIs;obtain⟨X,Y,v,M,_⟩:=id i;have j:S≠d:=λe=>by
  obtain⟨Z,G,N⟩:=E;rw[<-e,a]at G;cases G;exact absurd N (by intro z;injection z with z;revert z;decide)
 have x:d<s.heap.objs.size:=AG v;have p:S<s.heap.objs.size:=AG a;have m:S≠s.heap.objs.size:=BA p;have y:S∉[s.heap.objs.size,d]:=λi=>by
  rcases AR.mp i with e | e
  .exact m e
  .exact j (AE.mp e)
 have W:=(Walks.dictKeys (prog:=prog) (w:=w) (A:=A.in1) (knd:=knd) I s.heap.objs.size d (BA x) kvs ep).toS;have q:∀(h:H_) (r3 u:Nat),(h.IsKeyIter s.heap.objs.size d 0 kvs.length ep/\h.DictAt knd d kvs ep)->(∀b o,b≠S->s.heap.get? b=some o->h.get? b=some o) ->
   h.get? S=some { cls:=.type "list",data:=.seq #[] r3 }->codeAny (model prog w) A (.builtin "list.extend.loop" ⟨[.ref S,.ref s.heap.objs.size,res],[]⟩) R { s with heap:=h,toks:=u }:=by
  intro h r3 u k O a₁;refine codeAny_extend_loopS W (by rw[sizeLine_eq];lia) S y res kvs.length 0 _ #[] r3 rfl (CB _) k a₁ (ItemsOf.nil _) λl g n i B r=>?_;rw[Moved.eq_with i];refine L l.heap l.toks g n (λb o t e=>i.heap b o (λhmem=>?_) (O b o t e)) B r;rcases AR.mp hmem with P | hmem
  .exact t P
  .exact absurd (AG e) (by rw[AE.mp hmem];exact C_ _)
 unfold Builtin.List.listExtendWith;refine AA (EY (T := "dict") E ?_);have Q:Builtin.List.listSameRef (.ref S) (.ref d)=false:=by simp[Builtin.List.listSameRef,j]
 have U:(Value.type "dict" == Value.type "list")=false:=by decide
 have V:(Value.type "dict" == Value.type "tuple")=false:=by decide
 simp only[Q,U,V,Bool.or_false,BD,CO];refine AA (wpAny_pyIter_dict J i ?_);have C:∀H,(s.heap.push H).DictAt knd d kvs ep:=λH=>i.at' λo e=>AC _ e;refine AA (BP (Rc (knd:=knd) (kvs:=kvs) (C _).dictOf ?_));have k₁:(s.heap.push { cls:=.type "dict_keyiterator",data:=.fields #[.ref d,.int 0 0,.int kvs.length 0,.int ep 0] }).IsKeyIter s.heap.objs.size d 0 kvs.length ep:=⟨_,AW _ rfl,rfl,rfl⟩;have a₁:=AC { cls:=.type "dict_keyiterator",data:=.fields #[.ref d,.int 0 0,.int kvs.length 0,.int ep 0] } a;refine wpAny_ite_split (λ_=>?_) (λ_=>AD ⟨plainId_quiet F.plain_extend_loop _,q _ c₀ _ ⟨k₁,C _⟩ (λb o _ e=>AC _ e) a₁⟩);refine AA (DF ?_);refine AA ?_;show wpAny _ _ (updateSeq S (·.push .none) >>= λ_=>updateSeq S (·.pop)) _ _ _;refine AA (wpAny_updateSeq a₁ rfl ?_);have a₂:=BZ (Obj.mapSeq (·.push Value.none)) a₁ rfl;refine wpAny_updateSeq (hz:=by seq_fits) a₂ rfl ?_;have a₃:=BZ (Obj.mapSeq (·.pop)) a₂ rfl;refine AD ⟨plainId_quiet F.plain_extend_loop _,q _ _ _ ⟨k₁.at λo e=>?_,(C { cls:=.type "dict_keyiterator",data:=.fields #[.ref d,.int 0 0,.int kvs.length 0,.int ep 0] }).at' λo e=>?_⟩ (λb o t e=>?_) a₃⟩
 .exact(BH _ _ m).trans ((BH _ _ m).trans e)
 .exact(BH _ _ j).trans ((BH _ _ j).trans e)
 .exact(BH _ _ (Ne.symm t)).trans ((BH _ _ (Ne.symm t)).trans (AC _ e))
end
end TS
namespace L2
open PySem PySem.Spec PyProof.Rows
section
variable{X:Cx}
theorem Dm:∀{ss:A0 Str} {us:A0 A2},us.length=ss.length->(∀(i:Nat) (v:A2),us[i]?=some v->∃x t,ss[i]?=some x/\v = .str x t)->IH (ss.map V.str) us
 | [],[],_,_=>.nil
 | [],_::_,h,_=>by cases h
 | _::_,[],h,_=>by cases h
 | y::ss,u::us,h,a=>by
  obtain⟨x,t,e,rfl⟩:=a 0 u rfl;cases e;exact .cons ⟨t,rfl⟩ (Dm (by simpa using h) λi v b=>a (i+1) v b)
end
section
variable{P:HV}{w:HX}{K:VA}{mg:Str->A5 A2}{base:H_}
theorem PM.o1{x a:Str}{st:IL}{f:A3}{g:IT}{N ps:A0 Str}{k:Nat}{sp:Sp}(F:PM K x a st f g)(S:IB N ps (B6 st))
  (b:∀(d:A2) (A:IA) (c:A0 QS) (s:A4) (H:Hp) (vs:A0 V) (Q:VK) (E:XK),JT k (A.deeper (envOfC a (B6 st) s.heap.objs.size f d))->sp vs H Q E ->
   ∃t,QE (Yj JQ P w K mg base N a (B6 st) f d A c s H E).nox (S3 st) t/\t { nx:=λ_ H'=>Q .non H',rt:=Q } (Fe N vs) H) (e:∀vs H Q E,sp vs H Q E->vs.length=ps.length:=by intro _ _ _ _ h;repeat first | (obtain⟨h,_⟩:=h;subst h;rfl) | (obtain⟨_,h⟩:=h)):IJ P w K mg base JQ (k+1) f g ps sp:=F.ok S e b
end
end L2
namespace TS
open PySem
section
variable{prog:HV}{w:HX}{K:Type}[DecidableEq K]{knd:KeyKind prog w K}{A:IA}{E:A2->A4->Prop}{s:A4}
theorem Po{R:Result->A4->Prop}{d:A3}{kvs:A0 (K×A2)}{ep:Nat}(e:A.handled=none)(f:(d == sysModules)=false)(g:s.heap.DictAt knd d kvs ep)(c:kvs.length<=2^24)(S:A3)(h:s.heap.get? S=some { cls:=.type "list",data:=.seq #[] })
  (i:∀h' j a k,(∀b o,b≠S->s.heap.get? b=some o->h'.get? b=some o)->h'.get? S=some { cls:=.type "list",dict:=none,data:=.seq a k,slots:=#[] } ->
   ItemsOf (Zm knd kvs) a kvs.length->R (.ok (.ret (.ref S))) { s with heap:=h',toks:=j }):codeAny (model prog w) A (.builtin "list.__iadd__" ⟨[.ref S,.ref d],[]⟩) R s:=by
 refine DH F.entry_list_iadd ?_;rw[Around.under_plainId F.plain_list_iadd _];show wpAny _ A.in1 (Builtin.List.listExtendWith (.ref S) (.ref d) (.ref S)) _ _ _;exact Jj (A:=A) e f g c S _ 0 h i
theorem PD{Q:A0 A2->A4->Prop}{d:A3}{kvs:A0 (K×A2)}{ep:Nat}(i:A.handled=none)(j:(d == sysModules)=false)(k:s.heap.DictAt knd d kvs ep)(c:kvs.length<=2^24)
  (m:∀h' h a,(∀b o,s.heap.get? b=some o->h'.get? b=some o)->s.heap.objs.size<h'.objs.size->ItemsOf (Zm knd kvs) a kvs.length->Q a.toList { s with heap:=h',toks:=h }):wpAny (model prog w) A (collect (.ref d)) Q E s:=by
 unfold collect;refine AA (wpAny_runValue (DH F.entry_proto_collect ?_));rw[Around.under_plainId F.plain_proto_collect _];show wpAny _ A.in1 (newList [] >>= λl=>again (.builtin "list.__iadd__" ⟨[l,.ref d],[]⟩)) _ _ s;refine AA (BV ?_);refine AD ⟨plainId_quiet F.plain_list_iadd _,Po (A:=A) (s:={ s with heap:=s.heap.push { cls:=.type "list",data:=.seq ([]:A0 A2).toArray } }) i j (k.at' λo e=>AC _ e) c s.heap.objs.size (AW _ rfl) λh' h a p n f g=>?_⟩;show wpAny _ A (load s.heap.objs.size >>= _) _ _ _;refine AA (wpAny_load f ?_);exact AD (m h' h a (λb o e=>n b o (BA (AG e)) (AC _ e)) (AG f) g)
end
end TS
namespace L2
open PySem PySem.Spec PyProof.Rows
section
variable{X:Cx}
theorem Wm(hc:X.calm=true:=by rfl):K0 X (.builtin "sorted") (λxs H Q=>∃(d:A3) (kvs:A0 (IQ×V)) (ss:A0 Str),xs = [.ref d]/\Rd H d (.dK kvs)/\(kvs.map λk=>k.1)=ss.map Sum.inr/\∀(l:A3) (n:A0 Str),H l=none->n.Perm ss->n.Pairwise NL->Q (.ref l) (HY H l (.lst (n.map V.str)))):=by
 intro pins s σ H xs c Q I r h;obtain⟨d,kvs,ss,rfl,E,hk,q⟩:=h;obtain⟨u,rfl,ru⟩:=X5 r;cases ru;obtain⟨o,p,j,f,r,g,ep,C,F,G,J⟩:∃o,kvs.length<=sizeLine/\(d == sysModules)=false/\∃f,KV kvs f/\∃g ep,s.heap.get? d=some o/\o.ExactDict/\o.data = .dict g ep/\(PySem.KeysOf (C5 X.prog X.w) g/\Pairs (C5 X.prog X.w) g.toList f/\(f.map (·.1)).Nodup):=by
  rcases E with E | ⟨o,E⟩
  .obtain⟨p,j,f,r,o,g,ep,C,F,G,J⟩:=(show IS X.prog X.w H s.heap d (.dK kvs)from I.hok d _ E);exact⟨o,p,j,f,r,g,ep,C,F,G,J⟩
  .obtain⟨C,p,j,f,r,o',g,ep,M,F,G,J⟩:=(show IS X.prog X.w H s.heap d (.frz o (.dK kvs))from I.hok d _ E);exact⟨o',p,j,f,r,g,ep,M,F,G,J⟩
 have hl:kvs.length=f.length:=r.length;have N:kvs.length=ss.length:=by have:=congrArg List.length hk;simpa using this
 refine TS.KP (TS.PD (A:=X.A.in1) (knd:=C5 X.prog X.w) (kvs:=f) (ep:=ep) (show X.A.in1.handled=none from I.ok.hd hc) j ⟨o,g,C,F,G,J⟩ (by rw[sizeLine_eq]at p;lia) λO tk z k1 g1 m=>?_);have hn:z.toList.length=ss.length:=by have:=m.1;rw[AU];lia
 have D:IH (ss.map V.str) z.toList:=Dm hn λi v D=>by
  obtain⟨k,x,e,kk⟩:=m.2 i v (by simpa using D);have P:i<kvs.length:=by rw[hl];exact(AJ.mp e).1
  have hx:kvs[i]?=some (kvs[i].1,kvs[i].2):=AF P;obtain⟨u,K,_⟩:=r.atV hx;rw[K]at e;cases e;have h2:=congrArg (λl=>l[i]?) hk;rw[AH,hx,AH,HD]at h2;obtain⟨x',R,ex⟩:=BF.mp h2.symm;rw[<-ex]at kk;rcases G7 (show Dc (.inr x') v=true from kk)with⟨i,t,S,e2⟩ | ⟨y,t,S,e2⟩
  .cases S
  .cases S;exact⟨_,t,R,e2⟩
 have j:=Y8 D;refine⟨rfl,by rw[sizeLine_eq]at p⊢;lia,strKind,oneType',λs2 _=>TS.MG j,λout h' e C k hg=>?_⟩;obtain⟨T,hs⟩:=C;have U:∀v∈out.toList,∃x t,v = .str x t:=λv D=>j.all v (T.mem_iff.mp D);have W:IH ((out.toList.map strOf).map V.str) out.toList:=by
  have:∀c:A0 A2,(∀v∈c,∃x t,v = .str x t)->IH ((c.map strOf).map V.str) c:=by
   intro c
   induction c with
   | nil=>exact λ_=>.nil
   | cons v r Y =>
    intro h;obtain⟨x,t,rfl⟩:=h v (AX ..);exact .cons ⟨t,rfl⟩ (Y λu K=>h u (AL _ K))
  exact this _ U
 have Z:z.toList.map strOf=ss:=by
  have:∀{ss:A0 Str} {c:A0 A2},IH (ss.map V.str) c->c.map strOf=ss:=by
   intro ss
   induction ss with
   | nil=>intro c h;cases h;rfl
   | cons x r Y =>
    intro c h;cases h with
    | cons a b =>
     obtain⟨t,rfl⟩:=a;rw[BM,Y b];rfl
  exact this D
 have B:(out.toList.map strOf).Perm ss:=by rw[<-Z];exact T.map strOf
 have hpw:(out.toList.map strOf).Pairwise NL:=by
  rw[CS];refine(EH.mp hs).imp fun{u v} ⟨K,hv',q⟩=>?_;obtain⟨x,t,rfl⟩:=U u K;obtain⟨y,t',rfl⟩:=U v hv';have q':decide (y.cps.toList<x.cps.toList)=false:=q;exact HE q'
 have k0:∀b o,s.heap.get? b=some o->h'.get? b=some o:=λb o eb=>k b o (k1 b o eb);have L:s.heap.objs.size<=O.objs.size:=DR g1;exact⟨.ref O.objs.size,_,I.laid (a:=O.objs.size) (o:=.lst ((out.toList.map strOf).map V.str)) (t':=tk) k0 L ⟨by rw[AB,AB,T.length_eq,hn,<-N];exact p,out.toList,e,W,by simpa using hg⟩,rfl,q _ _ (I.hok.fresh L) B hpw⟩
end
end L2
namespace HT
open PySem PyProof.Rows PySem.Spec
section
variable{prog:HV}{w:HX}{A:IA}{E:A2->A4->Prop}{s:A4}
theorem NH{t b:A3}{items:HU A2}{g i:A2}{lo hi:A5 Int}{Q:A2->A4->Prop}(a:IsTup s.heap t items)(j:s.heap.IsSliceOf b g i .none)(pl:IsPart g lo)(k:IsPart i hi)
  (hw:JN items.size 0 lo=0/\JN items.size items.size hi=items.size) (h:Q (.ref t) s):wpAny (model prog w) A (getItem (.ref t) (.ref b)) Q E s:=by
 obtain⟨os,c,d,l⟩:=id j;have e:s.TypeIs (.ref b) "slice":=⟨os,c,d⟩;unfold getItem
 try with_reducible refine BP ?_
 first | refine AA (AD ?_) | skip
 refine AA (wpAny_sequenceKey a.typeIs (by decide) ?_);refine AA (CG (name:=Str.ofString "__getitem__") a.typeIs PyProof.Rows.slot_tuple_getitem
  (CF PyProof.Rows.slot_tuple_getitem a.typeIs entry_tuple_getitem ?_ (args_tuple_getitem _ _)))
 show wpAny _ _ (Builtin.Tuple.tupleItemsOf (.ref t) >>= _) _ _ s;refine AA (tupleItemsOf_ a ?_);refine AA (EY e ?_);rw[AN (by decide)];refine AA (V6 j pl k ?_);have f:((((JN items.size 0 lo:Nat):Int) == 0 &&(1:Int) == 1 &&(JN items.size items.size hi-JN items.size 0 lo) == items.size)=true):=by
  rw[hw.1,hw.2];simp
 show wpAny _ _ (if(((JN items.size 0 lo:Nat):Int) == 0 &&(1:Int) == 1 &&(JN items.size items.size hi-JN items.size 0 lo) == items.size)=true then _ else _) _ _ s;rw[AN f];unfold Builtin.Tuple.tupleIsExact;refine AA (AA (EY a.typeIs (AD ?_)));rw[AN (by decide)];refine AA (DF ?_);show wpAny _ _ (ret (Value.ref t)) _ _ _;exact AD ⟨_,rfl,AD h⟩
end
end HT
namespace L2
open PySem PySem.Spec PyProof.Rows
section
variable{X:Cx}
def zHc(K:VA):V->A5 Int->A5 Int->Hp->VK->Prop:=λx lo c H Q=>∃a b,x = .ref a/\IU K H a b/\(HT.JN b.length 0 lo=0/\HT.JN b.length b.length c=b.length)/\Q (.ref a) H
theorem Zl:RQ X (zHc X.K):=by
 intro d s σ H x v n o lo p t Q I f g i j h;obtain⟨a,k,rfl,l,m,q⟩:=h;cases f;obtain⟨c,r,e,u⟩:=I.tuple l;have b:c.toArray.size=k.length:=by rw[AQ];exact r.length.symm
 refine⟨"tuple",_,PyProof.Rows.slot_tuple_getitem.lookup,e.typeIs,?_⟩;exact HT.NH e g i j (by rw[b];exact m) ⟨.ref a,H,I,rfl,q⟩
def zFf(K:VA):V->A5 Int->A5 Int->Hp->VK->Prop:=λx lo a H Q=>zEq K x lo a H Q\/zHc K x lo a H Q
theorem zHi(K:VA)(a:X.K=K:=by rfl):RQ X (zFf K):=by subst a;exact QU.or Zl
end
end L2
namespace Sw
open PySem L2
def J_(i:Nat):IL:=PySem.Challenge.pw_strikeweave_k64_strikes_put_and_taken.main.body.getD i (.Pass ⟨0,0,0,0⟩)
abbrev LK:IL:=J_ 12
abbrev NQ:IL:=J_ 13
abbrev OA:IL:=J_ 14
abbrev OW:IL:=J_ 15
abbrev PN:IL:=J_ 16
abbrev OU:IL:=J_ 21
abbrev MP:IL:=J_ 22
abbrev LO:IL:=J_ 23
abbrev NU:IL:=J_ 24
abbrev PP:IL:=J_ 25
abbrev OQ:IL:=J_ 26
abbrev OV:IL:=J_ 29
abbrev LY:IL:=J_ 30
abbrev LZ:IL:=J_ 31
abbrev OS:IL:=J_ 33
abbrev OD:IL:=J_ 34
abbrev OC:IL:=J_ 35
abbrev LC:IL:=J_ 36
abbrev NR:IL:=J_ 37
abbrev OT:IL:=J_ 38
abbrev OE:IL:=J_ 39
abbrev NS:IL:=J_ 40
abbrev LM:IL:=J_ 41
abbrev LL:IL:=J_ 42
abbrev LN:IL:=J_ 43
abbrev ND:IL:=J_ 44
abbrev OG:IL:=J_ 45
abbrev MN:IL:=J_ 46
abbrev Le:IL:=J_ 47
abbrev MO:IL:=J_ 48
abbrev QA:IL:=J_ 49
abbrev OF:IL:=J_ 50
abbrev OB:IL:=J_ 51
abbrev NC:IL:=J_ 52
abbrev NB:IL:=J_ 53
abbrev NT:IL:=J_ 54
abbrev MV:IL:=J9 (J_ 3) 0
abbrev L_:IL:=J9 (J_ 4) 0
abbrev L0:IL:=J9 (J_ 20) 0
abbrev LQ:IL:=J9 (J_ 20) 1
abbrev KZ:IL:=J9 (J_ 20) 2
abbrev Lr:IL:=J9 (J_ 20) 3
abbrev NE:IL:=J9 (J_ 20) 4
abbrev LP:IL:=J9 (J_ 20) 5
abbrev K2:IL:=J9 (J_ 28) 0
abbrev Kc:IL:=J9 (J_ 28) 1
abbrev KR:IL:=J9 (J_ 28) 2
abbrev KI:IL:=J9 (J_ 28) 3
abbrev KD:IL:=J9 (J_ 28) 4
abbrev OH:IL:=J9 (J_ 28) 5
abbrev NV:IL:=J9 (J_ 28) 6
abbrev OO:IL:=J9 (J_ 28) 7
abbrev LD:IL:=J9 (J_ 28) 8
abbrev KJ:IL:=J9 (J_ 28) 9
abbrev LR:IL:=J9 (J_ 28) 10
set_option genInjectivity false in
structure Tx(K:VA)(mg:Str->A5 A2) where
 aG:Fn K mg "rounds_beside" LK ["web","known"]
 aP:Fn K mg "one_round" NQ ["web","words","number"]
 aM:Fn K mg "wordless" OA ["web","words"]
 bb:Fn K mg "all_out" OW ["web","words","name"]
 be:Fn K mg "one_in" PN ["web","words","name"]
 a1:Fn K mg "is_name" OU ["thing"]
 aQ:Fn K mg "check_names" MP ["names"]
 aH:Fn K mg "check_strikes" LO ["names","strikes"]
 aX:Fn K mg "is_strike" NU ["names","thing"]
 bf:Fn K mg "behind" PP ["web","some"]
 bc:Fn K mg "reached" OQ ["steps","some"]
 a2:Fn K mg "copy_of" OV ["web"]
 aD:Fn K mg "words_beside" LY ["web","stay"]
 aN:Fn K mg "otherwise_in" LZ ["old","new"]
 a3:Fn K mg "_law_mix" OS ["_law_cell","_law_k"]
 aT:Fn K mg "_law_left" OD ["_law_script","_law_k"]
 ah:Fn K mg "_law_pick" OC ["_law_left_here","_law_many"]
 aF:Fn K mg "_law_many_names" LC ["_law_left_here","_law_many"]
 aY:Fn K mg "_law_masks" NR ["_law_names","_law_strikes"]
 a4:Fn K mg "_law_hit" OT ["_law_view","_law_mask"]
 aU:Fn K mg "_law_kept" OE ["_law_view","_law_mask"]
 aZ:Fn K mg "_law_least" NS ["_law_view"]
 aI:Fn K mg "_law_web_drawn" LM ["_law_left_here"]
 aA:Fn K mg "_law_word_rows" LL ["_law_own"]
 aJ:Fn K mg "_law_otherwise" LN ["_law_old","_law_new"]
 aw:Fn K mg "_law_a_name" ND ["_law_left_here","_law_own"]
 a6:Fn K mg "_law_deed" OG ["_law_left_here","_law_own"]
 aR:Fn K mg "_law_is_name" MN ["_law_word"]
 aO:Fn K mg "_law_word_due" Le ["_law_own","_law_deed_here"]
 aS:Fn K mg "_law_changed" MO ["_law_own","_law_deed_here"]
 bg:Fn K mg "_law_kind" QA ["_law_error"]
 a7:Fn K mg "_law_done" OF ["_law_keeper","_law_deed_here"]
 al:Fn K mg "_law_same" OB ["_law_found","_law_due"]
 aV:Fn K mg "_law_web_is" NC ["_law_web","_law_own"]
 aW:Fn K mg "_law_weight" NB ["_law_own"]
 ac:A3
 af:QP K ac
 a9:mg "Web" = some (.ref ac)
 aK:JI K ac "names"
 a0:JI K ac "strikes"
 aC:JI K ac "strikers_by_name"
 aE:JI K ac "struck_by_name"
 bs:A3
 br:IT
 bt:PM K "__init__" "Web.__init__" L0 bs br
 ax:Binds K br ["self","names","strikes"] []
 ba:Mk K ac bs
 ab:Mt K ac "all_names" "Web.all_names" LQ ["self"]
 ae:Mt K ac "all_strikes" "Web.all_strikes" KZ ["self"]
 ar:Mt K ac "strikers" "Web.strikers" Lr ["self","name"]
 ap:Mt K ac "struck" "Web.struck" NE ["self","name"]
 aj:Mt K ac "check_has" "Web.check_has" LP ["self","name"]
 aa:A3
 ad:QP K aa
 bA:mg "Keeper" = some (.ref aa)
 ag:JI K aa "web"
 aB:JI K aa "given"
 a8:JI K aa "reckoned"
 bh:JI K aa "past"
 bm:A3
 bl:IT
 bn:PM K "__init__" "Keeper.__init__" K2 bm bl
 bo:Binds K bl ["self","web"] []
 bB:Mk K aa bm
 as:Mt K aa "put_name" "Keeper.put_name" Kc ["self","name"]
 aq:Mt K aa "take_name" "Keeper.take_name" KR ["self","name"]
 an:Mt K aa "put_strike" "Keeper.put_strike" KI ["self","one","other"]
 am:Mt K aa "take_strike" "Keeper.take_strike" KD ["self","one","other"]
 bH:Mt K aa "words" "Keeper.words" OH ["self"]
 bI:Mt K aa "looked" "Keeper.looked" NV ["self"]
 bJ:Mt K aa "undo" "Keeper.undo" OO ["self"]
 ay:Mt K aa "web_now" "Keeper.web_now" LD ["self"]
 ao:Mt K aa "has_strike" "Keeper.has_strike" KJ ["self","one","other"]
 ak:Mt K aa "change" "Keeper.change" LR ["self","web","changed"]
 bK:A3
 bL:A0 A2
 bu:XC K bK bL
 bv:mg "StrikeError" = some (.ref bK)
 bM:A3
 bN:A0 A2
 bO:XC K bM bN
 bP:mg "BadName" = some (.ref bM)
 bQ:A3
 bR:A0 A2
 bS:XC K bQ bR
 bT:mg "BadStrike" = some (.ref bQ)
 bU:A3
 bV:A0 A2
 bW:XC K bU bV
 bX:mg "BadWeave" = some (.ref bU)
 bY:A3
 bZ:A0 A2
 b0:XC K bY bZ
 b1:mg "BadRow" = some (.ref bY)
 b2:A3
 b3:A0 A2
 b4:XC K b2 b3
 b5:mg "NoName" = some (.ref b2)
 b6:A3
 b7:A0 A2
 b8:XC K b6 b7
 b9:mg "NoStrike" = some (.ref b6)
 ca:A3
 cb:A0 A2
 cc:XC K ca cb
 cd:mg "NoMove" = some (.ref ca)
 ce:A3
 cf:A0 A2
 cg:XC K ce cf
 ch:mg "TooMany" = some (.ref ce)
 ci:XG K bM
 cj:IsC K bM
 ck:(Value.ref bM::bN).contains (.ref bK)=true
 cl:PySem.W.kitOne K (.ref bM) (.ref bM)=some true
 cm:PySem.W.kitOne K (.ref bM) (.ref bQ)=some false
 cn:PySem.W.kitOne K (.ref bM) (.ref bU)=some false
 co:PySem.W.kitOne K (.ref bM) (.ref bY)=some false
 cp:PySem.W.kitOne K (.ref bM) (.ref b2)=some false
 cq:PySem.W.kitOne K (.ref bM) (.ref b6)=some false
 cr:PySem.W.kitOne K (.ref bM) (.ref ca)=some false
 cs:PySem.W.kitOne K (.ref bM) (.ref ce)=some false
 ct:PySem.W.kitOne K (.ref bM) (.type "ValueError")=some true
 cu:JI K bM "place"
 cv:A3
 cw:IT
 cx:PM K "__init__" "BadName.__init__" MV cv cw
 cy:Binds K cw ["self","place"] []
 cz:QG K bM "__init__" cv
 cA:XG K bQ
 cB:IsC K bQ
 cC:(Value.ref bQ::bR).contains (.ref bK)=true
 cD:PySem.W.kitOne K (.ref bQ) (.ref bM)=some false
 cE:PySem.W.kitOne K (.ref bQ) (.ref bQ)=some true
 cF:PySem.W.kitOne K (.ref bQ) (.ref bU)=some false
 cG:PySem.W.kitOne K (.ref bQ) (.ref bY)=some false
 cH:PySem.W.kitOne K (.ref bQ) (.ref b2)=some false
 cI:PySem.W.kitOne K (.ref bQ) (.ref b6)=some false
 cJ:PySem.W.kitOne K (.ref bQ) (.ref ca)=some false
 cK:PySem.W.kitOne K (.ref bQ) (.ref ce)=some false
 cL:PySem.W.kitOne K (.ref bQ) (.type "ValueError")=some true
 cM:JI K bQ "place"
 cN:A3
 cO:IT
 cP:PM K "__init__" "BadStrike.__init__" L_ cN cO
 cQ:Binds K cO ["self","place"] []
 cR:QG K bQ "__init__" cN
 cS:XG K b2
 cT:IsC K b2
 cU:(Value.ref b2::b3).contains (.ref bK)=true
 cV:PySem.W.kitOne K (.ref b2) (.ref bM)=some false
 cW:PySem.W.kitOne K (.ref b2) (.ref bQ)=some false
 cX:PySem.W.kitOne K (.ref b2) (.ref bU)=some false
 cY:PySem.W.kitOne K (.ref b2) (.ref bY)=some false
 cZ:PySem.W.kitOne K (.ref b2) (.ref b2)=some true
 c0:PySem.W.kitOne K (.ref b2) (.ref b6)=some false
 c1:PySem.W.kitOne K (.ref b2) (.ref ca)=some false
 c2:PySem.W.kitOne K (.ref b2) (.ref ce)=some false
 c3:PySem.W.kitOne K (.ref b2) (.type "ValueError")=some true
 c4:PySem.W.findIn K (.ref b2) "__init__" = some (some (.builtin "ValueError.__init__"))
 c5:XG K b6
 c6:IsC K b6
 c7:(Value.ref b6::b7).contains (.ref bK)=true
 c8:PySem.W.kitOne K (.ref b6) (.ref bM)=some false
 c9:PySem.W.kitOne K (.ref b6) (.ref bQ)=some false
 da:PySem.W.kitOne K (.ref b6) (.ref bU)=some false
 db:PySem.W.kitOne K (.ref b6) (.ref bY)=some false
 dc:PySem.W.kitOne K (.ref b6) (.ref b2)=some false
 dd:PySem.W.kitOne K (.ref b6) (.ref b6)=some true
 de:PySem.W.kitOne K (.ref b6) (.ref ca)=some false
 df:PySem.W.kitOne K (.ref b6) (.ref ce)=some false
 dg:PySem.W.kitOne K (.ref b6) (.type "ValueError")=some true
 dh:PySem.W.findIn K (.ref b6) "__init__" = some (some (.builtin "ValueError.__init__"))
 bC:∃t,mg "LETTERS" = some (.str "abcdefghijklmnopqrstuvwxyz" t)
 bw:∃t,mg "LONGEST_NAME" = some (.int 8 t)
 au:mg "len" = none
 aL:mg "range" = none
 a5:mg "enumerate" = none
 bD:mg "zip" = none
 bE:mg "min" = none
 bF:mg "max" = none
 bx:mg "abs" = none
 av:mg "sorted" = none
 bz:mg "int" = none
 bi:mg "str" = none
 bj:mg "bool" = none
 az:mg "list" = none
 bd:mg "tuple" = none
 bk:mg "dict" = none
 bp:mg "set" = none
 ai:mg "isinstance" = none
 bq:mg "all" = none
 bG:mg "any" = none
 di:mg "ValueError" = none
end Sw
namespace L2
open PySem
def KL{N ps:A0 Str}{a:KM}(h1:a.kind = .function:=by rfl)(h2:a.isCoroutine=false:=by rfl)(b:a.isGenerator=false:=by rfl)(c:N.Nodup:=by decide +kernel)(d:N.take ps.length=ps:=by rfl)(e:∀x∈ps,a.names.lookup x=some .local\/a.names.lookup x=some .cell:=by decide +kernel)(f:∀y∈a.names,y.2≠ .free:=by decide +kernel):IB N ps a:=⟨h1,h2,b,c,d,e,f⟩
def Rm{j k:Nat}{A:IA}(h:JT k A)(e:j<=k:=by decide):JT j A:=h.mono e
def Eg{J:It}{xs:A0 V}{a:A3}{d:Hp}(as:NK J xs a d){g:TG}{e:TS}{D:Ends}{σ:St}{H:Hp}(Pv:Nat->St->Hp->Prop)(h:Pv 0 σ H)(j:∀i σ H,i<=xs.length->Pv i σ H->JU a d H)
  (k:∀i σ H x,xs[i]?=some x->Pv i σ H->∀b:Ends,(∀σ' H',Pv (i+1) σ' H'->b.nx σ' H')->b.rt=D.rt->g x σ H λσ2 c=>e b σ2 c) (l:∀σ H,Pv xs.length σ H->D.nx σ H) :
  ∃W:Nat->Nat->St->Hp->Prop,(∃m,W 0 m σ H)/\∀i m σ H,W i m σ H ->
   (J.stop i H/\D.nx σ H)\/(J.go i H/\∃N:St->Hp->Prop,(∀σ' H',N σ' H'->∃f,f < m/\W (i+1) f σ' H')/\∀x H',J.yld i H x H'->g x σ H' λσ2 c=>e { D with nx:=N,ct:=N,bk:=D.nx } σ2 c) :=
 zCy as Pv h j (λi σ H x n o=>k i σ H x n o _ (λ_ _ z=>z) rfl) l
def U3{lo:Int}{n:Nat}{g:TG}{c:TS}{D:Ends}{σ:St}{H:Hp}(Pv:Nat->St->Hp->Prop)(e:Pv 0 σ H)
  (f:∀i σ H,i<n->Pv i σ H->∀a:Ends,(∀σ' H',Pv (i+1) σ' H'->a.nx σ' H')->a.rt=D.rt->g (.int (lo+i)) σ H λσ2 b=>c a σ2 b) (h:∀σ H,Pv n σ H->D.nx σ H) :
  ∃W:Nat->Nat->St->Hp->Prop,(∃m,W 0 m σ H)/\∀i m σ H,W i m σ H ->
   ((QN lo n).stop i H/\D.nx σ H)\/((QN lo n).go i H/\∃N:St->Hp->Prop,(∀σ' H',N σ' H'->∃d,d < m/\W (i+1) d σ' H')/\∀x H',(QN lo n).yld i H x H'->g x σ H' λσ2 b=>c { D with nx:=N,ct:=N,bk:=D.nx } σ2 b) :=
 Ge Pv e (λi σ H j k=>f i σ H j k _ (λ_ _ z=>z) rfl) h
def C3{α:Type}{A C:α->Prop}{a:α}(e:A a)(h:C a):∃v,A v/\C v:=⟨a,e,h⟩
def V8{α0 α1 α2:Type}{d e f g h i:α0->α1->α2->Prop}{a:α0}{b:α1}{c:α2}(j:d a b c)(h1:e a b c)(h2:f a b c)(k:g a b c)(l:h a b c)(m:i a b c):∃a b c,d a b c/\e a b c/\f a b c/\g a b c/\h a b c/\i a b c:=⟨a,b,c,j,h1,h2,k,l,m⟩
def zFl{α0 α1 α2 α3 α4 α5 α6:Type}{h i j k:α0->α1->α2->α3->α4->α5->α6->Prop}{a:α0}{b:α1}{c:α2}{d:α3}{e:α4}{f:α5}{g:α6}(l:h a b c d e f g)(h1:i a b c d e f g)(h2:j a b c d e f g)(m:k a b c d e f g):∃a b c d e f g,h a b c d e f g/\i a b c d e f g/\j a b c d e f g/\k a b c d e f g:=⟨a,b,c,d,e,f,g,l,h1,h2,m⟩
def B9{α0 α1:Type}{c d e:α0->α1->Prop}{a:α0}{b:α1}(f:c a b)(h1:d a b)(h2:e a b):∃a b,c a b/\d a b/\e a b:=⟨a,b,f,h1,h2⟩
def B4{t u:TS}{D:Ends}{σ:St}{H:Hp}(h:∀N:St->Hp->Prop,(∀σ' H',u D σ' H'->N σ' H')->t { D with nx:=N } σ H):S_ t u D σ H:=h _ λ_ _ z=>z
def Ze{i:Nat}{v:V}{t u:TS}{D:Ends}{σ:St}{H:Hp}(h:∀N:St->Hp->Prop,(∀σ' H',u D σ' H'->N σ' H')->t { D with nx:=N } (σ.set i (some v)) H):O0 i v σ H (λσ2 a=>S_ t u D σ2 a):=h _ λ_ _ z=>z
end L2
namespace Sw
open PySem L2
section
variable{P:HV}{w:HX}{K:VA}{mg:Str->A5 A2}{base:H_}
def Jz(c:Nat):Bool:=decide (97<=c)&&decide (c<=122)
def P2(x:Str):Bool:=decide (1<=x.length)&&decide (x.length<=8)&&x.cps.toList.all Jz
theorem Ke:("abcdefghijklmnopqrstuvwxyz":Str).cps.toList=List.range' 97 26:=by decide +kernel
theorem Sf(c:Nat):decide (c∈("abcdefghijklmnopqrstuvwxyz":Str).cps.toList)=Jz c:=by
 rw[Ke];unfold Jz;by_cases a:97<=c
 .by_cases b:c<=122
  .rw[AS (List.mem_range'_1.mpr (by lia)),AS a,AS b];rfl
  .rw[AM (λz=>by have:=List.mem_range'_1.mp z;lia),AM b,HI]
 .rw[AM (λz=>by have:=List.mem_range'_1.mp z;lia),AM a,DP]
theorem Np:IB ["thing"] ["thing"] (B6 OU):=KL
def Ng:Sp:=λb H Q _=>∃x,b = [.str x]/\x.length<=1000/\∀a,Cv H a->Q (.bl (P2 x)) a
theorem Ds(T:Tx K mg):IJ P w K mg base JQ 1 T.a1.f T.a1.fd ["thing"] Ng:=by
 refine T.a1.F.o1 Np λr A b s H B Q E C h=>?_
 .obtain⟨x,rfl,G,k⟩:=h;refine⟨_,(A9 (M0 (PW.pt (Bj (U0 (Q5 (I0 (Q6 K) T.ai D0 (A6 (pv 0) (A6 (i6 T.bi Ld) A8))))) (X8 (U0 (Um Vr Vr B3 (I0 Ac T.au O8 (A6 (pv 0) A8)) (zFc T.bw)))))) (B5 (C0 Hg)) E4)
   (B5 (C0 (I0 (Rv K) T.bq Qg (A6 (V9 (N':=["letter"]) (cap:=[none]) (cl:=[]) (O7 trivial trivial) rfl (Xq (pv 0)) (λ_ _ _ _=>by exact⟨(LS 0),P5,(R0 Qi (pv 0) (zFv T.bC) rfl)⟩)) A8))))),?_⟩
  have d:x.length<=sizeLine:=by rw[sizeLine_eq];lia
  have m:x.cps.size=x.length:=rfl;refine C3 rfl ⟨.str x, "str",_,true,rfl,.str x,rfl,C3 rfl ?_⟩;refine N9 ?_;refine C3 rfl ⟨x,rfl,d,B9 rfl rfl (C3 rfl ?_)⟩;refine Z8 (λa=>?_) (λa=>?_)
  .have a:(1:Int)<=(x.length:Int):=BL a;refine B9 rfl rfl (C3 rfl ?_);by_cases o:(x.length:Int)<=8
   .rw[AS o];refine N9 ?_;refine C3 rfl ⟨x,rfl,λD p=>?_⟩;refine Gu (n:=x.cps.size) (λi σ g=>(∃v,σ = [v])/\Cv H g/\g D=some (.lst ((x.cps.toList.take i).map λc=>V.bl (Jz c)))) ⟨⟨_,rfl⟩,Cv.new p,A7⟩ (λi _ _ q _=>q) (λ_ _ _=>rfl) ?_ ?_
    .rintro i σ t v g N q ⟨⟨I,rfl⟩,j,l⟩ ⟨rfl,c,u,rfl⟩ y;refine Dz ?_;refine C3 rfl (B9 rfl rfl ⟨_,l,?_,?_⟩)
     .rw[AB,AZ,sizeLine_eq];lia
     .rw[PySem.StrLaws.found_one,Sf];refine y _ _ ⟨⟨_,rfl⟩,j.upd p,?_⟩;rw[A7];have:x.cps.toList[i]?=some c:=by rw[BJ];exact u
      rw[List.take_add_one,this,AK];rfl
    .rintro σ t ⟨_,j,l⟩;refine⟨D,x.cps.toList.map Jz,rfl,IG.of ?_,?_⟩
     .rw[l,<-AU,BR,BS];rfl
     .have e:(x.cps.toList.map Jz).all id=P2 x:=by
       unfold P2;rw[AS (show 1<=x.length by lia),AS (show x.length<=8 by lia),List.all_map];rfl
      rw[e];exact k _ j
   .rw[AM o];refine Y6 ?_;have e:P2 x=false:=by
     unfold P2;rw[AM (show ¬x.length<=8 by lia),HI,DP]
    have:=k H (Cv.refl H);rw[e]at this;exact this
  .have a:¬(1:Int)<=(x.length:Int):=λz=>a (AS z);refine C3 rfl ?_;refine Y6 ?_;have e:P2 x=false:=by
    unfold P2;rw[AM (show ¬1<=x.length by lia),DP,DP]
   have:=k H (Cv.refl H);rw[e]at this;exact this
theorem D8{α:Type}{l:A0 α}{i:Nat}{x:α}(h:l[i]?=some x):l.take (i+1)=l.take i ++ [x]:=by
 rw[List.take_add_one,h];rfl
theorem Y7{α:Type}{l:A0 α}{i:Nat}{x:α}(a:l.Nodup)(h:l[i]?=some x):x∉l.take i:=by
 intro b;obtain⟨j,c,e⟩:=List.getElem_of_mem b;have d:j<i:=by rw[AZ]at c;lia
 rw[List.getElem_take]at e;obtain⟨g,f⟩:=AJ.mp h;have:=(List.getElem_inj a).mp (e.trans f.symm);lia
theorem JX:IB ["names","seen","place","name"] ["names"] (B6 MP):=KL
def X4(ss:A0 Str):Prop:=(∀x∈ss,P2 x=true)/\ss.Nodup/\ss.length<=100
def Da(K:VA):Sp:=λc H Q _=>∃(p:A3) (a:A0 Str),c = [.ref p]/\QK K H p (a.map V.str)/\X4 a/\∀b,Cv H b->Q .non b
theorem Hl{x:Str}(h:P2 x=true):1<=x.length/\x.length<=8:=by
 unfold P2 at h;rw[DC,DC]at h;exact⟨BL h.1.1,BL h.1.2⟩
theorem Db(T:Tx K mg):IJ P w K mg base JQ 2 T.aQ.f T.aQ.fd ["names"] (Da K):=by
 refine T.aQ.F.o1 JX λU A B s H vs Q E J h=>?_
 .obtain⟨a,b,rfl,V,⟨W,X,hL⟩,k⟩:=h;have hu:=Q8 J;refine⟨_,(A9 (C6 (i:=1) JX.nd rfl (.inl rfl) (Dk (Zs P w) (by rfl) T.bp Pb))
   (B5 (U1 PassesOwn.never rfl (zFn K T.a5 (A6 (pv 0) A8)) (QX K (n:=2) (E7 (J0 (i:=2) JX.nd rfl (.inl rfl)) (E7 (J0 (i:=3) JX.nd rfl (.inl rfl)) Q9)))
   (A9 (M0 (PW.pt (Bj (U0 (Q5 (E3 T.a1 (Ds T) (Rm J) (A6 (pv 3) A8)))) (X8 (B8 (zGb P w) (pv 3) (pv 1) rfl)))) (B5 Y3) E4)
   (B5 (J7 (Se P w (zBd P w) (pv 1) (A6 (pv 3) A8)))))))),?_⟩
  refine⟨rfl,λp L=>?_⟩;have M:Cv H (HY H p (Ov P w p [])):=Cv.new L;refine C3 rfl ⟨a,C3 rfl (Kx V (M.at a) λsq C=>Wl (n:=b.length) (λi σ g=>∃l m,σ = [some (.ref a),some (.ref p),l,m]/\Cv H g/\g p=some (Ov P w p ((b.take i).map Sum.inr))) ⟨_,_,rfl,M,A7⟩ ?_ ?_ ?_ ?_)⟩
  .rintro i σ g r ⟨l,m,rfl,c,o⟩;exact⟨_,_,C _ (c.at a),by rw[AH,AF r];rfl⟩
  .rintro σ g ⟨l,m,rfl,c,o⟩;exact⟨_,C _ (c.at a),by rw[AB]⟩
  .rintro i σ g v H' r ⟨l,m,rfl,c,o⟩ ⟨t,x,rfl,N,rfl,u⟩;have u:=u _ (C _ (c.at a));have j:b[i]?=some b[i]:=AF r;rw[AH,j]at u;cases u;have Y:b[i]∈b:=DL r;have q:=W _ Y;have O:=Hl q;have D:p≠t:=B0 o N;refine⟨t,C3 rfl ⟨IU.of A7,rfl,_,C3 rfl (B9 rfl rfl ?_)⟩⟩;refine C3 rfl ⟨b[i],rfl,by lia,λR S=>⟨_,rfl,?_⟩⟩;rw[q];refine N9 ?_;have G:Cv H R:=(c.trans (Cv.new N)).trans S;have I:R p=some (Ov P w p ((b.take i).map Sum.inr)):=S _ _ (by rw[B7 D];exact o);have d:¬(Sum.inr b[i]:IQ)∈(b.take i).map Sum.inr:=λz=>by
    obtain⟨y,Z,e⟩:=BK.mp z;cases e;exact Y7 X j Z
   refine C3 rfl (C3 rfl ⟨p,_,Sum.inr b[i],rfl,rfl,I,C3 rfl ?_⟩);rw[AI (by decide),AM d];refine N9 ?_;refine C3 rfl ⟨⟨p,rfl,.inl ⟨_,I⟩⟩,C3 rfl ⟨p,_,Sum.inr b[i],rfl,rfl,I,?_,?_⟩⟩
   .rw[AB,AZ];lia
   .refine⟨_,C3 rfl ⟨G.upd L,?_⟩⟩;rw[A7];unfold zEr;rw[AI d,D8 j,AK];rfl
  .rintro σ g ⟨l,m,rfl,c,o⟩;exact k g c
def Hw(ss:A0 Str):(ss.map V.str).all Fv=true:=by
 rw[EJ];intro v a;obtain⟨x,_,rfl⟩:=BK.mp a;rfl
def Rb(x:Str)(ss:A0 Str):inV (.str x) (ss.map V.str)=decide (x∈ss):=by
 unfold inV;rw[List.any_map]
 induction ss with
 | nil=>rfl
 | cons y r a =>
  rw[GG,a];show((y == x)||decide (x∈r))=decide (x∈y::r);by_cases e:x=y
  .subst e;simp
  .have:(y == x)=false:=by simpa using λz=>e z.symm
   rw[this,Bool.false_or];by_cases h:x∈r
   .rw[AS h,AS (AL _ h)]
   .rw[AM h,AM (λz=>(AR.mp z).elim e h)]
def V2{K:VA}{H:Hp}{p:A3}{x:Str}{ss:A0 Str}{Q:VK}(h:QK K H p (ss.map V.str))(q:Q (.bl (decide (x∈ss))) H):SC K false (.str x) (.ref p) H Q :=
 ⟨p,_,rfl,h,rfl,Hw ss,by rw[AI (by decide),Rb];exact q⟩
def U4{K:VA}{H:Hp}{p:A3}{x:Str}{ss:A0 Str}{Q:VK}(h:QK K H p (ss.map V.str))(q:Q (.bl (!decide (x∈ss))) H):SC K true (.str x) (.ref p) H Q :=
 ⟨p,_,rfl,h,rfl,Hw ss,by rw[AN rfl,Rb];exact q⟩
theorem Gp:IB ["names","thing"] ["names","thing"] (B6 NU):=KL
def Hr(K:VA):Sp:=λb H Q _=>∃(p:A3) (a:A0 Str) (t:A3) (x y:Str),b = [.ref p,.ref t]/\QK K H p (a.map V.str)/\H t=some (.tup [.str x,.str y])/\x∈a/\y∈a/\Q (.bl true) H
theorem Hx(T:Tx K mg):IJ P w K mg base JQ 1 T.aX.f T.aX.fd ["names","thing"] (Hr K):=by
 refine T.aX.F.o1 Gp λe A c s H j Q E l h=>?_
 .obtain⟨p,m,t,x,y,rfl,d,b,g,i,k⟩:=h;refine⟨_,(A9 (M0 (PW.pt (Bj (U0 (Q5 (I0 (Q6 K) T.ai D0 (A6 (pv 1) (A6 (i6 T.bd Ax) A8))))) (X8 (B8 Cy (I0 (P4 K) T.au O8 (A6 (pv 1) A8)) B3 (C8 _))))) (B5 (C0 Hg)) E4)
   (B5 (C0 (Bz (R0 (Og K) (E6 (OP K) (pv 1) B3 (λ_ _=>rfl)) (pv 0) rfl) (Dt (R0 (Og K) (E6 (OP K) (pv 1) B3 (λ_ _=>rfl)) (pv 0) rfl)))))),?_⟩
  refine C3 rfl ⟨_, "tuple",_,true,rfl,.tup b,rfl,C3 rfl ?_⟩;refine N9 ?_;refine C3 rfl (B9 (a:=t) rfl (.inr (IU.of b)) ⟨rfl,C3 rfl ?_⟩);refine N9 ?_;refine C3 rfl ⟨t,_,B9 rfl rfl ⟨IU.of b,rfl,C3 rfl (V2 d ⟨_,rfl,?_⟩)⟩⟩;rw[AS g];refine Y6 ?_;refine C3 rfl ⟨t,_,B9 rfl rfl ⟨IU.of b,rfl,C3 rfl (V2 d ?_)⟩⟩;rw[AS i];exact k
structure NN(ss:A0 Str)(ps:A0 IM):Prop where
 nm:∀q∈ps,q.2.1∈ss/\q.2.2∈ss
 nd:(ps.map λq=>q.2).Nodup
 len:ps.length<=200
def E8(ps:A0 IM):A0 V:=ps.map λq=>V.ref q.1
def Iz(ps:A0 IM):A0 (A0 IQ×A3):=ps.map λq=>([.inr q.2.1,.inr q.2.2],q.1)
theorem Vk{H:Hp}{ps:A0 IM}(h:∀q∈ps,G8 H q):Mc H (Iz ps):=λk a=>by
 obtain⟨q,b,rfl⟩:=BK.mp a;exact h q b
theorem G6{H H':Hp}{ps:A0 IM}(s:Cv H H')(h:∀q∈ps,G8 H q):∀q∈ps,G8 H' q:=λq a=>s _ _ (h q a)
theorem JM:IB ["names","strikes","seen","place","strike"] ["names","strikes"] (B6 LO):=KL
def As(K:VA):Sp:=λd H Q _=>∃(p:A3) (b:A0 Str) (a:A3) (ps:A0 IM),d = [.ref p,.ref a]/\QK K H p (b.map V.str)/\IG K H a (E8 ps)/\(∀q∈ps,G8 H q)/\NN b ps/\∀c,Cv H c->Q .non c
theorem Av(T:Tx K mg):IJ P w K mg base JQ 2 T.aH.f T.aH.fd ["names","strikes"] (As K):=by
 refine T.aH.F.o1 JM λW A C s H vs Q E M h=>?_
 .obtain⟨n,X,a,ps,rfl,Y,u,N,⟨Z,hD,hL⟩,k⟩:=h;have O:=Q8 M;refine⟨_,(A9 (C6 (i:=2) JM.nd rfl (.inl rfl) (Dk (Vz P w) (by rfl) T.bp Pb))
   (B5 (U1 PassesOwn.never rfl (zFn K T.a5 (A6 (pv 1) A8)) (QX K (n:=2) (E7 (J0 (i:=3) JM.nd rfl (.inl rfl)) (E7 (J0 (i:=4) JM.nd rfl (.inl rfl)) Q9)))
   (A9 (M0 (PW.pt (Bj (U0 (Q5 (E3 T.aX (Hx T) (Rm M) (A6 (pv 0) (A6 (pv 4) A8))))) (X8 (B8 (zFy P w O) (pv 4) (pv 2) rfl)))) (B5 Y3) E4)
   (B5 (J7 (Se P w (zDi P w O) (pv 2) (A6 (pv 4) A8)))))))),?_⟩
  refine⟨rfl,λp R=>?_⟩;have S:Cv H (HY H p (Ox P w p [])):=Cv.new R;refine C3 rfl ⟨a,C3 rfl (.inl ⟨(S.at a).seqL u,Wl (n:=ps.length) (λi σ b=>∃j v4,σ = [some (.ref n),some (.ref a),some (.ref p),j,v4]/\Cv H b/\b p=some (Ox P w p (Iz (ps.take i)))) ⟨_,_,rfl,S,A7⟩ ?_ ?_ ?_ ?_⟩)⟩
  .rintro i σ b y ⟨D,j,rfl,c,l⟩;exact⟨_,_,(c.at a).seqL u,by unfold E8;rw[AH,AF y];rfl⟩
  .rintro σ b ⟨D,j,rfl,c,l⟩;exact⟨_,(c.at a).seqL u,by unfold E8;rw[AB]⟩
  .rintro i σ b v H' y ⟨D,j,rfl,c,l⟩ ⟨t,x,rfl,U,rfl,m⟩;have m:=m _ ((c.at a).seqL u);have d:ps[i]?=some ps[i]:=AF y;unfold E8 at m;rw[AH,d]at m;cases m;have V:ps[i]∈ps:=DL y;obtain⟨G,I⟩:=Z _ V;have J:p≠t:=B0 l U;have B:Cv H (HY b t (.tup [.int i,.ref ps[i].1])):=c.trans (Cv.new U);have g:=B _ _ (N _ V);refine⟨t,C3 rfl ⟨IU.of A7,rfl,_,C3 rfl (B9 rfl rfl ?_)⟩⟩;refine C3 rfl (C3 rfl ⟨n,X,ps[i].1,ps[i].2.1,ps[i].2.2,rfl,(B.at n).seq Y,g,G,I,C3 rfl ?_⟩);refine N9 ?_;have L:(HY b t (.tup [.int i,.ref ps[i].1])) p=some (Ox P w p (Iz (ps.take i))):=by rw[B7 J];exact l
   have o:Mc (HY b t (.tup [.int i,.ref ps[i].1])) (Iz (ps.take i)):=Vk (G6 B λq g=>N q (DE g));have r:∀q∈Iz (ps.take i),q.1≠[.inr ps[i].2.1,.inr ps[i].2.2]:=λq g e=>by
    obtain⟨z,hz,rfl⟩:=BK.mp g;have e':z.2=ps[i].2:=by
     obtain⟨z1,z2,z3⟩:=z;simp only[List.cons.injEq,Sum.inr.injEq,and_true]at e;exact Prod.ext e.1 e.2
    have h1:(ps.map λq=>q.2)[i]?=some ps[i].2:=by rw[AH,d];rfl
    refine Y7 hD h1 ?_;rw[<-List.map_take,<-e'];exact BK.mpr ⟨z,hz,rfl⟩
   refine C3 rfl (C3 rfl ⟨p,ps[i].1,_,[.inr ps[i].2.1,.inr ps[i].2.2],rfl,rfl,L,g,o,r,C3 rfl ?_⟩);refine N9 ?_;refine C3 rfl ⟨⟨p,rfl,.inr (.inr ⟨_,L⟩)⟩,C3 rfl ⟨p,ps[i].1,_,[.inr ps[i].2.1,.inr ps[i].2.2],rfl,rfl,L,g,o,r,?_,?_⟩⟩
   .unfold Iz;rw[AB,AZ];lia
   .refine⟨_,C3 rfl ⟨B.upd R,?_⟩⟩;rw[A7,D8 d];unfold Iz;rw[AK];rfl
  .rintro σ b ⟨D,j,rfl,c,l⟩;exact k b c
def la(kvs:A0 (IQ×V))(n:Str):A3:=match W9 kvs (.inr n)with | some (.ref l)=>l | _=>0
def By(kvs:A0 (IQ×V))(n m:Str)(v:V):W9 (Bd kvs (Sum.inr n:IQ) v) (.inr m)=if m=n then some v else W9 kvs (.inr m):=by
 rw[Wb];by_cases e:m=n
 .rw[AN e,AN (by rw[e])]
 .rw[AI e,AI (λz=>e (Sum.inr.inj z))]
def Ee(kvs:A0 (IQ×V))(n m:Str)(p:A3):la (Bd kvs (.inr n) (.ref p)) m=if m=n then p else la kvs m:=by
 unfold la;rw[By];by_cases e:m=n
 .rw[AN e,AN e]
 .rw[AI e,AI e]
structure DOk(H0:Hp)(kvs:A0 (IQ×V))(ns:A0 Str):Prop where
 val:∀n∈ns,W9 kvs (.inr n)=some (.ref (la kvs n))
 inj:∀n∈ns,∀m∈ns,la kvs n=la kvs m->n=m
 fr:∀n∈ns,H0 (la kvs n)=none
def Xc{K:VA}{J:It}{a:A3}{ns:A0 Str}{H:Hp}{σ:St}{Q:St->Hp->Prop}(as:NK J (ns.map V.str) a H)(hσ:∃v,σ = [v])(G:ns.Nodup)(I:ns.length<=1000){D:A3}(y:H D=none)
  (q:∀σ kvs H',Cv H H'->H' D=some (.dK kvs)->DOk H kvs ns->(∀n∈ns,H' (la kvs n)=some (.lst []))->(∀n∈ns,la kvs n≠D)->Q σ H') :
  Au (O0 0) Gn (Ei D (T9 0) (SR Iy)) J σ (HY H D (.dK [])) Q:=by
 obtain⟨v,rfl⟩:=hσ;refine P1 as (λi σ d=>(∃v,σ = [v])/\∃kvs,Cv H d/\d D=some (.dK kvs)/\kvs.length<=i/\DOk H kvs (ns.take i)/\(∀n∈ns.take i,d (la kvs n)=some (.lst []))/\∀n∈ns.take i,la kvs n≠D)
  ⟨⟨v,rfl⟩,[],Cv.new y,A7,CB _,⟨λn h=>by simp at h,λn h=>by simp at h,λn h=>by simp at h⟩,λn h=>by simp at h,λn h=>by simp at h⟩ (λi σ d _ ⟨_,kvs,j,_⟩=>j.at a) ?_ ?_
 .rintro i σ d x N r ⟨⟨v,rfl⟩,kvs,j,u,B,s,l,w⟩ C;rw[AH]at r;have E:i<ns.length:=by
   rcases Nat.lt_or_ge i ns.length with z | z
   .exact z
   .rw[GH z]at r;cases r
  have t:ns[i]?=some ns[i]:=AF E;rw[t]at r;cases r;refine Dz ?_;refine C3 rfl ⟨CB _,λp o=>?_⟩;have f:D≠p:=B0 u o;refine⟨kvs,.inr ns[i],by rw[B7 f];exact u,rfl,by rw[sizeLine_eq];lia,C _ _ ⟨⟨_,rfl⟩,Bd kvs (.inr ns[i]) (.ref p),?_,A7,?_,⟨?_,?_,?_⟩,?_,?_⟩⟩
  .exact(j.trans (Cv.new o)).upd y
  .have:=U8 kvs (Sum.inr ns[i]:IQ) (.ref p);lia
  all_goals rw[D8 t]
  .intro n b;rw[By,Ee];by_cases e:n=ns[i]
   .rw[AN e,AN e]
   .rw[AI e,AI e];rcases AO.mp b with z | z
    .exact s.val n z
    .exact absurd (AE.mp z) e
  .intro n b m A;rw[Ee,Ee];have c:∀k∈ns.take i ++ [ns[i]],k≠ns[i]->k∈ns.take i:=λk F e=>(AO.mp F).elim id λz=>absurd (AE.mp z) e;by_cases e:n=ns[i]
   .by_cases g:m=ns[i]
    .exact λ_=>e.trans g.symm
    .rw[AN e,AI g];intro z;have:=l m (c m A g);rw[<-z,o]at this;cases this
   .by_cases g:m=ns[i]
    .rw[AI e,AN g];intro z;have:=l n (c n b e);rw[z,o]at this;cases this
    .rw[AI e,AI g];exact s.inj n (c n b e) m (c m A g)
  .intro n b;rw[Ee];by_cases e:n=ns[i]
   .rw[AN e];exact j.free o
   .rw[AI e];rcases AO.mp b with z | z
    .exact s.fr n z
    .exact absurd (AE.mp z) e
  .intro n b;rw[Ee];by_cases e:n=ns[i]
   .rw[AN e,B7 f.symm,A7]
   .rw[AI e];rcases AO.mp b with z | z
    .rw[B7 (w n z),B7 (B0 (l n z) o)];exact l n z
    .exact absurd (AE.mp z) e
  .intro n b;rw[Ee];by_cases e:n=ns[i]
   .rw[AN e];exact f.symm
   .rw[AI e];rcases AO.mp b with z | z
    .exact w n z
    .exact absurd (AE.mp z) e
 .rintro σ d ⟨_,kvs,j,u,B,s,l,w⟩;rw[AB]at *;rw[BR]at *;exact q σ kvs d j u s l w
def B2(a:A0 IM)(n:Str):A0 Str:=(a.filter λq=>decide (q.2.2=n)).map λq=>q.2.1
def C2(a:A0 IM)(n:Str):A0 Str:=(a.filter λq=>decide (q.2.1=n)).map λq=>q.2.2
def Cb(a:A0 IM)(q:IM)(n:Str):B2 (a ++ [q]) n=B2 a n ++(if q.2.2=n then [q.2.1]else []):=by
 unfold B2;rw[CM,AK];by_cases e:q.2.2=n
 .rw[AN e,BO,AN (AS e)];rfl
 .rw[AI e,BO,AI (by simp[e])];rfl
def Eh(a:A0 IM)(q:IM)(n:Str):C2 (a ++ [q]) n=C2 a n ++(if q.2.1=n then [q.2.2]else []):=by
 unfold C2;rw[CM,AK];by_cases e:q.2.1=n
 .rw[AN e,BO,AN (AS e)];rfl
 .rw[AI e,BO,AI (by simp[e])];rfl
def wf(a b c d:A3):A0 (Str×V):=[("names",.ref a),("strikes",.ref b),("strikers_by_name",.ref c),("struck_by_name",.ref d)]
structure TM(ns:A0 Str)(qs:A0 IM):Prop where
 nd:ns.Nodup
 len:ns.length<=100
 srt:ns.Pairwise NL
 mem:∀q∈qs,q.2.1∈ns/\q.2.2∈ns
 ndq:(qs.map λq=>q.2).Nodup
 lenq:qs.length<=200
 srq:qs.Pairwise QB
structure IP(C:A3)(H:Hp)(x:A3)(ns:A0 Str)(qs:A0 IM):Prop where
 ok:TM ns qs
 ex:∃dx a b c d kc kd,H x=some (.ins C dx (wf a b c d))/\H a=some (.lst (ns.map V.str))/\H b=some (.lst (E8 qs))/\(∀q∈qs,G8 H q)/\H c=some (.dK kc)/\H d=some (.dK kd) /\
  (∀n∈ns,∃l,W9 kc (.inr n)=some (.ref l)/\H l=some (.lst ((B2 qs n).map V.str)))/\∀n∈ns,∃l,W9 kd (.inr n)=some (.ref l)/\H l=some (.lst ((C2 qs n).map V.str))
theorem KE:IB ["self","names","strikes","one","other"] ["self","names","strikes"] (B6 L0):=KL
def Ce(K:VA)(C:A3):Sp:=λf H Q _=>∃(x g n:A3) (b:A0 Str) (a:A3) (ps:A0 IM),f = [.ref x,.ref n,.ref a]/\H x=some (.ins C g [])/\QK K H n (b.map V.str)/\X4 b /\
 H a=some (.lst (E8 ps))/\(∀q∈ps,G8 H q)/\NN b ps/\∀c d e,c.Perm b->c.Pairwise NL->d.Perm ps->d.Pairwise QB->Sm [x] H e->IP C e x c d->(∀z h u,H z=some (.lst h)->IP C (HY e z u) x c d)->Q .non e
theorem Q7(T:Tx K mg):IJ P w K mg base JQ 3 T.bs T.br ["self","names","strikes"] (Ce K T.ac):=by
 refine T.bt.o1 KE λcdv A outer s H vs Q E hr h=>?_
 .obtain⟨x,r,n,ss,a,ps,rfl,hx,hS,hN,hP,hI,hO,k⟩:=h;have hu:=Q8 hr;refine⟨_,(A9 (J7 (E3 T.aQ (Db T) (Rm hr) (A6 (pv 1) A8)))
   (A9 (J7 (E3 T.aH (Av T) (Rm hr) (A6 (pv 1) (A6 (pv 2) A8))))
   (A9 (QW K (pv 0) (I0 (Uk K) T.av M9 (A6 (pv 1) A8)))
   (A9 (QW K (pv 0) (I0 (Ev K) T.av M9 (A6 (pv 2) A8)))
   (A9 (QW K (pv 0) (Oh (N':=["name"]) (cap:=[none]) (cl:=[]) (O7 trivial trivial) rfl (MW K (MZ K (pv 0))) (λ_ _ _ _=>by exact⟨(LS 0),P5,(pv 0),(G5 A8)⟩)))
   (A9 (QW K (pv 0) (Oh (N':=["name"]) (cap:=[none]) (cl:=[]) (O7 trivial trivial) rfl (MW K (MZ K (pv 0))) (λ_ _ _ _=>by exact⟨(LS 0),P5,(pv 0),(G5 A8)⟩)))
   (B5 (U1 PassesOwn.never rfl (MW K (MZ K (pv 0))) (QX K (n:=2) (E7 (J0 (i:=3) KE.nd rfl (.inl rfl)) (E7 (J0 (i:=4) KE.nd rfl (.inl rfl)) Q9)))
   (A9 (J7 (Ps K VG VH VI R8 (Y0 hu (MZ K (pv 0)) (pv 4) (λ_ _=>rfl)) (A6 (pv 3) A8)))
   (B5 (J7 (Ps K VG VH VI R8 (Y0 hu (MZ K (pv 0)) (pv 3) (λ_ _=>rfl)) (A6 (pv 4) A8))))))))))))),?_⟩
  obtain⟨hN1,hN2,hN3⟩:=id hN;obtain⟨hO1,hO2,hO3⟩:=id hO;refine B4 λZ1 hZ1=>?_;refine C3 rfl ⟨n,ss,rfl,hS,hN,λH1 s1=>?_⟩;refine hZ1 _ _ (B4 λZ2 hZ2=>?_);refine C3 rfl (C3 rfl ⟨n,ss,a,ps,rfl,(s1.at n).seq hS,IG.of (s1 _ _ hP),G6 s1 hI,hO,λH2 s2=>?_⟩);refine hZ2 _ _ (B4 λZ3 hZ3=>?_);have s12:=s1.trans s2;refine C3 rfl ⟨n,ss,rfl,(s12.at n).seq hS,λp j hl1 p1 w1=>?_⟩;have U:x≠p:=B0 (s12 _ _ hx) hl1;refine C3 rfl ⟨x,T.ac,r,[],rfl,by rw[B7 U];exact s12 _ _ hx,T.af,T.aK,by decide,?_⟩;have hxa:a≠x:=J8 hP hx (by intro z;cases z);have k3:Sm [x] H (HY (HY H2 p (.lst (j.map V.str))) x (.ins T.ac r (Q0 "names" (.ref p) []))):=(Sm.new s12.sm hl1).upd (by simp);have e3:(HY (HY H2 p (.lst (j.map V.str))) x (.ins T.ac r (Q0 "names" (.ref p) []))) p=some (.lst (j.map V.str)):=by rw[B7 U.symm,A7]
  generalize hH3:HY (HY H2 p (.lst (j.map V.str))) x (.ins T.ac r (Q0 "names" (.ref p) []))=H3 at k3 e3⊢;refine hZ3 _ _ (B4 λZ4 hZ4=>?_);have x3:H3 x=some (.ins T.ac r [("names",.ref p)]):=by rw[<-hH3,A7];rfl
  have t:∀{b:A3},b≠x->b∉[x]:=λh z=>h (AE.mp z);have pin3:∀q∈ps,G8 H3 q:=λq J=>k3 _ _ (hI q J) (t (J8 (hI q J) hx (by intro z;cases z)));refine C3 rfl ⟨a,ps,rfl,IG.of (k3 _ _ hP (t hxa)),pin3,λB D hl2 p2 w2=>?_⟩;have W:x≠B:=B0 x3 hl2;refine C3 rfl ⟨x,T.ac,r,[("names",.ref p)],rfl,by rw[B7 W];exact x3,T.af,T.a0,by simp,?_⟩;have k4:Sm [x] H3 (HY (HY H3 B (.lst (E8 D))) x (.ins T.ac r (Q0 "strikes" (.ref B) [("names",.ref p)]))):=(Sm.new (Sm.refl _ _) hl2).upd (by simp);have e4:(HY (HY H3 B (.lst (E8 D))) x (.ins T.ac r (Q0 "strikes" (.ref B) [("names",.ref p)]))) B=some (.lst (E8 D)):=by rw[B7 W.symm,A7]
  have Z:(HY (HY H3 B (.lst (E8 D))) x (.ins T.ac r (Q0 "strikes" (.ref B) [("names",.ref p)]))) x=some (.ins T.ac r [("names",.ref p),("strikes",.ref B)]):=by rw[A7];rfl
  refine hZ4 _ _ ?_;show S_ _ _ _ _ (HY (HY H3 B (.lst (E8 D))) x (.ins T.ac r (Q0 "strikes" (.ref B) [("names",.ref p)])));generalize HY (HY H3 B (.lst (E8 D))) x (.ins T.ac r (Q0 "strikes" (.ref B) [("names",.ref p)]))=H4 at k4 e4 Z⊢;have f4:H4 p=some (.lst (j.map V.str)):=k4 _ _ e3 (t U.symm);have C:∀q∈D,G8 H4 q:=λq J=>k4 _ _ (pin3 q (p2.mem_iff.mp J)) (t (J8 (pin3 q (p2.mem_iff.mp J)) x3 (by intro z;cases z)));have ndn:j.Nodup:=p1.nodup_iff.mpr hN2;have lnn:j.length<=1000:=by rw[p1.length_eq];lia
  refine B4 λZ5 hZ5=>?_;refine C3 rfl ⟨x,T.ac,r,_,C3 rfl ⟨Z,T.af,T.aK,rfl,p,rfl,⟨_,IG.of f4⟩,λc hc=>Xc (K:=K) (PF (IG.of f4)) ⟨_,rfl⟩ ndn lnn hc λ_ N H5 s5 e5 D5 c5 n5=>?_⟩⟩;have x5:=s5 _ _ Z;refine C3 rfl ⟨x,T.ac,r,C3 rfl ⟨x5,T.af,T.aC,by simp,?_⟩⟩;have k6:Sm [x] H5 (HY H5 x (.ins T.ac r (Q0 "strikers_by_name" (.ref c) [("names",.ref p),("strikes",.ref B)]))):=(Sm.refl _ _).upd (by simp);have x6:(HY H5 x (.ins T.ac r (Q0 "strikers_by_name" (.ref c) [("names",.ref p),("strikes",.ref B)]))) x=some (.ins T.ac r [("names",.ref p),("strikes",.ref B),("strikers_by_name",.ref c)]):=by rw[A7];rfl
  generalize HY H5 x (.ins T.ac r (Q0 "strikers_by_name" (.ref c) [("names",.ref p),("strikes",.ref B)]))=H6 at k6 x6⊢;refine hZ5 _ _ (B4 λZ6 hZ6=>?_);have X:∀{b:A3} {o:HO},H4 b=some o->b≠x->H6 b=some o:=λe I=>k6 _ _ (s5 _ _ e) (t I);have f6:=X f4 U.symm;have g6:=X e4 W.symm;have c6:H6 c=some (.dK N):=k6 _ _ e5 (t (B0 Z hc).symm);have cl6:∀n∈j,H6 (la N n)=some (.lst []):=λn f=>k6 _ _ (c5 n f) (t (B0 Z (D5.fr n f)).symm);refine C3 rfl ⟨x,T.ac,r,_,C3 rfl ⟨x6,T.af,T.aK,rfl,p,rfl,⟨_,IG.of f6⟩,λd hd=>Xc (K:=K) (PF (IG.of f6)) ⟨_,rfl⟩ ndn lnn hd λ_ O H7 s7 e7 D7 c7 n7=>?_⟩⟩;have x7:=s7 _ _ x6;refine C3 rfl ⟨x,T.ac,r,C3 rfl ⟨x7,T.af,T.aE,by simp,?_⟩⟩;have k8:Sm [x] H7 (HY H7 x (.ins T.ac r (Q0 "struck_by_name" (.ref d) [("names",.ref p),("strikes",.ref B),("strikers_by_name",.ref c)]))):=(Sm.refl _ _).upd (by simp);have x8:(HY H7 x (.ins T.ac r (Q0 "struck_by_name" (.ref d) [("names",.ref p),("strikes",.ref B),("strikers_by_name",.ref c)]))) x=some (.ins T.ac r (wf p B c d)):=by rw[A7];rfl
  generalize HY H7 x (.ins T.ac r (Q0 "struck_by_name" (.ref d) [("names",.ref p),("strikes",.ref B),("strikers_by_name",.ref c)]))=H8 at k8 x8⊢;refine hZ6 _ _ ?_;have Y:∀{b:A3} {o:HO},H6 b=some o->b≠x->H8 b=some o:=λe I=>k8 _ _ (s7 _ _ e) (t I);have f8:=Y f6 U.symm;have g8:=Y g6 W.symm;have c8:=Y c6 (B0 Z hc).symm;have d8:H8 d=some (.dK O):=k8 _ _ e7 (t (B0 x6 hd).symm);have cl8:∀n∈j,H8 (la N n)=some (.lst []):=λn f=>Y (cl6 n f) (B0 Z (D5.fr n f)).symm;have dl8:∀n∈j,H8 (la O n)=some (.lst []):=λn f=>k8 _ _ (c7 n f) (t (B0 x6 (D7.fr n f)).symm);have pin8:∀q∈D,G8 H8 q:=λq J=>Y (X (C q J) (J8 (C q J) Z (by intro z;cases z))) (J8 (C q J) Z (by intro z;cases z));have dif:∀n∈j,∀m∈j,la N n≠la O m:=λn f m M=>B0 (cl6 n f) (D7.fr m M);have L:∀{b:A3} {o:HO},H4 b=some o->b≠x->(∀n∈j,b≠la N n)/\∀n∈j,b≠la O n:=λe I=>⟨λn f=>B0 e (D5.fr n f),λn f=>B0 (X e I) (D7.fr n f)⟩;have kall:Sm [x] H H8:=λb o e I=>by
   have hb':b≠x:=λz=>I (by simp[z]);exact Y (X (k4 _ _ (k3 _ _ e I) I) hb') hb'
  have odif:∀{b:A3} {o:HO},H b=some o->b≠x->(∀n∈j,b≠la N n)/\∀n∈j,b≠la O n:=λe I=>L (k4 _ _ (k3 _ _ e (t I)) (t I)) I;have xdif:(∀n∈j,x≠la N n)/\∀n∈j,x≠la O n:=⟨λn f=>B0 Z (D5.fr n f),λn f=>B0 x6 (D7.fr n f)⟩;have cdif:(∀n∈j,c≠la N n)/\∀n∈j,c≠la O n:=⟨λn f=>(n5 n f).symm,λn f=>B0 c6 (D7.fr n f)⟩;have ddif:(∀n∈j,d≠la N n)/\∀n∈j,d≠la O n:=⟨λn f=>(B0 (cl6 n f) hd).symm,λn f=>(n7 n f).symm⟩;refine⟨_,rfl,x,T.ac,r,_,_,rfl,x8,T.af,T.a0,rfl,B,rfl,⟨_,IG.of g8⟩,Eg (PF (IG.of g8)) (λi σ S=>(∃v3 v4,σ = [some (.ref x),some (.ref n),some (.ref a),v3,v4]) /\
   (∀b o,H8 b=some o->((∀n∈j,b≠la N n)/\∀n∈j,b≠la O n)->S b=some o)/\(∀n∈j,S (la N n)=some (.lst ((B2 (D.take i) n).map V.str)))/\∀n∈j,S (la O n)=some (.lst ((C2 (D.take i) n).map V.str)))
   ⟨⟨_,_,rfl⟩,λb o e _=>e,cl8,dl8⟩ ?_ ?_ ?_⟩
  .rintro i σ S _ ⟨_,R,_⟩ o e;exact R _ _ e (L e4 W.symm)
  .rintro i σ S v hv ⟨⟨v3,v4,rfl⟩,R,h2,h3⟩ D1 hD1 _;unfold E8 at hv;rw[AH]at hv;cases J:D[i]? with
   | none=>rw[J]at hv;cases hv
   | some q =>
    rw[J]at hv;cases hv;have M:q∈D:=BB J;have hq9:G8 S q:=R _ _ (pin8 q M) (L (C q M) (J8 (C q M) Z (by intro z;cases z)));obtain⟨m1,m2⟩:=hO1 q (p2.mem_iff.mp M);have m1:q.2.1∈j:=p1.mem_iff.mpr m1;have m2:q.2.2∈j:=p1.mem_iff.mpr m2;have hlen:∀l:A0 IM,l.length<=200->∀n,(B2 l n).length<=200/\(C2 l n).length<=200:=λl hl n=>by
     unfold B2 C2;rw[AB,AB];exact⟨VE (BC ..) hl,VE (BC ..) hl⟩
    have hl200:(D.take i).length<=200:=by
     rw[AZ];have:=p2.length_eq;lia
    have x9:S x=some (.ins T.ac r (wf p B c d)):=R _ _ x8 xdif;refine⟨q.1,C3 rfl ⟨IU.of hq9,rfl,_,C3 rfl (B9 rfl rfl ?_)⟩⟩;refine C3 rfl ⟨x,T.ac,r,_,C3 rfl ⟨x9,T.af,T.aC,rfl,C3 rfl ⟨c,.ref (la N q.2.2),rfl,by rw[<-D5.val _ m2];exact LE.k (k:=Sum.inr q.2.2) (R _ _ c8 cdif),.inl ⟨rfl,_,IG.of (h2 _ m2)⟩,C3 rfl ⟨_,B9 rfl rfl ⟨h2 _ m2,?_,?_⟩⟩⟩⟩⟩
    .rw[AB,sizeLine_eq];have:=(hlen _ hl200 q.2.2).1;lia
    have x10:(HY S (la N q.2.2) (.lst ((B2 (D.take i) q.2.2).map V.str ++ [.str q.2.1]))) x=some (.ins T.ac r (wf p B c d)):=by rw[B7 (xdif.1 _ m2)];exact x9
    have d10:(HY S (la N q.2.2) (.lst ((B2 (D.take i) q.2.2).map V.str ++ [.str q.2.1]))) d=some (.dK O):=by rw[B7 (ddif.1 _ m2)];exact R _ _ d8 ddif
    have l10:(HY S (la N q.2.2) (.lst ((B2 (D.take i) q.2.2).map V.str ++ [.str q.2.1]))) (la O q.2.1)=some (.lst ((C2 (D.take i) q.2.1).map V.str)):=by rw[B7 (dif _ m2 _ m1).symm];exact h3 _ m1
    refine C3 rfl ⟨x,T.ac,r,_,C3 rfl ⟨x10,T.af,T.aE,rfl,C3 rfl ⟨d,.ref (la O q.2.1),rfl,by rw[<-D7.val _ m1];exact LE.k (k:=Sum.inr q.2.1) d10,.inl ⟨rfl,_,IG.of l10⟩,C3 rfl ⟨_,B9 rfl rfl ⟨l10,?_,?_⟩⟩⟩⟩⟩
    .rw[AB,sizeLine_eq];have:=(hlen _ hl200 q.2.1).2;lia
    refine hD1 _ _ ⟨⟨_,_,rfl⟩,λb o e I=>?_,λm M=>?_,λm M=>?_⟩
    .rw[B7 (I.2 _ m1),B7 (I.1 _ m2)];exact R b o e I
    .rw[B7 (dif m M _ m1),D8 J,Cb];by_cases e:q.2.2=m
     .rw[<-e,A7,AN rfl,AK];rfl
     .rw[AI e,BW,B7 (λz=>e (D5.inj _ M _ m2 z).symm)];exact h2 m M
    .rw[D8 J,Eh];by_cases e:q.2.1=m
     .rw[<-e,A7,AN rfl,AK];rfl
     .rw[AI e,BW,B7 (λz=>e (D7.inj _ M _ m1 z).symm),B7 (dif _ m2 _ M).symm];exact h3 m M
  .rintro σ S ⟨_,R,h2,h3⟩;have hlq:(E8 D).length=D.length:=by unfold E8;rw[AB]
   rw[hlq,BR]at h2 h3;have mk:∀G:Hp,(∀b o,S b=some o->(b=x\/b=p\/b=B\/b=c\/b=d\/(∃q∈D,b=q.1)\/(∃n∈j,b=la N n)\/∃n∈j,b=la O n)->G b=some o)->IP T.ac G x j D:=λG g =>
    ⟨⟨ndn,by rw[p1.length_eq];exact hN3,w1,λq J=>⟨p1.mem_iff.mpr (hO1 q (p2.mem_iff.mp J)).1,p1.mem_iff.mpr (hO1 q (p2.mem_iff.mp J)).2⟩,(p2.map _).nodup_iff.mpr hO2,by rw[p2.length_eq];exact hO3,w2⟩,r,p,B,c,d,N,O,g _ _ (R _ _ x8 xdif) (.inl rfl),g _ _ (R _ _ f8 (L f4 U.symm)) (.inr (.inl rfl)),g _ _ (R _ _ g8 (L e4 W.symm)) (.inr (.inr (.inl rfl))),
     λq M=>g _ _ (R _ _ (pin8 q M) (L (C q M) (J8 (C q M) Z (by intro z;cases z)))) (.inr (.inr (.inr (.inr (.inr (.inl ⟨q,M,rfl⟩)))))),g _ _ (R _ _ c8 cdif) (.inr (.inr (.inr (.inl rfl)))),g _ _ (R _ _ d8 ddif) (.inr (.inr (.inr (.inr (.inl rfl))))),
     λn f=>⟨_,D5.val n f,g _ _ (h2 n f) (.inr (.inr (.inr (.inr (.inr (.inr (.inl ⟨n,f,rfl⟩)))))))⟩,λn f=>⟨_,D7.val n f,g _ _ (h3 n f) (.inr (.inr (.inr (.inr (.inr (.inr (.inr ⟨n,f,rfl⟩)))))))⟩⟩
   refine k j D S p1 w1 p2 w2 (λb o e I=>?_) (mk S λb o e _=>e) λz zs u hz=>mk _ λb o e I=>?_
   .have hb':b≠x:=λz=>I (by simp[z]);exact R _ _ (kall b o e I) (odif e hb')
   .have zx:z≠x:=J8 hz hx (by intro y;cases y);have z3:=k3 _ _ hz (t zx);have z4:=k4 _ _ z3 (t zx);have nz:b≠z:=by
     rcases I with rfl | rfl | rfl | rfl | rfl | ⟨q,J,rfl⟩ | ⟨n,f,rfl⟩ | ⟨n,f,rfl⟩
     .exact zx.symm
     .exact(B0 (s12 _ _ hz) hl1).symm
     .exact(B0 z3 hl2).symm
     .exact(B0 z4 hc).symm
     .exact(B0 (X z4 zx) hd).symm
     .exact J8 (hI q (p2.mem_iff.mp J)) hz (by intro y;cases y)
     .exact((odif hz zx).1 n f).symm
     .exact((odif hz zx).2 n f).symm
    rw[B7 nz];exact e
def IP.same{C:A3}{H H':Hp}{x:A3}{ns:A0 Str}{g:A0 IM}(h:IP C H x ns g)(s:Cv H H'):IP C H' x ns g:=by
 obtain⟨i,j,a,b,c,d,k,m,o,p,q,r,t,u,w,y⟩:=h;exact⟨i,j,a,b,c,d,k,m,s _ _ o,s _ _ p,s _ _ q,G6 s r,s _ _ t,s _ _ u,λn f=>let⟨l,v,e⟩:=w n f;⟨l,v,s _ _ e⟩,λn f=>let⟨l,v,e⟩:=y n f;⟨l,v,s _ _ e⟩⟩
theorem Ap:IB ["self"] ["self"] (B6 LQ):=KL
def Hc(C:A3):Sp:=λb H Q _=>∃(x:A3) (a:A0 Str) (c:A0 IM),b = [.ref x]/\IP C H x a c/\∀l,H l=none->Q (.ref l) (HY H l (.lst (a.map V.str)))
theorem E5(T:Tx K mg):IJ P w K mg base JQ 1 T.ab.f T.ab.fd ["self"] (Hc T.ac):=by
 refine T.ab.F.o1 Ap λg A e s H m Q E n h=>?_
 .obtain⟨x,o,p,rfl,⟨q,i,a,b,c,d,r,t,j,l,u,v,y,z,B,C⟩,k⟩:=h;refine⟨_,(B5 (C0 (y8 (X3 K) T.az T3 (A6 (MZ K (pv 0)) A8)))),?_⟩;exact⟨_,rfl,x,T.ac,i,_,_,rfl,j,T.af,T.aK,rfl,a,_,rfl,.inl (IG.of l),k⟩
theorem Aq:IB ["self","name"] ["self","name"] (B6 LP):=KL
def Gj(C:A3):Sp:=λb H Q _=>∃(x:A3) (n:Str) (a:A0 Str) (c:A0 IM),b = [.ref x,.str n]/\IP C H x a c/\n∈a/\Q .non H
theorem P0(T:Tx K mg):IJ P w K mg base JQ 1 T.aj.f T.aj.fd ["self","name"] (Gj T.ac):=by
 refine T.aj.F.o1 Aq λg A e s H o Q E p h=>?_
 .obtain⟨x,n,q,r,rfl,⟨t,i,a,b,c,d,u,v,j,l,y,z,B,C,D,G⟩,m,k⟩:=h;refine⟨_,(B5 (M0 (B8 (o0 K) (pv 1) (MZ K (pv 0)) rfl) (B5 Y3) E4)),?_⟩;refine C3 rfl (C3 rfl ⟨x,T.ac,i,_,C3 rfl ⟨j,T.af,T.aK,rfl,U4 (.inl (IG.of l)) ⟨_,rfl,?_⟩⟩⟩);rw[AS m];exact N9 k
theorem m9:IB ["self"] ["self"] (B6 KZ):=KL
def Cp(C:A3):Sp:=λb H Q _=>∃(x:A3) (c:A0 Str) (a:A0 IM),b = [.ref x]/\IP C H x c a/\∀l,H l=none->Q (.ref l) (HY H l (.lst (E8 a)))
theorem I9(T:Tx K mg):IJ P w K mg base JQ 1 T.ae.f T.ae.fd ["self"] (Cp T.ac):=by
 refine T.ae.F.o1 m9 λg A e s H m Q E n h=>?_
 .obtain⟨x,o,p,rfl,⟨q,i,a,b,c,d,r,t,j,u,l,v,y,z,B,C⟩,k⟩:=h;refine⟨_,(B5 (C0 (y8 (X3 K) T.az T3 (A6 (MZ K (pv 0)) A8)))),?_⟩;exact⟨_,rfl,x,T.ac,i,_,_,rfl,j,T.af,T.a0,rfl,b,_,rfl,.inl (IG.of l),k⟩
theorem Fw:IB ["self","name"] ["self","name"] (B6 NE):=KL
def Tn(C:A3):Sp:=λc H Q _=>∃(x:A3) (n:Str) (a:A0 Str) (b:A0 IM),c = [.ref x,.str n]/\IP C H x a b/\n∈a/\∀l,H l=none->Q (.ref l) (HY H l (.lst ((C2 b n).map V.str)))
theorem S6(T:Tx K mg):IJ P w K mg base JQ 2 T.ap.f T.ap.fd ["self","name"] (Tn T.ac):=by
 refine T.ap.F.o1 Fw λr A g s H C Q E i h=>?_
 .obtain⟨x,n,t,u,rfl,j,o,k⟩:=h;have y:=Q8 i;obtain⟨D,p,a,b,c,d,G,I,q,J,L,M,N,z,O,B⟩:=id j;refine⟨_,(A9 (J7 (N0 (pv 0) T.af T.aj.m (P0 T) (Rm i) T.aj.b .nil J6 (A6 (pv 1) A8)))
   (B5 (C0 (y8 (X3 K) T.az T3 (A6 (Y0 y (MZ K (pv 0)) (pv 1) (λ_ _=>rfl)) A8))))),?_⟩
  refine C3 rfl ⟨x,p,C3 rfl ⟨q,rfl,C3 rfl ⟨x,n,t,u,rfl,j,o,?_⟩⟩⟩;obtain⟨l,v,e⟩:=B n o;exact⟨_,rfl,x,T.ac,p,_,_,rfl,q,T.af,T.aE,rfl,_,rfl,d,_,rfl,by rw[<-v];exact LE.k (k:=Sum.inr n) z,l,_,rfl,.inl (IG.of e),k⟩
theorem Bk:IB ["self","name"] ["self","name"] (B6 Lr):=KL
def Ji(C:A3):Sp:=λc H Q _=>∃(x:A3) (n:Str) (a:A0 Str) (b:A0 IM),c = [.ref x,.str n]/\IP C H x a b/\n∈a/\∀l,H l=none->Q (.ref l) (HY H l (.lst ((B2 b n).map V.str)))
theorem S9(T:Tx K mg):IJ P w K mg base JQ 2 T.ar.f T.ar.fd ["self","name"] (Ji T.ac):=by
 refine T.ar.F.o1 Bk λr A g s H C Q E i h=>?_
 .obtain⟨x,n,t,u,rfl,j,o,k⟩:=h;have y:=Q8 i;obtain⟨D,p,a,b,c,d,G,I,q,J,L,M,z,N,B,O⟩:=id j;refine⟨_,(A9 (J7 (N0 (pv 0) T.af T.aj.m (P0 T) (Rm i) T.aj.b .nil J6 (A6 (pv 1) A8)))
   (B5 (C0 (y8 (X3 K) T.az T3 (A6 (Y0 y (MZ K (pv 0)) (pv 1) (λ_ _=>rfl)) A8))))),?_⟩
  refine C3 rfl ⟨x,p,C3 rfl ⟨q,rfl,C3 rfl ⟨x,n,t,u,rfl,j,o,?_⟩⟩⟩;obtain⟨l,v,e⟩:=B n o;exact⟨_,rfl,x,T.ac,p,_,_,rfl,q,T.af,T.aC,rfl,_,rfl,c,_,rfl,by rw[<-v];exact LE.k (k:=Sum.inr n) z,l,_,rfl,.inl (IG.of e),k⟩
def U5{K:VA}{a D:A3}{ts:A0 Str}{r:St}{k:TT}{H:Hp}{Q:St->Hp->Prop}(p:Str->Bool)(e:H a=some (.lst (ts.map V.str)))(w:ts.length<=1000)(l:H D=none)
  (x:∀y∈ts,∀j,Cv H j->∀m:Bool->Hp->Prop,(∀f,Cv j f->m (p y) f)->k (some (.str y)::r) j m) (h:∀σ f,Cv H f->f D=some (.lst ((ts.filter p).map V.str))->Q σ f) (n:A5 V) :
  Au (O0 0) k (Z7 D (T9 0)) (P_ K a) (n::r) (HY H D (.lst [])) Q:=by
 refine P1 (PF (K:=K) (IG.of e)) (λi σ g=>(∃v,σ=v::r)/\Cv H g/\g D=some (.lst (((ts.take i).filter p).map V.str)))
  ⟨⟨_,rfl⟩,Cv.new l,A7⟩ (λi σ j _ ⟨_,z,_⟩=>z.at a) ?_ ?_
 .rintro i σ g v N o ⟨⟨n,rfl⟩,b,d⟩ q;rw[AH]at o;obtain⟨y,s,rfl⟩:=BF.mp o;refine x y (BB s) g b _ λA t=>?_;have d:=t _ _ d;have b:=b.trans t;have u:(ts.take (i+1)).filter p =(ts.take i).filter p++if p y=true then [y]else []:=by
   rw[D8 s,CM,BO,DQ]
  have B:(((ts.take i).filter p).map V.str).length<=1000:=by
   rw[AB];have:=BC p (ts.take i);rw[AZ]at this;lia
  refine Z8 (λc=>C3 rfl ⟨_,d,by rw[sizeLine_eq];lia,q _ _ ⟨⟨_,rfl⟩,b.upd l,?_⟩⟩) (λc=>q _ _ ⟨⟨_,rfl⟩,b,?_⟩)
  .rw[A7,u,AN c,AK];rfl
  .rw[u,AI c,BW];exact d
 .rintro σ g ⟨_,b,d⟩;rw[AB,BR]at d;exact h σ g b d
abbrev ON:Str := "in"
abbrev KW:Str := "out"
abbrev NZ:Str := "open"
def WD(kvs:A0 (IQ×V))(f:Str->A5 Str):Prop:=∀n,W9 kvs (.inr n) =(f n).map V.str
def Xy(f:Str->A5 Str)(l:A0 Str)(w:Str)(n:Str):A5 Str:=if n∈l then some w else f n
def N8{f:Str->A5 Str}{l:A0 Str}{w n:Str}(h:n∈l):Xy f l w n=some w:=AN h
def J5{f:Str->A5 Str}{l:A0 Str}{w n:Str}(h:n∉l):Xy f l w n=f n:=AI h
def WD.mrg{w:Str}:∀{l:A0 Str} {kvs:A0 (IQ×V)} {f:Str->A5 Str},WD kvs f->WD (X7 kvs (l.map λn=>(Sum.inr n,V.str w))) (Xy f l w)
 | [],_,_,h=>λn=>by rw[J5 A_];exact h n
 | a::l,kvs,f,h=>λn=>by
  have c:WD (Bd kvs (.inr a) (.str w)) (Xy f [a] w):=λm=>by
   rw[By];by_cases e:m=a
   .rw[AN e,N8 (AE.mpr e)];rfl
   .rw[AI e,J5 λz=>e (AE.mp z)];exact h m
  refine(WD.mrg (l:=l) c n).trans ?_;by_cases e:n∈l
  .rw[N8 e,N8 (AL _ e)]
  .rw[J5 e];by_cases b:n=a
   .rw[N8 (AE.mpr b),N8 (b▸AX ..)]
   .rw[J5 λz=>b (AE.mp z),J5 λz=>(AR.mp z).elim b e]
def C4(a:A0 IM)(f:Str->A5 Str)(n:Str):Bool:=((B2 a n).map λy=>decide (f y=some KW)).all id
def N7(a:A0 IM)(f:Str->A5 Str)(n:Str):Bool:=((B2 a n).map λy=>decide (f y=some ON)).any id
def OJ{b:A0 IM}{f:Str->A5 Str}{n:Str}:C4 b f n=true↔∀y∈B2 b n,f y=some KW:=by
 unfold C4;rw[List.all_map,EJ];exact⟨λh y a=>BL (h y a),λh y a=>AS (h y a)⟩
def OX{b:A0 IM}{f:Str->A5 Str}{n:Str}:N7 b f n=true↔∃y∈B2 b n,f y=some ON:=by
 unfold N7;rw[List.any_map,GS];exact⟨λ⟨y,a,h⟩=>⟨y,a,BL h⟩,λ⟨y,a,h⟩=>⟨y,a,AS h⟩⟩
def zBb{K:VA}{a D:A3}{ts:A0 Str}{r:St}{l:TE}{H:Hp}{Q:St->Hp->Prop}(g:Str->V)(e:H a=some (.lst (ts.map V.str)))(s:ts.length<=1000)(m:H D=none)
  (t:∀y∈ts,∀d,Cv H d->∀n:VK,(∀b,Cv d b->n (g y) b)->l (some (.str y)::r) d n) (h:∀σ b,Cv H b->b D=some (.lst (ts.map g))->Q σ b) (o:A5 V) :
  Au (O0 0) Gn (Z7 D l) (P_ K a) (o::r) (HY H D (.lst [])) Q:=by
 refine P1 (PF (K:=K) (IG.of e)) (λi σ c=>(∃v,σ=v::r)/\Cv H c/\c D=some (.lst ((ts.take i).map g)))
  ⟨⟨_,rfl⟩,Cv.new m,A7⟩ (λi σ d _ ⟨_,u,_⟩=>u.at a) ?_ ?_
 .rintro i σ c v N p ⟨⟨o,rfl⟩,f,j⟩ w;rw[AH]at p;obtain⟨y,k,rfl⟩:=BF.mp p;have x:=(AJ.mp k).1;refine Dz (t y (BB k) c f _ λz q=>⟨_,q _ _ j,?_,w _ _ ⟨⟨_,rfl⟩,(f.trans q).upd m,?_⟩⟩)
  .rw[AB,AZ,sizeLine_eq];lia
  .rw[A7,D8 k,AK];rfl
 .rintro σ c ⟨_,f,j⟩;rw[AB,BR]at j;exact h σ c f j
def Mq{K:VA}{a D:A3}{ts:A0 Str}{r:St}{f:TE}{H:Hp}{Q:St->Hp->Prop}(p:Str->Bool)(e:H a=some (.lst (ts.map V.str)))(c:ts.length<=1000)(j:H D=none)
  (k:∀y∈ts,∀d,Cv H d->∀g:VK,(∀b,Cv d b->g (.bl (p y)) b)->f (some (.str y)::r) d g) (h:∀σ b,Cv H b->b D=some (.lst ((ts.map p).map V.bl))->Q σ b) (i:A5 V) :
  Au (O0 0) Gn (Z7 D f) (P_ K a) (i::r) (HY H D (.lst [])) Q:=zBb (λy=>V.bl (p y)) e c j k (λσ b l m=>h σ b l (by rw[m,BS];rfl)) i
def Kr{K:VA}{a D:A3}{ts:A0 Str}{w:Str}{H:Hp}{Q:St->Hp->Prop}(e:H a=some (.lst (ts.map V.str)))(o:ts.Nodup)(p:ts.length<=1000)(k:H D=none)
  (h:∀σ f,Cv H f->f D=some (.dK (ts.map λn=>(Sum.inr n,V.str w)))->Q σ f) (l:A5 V) :
  Au (O0 0) Gn (Ei D (T9 0) (tC (.str w))) (P_ K a) [l] (HY H D (.dK [])) Q:=by
 refine P1 (PF (K:=K) (IG.of e)) (λi σ b=>(∃v,σ = [v])/\Cv H b/\b D=some (.dK ((ts.take i).map λn=>(Sum.inr n,V.str w))))
  ⟨⟨_,rfl⟩,Cv.new k,A7⟩ (λi σ t _ ⟨_,q,_⟩=>q.at a) ?_ ?_
 .rintro i σ b v N m ⟨⟨l,rfl⟩,g,d⟩ r;rw[AH]at m;obtain⟨y,j,rfl⟩:=BF.mp m;have u:=(AJ.mp j).1;refine Dz (C3 rfl ⟨_,.inr y,d,rfl,?_,r _ _ ⟨⟨_,rfl⟩,g.upd k,?_⟩⟩)
  .rw[AB,AZ,sizeLine_eq];lia
  .rw[A7];unfold Bd;rw[AI,D8 j,AK];rfl;rw[List.any_map,GS];rintro⟨z,s,c⟩;have c:(Sum.inr z:IQ) = .inr y:=BL c;cases c;exact Y7 o j s
 .rintro σ b ⟨_,g,d⟩;rw[AB,BR]at d;exact h σ b g d
abbrev Row:Type:=Str×Str×V
def RL(H:Hp)(l:A3)(a:A0 (A3×Row)):Prop:=H l=some (.lst (a.map λq=>V.ref q.1))/\∀q∈a,H q.1=some (.tup [.str q.2.1,.str q.2.2.1,q.2.2.2])
def RL.same{H H':Hp}{l:A3}{a:A0 (A3×Row)}(h:RL H l a)(s:Cv H H'):RL H' l a:=⟨s _ _ h.1,λq b=>s _ _ (h.2 q b)⟩
def RL.app{H H':Hp}{a b c:A3}{d ts:A0 (A3×Row)}(h:RL H a d)(h':RL H b ts)(e:H' c=some (.lst ((d.map λq=>V.ref q.1)++ts.map λq=>V.ref q.1)))(k:∀q o,H q=some (.tup o)->H' q=some (.tup o)):RL H' c (d++ts) :=
 ⟨by rw[e,AK],λq f=>k _ _ ((AO.mp f).elim (h.2 q) (h'.2 q))⟩
def Yb{K:VA}{a D:A3}{ts:A0 Str}{B:TA}{r:St}{H:Hp}{Q:St->Hp->Prop}{C:TT}(p:Str->Bool)(g:Str->A0 V)(L:∀y,(g y).length<=3)(e:H a=some (.lst (ts.map V.str)))(M:ts.length<=1000)(E:H D=none)(O:∀y d (l:A0 V->Hp->Prop),l (g y) d->B (some (.str y)::r) d l)
  (s:∀y∈ts,∀d,Cv H d->∀l:Bool->Hp->Prop,l (p y) d->C (some (.str y)::r) d l)
  (h:∀σ (b:A0 (A3×Str)) u,Cv H u->u D=some (.lst (b.map λq=>V.ref q.1))->(∀q∈b,u q.1=some (.tup (g q.2)))->b.map (λq=>q.2)=ts.filter p->Q σ u) (F:A5 V) :
  Au (O0 0) C (Z7 D (zEp B)) (P_ K a) (F::r) (HY H D (.lst [])) Q:=by
 refine P1 (PF (K:=K) (IG.of e)) (λi σ f=>(∃v,σ=v::r)/\Cv H f/\∃b:A0 (A3×Str),f D=some (.lst (b.map λq=>V.ref q.1))/\(∀q∈b,f q.1=some (.tup (g q.2)))/\b.map (λq=>q.2) =(ts.take i).filter p)
  ⟨⟨_,rfl⟩,Cv.new E,[],A7,λq h=>absurd h A_,rfl⟩ (λi σ d _ ⟨_,P,_⟩=>P.at a) ?_ ?_
 .rintro i σ f v N G ⟨⟨F,rfl⟩,m,b,j,n,k⟩ I;rw[AH]at G;obtain⟨y,w,rfl⟩:=BF.mp G;have U:=(AJ.mp w).1;have R:=congrArg List.length k;rw[AB]at R;have S:=BC p (ts.take i);rw[AZ]at S;have J:(ts.take (i+1)).filter p =(ts.take i).filter p++if p y=true then [y]else []:=by
   rw[D8 w,CM,BO,DQ]
  refine s y (BB w) f m _ ?_;refine Z8 (λc=>O _ _ _ ⟨VE (L y) (by show 3<=sizeLine;decide),λt s=>?_⟩) (λc=>I _ _ ⟨⟨_,rfl⟩,m,b,j,n,by rw[J,AI c,BW];exact k⟩);have x:=Cv.new (o:=.tup (g y)) s;have A:t≠D:=(B0 j s).symm;refine⟨_,x _ _ j,by rw[AB,sizeLine_eq];lia,I _ _ ⟨⟨_,rfl⟩,(m.trans x).upd E,b ++ [(t,y)],by rw[A7,AK];rfl,λq T=>?_,by rw[J,AN c,AK,k];rfl⟩⟩;rcases AO.mp T with c | c
  .exact(B7 (J8 (n q c) j (by intro z;cases z))).trans (x _ _ (n q c))
  .rw[AE.mp c];exact(B7 A).trans A7
 .rintro σ f ⟨_,m,b,j,n,k⟩;rw[AB,BR]at k;exact h σ b f m j n k
def Jq{K:VA}{a D:A3}{ts:A0 Str}{w:Str}{v3:V}{j:TE}{r:St}{H:Hp}{Q:St->Hp->Prop}{k:TT}(p:Str->Bool)(e:H a=some (.lst (ts.map V.str)))(g:ts.length<=1000)(m:H D=none)(o:∀y b (c:VK),c v3 b->j (some (.str y)::r) b c)
  (s:∀y∈ts,∀b,Cv H b->∀c:Bool->Hp->Prop,c (p y) b->k (some (.str y)::r) b c)
  (h:∀σ f d,Cv H d->RL d D f->f.map (λq=>q.2) =(ts.filter p).map (λn=>(n,w,v3))->Q σ d) (l:A5 V) :
  Au (O0 0) k (Z7 D (zEp (U7 (T9 0) (U7 (tC (.str w)) (U7 j Iy))))) (P_ K a) (l::r) (HY H D (.lst [])) Q :=
 Yb p (λy=>[.str y,.str w,v3]) (λ_=>VD _) e g m (λy b c i=>⟨_,rfl,o _ _ _ i⟩) s (λσ f d t u v x=>h σ (f.map λq=>(q.1,q.2,w,v3)) d t ⟨by rw[u,BS];rfl,λq i=>let⟨z,A,e⟩:=BK.mp i;e▸v z A⟩ (by rw[<-x,BS,BS];rfl)) l
def Ab{l:A0 Str}:l.filter (λ_=>true)=l:=List.filter_eq_self.mpr λ_ _=>rfl
def Js(C:A3):Sp:=λe H Q _=>∃(x d:A3) (c:A0 Str) (g:A0 IM) (a:A0 (IQ×V)) (f:Str->A5 Str),e = [.ref x,.ref d]/\IP C H x c g/\H d=some (.dK a)/\WD a f/\∀l b,Cv H b->H l=none->b l=some (.lst ((c.filter λn=>(f n).isNone).map V.str))->Q (.ref l) b
theorem Jk:IB ["web","words"] ["web","words"] (B6 OA):=KL
theorem i9(T:Tx K mg):IJ P w K mg base JQ 2 T.aM.f T.aM.fd ["web","words"] (Js T.ac):=by
 refine T.aM.F.o1 Jk λz A j s H S Q E r h=>?_
 .obtain⟨x,d,a,B,C,f,rfl,t,G,I,k⟩:=h;have J:=Q8 r;refine⟨_,(B5 (C0 (V9 (N':=["name","words"]) (cap:=[none,some 1]) (cl:=[("words",_)]) (O7 ⟨⟨rfl,rfl,rfl,rfl⟩,trivial⟩ ⟨rfl,trivial⟩) rfl (MW K (J3 (pv 0) T.af T.ab.m (E5 T) (Rm r) T.ab.b .nil J6)) (λ_ _ _ _=>by exact⟨(LS 0),(K8 (zDa (Sh J (pv 0) (pv 1)))),(pv 0)⟩)))),?_⟩;obtain⟨L,M,U,b,c,W,X,Y,N,_⟩:=id t;have Z:=L.len;refine C3 rfl ⟨x,M,C3 rfl ⟨N,rfl,x,a,B,rfl,t,λg l=>?_⟩⟩;have i:=Cv.new (o:=.lst (a.map V.str)) l;have p:(HY H g (.lst (a.map V.str))) g=some (.lst (a.map V.str)):=A7;generalize HY H g (.lst (a.map V.str))=H2 at i p⊢;refine⟨g,rfl,⟨_,IG.of p⟩,λD u=>?_⟩;refine U5 (λn=>(f n).isNone) p (by lia) u (λy hy v q Q' O=>?_) (λσ v q R=>k D v (i.trans q) (i.free u) R) _;refine C3 rfl (C3 rfl ⟨d,_,rfl,LE.k (k:=Sum.inr y) (q _ _ (i _ _ G)),_,rfl,?_⟩);rw[I y];have e:(!((f y).map V.str).isSome) =(f y).isNone:=by cases f y<;>rfl
  rw[e];exact O _ λb o e=>e
def Ob(C:A3):Sp:=λg H Q _=>∃(x d:A3) (n:Str) (b:A0 Str) (c:A0 IM) (a:A0 (IQ×V)) (f:Str->A5 Str),g = [.ref x,.ref d,.str n]/\IP C H x b c/\n∈b/\H d=some (.dK a)/\WD a f/\∀e,Cv H e->Q (.bl (C4 c f n)) e
def Qj(C:A3):Sp:=λg H Q _=>∃(x d:A3) (n:Str) (b:A0 Str) (c:A0 IM) (a:A0 (IQ×V)) (f:Str->A5 Str),g = [.ref x,.ref d,.str n]/\IP C H x b c/\n∈b/\H d=some (.dK a)/\WD a f/\∀e,Cv H e->Q (.bl (N7 c f n)) e
theorem Xa{H:Hp}{d:A3}{kvs:A0 (IQ×V)}{f:Str->A5 Str}{y w:Str}{r:St}{Q:VK}(a:H d=some (.dK kvs))(b:WD kvs f)(h:Q (.bl (decide (f y=some w))) H):OL rEq (Li (T9 1) (T9 0)) (tC (.str w)) (some (.str y)::some (.ref d)::r) H Q:=by
 refine C3 rfl ⟨d,rfl,.inl ⟨kvs,.inl a⟩,C3 rfl ⟨_,LE.k (k:=Sum.inr y) a,?_⟩⟩;rw[b y];cases e:f y with
 | none=>rw[e]at h;exact⟨rfl,h⟩
 | some z =>
  rw[e]at h;refine⟨rfl,?_⟩;have g:decide (V.str z=V.str w)=decide (some z=some w):=EK.mpr ⟨λc=>by injection c with c;rw[c],λc=>by injection c with c;rw[c]⟩;show Q (.bl (decide (V.str z=V.str w))) H;rw[g];exact h
theorem Mu:IB ["web","words","name"] ["web","words","name"] (B6 OW):=KL
theorem Sj:IB ["web","words","name"] ["web","words","name"] (B6 PN):=KL
theorem Nk(T:Tx K mg):IJ P w K mg base JQ 3 T.bb.f T.bb.fd ["web","words","name"] (Ob T.ac):=by
 refine T.bb.F.o1 Mu λv A i s H U Q E r h=>?_
 .obtain⟨x,d,n,z,a,B,f,rfl,t,C,G,I,k⟩:=h;have J:=Q8 r;refine⟨_,(B5 (C0 (I0 (Rv K) T.bq Qg (A6 (V9 (N':=["striker","words"]) (cap:=[none,some 1]) (cl:=[("words",_)]) (O7 ⟨⟨rfl,rfl,rfl,rfl⟩,trivial⟩ ⟨rfl,trivial⟩) rfl (MW K (N0 (pv 0) T.af T.ar.m (S9 T) (Rm r) T.ar.b .nil J6 (A6 (pv 2) A8))) (λ_ _ _ _=>by exact⟨(LS 0),P5,(R0 U2 (Y9 J (pv 1) (pv 0) ⟨rfl,rfl,rfl,rfl⟩) C1 (C8 _))⟩)) A8)))),?_⟩;obtain⟨L,M,W,b,c,X,Y,Z,N,_⟩:=id t;have lq:=L.lenq;have ls:(B2 a n).length<=a.length:=by unfold B2;rw[AB];exact BC ..
  refine C3 rfl ⟨x,M,C3 rfl ⟨N,rfl,C3 rfl ⟨x,n,z,a,rfl,t,C,λg j=>?_⟩⟩⟩;have l:=Cv.new (o:=.lst ((B2 a n).map V.str)) j;have p:(HY H g (.lst ((B2 a n).map V.str))) g=some (.lst ((B2 a n).map V.str)):=A7;generalize HY H g (.lst ((B2 a n).map V.str))=H2 at l p⊢;refine⟨g,rfl,⟨_,IG.of p⟩,λD O=>?_⟩;exact Mq (λy=>decide (f y=some KW)) p (by lia) O (λy hy u q Q' R=>Xa (q _ _ (l _ _ G)) I (R _ λb o e=>e)) (λσ u q S=>⟨D,_,rfl,IG.of S,k u (l.trans q)⟩) _
theorem Qs(T:Tx K mg):IJ P w K mg base JQ 3 T.be.f T.be.fd ["web","words","name"] (Qj T.ac):=by
 refine T.be.F.o1 Sj λv A i s H U Q E r h=>?_
 .obtain⟨x,d,n,z,a,B,f,rfl,t,C,G,I,k⟩:=h;have J:=Q8 r;refine⟨_,(B5 (C0 (I0 (zCm K) T.bG zBx (A6 (V9 (N':=["striker","words"]) (cap:=[none,some 1]) (cl:=[("words",_)]) (O7 ⟨⟨rfl,rfl,rfl,rfl⟩,trivial⟩ ⟨rfl,trivial⟩) rfl (MW K (N0 (pv 0) T.af T.ar.m (S9 T) (Rm r) T.ar.b .nil J6 (A6 (pv 2) A8))) (λ_ _ _ _=>by exact⟨(LS 0),P5,(R0 U2 (Y9 J (pv 1) (pv 0) ⟨rfl,rfl,rfl,rfl⟩) C1 (C8 _))⟩)) A8)))),?_⟩;obtain⟨L,M,W,b,c,X,Y,Z,N,_⟩:=id t;have lq:=L.lenq;have ls:(B2 a n).length<=a.length:=by unfold B2;rw[AB];exact BC ..
  refine C3 rfl ⟨x,M,C3 rfl ⟨N,rfl,C3 rfl ⟨x,n,z,a,rfl,t,C,λg j=>?_⟩⟩⟩;have l:=Cv.new (o:=.lst ((B2 a n).map V.str)) j;have p:(HY H g (.lst ((B2 a n).map V.str))) g=some (.lst ((B2 a n).map V.str)):=A7;generalize HY H g (.lst ((B2 a n).map V.str))=H2 at l p⊢;refine⟨g,rfl,⟨_,IG.of p⟩,λD O=>?_⟩;exact Mq (λy=>decide (f y=some ON)) p (by lia) O (λy hy u q Q' R=>Xa (q _ _ (l _ _ G)) I (R _ λb o e=>e)) (λσ u q S=>⟨D,_,rfl,IG.of S,k u (l.trans q)⟩) _
def bor(x y:Nat):Builtin.bitOr (x:Int) (y:Int) =((x ||| y:Nat):Int):=by
 have b:¬0<=Builtin.bitNot (x:Int):=by unfold Builtin.bitNot;lia
 have c:¬0<=Builtin.bitNot (y:Int):=by unfold Builtin.bitNot;lia
 have a:∀z:Int,Builtin.bitNot (Builtin.bitNot z)=z:=λz=>by unfold Builtin.bitNot;lia
 rw[Builtin.bitOr,PyProof.Rows.bitAnd_nn b c,a,a,a];rfl
def zFw(x y:Nat):Builtin.bitAnd (x:Int) (y:Int) =((x &&& y:Nat):Int):=by simp[Builtin.bitAnd]
def zEy(k:Nat):(1:Int)*2 ^((k:Int).toNat) =((2^k:Nat):Int):=by rw[Int.one_mul,CH,Int.natCast_pow];rfl
def zBw(m k:Nat):decide (V.int (Builtin.bitAnd ((m:Int) / 2 ^((k:Int).toNat)) 1)=V.int 1)=m.testBit k:=by
 have a:(m:Int) / 2 ^((k:Int).toNat) =((m / 2^k:Nat):Int):=by rw[CH,Int.natCast_ediv,Int.natCast_pow];rfl
 have b:Builtin.bitAnd ((m / 2^k:Nat):Int) 1 =((m / 2^k % 2:Nat):Int):=by
  rw[show(1:Int) =((1:Nat):Int)from rfl,zFw,Nat.and_one_is_mod]
 rw[a,b,Nat.testBit_eq_decide_div_mod_eq];refine EK.mpr ⟨λh=>?_,λh=>?_⟩
 .injection h with h;lia
 .rw[h];rfl
def Lx(m:Nat):V:=.int (m:Int)
structure MB(ns:A0 Str)(ks:A0 (Str×Str))(B:A0 Nat):Prop where
 len:B.length=ns.length
 bit:∀i j,(B.getD i 0).testBit j=true↔∃k∈ks,ns[i]?=some k.1/\ns[j]?=some k.2
def MB.zero(ns:A0 Str):MB ns [] (List.replicate ns.length 0):=by
 refine⟨GI,λi j=>?_⟩;have e:(List.replicate ns.length 0).getD i 0=0:=by
  rw[CA,List.getElem?_replicate];by_cases h:i<ns.length
  .rw[AN h];rfl
  .rw[AI h];rfl
 rw[e,FR];simp
def Be{α:Type}{l:A0 α}(h:l.Nodup){i j:Nat}{x:α}(hi:l[i]?=some x)(c:l[j]?=some x):i=j:=by
 obtain⟨a,e⟩:=AJ.mp hi;obtain⟨b,d⟩:=AJ.mp c;exact(List.getElem_inj h).mp (e.trans d.symm)
def MB.step{ns:A0 Str}{l:A0 (Str×Str)}{B:A0 Nat}(h:MB ns l B)(m:ns.Nodup){a b:Nat}{x y:Str}(f:ns[a]?=some x)(n:ns[b]?=some y):MB ns (l ++ [(x,y)]) (B.set a (B.getD a 0 ||| 2^b)):=by
 have g:a<B.length:=by rw[h.len];exact(AJ.mp f).1
 refine⟨by rw[List.length_set];exact h.len,λi j=>?_⟩;by_cases e:a=i
 .subst e;have e:(B.set a (B.getD a 0 ||| 2^b)).getD a 0=B.getD a 0 ||| 2^b:=by
   rw[CA,HH g];rfl
  rw[e,Nat.testBit_or,Bool.or_eq_true,h.bit,Nat.testBit_two_pow,decide_eq_true_iff];constructor
  .rintro(⟨k,hk,c,d⟩ | rfl)
   .exact⟨k,CQ _ hk,c,d⟩
   .exact⟨(x,y),BN _ (AE.mpr rfl),f,n⟩
  .rintro⟨k,hk,c,d⟩;rcases AO.mp hk with hk | hk
   .exact .inl ⟨k,hk,c,d⟩
   .rw[AE.mp hk]at d;exact .inr (Be m n d)
 .have o:(B.set a (B.getD a 0 ||| 2^b)).getD i 0=B.getD i 0:=by
   rw[CA,GP e,<-CA]
  rw[o,h.bit];constructor
  .rintro⟨k,hk,c,d⟩;exact⟨k,CQ _ hk,c,d⟩
  .rintro⟨k,hk,c,d⟩;rcases AO.mp hk with hk | hk
   .exact⟨k,hk,c,d⟩
   .rw[AE.mp hk]at c;exact absurd (Be m f c) e
def Sv{x y:Str}(h:x.cps.toList=y.cps.toList):x=y:=by
 cases x;cases y;exact congrArg Str.mk (Array.toList_inj.mp h)
def Uv{x y:Str}(h1:NL x y)(h2:NL y x):x=y:=Sv (HM (as:=x.cps.toList) (bs:=y.cps.toList) h1 h2)
def K7{a b:A0 Str}(h1:a.Pairwise NL)(h2:b.Pairwise NL)(h:a.Perm b):a=b:=List.Perm.eq_of_pairwise (λ_ _ _ _=>Uv) h1 h2 h
def leK(k l:Str×Str):Prop:=QB (0,k) (0,l)
def Wi{k l:Str×Str}(h1:leK k l)(h2:leK l k):k=l:=by
 have h1:¬TS.JH (Gc (0,l)) (Gc (0,k))=true:=λz=>by rw[show TS.JH (Gc (0,l)) (Gc (0,k))=false from h1]at z;cases z
 have h2:¬TS.JH (Gc (0,k)) (Gc (0,l))=true:=λz=>by rw[show TS.JH (Gc (0,k)) (Gc (0,l))=false from h2]at z;cases z
 rw[TS.I1]at h1 h2;have a:k.1.cps.toList=l.1.cps.toList:=HM (as:=k.1.cps.toList) (bs:=l.1.cps.toList) (λz=>h1 (.inl z)) (λz=>h2 (.inl z));have b:k.2.cps.toList=l.2.cps.toList:=HM (as:=k.2.cps.toList) (bs:=l.2.cps.toList) (λz=>h1 (.inr ⟨a.symm,z⟩)) (λz=>h2 (.inr ⟨a,z⟩));exact Prod.ext (Sv a) (Sv b)
def QR(nx:Str->A0 Str)(ss:A0 Str)(x:Str):Prop:=∀S:Str->Prop,(∀y∈ss,S y)->(∀y z,S y->z∈nx y->S z)->S x
def QR.of{nx:Str->A0 Str}{ss:A0 Str}{x:Str}(h:x∈ss):QR nx ss x:=λ_ a _=>a x h
def QR.step{nx:Str->A0 Str}{ss:A0 Str}{y z:Str}(h:QR nx ss y)(hz:z∈nx y):QR nx ss z:=λS b a=>a y z (h S b a) hz
def Gf:∀{l m:A0 Str},l.Nodup->(∀x∈l,x∈m)->l.length<=m.length
 | [],_,_,_=>CB _
 | x::l,m,c,h=>by
  obtain⟨d,e⟩:=CL.mp c;have a:=h x (AX ..);have f:=Gf (m:=m.erase x) e λy b=>(List.mem_erase_of_ne (λz:y=x=>d (z▸b))).mpr (h y (AL _ b));rw[List.length_erase_of_mem a]at f;have:=List.length_pos_of_mem a;rw[BQ];lia
structure RI(nx:Str->A0 Str)(ns ss se wa:A0 Str)(ex:Str->Prop):Prop where
 nd:se.Nodup
 ndw:wa.Nodup
 sub:∀x∈se,x∈ns
 rch:∀x∈se,QR nx ss x
 beg:∀x∈ss,x∈se
 wai:∀x∈wa,x∈se
 cl:∀x∈se,x∈wa\/ex x\/∀y∈nx x,y∈se
abbrev TL:Str->Prop:=λ_=>False
section
variable{nx:Str->A0 Str}{ns ss se wa:A0 Str}{ex:Str->Prop}
theorem Wz{l:A0 Str}{x:Str}(d:l.Nodup)(f:x∉l):(l ++ [x]).Nodup :=
 CI.mpr ⟨d,CL.mpr ⟨A_,D_⟩,λa g b c e=>f (by rw[AE]at c;exact c▸e▸g)⟩
theorem RI.init(a:ss.Nodup)(sub:∀x∈ss,x∈ns):RI nx ns ss ss ss TL:=⟨a,a,sub,λ_ h=>.of h,λ_ h=>h,λ_ h=>h,λ_ h=>.inl h⟩
theorem RI.add(h:RI nx ns ss se wa ex){x:Str}(b:x∉se)(c:x∈ns)(d:QR nx ss x):RI nx ns ss (se ++ [x]) (wa ++ [x]) ex where
 nd:=Wz h.nd b
 ndw:=Wz h.ndw λz=>b (h.wai x z)
 sub:=λy a=>(AO.mp a).elim (h.sub y) λz=>AE.mp z▸c
 rch:=λy a=>(AO.mp a).elim (h.rch y) λz=>AE.mp z▸d
 beg:=λy a=>CQ _ (h.beg y a)
 wai:=λy a=>(AO.mp a).elim (λz=>CQ _ (h.wai y z)) λz=>BN _ z
 cl:=λy a=>(AO.mp a).elim (λz=>(h.cl y z).elim (λq=>.inl (CQ _ q)) λq=>.inr (q.elim .inl λq=>.inr λv e=>CQ _ (q v e))) λz=>.inl (BN _ z)
theorem RI.pop(h:RI nx ns ss se wa TL){a:A0 Str}{x:Str}(c:a.Nodup)(h1:∀y∈wa,y∈a\/y=x)(h2:∀y∈a,y∈wa):RI nx ns ss se a (λy=>y=x) :=
 ⟨h.nd,c,h.sub,h.rch,h.beg,λy b=>h.wai y (h2 y b),λy b=>(h.cl y b).elim (λq=>(h1 y q).elim .inl λz=>.inr (.inl z)) λq=>q.elim (λz=>z.elim) λz=>.inr (.inr z)⟩
theorem RI.done{x:Str}(h:RI nx ns ss se wa (λy=>y=x))(a:∀y∈nx x,y∈se):RI nx ns ss se wa TL :=
 ⟨h.nd,h.ndw,h.sub,h.rch,h.beg,h.wai,λy b=>(h.cl y b).elim .inl λq=>.inr (.inr (q.elim (λz=>z▸a) id))⟩
theorem RI.fin(h:RI nx ns ss se [] TL)(x:Str):x∈se↔QR nx ss x :=
 ⟨h.rch x,λr=>r (·∈se) h.beg λy z a b=>(h.cl y a).elim (λq=>absurd q A_) λq=>q.elim (λz=>z.elim) λq=>q z b⟩
theorem RI.len(h:RI nx ns ss se wa ex):se.length<=ns.length:=Gf h.nd h.sub
theorem RI.lenw(h:RI nx ns ss se wa ex):wa.length<=ns.length:=Gf h.ndw λx a=>h.sub x (h.wai x a)
end
def six{d n:Nat}(h:d<n):seqIndex? (d:Int) n=some d:=by
 unfold seqIndex?;simp;lia
def JS{α:Type}{l:A0 α}{i:Nat}{x:α}(h:l[i]?=some x):(x::l.eraseIdx i).Perm l:=ST.JS h
def Il{α β:Type}(f:α->β):∀(l:A0 α) (i:Nat),(l.map f).eraseIdx i =(l.eraseIdx i).map f
 | [],_=>rfl
 | _::_,0=>rfl
 | a::l,i+1=>by
  show f a ::(l.map f).eraseIdx i=f a ::(l.eraseIdx i).map f;rw[Il f l i]
def Vj{a b c:A0 Str}(d:(b++c).Perm a)(h1:∀x∈a,P2 x=true)(h2:a.Nodup)(f:a.length<=100):X4 c:=by
 refine⟨λx e=>h1 x (d.mem_iff.mp (BN _ e)),?_,?_⟩
 .exact(CI.mp (d.nodup_iff.mpr h2)).2.1
 .have:=d.length_eq;rw[AV]at this;lia
def Wc{c a b:A0 Str}{d:Nat}{x:Str}(e:(a++b).Perm c)(h:a[d]?=some x):(a.eraseIdx d ++(b ++ [x])).Perm c:=by
 refine List.Perm.trans ?_ e;rw[<-BG];refine CV.trans ?_;rw[<-BG];exact(JS h).append_right b
def MI{p b:A3}{H H':Hp}{o:HO}(h:Sm [p] H H')(e:H b=some o)(n:b≠p):H' b=some o:=h b o e λz=>n (AE.mp z)
section
variable{ns l:A0 Str}{A O:(Str->A5 Str)->Str->Bool}{f:Str->A5 Str}{w n:Str}{num:Int}
def wl(ns:A0 Str)(f:Str->A5 Str):A0 Str:=ns.filter λn=>(f n).isNone
def J2(ns:A0 Str)(A:(Str->A5 Str)->Str->Bool)(f:Str->A5 Str):A0 Str:=(wl ns f).filter (A f)
def JF(ns:A0 Str)(A:(Str->A5 Str)->Str->Bool)(f:Str->A5 Str):Str->A5 Str:=Xy f (J2 ns A f) ON
def OY(ns:A0 Str)(A O:(Str->A5 Str)->Str->Bool)(f:Str->A5 Str):Str->A5 Str:=Xy (JF ns A f) (J2 ns O (JF ns A f)) KW
def V5(ns:A0 Str)(A O:(Str->A5 Str)->Str->Bool)(f:Str->A5 Str)(num:Int):A0 Row:=((J2 ns A f).map λn=>(n,ON,V.int num)) ++(J2 ns O (JF ns A f)).map λn=>(n,KW,V.int num)
theorem JY:n∈wl ns f↔n∈ns/\f n=none:=by unfold wl;rw[AY,Option.isNone_iff_eq_none]
theorem Kb(h:n∈J2 ns A f):n∈ns/\f n=none:=JY.mp (AY.mp h).1
theorem zCp(h:∀n∈l,n∈ns/\f n=none)(i:l.Nodup)(j:ns.Nodup):(wl ns (Xy f l w)).length+l.length<=(wl ns f).length:=by
 rw[<-AV];refine Gf (CI.mpr ⟨j.filter _,i,λa k b m e=>?_⟩) λx o=>?_
 .have:=(JY.mp k).2;rw[e,N8 m]at this;cases this
 .rcases AO.mp o with c | c
  .obtain⟨p,g⟩:=JY.mp c;refine JY.mpr ⟨p,?_⟩;by_cases d:x∈l
   .rw[N8 d]at g;cases g
   .rw[J5 d]at g;exact g
  .exact JY.mpr (h x c)
theorem Xs(a:ns.Nodup):(wl ns (Xy f (J2 ns A f) w)).length +(J2 ns A f).length<=(wl ns f).length:=zCp (λ_ h=>Kb h) ((a.filter _).filter _) a
theorem Tw(a:ns.Nodup):(wl ns (OY ns A O f)).length +(V5 ns A O f num).length<=(wl ns f).length:=by
 have b:(wl ns (JF ns A f)).length+_<=_:=Xs (A:=A) (f:=f) (w:=ON) a;have c:(wl ns (OY ns A O f)).length+_<=_:=Xs (A:=O) (f:=JF ns A f) (w:=KW) a;unfold V5;rw[AV,AB,AB];lia
theorem Vg(h:V5 ns A O f num = []):OY ns A O f=f:=by
 obtain⟨a,b⟩:=List.append_eq_nil_iff.mp h;have a:=GY.mp a;have b:=GY.mp b;have c:JF ns A f=f:=by unfold JF;rw[a];exact funext λn=>J5 A_
 unfold OY;rw[b,c];exact funext λn=>J5 A_
inductive PV(ns:A0 Str)(A O:(Str->A5 Str)->Str->Bool):(Str->A5 Str)->Int->A0 Row->Prop
 | stop {f:Str->A5 Str} {num:Int}:V5 ns A O f num = []->PV ns A O f num ((wl ns f).map λn=>(n,NZ,V.non))
 | step {f:Str->A5 Str} {num:Int} {t:A0 Row}:V5 ns A O f num≠[]->PV ns A O (OY ns A O f) (num+1) t->PV ns A O f num (V5 ns A O f num++t)
theorem O_:PySem.PyData.strOk ON=true/\PySem.PyData.strOk KW=true/\PySem.PyData.strOk NZ=true:=⟨by decide +kernel,by decide +kernel,by decide +kernel⟩
theorem IR{b:A0 IM}{n y:Str}:y∈B2 b n↔(y,n)∈b.map λq=>q.2:=by
 unfold B2;rw[BK,BK];constructor
 .rintro⟨q,a,rfl⟩;obtain⟨c,d⟩:=AY.mp a;exact⟨q,c,Prod.ext rfl (BL d)⟩
 .rintro⟨q,a,e⟩;exact⟨q,AY.mpr ⟨a,AS (congrArg Prod.snd e)⟩,congrArg Prod.fst e⟩
end
inductive GW(sk:Str->A0 Str):Str->Bool->Prop
 | inn {n:Str}:(∀y∈sk n,GW sk y false)->GW sk n true
 | out {n y:Str}:y∈sk n->GW sk y true->GW sk n false
def GW.ne{sk:Str->A0 Str}{n:Str}{b:Bool}(h:GW sk n b):¬GW sk n (!b):=by
 induction h with
 | inn _ a =>
  intro c;cases c with
  | out d g=>exact a _ d g
 | out d _ a =>
  intro c;cases c with
  | inn g=>exact a (g _ d)
def GW.cong{sk a:Str->A0 Str}{U:Str->Prop}(f:∀n,U n->∀y∈sk n,U y)(d:∀n,U n->∀y,y∈sk n↔y∈a n){n:Str}{b:Bool}(h:GW sk n b):U n->GW a n b:=by
 induction h with
 | inn _ e=>exact λu=>.inn λy c=>e y ((d _ u y).mpr c) (f _ u y ((d _ u y).mpr c))
 | out c _ e=>exact λu=>.out ((d _ u _).mp c) (e (f _ u _ c))
open Classical in
def G9(sk:Str->A0 Str)(n:Str):Str:=if GW sk n true then ON else if GW sk n false then KW else NZ
def RF:ON≠KW/\ON≠NZ/\KW≠NZ:=by decide +kernel
section
variable{sk sk':Str->A0 Str}{n:Str}
theorem NA:G9 sk n=ON↔GW sk n true:=by
 unfold G9;by_cases h:GW sk n true
 .rw[AN h];exact⟨λ_=>h,λ_=>rfl⟩
 .rw[AI h];refine⟨λe=>?_,λz=>absurd z h⟩;split at e
  .exact absurd e.symm RF.1
  .exact absurd e.symm RF.2.1
theorem MF:G9 sk n=KW↔GW sk n false:=by
 unfold G9;by_cases h:GW sk n true
 .rw[AN h];exact⟨λe=>absurd e RF.1,λz=>absurd z h.ne⟩
 .rw[AI h];by_cases a:GW sk n false
  .rw[AN a];exact⟨λ_=>a,λ_=>rfl⟩
  .rw[AI a];exact⟨λe=>absurd e.symm RF.2.2,λz=>absurd z a⟩
theorem Dj{U:Str->Prop}(e:∀n,U n->∀y∈sk n,U y)(c:∀n,U n->∀y,y∈sk n↔y∈sk' n)(u:U n):G9 sk n=G9 sk' n:=by
 have d:∀n,U n->∀y∈sk' n,U y:=λn u y f=>e n u y ((c n u y).mpr f);have i:∀b,GW sk n b↔GW sk' n b:=λb=>⟨λh=>h.cong e c u,λh=>h.cong d (λn u y=>(c n u y).symm) u⟩;unfold G9;by_cases a:GW sk n true
 .rw[AN a,AN ((i _).mp a)]
 .rw[AI a,AI λz=>a ((i _).mpr z)];by_cases b:GW sk n false
  .rw[AN b,AN ((i _).mp b)]
  .rw[AI b,AI λz=>b ((i _).mpr z)]
theorem Lz:PySem.PyData.strOk (G9 sk n)=true:=by
 unfold G9;split
 .exact O_.1
 .split
  .exact O_.2.1
  .exact O_.2.2
end
section
variable{ns:A0 Str}{qs:A0 IM}{f:Str->A5 Str}
def RP(qs:A0 IM)(f:Str->A5 Str):Prop:=∀n w,f n=some w->w=G9 (B2 qs) n
theorem RP.nxt1(h:RP qs f):RP qs (JF ns (C4 qs) f):=λn w e=>by
 unfold Sw.JF at e;by_cases c:n∈J2 ns (C4 qs) f
 .rw[N8 c]at e;cases e;have a:=OJ.mp (AY.mp c).2;exact(NA.mpr (.inn λy b=>MF.mp (h y _ (a y b)).symm)).symm
 .rw[J5 c]at e;exact h n w e
theorem RP.nxt(h:RP qs f):RP qs (OY ns (C4 qs) (N7 qs) f):=λn w e=>by
 unfold Sw.OY at e;by_cases c:n∈J2 ns (N7 qs) (Sw.JF ns (C4 qs) f)
 .rw[N8 c]at e;cases e;obtain⟨y,a,b⟩:=OX.mp (AY.mp c).2;exact(MF.mpr (.out a (NA.mp (h.nxt1 y _ b).symm))).symm
 .rw[J5 c]at e;exact h.nxt1 n w e
theorem Pw{num:Int}(h:RP qs f)(sub:∀n∈ns,∀y∈B2 qs n,y∈ns)(e:V5 ns (C4 qs) (N7 qs) f num = []){n:Str}(a:n∈wl ns f):G9 (B2 qs) n=NZ:=by
 obtain⟨k,l⟩:=List.append_eq_nil_iff.mp e;have k:=GY.mp k;have l:=GY.mp l;have p:JF ns (C4 qs) f=f:=by unfold JF;rw[k];exact funext λn=>J5 A_
 rw[p]at l;have i:∀{n:Str} {b:Bool},GW (B2 qs) n b->n∈ns->f n=none->False:=fun{n b} g=>by
  induction g with
  | inn g o =>
   intro a c;have m:_∈J2 ns (C4 qs) f:=AY.mpr ⟨JY.mpr ⟨a,c⟩,OJ.mpr λy d=>?_⟩
   .rw[k]at m;cases m
   cases j:f y with
   | none=>exact(o y d (sub _ a y d) j).elim
   | some w=>rw[h y w j,MF.mpr (g y d)]
  | out d g o =>
   intro a c;have m:_∈J2 ns (N7 qs) f:=AY.mpr ⟨JY.mpr ⟨a,c⟩,OX.mpr ⟨_,d,?_⟩⟩
   .rw[l]at m;cases m
   cases j:f _ with
   | none=>exact(o (sub _ a _ d) j).elim
   | some w=>rw[h _ w j,NA.mpr g]
 obtain⟨a,c⟩:=JY.mp a;unfold G9;rw[AI λg=>i g a c,AI λg=>i g a c]
theorem PV.words{num:Int}{r:A0 Row}(h:PV ns (C4 qs) (N7 qs) f num r)(sub:∀n∈ns,∀y∈B2 qs n,y∈ns)(k:ns.Nodup):RP qs f->(∀q∈r,q.2.1=G9 (B2 qs) q.1)/\(r.map λq=>q.1).Perm (wl ns f):=by
 induction h with
 | stop e =>
  refine λs=>⟨λq l=>?_,?_⟩
  .obtain⟨n,i,rfl⟩:=BK.mp l;exact(Pw s sub e i).symm
  .rw[BS];show(List.map (λn=>n) _).Perm _;rw[List.map_id']
 | @step f num t E _ x =>
  intro s;obtain⟨z,A⟩:=x s.nxt;have m:∀n,n∈J2 ns (C4 qs) f->n∈ns/\f n=none:=λn h=>Kb h;have o:∀n,n∈J2 ns (N7 qs) (Sw.JF ns (C4 qs) f)->n∈ns/\Sw.JF ns (C4 qs) f n=none:=λn h=>Kb h;have B:∀n,n∈J2 ns (C4 qs) f->G9 (B2 qs) n=ON:=λn h=>(s.nxt1 (ns:=ns) n ON (N8 h)).symm;have C:∀n,n∈J2 ns (N7 qs) (Sw.JF ns (C4 qs) f)->G9 (B2 qs) n=KW:=λn h=>(s.nxt (ns:=ns) n KW (N8 h)).symm;refine⟨λq l=>?_,?_⟩
  .rcases AO.mp l with c | c
   .rcases AO.mp c with c | c
    .obtain⟨n,i,rfl⟩:=BK.mp c;exact(B n i).symm
    .obtain⟨n,i,rfl⟩:=BK.mp c;exact(C n i).symm
   .exact z q c
  .have e:((V5 ns (C4 qs) (N7 qs) f num++t).map λq=>q.1) =(J2 ns (C4 qs) f++J2 ns (N7 qs) (Sw.JF ns (C4 qs) f))++t.map λq=>q.1:=by
    unfold V5;rw[AK,AK,BS,BS];congr 2
    .exact List.map_id' _
    .exact List.map_id' _
   rw[e];refine(A.append_left _).trans ?_;have p:(J2 ns (C4 qs) f).Nodup:=(k.filter _).filter _;have u:(J2 ns (N7 qs) (Sw.JF ns (C4 qs) f)).Nodup:=(k.filter _).filter _;refine(List.perm_ext_iff_of_nodup (CI.mpr ⟨CI.mpr ⟨p,u,λa v b w e=>?_⟩,k.filter _,λa v b w e=>?_⟩) (k.filter _)).mpr λn=>?_
   .subst e;have:=(o a w).2;unfold Sw.JF at this;rw[N8 v]at this;cases this
   .subst e;have g:=(JY.mp w).2;unfold Sw.OY at g;rcases AO.mp v with c | c
    .by_cases d:a∈J2 ns (N7 qs) (Sw.JF ns (C4 qs) f)
     .rw[N8 d]at g;cases g
     .rw[J5 d]at g;unfold Sw.JF at g;rw[N8 c]at g;cases g
    .rw[N8 c]at g;cases g
   .show n∈_++wl ns (Sw.OY ns (C4 qs) (N7 qs) f)↔n∈wl ns f;rw[AO,AO,JY,JY];constructor
    .rintro((h | h) | h)
     .exact m n h
     .refine⟨(o n h).1,?_⟩;have:=(o n h).2;unfold Sw.JF at this;by_cases d:n∈J2 ns (C4 qs) f
      .exact(m n d).2
      .rwa [J5 d]at this
     .refine⟨h.1,?_⟩;have g:=h.2;unfold Sw.OY at g;by_cases d:n∈J2 ns (N7 qs) (Sw.JF ns (C4 qs) f)
      .rw[N8 d]at g;cases g
      .rw[J5 d]at g;unfold Sw.JF at g;by_cases j:n∈J2 ns (C4 qs) f
       .exact(m n j).2
       .rwa [J5 j]at g
    .rintro⟨i,D⟩;by_cases d:n∈J2 ns (C4 qs) f
     .exact .inl (.inl d)
     by_cases j:n∈J2 ns (N7 qs) (Sw.JF ns (C4 qs) f)
     .exact .inl (.inr j)
     refine .inr ⟨i,?_⟩;unfold Sw.OY;rw[J5 j];unfold Sw.JF;rw[J5 d];exact D
def WG(ns:A0 Str)(qs:A0 IM)(n:Str):A5 Str:=if n∈ns then some (G9 (B2 qs) n)else none
theorem Wa{n:Str}(h:n∈ns):WG ns qs n=some (G9 (B2 qs) n):=AN h
end
def Wq{H H':Hp}{d b:A3}{o:HO}(k:Sm [d] H H')(e:H' d=some o)(h:H' b=none):H b=none:=by
 cases a:H b with
 | none=>rfl
 | some c =>
  have:=MI k a (B0 e h).symm;rw[h]at this;cases this
def Cv.smd{a H H':Hp}{d:A3}(s:Cv a H)(h:a d=none)(k:Sm [d] H H'):Cv a H':=λb o e=>MI k (s b o e) (B0 e h)
def Gz(C:A3):Sp:=λj H Q _=>∃(g:Hp) (x d:A3) (num:Int) (h:A0 Str) (c:A0 IM) (b:A0 (IQ×V)) (f:Str->A5 Str),j = [.ref x,.ref d,.int num]/\Cv g H/\g d=none/\IP C g x h c/\H d=some (.dK b)/\WD b f/\b.length<=1000 /\
 ∀l i a e,Sm [d] H e->H l=none->RL e l i->i.map (λq=>q.2)=V5 h (C4 c) (N7 c) f num->e d=some (.dK a)->WD a (OY h (C4 c) (N7 c) f)->a.length<=b.length+i.length->Q (.ref l) e
theorem LF:IB ["web","words","number","ins","outs"] ["web","words","number"] (B6 NQ):=KL
set_option maxHeartbeats 4000000 in
theorem Al(T:Tx K mg):IJ P w K mg base JQ 4 T.aP.f T.aP.fd ["web","words","number"] (Gz T.ac):=by
 refine T.aP.F.o1 LF λcdv A outer s H vs Q E hr h=>?_
 .obtain⟨H0,x,d,num,b,a,m,f,rfl,s0,hd0,hW,hd,hf,hk,k⟩:=h;refine⟨_,(A9 (V4 (i:=3) (N':=["name","web","words"]) (cap:=[none,some 0,some 1]) (cl:=[("words",_),("web",_)]) LF.nd rfl (.inl rfl) (O7 ⟨⟨rfl,rfl,rfl,rfl⟩,⟨⟨rfl,rfl,rfl,rfl⟩,trivial⟩⟩ ⟨rfl,⟨rfl,trivial⟩⟩) rfl (MW K (E3 T.aM (i9 T) (Rm hr) (A6 (pv 0) (A6 (pv 1) A8)))) (λ_ _ _ _=>by exact⟨(LS 0),(K8 (Q5 (E3 T.bb (Nk T) (Rm hr) (A6 (pv 1) (A6 (pv 2) (A6 (pv 0) A8)))))),(pv 0)⟩))
   (A9 (J7 (Jb (pv 1) (Oh (N':=["name"]) (cap:=[none]) (cl:=[]) (O7 trivial trivial) rfl (MW K (pv 3)) (λ_ _ _ _=>by exact⟨(LS 0),P5,(pv 0),C1⟩)) ⟨rfl,rfl,rfl,rfl⟩))
   (A9 (V4 (i:=4) (N':=["name","web","words"]) (cap:=[none,some 0,some 1]) (cl:=[("words",_),("web",_)]) LF.nd rfl (.inl rfl) (O7 ⟨⟨rfl,rfl,rfl,rfl⟩,⟨⟨rfl,rfl,rfl,rfl⟩,trivial⟩⟩ ⟨rfl,⟨rfl,trivial⟩⟩) rfl (MW K (E3 T.aM (i9 T) (Rm hr) (A6 (pv 0) (A6 (pv 1) A8)))) (λ_ _ _ _=>by exact⟨(LS 0),(K8 (Q5 (E3 T.be (Qs T) (Rm hr) (A6 (pv 1) (A6 (pv 2) (A6 (pv 0) A8)))))),(pv 0)⟩))
   (A9 (J7 (Jb (pv 1) (Oh (N':=["name"]) (cap:=[none]) (cl:=[]) (O7 trivial trivial) rfl (MW K (pv 4)) (λ_ _ _ _=>by exact⟨(LS 0),P5,(pv 0),C1⟩)) ⟨rfl,rfl,rfl,rfl⟩))
   (B5 (C0 (G0 Dr (V9 (N':=["name","number"]) (cap:=[none,some 2]) (cl:=[("number",_)]) (O7 ⟨⟨rfl,rfl,rfl,rfl⟩,trivial⟩ ⟨rfl,trivial⟩) rfl (MW K (pv 3)) (λ_ _ _ _=>by exact⟨(LS 0),P5,(J4 (A6 (pv 0) (A6 C1 (A6 (pv 1) A8))))⟩)) (V9 (N':=["name","number"]) (cap:=[none,some 2]) (cl:=[("number",_)]) (O7 ⟨⟨rfl,rfl,rfl,rfl⟩,trivial⟩ ⟨rfl,trivial⟩) rfl (MW K (pv 4)) (λ_ _ _ _=>by exact⟨(LS 0),P5,(J4 (A6 (pv 0) (A6 C1 (A6 (pv 1) A8))))⟩))))))))),?_⟩
  have ok:=hW.ok;have ln:=ok.len;have nn:=ok.nd;have p:∀g:Str->A5 Str,(wl b g).length<=100:=λg=>VE (BC ..) ln;have li:(J2 b (C4 a) f).length<=100:=VE (BC ..) (p _);have lo:(J2 b (N7 a) (JF b (C4 a) f)).length<=100:=VE (BC ..) (p _);refine B4 λN1 hN1=>?_;refine C3 rfl (C3 rfl ⟨x,d,b,a,m,f,rfl,hW.same s0,hd,hf,λl1 H1 s1 hl1 e1=>?_⟩);refine⟨l1,rfl,⟨_,IG.of e1⟩,λO U=>?_⟩;refine U5 (C4 a f) e1 (VE (p f) (by decide)) U (λy W G u X hQ=>?_) (λσ H2 s2 v=>?_) _
  .refine C3 rfl (C3 rfl (C3 rfl ⟨x,d,y,b,a,m,f,rfl,(hW.same s0).same (s1.trans u),(JY.mp W).1,(s1.trans u) _ _ hd,hf,λG' B=>⟨_,rfl,hQ G' B⟩⟩))
  have v:H2 O=some (.lst ((J2 b (C4 a) f).map V.str)):=v;have C:=s1.trans s2;have r:=C _ _ hd;refine hN1 _ _ (B4 λN2 hN2=>?_);refine C3 rfl ⟨d,rfl,.inl ⟨_,.inl r⟩,C3 rfl ⟨O,rfl,⟨_,IG.of v⟩,λE1 D=>?_⟩⟩;refine Kr v ((nn.filter _).filter _) (VE li (by decide)) D (λσ H3 Y e3=>?_) _;have I:=Y _ _ r;have R:=hf.mrg (w:=ON) (l:=J2 b (C4 a) f);have m1:=T0 m ((J2 b (C4 a) f).map λn=>(Sum.inr n,V.str ON));rw[AB]at m1;refine⟨E1,m,_,rfl,I,e3,(B0 r D),by rw[AB,sizeLine_eq];lia,hN2 _ _ (B4 λN3 hN3=>?_)⟩;have n1:O≠d:=J8 (Y _ _ v) I (by intro z;cases z);have k4:Sm [d] H (HY H3 d (.dK (X7 m ((J2 b (C4 a) f).map λn=>(Sum.inr n,V.str ON))))):=(C.trans Y).sm.upd (by simp);have Z:(HY H3 d (.dK (X7 m ((J2 b (C4 a) f).map λn=>(Sum.inr n,V.str ON))))) d=some (.dK (X7 m ((J2 b (C4 a) f).map λn=>(Sum.inr n,V.str ON)))):=A7;have e4:(HY H3 d (.dK (X7 m ((J2 b (C4 a) f).map λn=>(Sum.inr n,V.str ON))))) O=some (.lst ((J2 b (C4 a) f).map V.str)):=(B7 n1).trans (Y _ _ v);generalize X7 m ((J2 b (C4 a) f).map λn=>(Sum.inr n,V.str ON))=j at R m1 k4 Z e4⊢;generalize HY H3 d (.dK j)=H4 at k4 Z e4⊢;have W4:=hW.same (Cv.smd s0 hd0 k4);have R:WD j (JF b (C4 a) f):=R;clear s1 s2 C Y e1 v e3 r I hl1 U D;refine C3 rfl (C3 rfl ⟨x,d,b,a,j,JF b (C4 a) f,rfl,W4,Z,R,λl2 H5 s5 hl2 e5=>?_⟩);refine⟨l2,rfl,⟨_,IG.of e5⟩,λD2 hD2=>?_⟩;refine U5 (N7 a (JF b (C4 a) f)) e5 (VE (p _) (by decide)) hD2 (λy W G u X hQ=>?_) (λσ H6 s6 S=>?_) _
  .refine C3 rfl (C3 rfl (C3 rfl ⟨x,d,y,b,a,j,JF b (C4 a) f,rfl,W4.same (s5.trans u),(JY.mp W).1,(s5.trans u) _ _ Z,R,λG' B=>⟨_,rfl,hQ G' B⟩⟩))
  have S:H6 D2=some (.lst ((J2 b (N7 a) (JF b (C4 a) f)).map V.str)):=S;have J:=s5.trans s6;have L:=J _ _ Z;refine hN3 _ _ (B4 λN4 hN4=>?_);refine C3 rfl ⟨d,rfl,.inl ⟨_,.inl L⟩,C3 rfl ⟨D2,rfl,⟨_,IG.of S⟩,λE2 hE2=>?_⟩⟩;refine Kr S ((nn.filter _).filter _) (VE lo (by decide)) hE2 (λσ H7 s7 e7=>?_) _;have hd7:=s7 _ _ L;have k2:=R.mrg (w:=KW) (l:=J2 b (N7 a) (JF b (C4 a) f));have m2:=T0 j ((J2 b (N7 a) (JF b (C4 a) f)).map λn=>(Sum.inr n,V.str KW));rw[AB]at m2;refine⟨E2,j,_,rfl,hd7,e7,(B0 L hE2),by rw[AB,sizeLine_eq];lia,hN4 _ _ ?_⟩;have n2:D2≠d:=J8 (s7 _ _ S) hd7 (by intro z;cases z);have k8:Sm [d] H (HY H7 d (.dK (X7 j ((J2 b (N7 a) (JF b (C4 a) f)).map λn=>(Sum.inr n,V.str KW))))):=(k4.trans (J.trans s7).sm).upd (by simp);have d8:(HY H7 d (.dK (X7 j ((J2 b (N7 a) (JF b (C4 a) f)).map λn=>(Sum.inr n,V.str KW))))) d=some (.dK (X7 j ((J2 b (N7 a) (JF b (C4 a) f)).map λn=>(Sum.inr n,V.str KW)))):=A7;have a8:(HY H7 d (.dK (X7 j ((J2 b (N7 a) (JF b (C4 a) f)).map λn=>(Sum.inr n,V.str KW))))) O=some (.lst ((J2 b (C4 a) f).map V.str)):=(B7 n1).trans (s7 _ _ (J _ _ e4));have b8:(HY H7 d (.dK (X7 j ((J2 b (N7 a) (JF b (C4 a) f)).map λn=>(Sum.inr n,V.str KW))))) D2=some (.lst ((J2 b (N7 a) (JF b (C4 a) f)).map V.str)):=(B7 n2).trans (s7 _ _ S);generalize X7 j ((J2 b (N7 a) (JF b (C4 a) f)).map λn=>(Sum.inr n,V.str KW))=M at k2 m2 k8 d8 a8 b8⊢;generalize HY H7 d (.dK M)=H8 at k8 d8 a8 b8⊢;have k2:WD M (OY b (C4 a) (N7 a) f):=k2;refine C3 rfl ⟨O,rfl,⟨_,IG.of a8⟩,λR1 hR1=>?_⟩;refine Jq (v3:=.int num) (λ_=>true) a8 (VE li (by decide)) hR1 (λy G X N=>⟨_,rfl,N⟩) (λy W G u X N=>N) (λσ rs1 H9 s9 L9 q9=>?_) _;rw[Ab]at q9;refine C3 rfl ⟨D2,rfl,⟨_,IG.of (s9 _ _ b8)⟩,λR2 hR2=>?_⟩;refine Jq (v3:=.int num) (λ_=>true) (s9 _ _ b8) (VE lo (by decide)) hR2 (λy G X N=>⟨_,rfl,N⟩) (λy W G u X N=>N) (λσ rs2 HA sA LA qA=>?_) _;rw[Ab]at qA;have L9:=L9.same sA;have lr1:=congrArg List.length q9;have lr2:=congrArg List.length qA;rw[AB,AB]at lr1 lr2;refine⟨R1,R2,_,_,rfl,rfl,L9.1,LA.1,by rw[AB,AB,sizeLine_eq];lia,λc hc=>?_⟩;have uB:=Cv.new (o:=.lst ((rs1.map λq=>V.ref q.1)++rs2.map λq=>V.ref q.1)) hc;have t:=s9.trans sA;refine k c (rs1++rs2) M _ (k8.trans (t.trans uB).sm) (Wq (k8.trans t.sm) (t _ _ d8) hc) (L9.app LA A7 λq o e=>uB _ _ e) ?_ (uB _ _ (t _ _ d8)) k2 (by rw[AV];lia);rw[AK,q9,qA];rfl
def RL.smd{H H':Hp}{l d:A3}{a:A0 (A3×Row)}{kvs:A0 (IQ×V)}(h:RL H l a)(e:H d=some (.dK kvs))(k:Sm [d] H H'):RL H' l a :=
 ⟨MI k h.1 (J8 h.1 e (by intro z;cases z)),λq b=>MI k (h.2 q b) (J8 (h.2 q b) e (by intro z;cases z))⟩
def zCk(H:Hp)(ns:A0 Str)(c:A0 IM)(d:Str->A5 Str)(Q:VK):Prop:=∀l a b,Cv H b->H l=none->RL b l a->PV ns (C4 c) (N7 c) d 1 (a.map λq=>q.2)->a.length<=100->Q (.ref l) b
def Rq(C:A3):Sp:=λf H Q _=>∃(x d:A3) (b:A0 Str) (e:A0 IM) (a:A0 (IQ×V)) (c:Str->A5 Str),f = [.ref x,.ref d]/\IP C H x b e/\H d=some (.dK a)/\WD a c/\a.length +(wl b c).length<=100/\zCk H b e c Q
theorem IV:IB ["web","known","words","rows","number","fresh"] ["web","known"] (B6 LK):=KL
set_option maxHeartbeats 4000000 in
theorem Ao(T:Tx K mg):IJ P w K mg base JQ 5 T.aG.f T.aG.fd ["web","known"] (Rq T.ac):=by
 refine T.aG.F.o1 IV λcdv A outer s H vs Q E hr h=>?_
 .obtain⟨x,d0,ns,N,p,f0,rfl,hW,hd0,hf0,l0,k⟩:=h;refine⟨_,(A9 (C6 (i:=2) IV.nd rfl (.inl rfl) (y8 Sd T.bk Jy (A6 (pv 1) A8)))
   (A9 (C6 (i:=3) IV.nd rfl (.inl rfl) (G5 A8))
   (A9 (C6 (i:=4) IV.nd rfl (.inl rfl) B3)
   (A9 (C6 (i:=5) IV.nd rfl (.inl rfl) (E3 T.aP (Al T) (Rm hr) (A6 (pv 0) (A6 (pv 2) (A6 (pv 4) A8)))))
   (A9 (Fu PassesOwn.never (ptV K (pv 5)) (A9 (J7 (Ps K VG PySem.F.slot_list_extend PySem.F.type_list_extend Ss (pv 3) (A6 (pv 5) A8)))
   (A9 (zEi (i:=4) IV.nd rfl (Or.inl rfl) B3 zBr)
   (B5 (C6 (i:=5) IV.nd rfl (.inl rfl) (E3 T.aP (Al T) (Rm hr) (A6 (pv 0) (A6 (pv 2) (A6 (pv 4) A8)))))))))
   (B5 (C0 (G0 Dr (pv 3) (V9 (N':=["name"]) (cap:=[none]) (cl:=[]) (O7 trivial trivial) rfl (MW K (E3 T.aM (i9 T) (Rm hr) (A6 (pv 0) (A6 (pv 2) A8)))) (λ_ _ _ _=>by exact⟨(LS 0),P5,(J4 (A6 (pv 0) (A6 C1 (A6 g7 A8))))⟩)))))))))),?_⟩
  have ok:=hW.ok;have ln:=ok.len;have nn:=ok.nd;unfold zCk at k;generalize hA:C4 N=A at k;generalize hO:N7 N=O at k;have R:∀g:Str->A5 Str,(wl ns g).length<=100:=λg=>VE (BC ..) ln;refine B4 λN1 hN1=>?_;refine C3 rfl ⟨d0,_,rfl,hd0,λd S=>?_⟩;have u1:=Cv.new (o:=.dK p) S;have f1:(HY H d (.dK p)) d=some (.dK p):=A7;generalize HY H d (.dK p)=H1 at u1 f1⊢;refine hN1 _ _ (B4 λN2 hN2=>?_);refine⟨CB _,λr U=>?_⟩;have W:=Cv.new (o:=.lst []) U;have f2:(HY H1 r (.lst [])) r=some (.lst []):=A7;generalize HY H1 r (.lst [])=H2 at W f2⊢;have hr':=u1.free U;refine hN2 _ _ (B4 λN3 hN3=>?_);refine hN3 _ _ (B4 λN4 hN4=>?_);refine C3 rfl (C3 rfl (C3 rfl ⟨H,x,d,1,ns,N,p,f0,rfl,u1.trans W,S,hW,W _ _ f1,hf0,by lia,λl B a H3 k3 hl L3 q3 e3 X RH=>?_⟩));rw[hA,hO]at q3 X;have L2:RL H2 r []:=⟨f2,λq h=>absurd h A_⟩;have lr:l≠r:=(B0 f2 hl).symm;have rw0:=Tw (ns:=ns) (A:=A) (O:=O) (f:=f0) (num:=1) nn;have lw0:=R f0;have lq:=congrArg List.length q3;rw[AB]at lq;refine hN4 _ _ (B4 λN5 hN5=>?_);refine⟨λm σ v=>∃(num:Int) (l:A3) (a:A0 (IQ×V)) (f:Str->A5 Str) (n B:A0 (A3×Row)),σ = [some (.ref x),some (.ref d0),some (.ref d),some (.ref r),some (.int num),some (.ref l)]/\Cv H v/\v d=some (.dK a)/\WD a (OY ns A O f)/\RL v r n/\RL v l B/\l≠r /\
   B.map (λq=>q.2)=V5 ns A O f num/\(∀t,PV ns A O f num t->PV ns A O f0 1 ((n.map λq=>q.2)++t))/\m =(wl ns (OY ns A O f)).length+B.length/\a.length +(wl ns (OY ns A O f)).length<=100/\n.length+m<=100,⟨_,1,l,a,_,[],B,rfl,Cv.smd (u1.trans W) S k3,e3,X,L2.smd (W _ _ f1) k3,L3,lr,q3,λt h=>h,rfl,by lia,by show 0+_<=_;lia⟩,?_⟩
  rintro m σ v ⟨num,l,a,f,n,B,rfl,s4,e4,C,u,Ll,nlr,I,W4,rfl,Y,ld4⟩;refine C3 rfl ⟨_,.inl ⟨_,IG.of Ll.1,rfl⟩,?_⟩;cases B with
  | nil =>
   refine N9 (hN5 _ _ ?_);have I:=I.symm;rw[Vg I]at C Y ld4;refine C3 rfl (C3 rfl (C3 rfl ⟨x,d,ns,N,a,f,rfl,hW.same s4,e4,C,λl1 H5 Z hl1 M=>⟨l1,rfl,⟨_,IG.of M⟩,λD hD=>?_⟩⟩));refine Jq (v3:=.non) (r:=[]) (λ_=>true) M (VE (R f) (by decide)) hD (λy G Q' hq=>hq) (λy hy G sg Q' hq=>hq) (λσ j H6 s6 L6 J=>?_) _;rw[Ab]at J;have s56:=Z.trans s6;have u:=u.same s56;have l2:=congrArg List.length J;rw[AB,AB]at l2;have l2:j.length =(wl ns f).length:=l2;have l0:([]:A0 (A3×Row)).length=0:=rfl;refine⟨r,D,_,_,rfl,rfl,u.1,L6.1,by rw[AB,AB,sizeLine_eq];lia,λc hc=>?_⟩;have u7:=Cv.new (o:=.lst ((n.map λq=>V.ref q.1)++j.map λq=>V.ref q.1)) hc;have s46:=s4.trans s56;exact k c (n++j) _ (s46.trans u7) (s46.free hc) (u.app L6 A7 λq o e=>u7 _ _ e) (by rw[AK,J];exact W4 _ (.stop I)) (by rw[AV];lia)
  | cons L b =>
   refine Y6 ⟨_,λ_ _ z=>z,B4 λM1 hM1=>?_⟩;refine C3 rfl ⟨.inl ⟨rfl,_,IG.of u.1⟩,C3 rfl ⟨r,l,_,_,rfl,rfl,u.1,Ll.1,by rw[AB,AB,sizeLine_eq];lia,hM1 _ _ (B4 λM2 hM2=>?_)⟩⟩;have Z:=s4.upd (o:=.lst ((n.map λq=>V.ref q.1) ++(L::b).map λq=>V.ref q.1)) hr';have nrd:r≠d:=J8 u.1 e4 (by intro z;cases z);have M:(HY v r (.lst ((n.map λq=>V.ref q.1) ++(L::b).map λq=>V.ref q.1))) d=some (.dK a):=(B7 nrd.symm).trans e4;have L5:RL (HY v r (.lst ((n.map λq=>V.ref q.1) ++(L::b).map λq=>V.ref q.1))) r (n++L::b):=u.app Ll A7 λq o e=>(B7 (J8 e u.1 (by intro z;cases z))).trans e;have ne:V5 ns A O f num≠[]:=λc=>by rw[c]at I;cases I
   generalize HY v r (.lst ((n.map λq=>V.ref q.1) ++(L::b).map λq=>V.ref q.1))=H5 at Z M L5⊢;have lc:(L::b).length=b.length+1:=rfl;refine C3 rfl ⟨_,_,rfl,rfl,hM2 _ _ ?_⟩;refine C3 rfl (C3 rfl (C3 rfl ⟨H,x,d,num+1,ns,N,a,_,rfl,Z,S,hW,M,C,by lia,λl' j kv2 H6 k6 hl6 L6 J e6 wd6 len6=>?_⟩));rw[hA,hO]at J wd6;have rwl:=Tw (ns:=ns) (A:=A) (O:=O) (f:=OY ns A O f) (num:=num+1) nn;have l6:=congrArg List.length J;rw[AB]at l6;refine⟨(wl ns (OY ns A O (OY ns A O f))).length+j.length,by lia,_,l',kv2,OY ns A O f,n++L::b,j,rfl,Cv.smd Z S k6,e6,wd6,L5.smd M k6,L6,(B0 L5.1 hl6).symm,J,λt ht=>?_,rfl,by lia,by rw[AV];lia⟩;rw[AK,I,BG];exact W4 _ (.step ne ht)
def Tz{n e w m:Nat}(h:e+1<=n)(a:2 *(n-e)+w<m):2 *(n-(e+1)) +(w+1)<m:=by
 have b:n-(e+1)+1=n-e:=Nat.succ_pred_eq_of_pos (HF h);rw[<-b]at a;lia
def Tg(H:Hp)(kvs:A0 (IQ×V))(ns:A0 Str)(nx:Str->A0 Str):Prop:=∀n∈ns,∃l,W9 kvs (.inr n)=some (.ref l)/\H l=some (.lst ((nx n).map V.str))
def zGz(H:Hp)(ns ss:A0 Str)(nx:Str->A0 Str)(Q:VK):Prop:=∀(l:A3) (ts:A0 Str) (a:Hp),Cv H a->H l=none->a l=some (.lst (ts.map V.str))->ts.Nodup->ts.Pairwise NL->(∀x,x∈ts↔QR nx ss x)->(∀x∈ts,x∈ns)->Q (.ref l) a
def Nw(K:VA):Sp:=λg H Q _=>∃(d a:A3) (c:A0 (IQ×V)) (b e:A0 Str) (f:Str->A0 Str),g = [.ref d,.ref a]/\H d=some (.dK c)/\Tg H c b f/\(∀n∈b,∀y∈f n,y∈b)/\b.length<=100/\(∀y∈e,y∈b)/\e.Nodup/\QK K H a (e.map V.str)/\zGz H b e f Q
theorem zBl{H:Hp}{p:A3}{x:Str}{a:A0 Str}{Q:VK}(e:H p=some (Cg w p a))(q:Q (.bl (!decide (x∈a))) H):zGn w true (.str x) (.ref p) H Q:=⟨p,a,x,rfl,rfl,e,q⟩
theorem KQ:IB ["steps","some","seen","waiting","here","name"] ["steps","some"] (B6 OQ):=KL
set_option maxHeartbeats 1000000 in
theorem Mr(T:Tx K mg):IJ P w K mg base JQ 1 T.bc.f T.bc.fd ["steps","some"] (Nw K):=by
 refine T.bc.F.o1 KQ λcdv A outer s H vs Q E hr h=>?_
 .obtain⟨d,a,kvs,J,g,L,rfl,hd,hv,hc,hl,B,C,hS,k⟩:=h;have hu:=Q8 hr;refine⟨_,(A9 (C6 (i:=2) KQ.nd rfl (.inl rfl) (y8 (Zj K w) T.bp Pb (A6 (pv 1) A8)))
   (A9 (C6 (i:=3) KQ.nd rfl (.inl rfl) (y8 (X3 K) T.az T3 (A6 (pv 1) A8)))
   (A9 (Fu PassesOwn.never (ptV K (pv 3)) (A9 (C6 (i:=4) KQ.nd rfl (.inl rfl) (zEu K VG PySem.F.slot_list_pop PySem.F.type_list_pop zDv (pv 3)))
   (B5 (U1 PassesOwn.never rfl (MW K (Y0 hu (pv 0) (pv 4) (λ_ _=>rfl))) (J0 (i:=5) KQ.nd rfl (.inl rfl))
   (B5 (M0 (B8 Ff (pv 5) (pv 2) rfl) (A9 (J7 (Se P w (zBc w) (pv 2) (A6 (pv 5) A8)))
   (B5 (J7 (Ps K VG VH VI R8 (pv 3) (A6 (pv 5) A8))))) E4))))))
   (B5 (C0 (I0 (Wo w) T.av M9 (A6 (pv 2) A8))))))),?_⟩
  have hls:=Gf C B;refine B4 λZ1 hZ1=>?_;refine C3 rfl ⟨a,g,rfl,hS,C,by lia,λp hp=>?_⟩;have Z:=Cv.new (o:=Cg w p g) hp;have f1:(HY H p (Cg w p g)) p=some (Cg w p g):=A7;generalize HY H p (Cg w p g)=H1 at Z f1⊢;refine hZ1 _ _ (B4 λZ2 hZ2=>?_);refine C3 rfl ⟨a,_,rfl,(Z.at a).seq hS,λq hq=>?_⟩;have u2:=Cv.new (o:=.lst (g.map V.str)) hq;have f2:(HY H1 q (.lst (g.map V.str))) q=some (.lst (g.map V.str)):=A7;generalize HY H1 q (.lst (g.map V.str))=H2 at u2 f2⊢;have D:p≠q:=B0 f1 hq;have R:=Z.free hq;refine hZ2 _ _ (B4 λZ3 hZ3=>?_);refine⟨λm σ G=>∃v4 M r S,σ = [some (.ref d),some (.ref a),some (.ref p),some (.ref q),v4,M]/\m=2 *(J.length-r.length)+S.length/\Cv H G/\G p=some (Cg w p r)/\G q=some (.lst (S.map V.str))/\RI L J g r S TL,
   ⟨_,none,none,g,g,rfl,rfl,Z.trans u2,u2 _ _ f1,f2,.init C B⟩,?_⟩
  rintro m σ G ⟨v4,M,r,S,rfl,rfl,s3,e3,g3,R3⟩;refine C3 rfl ⟨_,.inl ⟨_,IG.of g3,rfl⟩,?_⟩;rcases List.eq_nil_or_concat S with rfl | ⟨e,x,rfl⟩
  .refine N9 (hZ3 _ _ ?_);refine C3 rfl ⟨p,r,rfl,e3,λl ts hl pm so=>?_⟩;have u4:=Cv.new (o:=.lst (ts.map V.str)) hl;exact k l ts _ (s3.trans u4) (s3.free hl) A7 (pm.nodup_iff.mpr R3.nd) so (λy=>pm.mem_iff.trans (R3.fin y)) λy t=>R3.sub y (pm.mem_iff.mp t)
  .rw[List.concat_eq_append]at *;rw[AN (by simp)];refine⟨_,λ_ _ z=>z,B4 λN1 hN1=>?_⟩;have R4:RI L J g r e (λy=>y=x):=R3.pop (CI.mp R3.ndw).1 (λy t=>(AO.mp t).imp id AE.mp) λy t=>CQ _ t;have hx:x∈r:=R3.wai x (BN _ (AE.mpr rfl));refine C3 rfl ⟨.inl ⟨rfl,_,IG.of g3⟩,q,_,.str x,rfl,rfl,g3,by simp,?_⟩;have ed:((e ++ [x]).map V.str).dropLast=e.map V.str:=by simp
   rw[ed];have s4:=s3.upd (o:=.lst (e.map V.str)) R;have g4:(HY G q (.lst (e.map V.str))) q=some (.lst (e.map V.str)):=A7;have e4:(HY G q (.lst (e.map V.str))) p=some (Cg w p r):=(B7 D).trans e3;generalize HY G q (.lst (e.map V.str))=H4 at s4 g4 e4⊢;refine hN1 _ _ ?_;obtain⟨l,vl,el⟩:=hv x (R3.sub x hx);refine C3 rfl (C3 rfl ⟨d,.ref l,rfl,by rw[<-vl];exact LE.k (k:=Sum.inr x) (s4 _ _ hd),l,rfl,⟨_,IG.of (s4 _ _ el)⟩,?_⟩);refine Eg (PF (K:=K) (IG.of el)) (λi σ u=>∃M b c,σ = [some (.ref d),some (.ref a),some (.ref p),some (.ref q),some (.str x),M]/\2 *(J.length-b.length)+c.length<2 *(J.length-r.length) +(e ++ [x]).length/\Cv H u/\u p=some (Cg w p b)/\u q=some (.lst (c.map V.str))/\RI L J g b c (λy=>y=x)/\x∈b/\∀y∈(L x).take i,y∈b)
    ⟨_,r,e,rfl,by rw[AV];exact FA _,s4,e4,g4,R4,hx,λy t=>absurd t A_⟩ ?_ ?_ ?_
   .rintro i σ u _ ⟨_,_,_,_,_,N,_⟩;exact N.at l
   .rintro i σ u v U ⟨M,b,c,rfl,hm,N,O,g5,I,j,t5⟩ D1 W _;rw[AH]at U;obtain⟨y,t,rfl⟩:=BF.mp U;have X:y∈L x:=BB t;have ht:∀{n:A0 Str},(∀z∈b,z∈n)->y∈n->∀z∈(L x).take (i+1),z∈n:=λh1 h2 z hz=>by
     rw[D8 t]at hz;exact(AO.mp hz).elim (λq=>h1 z (t5 z q)) λq=>AE.mp q▸h2
    refine C3 rfl (C3 rfl (zBl O ⟨_,rfl,Z8 (λh=>?_) λh=>?_⟩))
    .have Y:y∉b:=λz=>by rw[AS z]at h;cases h
     have en:Wu b y=b ++ [y]:=AI Y;have R6:=I.add Y (hc x (I.sub x j) y X) ((I.rch x j).step X);have l6:=R6.len;have lw:=I.lenw;refine B4 λO1 hO1=>?_;refine C3 rfl ⟨⟨p,rfl,.inr (.inl ⟨_,O⟩)⟩,C3 rfl ⟨p,b,y,rfl,rfl,O,by rw[AV,GJ]at l6;lia,?_⟩⟩;rw[en];have s6:=N.upd (o:=Cg w p (b ++ [y])) hp;have e6:(HY u p (Cg w p (b ++ [y]))) p=some (Cg w p (b ++ [y])):=A7;have g6:(HY u p (Cg w p (b ++ [y]))) q=some (.lst (c.map V.str)):=(B7 D.symm).trans g5;generalize HY u p (Cg w p (b ++ [y]))=H6 at s6 e6 g6⊢;refine hO1 _ _ ?_;refine C3 rfl ⟨.inl ⟨rfl,_,IG.of g6⟩,C3 rfl ⟨q,_,_,rfl,rfl,g6,by rw[AB,sizeLine_eq];lia,W _ _ ⟨_,b ++ [y],c ++ [y],rfl,?_,s6.upd R,(B7 D).trans e6,?_,R6,CQ _ j,ht (λz hz=>CQ _ hz) (BN _ (AE.mpr rfl))⟩⟩⟩
     .rw[AV,GJ]at l6⊢;rw[AV,GJ];exact Tz l6 hm
     .rw[A7,AK];rfl
    .have hys:y∈b:=by
      by_cases z:y∈b
      .exact z
      .rw[AM z]at h;exact absurd rfl h
     exact W _ _ ⟨_,b,c,rfl,hm,N,O,g5,I,j,ht (λ_ z=>z) hys⟩
   .rintro σ u ⟨M,b,c,rfl,hm,N,O,g5,I,j,t5⟩;rw[AB,BR]at t5;exact⟨_,hm,_,_,b,c,rfl,rfl,N,O,g5,I.done t5⟩
def Uw{J:It}{a:A3}{ns:A0 Str}{H:Hp}{Q:St->Hp->Prop}{u:TE}{nx:Str->A0 Str}{k:A5 V}(as:NK J (ns.map V.str) a H)(L:ns.length<=1000){D:A3}(w:H D=none)
  (E:∀n∈ns,∀b,Cv H b->∀y:VK,(∀l d,Cv b d->b l=none->d l=some (.lst ((nx n).map V.str))->y (.ref l) d)->u [some (.str n),k] b y)
  (q:∀σ kvs H',Cv H H'->H' D=some (.dK kvs)->Tg H' kvs ns nx->Q σ H') :
  Au (O0 0) Gn (Ei D (T9 0) u) J [none,k] (HY H D (.dK [])) Q:=by
 refine P1 as (λi σ b=>(∃v,σ = [v,k])/\∃kvs,Cv H b/\b D=some (.dK kvs)/\kvs.length<=i/\∀n∈ns.take i,∃l,l≠D/\W9 kvs (.inr n)=some (.ref l)/\b l=some (.lst ((nx n).map V.str)))
  ⟨⟨_,rfl⟩,[],Cv.new w,A7,CB _,λn h=>absurd h A_⟩ (λi σ b _ ⟨_,kvs,c,_⟩=>c.at a) ?_ ?_
 .rintro i σ b x N A ⟨⟨v,rfl⟩,kvs,c,f,F,g⟩ G;rw[AH]at A;obtain⟨m,o,rfl⟩:=BF.mp A;have M:i<ns.length:=(AJ.mp o).1;refine Dz ?_;refine C3 rfl (E m (BB o) b c _ λp d r I K=>?_);refine⟨kvs,.inr m,r _ _ f,rfl,by rw[sizeLine_eq];lia,G _ _ ⟨⟨_,rfl⟩,Bd kvs (.inr m) (.ref p),(c.trans r).upd w,A7,?_,λn j=>?_⟩⟩
  .have:=U8 kvs (Sum.inr m:IQ) (.ref p);lia
  .rw[By];by_cases e:n=m
   .rw[AN e,e];have B:p≠D:=(B0 f I).symm;exact⟨p,B,rfl,(B7 B).trans K⟩
   .rw[AI e];rw[D8 o]at j;obtain⟨l,C,s,t⟩:=g n ((AO.mp j).elim id λz=>absurd (AE.mp z) e);exact⟨l,C,s,(B7 C).trans (r _ _ t)⟩
 .rintro σ b ⟨_,kvs,c,f,F,g⟩;rw[AB,BR]at g;exact q σ kvs b c f λn j=>let⟨l,_,s,t⟩:=g n j;⟨l,s,t⟩
def Ak{ns:A0 Str}{a:A0 IM}(h:∀q∈a,q.2.1∈ns/\q.2.2∈ns):∀n∈ns,∀y∈C2 a n,y∈ns:=λn _ y b=>by
 obtain⟨q,c,rfl⟩:=BK.mp b;exact(h q (AY.mp c).1).2
def T6{ns:A0 Str}{a:A0 IM}(h:∀q∈a,q.2.1∈ns/\q.2.2∈ns):∀n∈ns,∀y∈B2 a n,y∈ns:=λn _ y b=>by
 obtain⟨q,c,rfl⟩:=BK.mp b;exact(h q (AY.mp c).1).1
def Qw(K:VA)(C:A3):Sp:=λe H Q _=>∃(x a:A3) (c b:A0 Str) (d:A0 IM),e = [.ref x,.ref a]/\IP C H x c d/\(∀y∈b,y∈c)/\b.Nodup/\QK K H a (b.map V.str)/\zGz H c b (C2 d) Q
theorem Tc:IB ["web","some"] ["web","some"] (B6 PP):=KL
theorem Pq(T:Tx K mg):IJ P w K mg base JQ 3 T.bf.f T.bf.fd ["web","some"] (Qw K T.ac):=by
 refine T.bf.F.o1 Tc λS A t s H vs Q E j h=>?_
 .obtain⟨x,a,e,U,u,rfl,v,i,y,W,k⟩:=h;have hu:=Q8 j;refine⟨_,(B5 (C0 (E3 T.bc (Mr T) (Rm j) (A6 (Oh (N':=["name","web"]) (cap:=[none,some 0]) (cl:=[("web",_)]) (O7 ⟨⟨rfl,rfl,rfl,rfl⟩,trivial⟩ ⟨rfl,trivial⟩) rfl (MW K (J3 (pv 0) T.af T.ab.m (E5 T) (Rm j) T.ab.b .nil J6)) (λ_ _ _ _=>by exact⟨(LS 0),P5,(pv 0),(N0 (pv 1) T.af T.ap.m (S6 T) (Rm j) T.ap.b .nil J6 (A6 (pv 0) A8))⟩)) (A6 (pv 1) A8))))),?_⟩;obtain⟨z,N,a1,b,c,d,kc,kd,O,_⟩:=id v;refine C3 rfl ⟨x,N,C3 rfl ⟨O,rfl,x,e,u,rfl,v,λp B=>?_⟩⟩;have q:=Cv.new (o:=.lst (e.map V.str)) B;have C:(HY H p (.lst (e.map V.str))) p=some (.lst (e.map V.str)):=A7;generalize HY H p (.lst (e.map V.str))=H2 at q C⊢;refine⟨p,rfl,⟨_,IG.of C⟩,λD X=>?_⟩;refine Uw (nx:=C2 u) (PF (K:=K) (IG.of C)) (by have:=z.len;lia) X (λn Y H1 R Q' Z=>?_) λσ G H3 s3 e3 I=>?_
  .have W1:=(v.same q).same R;refine C3 rfl ⟨x,N,C3 rfl ⟨R _ _ (q _ _ O),rfl,C3 rfl ⟨x,n,e,u,rfl,W1,Y,λl r=>?_⟩⟩⟩;exact Z l _ (Cv.new r) r A7
  .have g:=q.trans s3;refine C3 rfl ⟨D,a,G,e,U,_,rfl,e3,I,Ak z.mem,z.len,i,y,(g.at a).seq W,λl ts H4 s4 r e4 J L m4 M=>?_⟩;exact k l ts H4 (g.trans s4) (g.free r) e4 J L m4 M
def Km(a:IQ×V):∀(l c:A0 (IQ×V)),X7 c (l ++ [a])=Bd (X7 c l) a.1 a.2
 | [],_=>rfl
 | b::l,c=>Km a l (Bd c b.1 b.2)
def Ba:∀{more b:A0 (IQ×V)},((b++more).map λk=>k.1).Nodup->X7 b more=b++more
 | [],b,_=>(BW b).symm
 | a::m,b,h=>by
  have c:W9 b a.1=none:=by
   cases e:W9 b a.1 with
   | none=>rfl
   | some v =>
    rw[AK,BM]at h;exact absurd rfl ((CI.mp h).2.2 _ (Rk e) _ (AX ..))
  show X7 (Bd b a.1 a.2) m=_;rw[Md a.2 c,Ba (by rw[BG];exact h),BG];rfl
def Oo(f:Str->A5 Str)(l:A0 Str)(g:Str->Str)(n:Str):A5 Str:=if n∈l then some (g n)else f n
def WD.mrgG{g:Str->Str}:∀{l:A0 Str} {kvs:A0 (IQ×V)} {f:Str->A5 Str},WD kvs f->WD (X7 kvs (l.map λn=>(Sum.inr n,V.str (g n)))) (Oo f l g)
 | [],_,_,h=>λn=>(h n).trans (by unfold Oo;rw[AI A_])
 | a::l,kvs,f,h=>λn=>by
  have c:WD (Bd kvs (.inr a) (.str (g a))) (Oo f [a] g):=λm=>by
   rw[By];unfold Oo;by_cases e:m=a
   .rw[AN e,AN (AE.mpr e),e];rfl
   .rw[AI e,AI λz=>e (AE.mp z)];exact h m
  refine(WD.mrgG (l:=l) c n).trans ?_;unfold Oo;by_cases e:n∈l
  .rw[AN e,AN (AL _ e)]
  .rw[AI e];by_cases b:n=a
   .rw[AN (AE.mpr b),AN (b▸AX ..)]
   .rw[AI λz=>b (AE.mp z),AI λz=>(AR.mp z).elim b e]
def Ub{K:VA}{J:It}{a C:A3}{b:A0 (A3×Row)}{H:Hp}{Q:St->Hp->Prop}(as:NK J (b.map λq=>V.ref q.1) a H)(o:∀q∈b,H q.1=some (.tup [.str q.2.1,.str q.2.2.1,q.2.2.2]))(p:b.length<=1000)(m:H C=none)
  (h:∀σ k,Cv H k->k C=some (.dK (X7 [] (b.map λq=>((Sum.inr q.2.1:IQ),V.str q.2.2.1))))->Q σ k) (d e f:A5 V) :
  Au (SX K 3 (Cw (O0 0) (Cw (O0 1) (Cw (O0 2) TB)))) Gn (Ei C (T9 0) (T9 1)) J [d,e,f] (HY H C (.dK [])) Q:=by
 refine P1 as (λi σ c=>(∃d e f,σ = [d,e,f])/\Cv H c/\c C=some (.dK (X7 [] ((b.take i).map λq=>((Sum.inr q.2.1:IQ),V.str q.2.2.1)))))
  ⟨⟨_,_,_,rfl⟩,Cv.new m,A7⟩ (λi σ w _ ⟨_,r,_⟩=>r.at a) ?_ ?_
 .rintro i σ c v N n ⟨⟨d,e,f,rfl⟩,g,j⟩ s;rw[AH]at n;obtain⟨y,l,rfl⟩:=BF.mp n;have x:=(AJ.mp l).1;have t:=g _ _ (o y (BB l));refine⟨y.1,C3 rfl ⟨IU.of t,rfl,_,C3 rfl ⟨_,C3 rfl (B9 rfl rfl ?_)⟩⟩⟩;have u:=T0 [] ((b.take i).map λq=>((Sum.inr q.2.1:IQ),V.str q.2.2.1));rw[AB,AZ]at u;have A:([]:A0 (IQ×V)).length=0:=rfl;show Ei C (T9 0) (T9 1) [some (.str y.2.1),some (.str y.2.2.1),some y.2.2.2] c N;refine C3 rfl (C3 rfl ⟨_,Sum.inr y.2.1,j,rfl,by rw[sizeLine_eq];lia,s _ _ ⟨⟨_,_,_,rfl⟩,g.upd m,?_⟩⟩);rw[A7,D8 l,AK];exact congrArg (λz=>some (HO.dK z)) (Km (Sum.inr y.2.1,V.str y.2.2.1) _ _).symm
 .rintro σ c ⟨_,g,j⟩;rw[AB,BR]at j;exact h σ c g j
def zCq(H:Hp)(ns:A0 Str)(d:A0 IM)(Q:VK):Prop:=∀l a b,Cv H b->H l=none->b l=some (.dK a)->WD a (WG ns d)->(∀c:A0 Str,(a.map λq=>q.1)=c.map Sum.inr->c.Perm ns->Q (.ref l) b)
theorem LJ:IB ["web","stay","given"] ["web","stay"] (B6 LY):=KL
def Nl(C:A3):Sp:=λf H Q _=>∃(x d:A3) (a:A0 Str) (b:A0 IM) (c:A0 Str) (e:Str->Str),f = [.ref x,.ref d]/\IP C H x a b/\H d=some (.dK (c.map λn=>(Sum.inr n,V.str (e n))))/\c.Nodup/\(∀n∈c,n∈a/\e n=G9 (B2 b) n)/\zCq H a b Q
set_option maxHeartbeats 4000000 in
theorem X2(T:Tx K mg):IJ P w K mg base JQ 6 T.aD.f T.aD.fd ["web","stay"] (Nl T.ac):=by
 refine T.aD.F.o1 LJ λcdv A N s H vs Q E hr h=>?_
 .obtain⟨x,d0,u,r,j,m,rfl,hW,v,nk,J,q⟩:=h;refine⟨_,(A9 (C6 (i:=2) LJ.nd rfl (.inl rfl) (y8 Sd T.bk Jy (A6 (pv 1) A8)))
   (A9 (J7 (Jb (pv 2) (Oh (N':=["name","word","number"]) (cap:=[none,none,none]) (cl:=[]) (O7 trivial trivial) rfl (MW K (E3 T.aG (Ao T) (Rm hr) (A6 (pv 0) (A6 (pv 1) A8)))) (λ_ _ _ _=>by exact⟨(QX K (n:=3) (E7 (LS 0) (E7 (LS 1) (E7 (LS 2) Q9)))),P5,(pv 0),(pv 1)⟩)) ⟨rfl,rfl,rfl,rfl⟩))
   (B5 (C0 (pv 2))))),?_⟩
  have O:=hW.ok;have ln:=O.len;have y:=O.nd;refine B4 λN1 R=>?_;refine C3 rfl ⟨d0,_,rfl,v,λd S=>?_⟩;have L:=Cv.new (o:=.dK (j.map λn=>((Sum.inr n:IQ),V.str (m n)))) S;have M:(HY H d (.dK (j.map λn=>((Sum.inr n:IQ),V.str (m n))))) d=some (.dK (j.map λn=>((Sum.inr n:IQ),V.str (m n)))):=A7;generalize HY H d (.dK (j.map λn=>((Sum.inr n:IQ),V.str (m n))))=H1 at L M⊢;have B:WD (j.map λn=>((Sum.inr n:IQ),V.str (m n))) (Oo (λ_=>none) j m):=by
   have h1:X7 [] (j.map λn=>((Sum.inr n:IQ),V.str (m n))) = []++j.map λn=>((Sum.inr n:IQ),V.str (m n)):=Ba (by
    rw[F_,BS];exact List.Pairwise.map _ (λa b h e=>h (Sum.inr.inj e)) nk)
   have h2:=WD.mrgG (l:=j) (kvs:=[]) (f:=λ_=>none) (g:=m) λn=>rfl;rw[h1]at h2;exact h2
  have U:RP r (Oo (λ_=>none) j m):=λn w e=>by
   unfold Oo at e;by_cases c:n∈j
   .rw[AN c]at e;rw[<-BU e];exact(J n c).2
   .rw[AI c]at e;cases e
  have p:∀n,n∈wl u (Oo (λ_=>none) j m)↔n∈u/\n∉j:=λn=>by
   rw[JY];unfold Oo;by_cases c:n∈j
   .rw[AN c];exact⟨λz=>(by cases z.2),λz=>absurd c z.2⟩
   .rw[AI c];exact⟨λz=>⟨z.1,c⟩,λz=>⟨z.1,rfl⟩⟩
  have C:(j++wl u (Oo (λ_=>none) j m)).Perm u:=(List.perm_ext_iff_of_nodup (CI.mpr ⟨nk,y.filter _,λa ha b hb e=>((p b).mp hb).2 (e▸ha)⟩) y).mpr λn=>by
   rw[AO];refine Iff.trans (or_congr Iff.rfl (p n)) ?_;by_cases c:n∈j
   .exact⟨λ_=>(J n c).1,λ_=>.inl c⟩
   .exact⟨λz=>z.elim (λz=>absurd z c) λz=>z.1,λz=>.inr ⟨z,c⟩⟩
  have lk:=C.length_eq;rw[AV]at lk;refine R _ _ (B4 λN2 W=>?_);refine C3 rfl ⟨_,rfl,.inl ⟨_,.inl M⟩,?_⟩;refine C3 rfl (C3 rfl ⟨x,d0,u,r,_,_,rfl,hW.same L,L _ _ v,B,by rw[AB];lia,λl t H2 s2 hl L2 S2 OI=>?_⟩);refine⟨l,rfl,⟨_,IG.of L2.1⟩,λD X=>?_⟩;refine Ub (PF (K:=K) (IG.of L2.1)) L2.2 (by lia) X (λσ H3 s3 e3=>?_) _ _ _;obtain⟨w2,Y⟩:=S2.words (T6 O.mem) y U;generalize wl u (Oo (λ_=>none) j m)=ws at C lk Y p;have Z:(t.map λq=>q.2.1).Nodup:=by
   have:=Y.nodup_iff.mpr ((CI.mp (C.nodup_iff.mpr y)).2.1)
   rwa [BS]at this
  have G:(t.map λq=>q.2.1).Perm ws:=by rwa [BS]at Y
  have e4:X7 [] (t.map λq=>((Sum.inr q.2.1:IQ),V.str q.2.2.1)) =(t.map λq=>q.2.1).map λn=>((Sum.inr n:IQ),V.str (G9 (B2 r) n)):=by
   rw[Ba (by
    rw[F_,BS];exact List.Pairwise.map _ (λa b h e=>h (Sum.inr.inj e)) (CS.mp Z)),F_,BS]
   exact List.map_congr_left λq hq=>by
    have:=w2 q.2 (BK.mpr ⟨q,hq,rfl⟩);show _ =((Sum.inr q.2.1:IQ),V.str (G9 (B2 r) q.2.1));rw[this]
  rw[e4]at e3;have I:=s2.trans s3;have f3:=I _ _ M;have lw:=G.length_eq;refine⟨D,_,_,rfl,f3,e3,λe=>?_,by rw[AB,AB,sizeLine_eq];lia,?_⟩
  .rw[<-e,s2 _ _ M]at X;cases X
  have u4:=((L.trans I).upd (o:=.dK (X7 (j.map λn=>((Sum.inr n:IQ),V.str (m n))) ((t.map λq=>q.2.1).map λn=>((Sum.inr n:IQ),V.str (G9 (B2 r) n))))) S);refine W _ _ (C3 rfl (q d _ _ u4 S A7 ?_ (j++t.map λq=>q.2.1) ?_ ((CY j G).trans C)))
  .intro n;refine(WD.mrgG (g:=G9 (B2 r)) B n).trans (congrArg (Option.map V.str) ?_);unfold Oo WG;by_cases c:n∈t.map λq=>q.2.1
   .rw[AN c,AN ((p n).mp (G.mem_iff.mp c)).1]
   .rw[AI c];by_cases k:n∈j
    .rw[AN k,AN (J n k).1,(J n k).2]
    .rw[AI k,AI λz=>c (G.mem_iff.mpr ((p n).mpr ⟨z,k⟩))]
  .rw[Ba]
   .rw[AK,BS,BS];have e5:((λq:IQ×V=>q.1)∘λn:Str=>((Sum.inr n:IQ),V.str (m n)))=Sum.inr:=rfl;have e6:((λq:IQ×V=>q.1)∘λn:Str=>((Sum.inr n:IQ),V.str (G9 (B2 r) n)))=Sum.inr:=rfl;rw[e5,e6,<-AK]
   .rw[AK,BS,BS];have e5:((λq:IQ×V=>q.1)∘λn:Str=>((Sum.inr n:IQ),V.str (m n)))=Sum.inr:=rfl;have e6:((λq:IQ×V=>q.1)∘λn:Str=>((Sum.inr n:IQ),V.str (G9 (B2 r) n)))=Sum.inr:=rfl;show((j.map Sum.inr) ++(t.map λq=>q.2.1).map Sum.inr:A0 IQ).Nodup;rw[<-AK];exact List.Pairwise.map _ (λa b h e=>h (Sum.inr.inj e)) (((CY j G).trans C).nodup_iff.mpr y)
def oV(o:A5 Str):V:=(o.map V.str).getD .non
abbrev Row3:Type:=Str×A5 Str×Str
def R3(H:Hp)(l:A3)(a:A0 (A3×Row3)):Prop:=H l=some (.lst (a.map λq=>V.ref q.1))/\∀q∈a,H q.1=some (.tup [.str q.2.1,oV q.2.2.1,.str q.2.2.2])
def R3.same{H H':Hp}{l:A3}{a:A0 (A3×Row3)}(h:R3 H l a)(s:Cv H H'):R3 H' l a:=⟨s _ _ h.1,λq b=>s _ _ (h.2 q b)⟩
def Ty(f:Str->A5 Str)(g:Str->Str)(n:Str):Bool:=!decide (f n=some (g n))
def Az(f:Str->A5 Str)(g:Str->Str)(ns:A0 Str):A0 Row3:=(ns.filter (Ty f g)).map λn=>(n,f n,g n)
def Uj(o:A5 Str)(y:Str):zFa (oV o) (.str y)=true/\(!decide (oV o = .str y))=!decide (o=some y):=by
 cases o with
 | none=>exact⟨rfl,rfl⟩
 | some x =>
  refine⟨rfl,?_⟩;show(!decide (V.str x=V.str y))=_;by_cases e:x=y
  .rw[e,AS rfl,AS rfl]
  .rw[AM (λz=>e (by cases z;rfl)),AM (λz=>e (by cases z;rfl))]
theorem Yo{K:VA}{a D:A3}{ss:A0 Str}{r:St}{f:Str->A5 Str}{g:Str->Str}{B:TT}{C:TE}{H:Hp}{Q:St->Hp->Prop}(e:H a=some (.lst (ss.map V.str)))(P:ss.length<=1000)(E:H D=none)
  (u:∀y∈ss,∀d,Cv H d->∀m:Bool->Hp->Prop,m (Ty f g y) d->B (some (.str y)::r) d m)
  (R:∀y∈ss,∀d,Cv H d->∀m:VK,(∀t,d t=none->m (.ref t) (HY d t (.tup [.str y,oV (f y),.str (g y)])))->C (some (.str y)::r) d m)
  (h:∀σ w b,Cv H w->R3 w D b->(b.map λq=>q.2)=Az f g ss->Q σ w) (F:A5 V) :
  Au (O0 0) B (Z7 D C) (P_ K a) (F::r) (HY H D (.lst [])) Q:=by
 refine P1 (PF (K:=K) (IG.of e)) (λi σ j=>(∃v,σ=v::r)/\Cv H j/\∃b,R3 j D b/\(b.map λq=>q.2)=Az f g (ss.take i))
  ⟨⟨_,rfl⟩,Cv.new E,[],⟨A7,λq p=>absurd p A_⟩,rfl⟩ (λi σ d _ ⟨_,S,_⟩=>S.at a) ?_ ?_
 .rintro i σ j v N G ⟨⟨F,rfl⟩,k,b,s,l⟩ I;rw[AH]at G;obtain⟨y,J,rfl⟩:=BF.mp G;have L:=BB J;have M:Az f g (ss.take (i+1))=Az f g (ss.take i)++if Ty f g y=true then [(y,f y,g y)]else []:=by
   unfold Az;rw[D8 J,CM,BO,DQ,AK];by_cases c:Ty f g y=true
   .rw[AN c,AN c];rfl
   .rw[AI c,AI c];rfl
  have U:b.length<=1000:=by
   have O:=congrArg List.length l;unfold Az at O;have:=BC (Ty f g) (ss.take i);rw[AB,AB]at O;rw[AZ]at this;lia
  refine u y L j k _ (Z8 (λc=>R y L j k _ λt u=>?_) (λc=>I _ _ ⟨⟨_,rfl⟩,k,b,s,by rw[M,AI c,BW];exact l⟩));have x:=Cv.new (o:=.tup [.str y,oV (f y),.str (g y)]) u;have A:(HY j t (.tup [.str y,oV (f y),.str (g y)])) t=some (.tup [.str y,oV (f y),.str (g y)]):=A7;generalize HY j t (.tup [.str y,oV (f y),.str (g y)])=X at x A⊢;have n:=s.same x;refine⟨_,n.1,by rw[AB,sizeLine_eq];lia,I _ _ ⟨⟨_,rfl⟩,(k.trans x).upd E,b ++ [(t,y,f y,g y)],⟨?_,λq p=>?_⟩,?_⟩⟩
  .rw[A7,AK];rfl
  .have T:q.1≠D:=by
    rcases AO.mp p with c | c
    .exact J8 (n.2 q c) n.1 (by intro z;cases z)
    .rw[AE.mp c];exact J8 A n.1 (by intro z;cases z)
   rw[B7 T];rcases AO.mp p with c | c
   .exact n.2 q c
   .rw[AE.mp c];exact A
  .rw[AK,l,M,AN c];rfl
 .rintro σ j ⟨_,k,b,s,l⟩;rw[AB,BR]at l;exact h σ j b k s l
theorem Bx:IB ["old","new"] ["old","new"] (B6 LZ):=KL
def Hs:Sp:=λk H Q _=>∃(d e:A3) (h b:A0 (IQ×V)) (f:Str->A5 Str) (g:Str->Str) (i a:A0 Str),k = [.ref d,.ref e]/\H d=some (.dK h)/\WD h f/\H e=some (.dK b)/\(b.map λq=>q.1)=i.map Sum.inr/\i.Perm a/\a.Pairwise NL/\a.length<=100/\(∀n∈a,W9 b (.inr n)=some (.str (g n))) /\
 ∀l j c,Cv H c->H l=none->R3 c l j->(j.map λq=>q.2)=Az f g a->Q (.ref l) c
theorem Cl(T:Tx K mg):IJ P w K mg base JQ 1 T.aN.f T.aN.fd ["old","new"] (Hs):=by
 refine T.aN.F.o1 Bx λL A v s H vs Q E M h=>?_
 .obtain⟨d,e,kd,N,f,g,O,i,rfl,R,S,G,U,W,X,ln,Y,q⟩:=h;have r:=Q8 M;refine⟨_,(B5 (C0 (V9 (N':=["name","new","old"]) (cap:=[none,some 1,some 0]) (cl:=[("old",_),("new",_)]) (O7 ⟨⟨rfl,rfl,rfl,rfl⟩,⟨⟨rfl,rfl,rfl,rfl⟩,trivial⟩⟩ ⟨rfl,⟨rfl,trivial⟩⟩) rfl (MW K (I0 Wm T.av M9 (A6 (pv 1) A8))) (λ_ _ _ _=>by exact⟨(LS 0),(K8 (B8 Cy (Y9 r (pv 2) (pv 0) ⟨rfl,rfl,rfl,rfl⟩) (Y0 r (pv 1) (pv 0) (λ_ _=>rfl)) (C8 _))),(J4 (A6 (pv 0) (A6 (Y9 r (pv 2) (pv 0) ⟨rfl,rfl,rfl,rfl⟩) (A6 (Y0 r (pv 1) (pv 0) (λ_ _=>rfl)) A8))))⟩)))),?_⟩;refine C3 rfl ⟨e,N,O,rfl,.inl G,U,λl Z hl p3 x=>?_⟩;rw[K7 x X (p3.trans W)];have j:=Cv.new (o:=.lst (i.map V.str)) hl;have z:(HY H l (.lst (i.map V.str))) l=some (.lst (i.map V.str)):=A7;generalize HY H l (.lst (i.map V.str))=I at j z⊢;refine⟨l,rfl,⟨_,IG.of z⟩,λD J=>?_⟩;have m:∀(y:Str) (a:Hp) (c:VK),Cv I a->c (oV (f y)) a->Li (T9 2) (T9 0) [some (.str y),some (.ref e),some (.ref d)] a c:=λy a c b B=>by
   have u:=b _ _ (j _ _ R);refine C3 rfl ⟨d,rfl,.inl ⟨_,.inl u⟩,C3 rfl ⟨_,LE.k (k:=.inr y) u,?_⟩⟩;rw[S y];exact B
  have n:∀(y:Str),y∈i->∀(a:Hp) (c:VK),Cv I a->c (.str (g y)) a->zDy (T9 1) (T9 0) [some (.str y),some (.ref e),some (.ref d)] a c:=λy p a c b B=>by
   refine C3 rfl (C3 rfl ⟨e,_,rfl,?_,B⟩);have:=LE.k (k:=.inr y) (b _ _ (j _ _ G));rw[Y y p]at this;exact this
  refine Yo (f:=f) (g:=g) z (by lia) J (λy p a b c C=>?_) (λy p a b c C=>?_) (λσ a rs b L2 u=>q D rs a (j.trans b) (j.free J) L2 u) _
  .unfold i8 OL;refine m y a _ b ?_;refine n y p a _ b ?_;refine⟨(Uj _ _).1,_,rfl,?_⟩;rw[(Uj _ _).2];exact C
  .exact C3 rfl (m y a _ b (n y p a _ b ⟨by show 3<=sizeLine;rw[sizeLine_eq];lia,λt ht=>C t ht⟩))
def eK(H:Hp)(k p:A3):Hp:=λb=>if b=k\/b=p then none else H b
def j8{H:Hp}{k p b:A3}(h1:b≠k)(h2:b≠p):eK H k p b=H b:=AI λz=>z.elim h1 h2
def Pe{H:Hp}{k p b:A3}{o:HO}(e:eK H k p b=some o):b≠k/\b≠p/\H b=some o:=by
 by_cases h:b=k\/b=p
 .unfold eK at e;rw[AN h]at e;cases e
 .have a:b≠k:=λz=>h (.inl z);have c:b≠p:=λz=>h (.inr z);rw[j8 a c]at e;exact⟨a,c,e⟩
def V3{H:Hp}{k p:A3}:Cv (eK H k p) H:=λb o e=>(Pe e).2.2
def Bt(k p:A3)(H H':Hp):Prop:=∀b o,b≠k->b≠p->H b=some o->H' b=some o
def Bt.eK{k p:A3}{H H':Hp}(h:Bt k p H H'):Cv (eK H k p) (eK H' k p):=λb o e=>by
 obtain⟨a,c,e⟩:=Pe e;rw[j8 a c];exact h b o a c e
def Bt.of{k p:A3}{H H':Hp}(h:Cv H H'):Bt k p H H':=λb o _ _ e=>h b o e
def Bt.trans{k p:A3}{H H' a:Hp}(h:Bt k p H H')(h':Bt k p H' a):Bt k p H a:=λb o c d e=>h' b o c d (h b o c d e)
def Bt.k{k p:A3}{H H':Hp}{o:HO}(h:Bt k p H H'):Bt k p H (HY H' k o):=λb q a c e=>(B7 a).trans (h b q a c e)
def Bt.p{k p:A3}{H H':Hp}{o:HO}(h:Bt k p H H'):Bt k p H (HY H' p o):=λb q c a e=>(B7 a).trans (h b q c a e)
def Mp{H:Hp}{k p:A3}{o:HO}:eK (HY H k o) k p=eK H k p:=funext λb=>by
 by_cases h:b=k\/b=p
 .unfold eK;rw[AN h,AN h]
 .have a:b≠k:=λz=>h (.inl z);rw[j8 a (λz=>h (.inr z)),j8 a (λz=>h (.inr z)),B7 a]
def Zr{H:Hp}{k p:A3}{o:HO}:eK (HY H p o) k p=eK H k p:=funext λb=>by
 by_cases h:b=k\/b=p
 .unfold eK;rw[AN h,AN h]
 .have a:b≠p:=λz=>h (.inr z);rw[j8 (λz=>h (.inl z)) a,j8 (λz=>h (.inl z)) a,B7 a]
def IP.keepD{C D:A3}{H H':Hp}{x d i:A3}{j:A0 (Str×V)}{ns:A0 Str}{m:A0 IM}(h:IP C H x ns m)(p:H d=some (.ins D i j))(nx:x≠d)(k:∀b o,b≠d->H b=some o->H' b=some o):IP C H' x ns m:=by
 obtain⟨r,s,a,b,c,t,u,w,y,A,B,E,F,G,I,J⟩:=h;have f:∀{b:A3} {o:HO},H b=some o->o≠ .ins D i j->H' b=some o:=λe n=>k _ _ (J8 e p n) e;exact⟨r,s,a,b,c,t,u,w,k _ _ nx y,f A (by intro z;cases z),f B (by intro z;cases z),λq K=>f (E q K) (by intro z;cases z),f F (by intro z;cases z),f G (by intro z;cases z),λn g=>let⟨l,v,e⟩:=I n g;⟨l,v,f e (by intro z;cases z)⟩,λn g=>let⟨l,v,e⟩:=J n g;⟨l,v,f e (by intro z;cases z)⟩⟩
def kf(x g r p:A3):A0 (Str×V):=[("web",.ref x),("given",.ref g),("reckoned",.ref r),("past",.ref p)]
structure KU(CK CW:A3)(H:Hp)(k p:A3)(ns:A0 Str)(qs:A0 IM)(m:Nat):Prop where
 ex:∃(dk x g r:A3) (kvs:A0 (IQ×V)) (ks:A0 Str) (rl pl:A0 V),H k=some (.ins CK dk (kf x g r p))/\IP CW (eK H k p) x ns qs/\H g=some (.dK kvs)/\WD kvs (WG ns qs)/\(kvs.map λq=>q.1)=ks.map Sum.inr/\ks.Perm ns/\H p=some (.lst pl)/\pl.length<=m
 nm:∀n∈ns,P2 n=true
def KU.same{b c:A3}{H H':Hp}{k p:A3}{ns:A0 Str}{d:A0 IM}{m:Nat}(h:KU b c H k p ns d m)(s:Cv H H'):KU b c H' k p ns d m :=
 ⟨let⟨e,x,g,r,a,f,i,j,l,n,o,q,t,u,v,w⟩:=h.ex;⟨e,x,g,r,a,f,i,j,s _ _ l,n.same (Bt.of s).eK,s _ _ o,q,t,u,s _ _ v,w⟩,h.nm⟩
theorem Dg{C:A3}{H:Hp}{h l2:A3}{ss:A0 Str}{ps:A0 IM}{R:Hp->Prop}{E:XK}{y a:A3}(r:H y=none)(i:H a=none)(s:H h=some (.lst (ss.map V.str)))(t:H l2=some (.lst (E8 ps)))(j:∀q∈ps,G8 H q)(w:X4 ss)(x:NN ss ps)
  (q:∀(ns:A0 Str) (g:A0 IM) (H':Hp),ns.Perm ss->ns.Pairwise NL->g.Perm ps->g.Pairwise QB->Cv H H'->IP C H' y ns g->(∀z k u,H z=some (.lst k)->IP C (HY H' z u) y ns g)->R H') :
  Ce K C [.ref y,.ref h,.ref l2] (HY (HY H a (.own y)) y (.ins C a [])) (λv A=>v = .non/\R A) E:=by
 have c:Cv H (HY (HY H a (.own y)) y (.ins C a [])):=λb o e=>by
  rw[B7 (B0 e r),B7 (B0 e i)];exact e
 refine⟨y,a,h,ss,l2,ps,rfl,A7,.inl (IG.of (c _ _ s)),w,c _ _ t,G6 c j,x,λl m B n d p f D F G=>⟨rfl,?_⟩⟩;exact q l m B n d p f (λb o e=>D b o (c b o e) (by simpa using B0 e r)) F λz k u I=>G z k u (c _ _ I)
theorem Ol:IB ["web"] ["web"] (B6 OV):=KL
def Yq(C:A3):Sp:=λe H Q _=>∃(x:A3) (b:A0 Str) (d:A0 IM),e = [.ref x]/\IP C H x b d/\(∀n∈b,P2 n=true) /\
 ∀(y:A3) (a:A0 IM) (c:Hp),a.Perm d->Cv H c->H y=none->IP C c y b a->(∀z f u,H z=some (.lst f)->IP C (HY c z u) y b a)->Q (.ref y) c
theorem Eb(T:Tx K mg):IJ P w K mg base JQ 5 T.a2.f T.a2.fd ["web"] (Yq T.ac):=by
 refine T.a2.F.o1 Ol λN A j s H vs Q E k h=>?_
 .obtain⟨x,d,g,rfl,W,O,q⟩:=h;obtain⟨e,B,a1,b,c,d',kc,R,C,_,_,l,_⟩:=id W;refine⟨_,(B5 (C0 (l9 T.ba (Q7 T) (Rm k) rfl T.a9 T.ax .nil J6 (A6 (J3 (pv 0) T.af T.ab.m (E5 T) (Rm k) T.ab.b .nil J6) (A6 (J3 (pv 0) T.af T.ae.m (I9 T) (Rm k) T.ae.b .nil J6) A8))))),?_⟩;refine C3 rfl ⟨x,B,C3 rfl ⟨C,rfl,x,d,g,rfl,W,λn p=>?_⟩⟩;have i:=Cv.new (o:=.lst (d.map V.str)) p;have D:(HY H n (.lst (d.map V.str))) n=some (.lst (d.map V.str)):=A7;generalize HY H n (.lst (d.map V.str))=S at i D⊢;refine C3 rfl ⟨x,B,C3 rfl ⟨i _ _ C,rfl,x,d,g,rfl,W.same i,λG r=>?_⟩⟩;have I:=Cv.new (o:=.lst (E8 g)) r;have U:(HY S G (.lst (E8 g))) G=some (.lst (E8 g)):=A7;have a:=i.trans I;intro y dy J t X;refine Dg J t (I _ _ D) U (G6 a l) ⟨O,e.nd,e.len⟩ ⟨e.mem,e.ndq,e.lenq⟩ λY v Z pn sn pq sq s' L M=>?_;rw[K7 sn e.srt pn]at L M;exact q y v Z pq (a.trans s') (a.free J) L λz zs u hz=>M z zs u (a _ _ hz)
theorem r8:IB ["self","web"] ["self","web"] (B6 K2):=KL
def Ut(d e:A3):Sp:=λg H Q _=>∃(k h x:A3) (b:A0 Str) (f:A0 IM),g = [.ref k,.ref x]/\H k=some (.ins d h [])/\IP e H x b f/\x≠k/\(∀n∈b,P2 n=true) /\
 ∀(p:A3) (a:A0 IM) (c:Hp),a.Perm f->Bt k p H c->H p=none->KU d e c k p b a 0->Q .non c
set_option maxHeartbeats 1000000 in
theorem Cq(T:Tx K mg):IJ P w K mg base JQ 7 T.bm T.bl ["self","web"] (Ut T.aa T.ac):=by
 refine T.bn.o1 r8 λcdv A C s H vs Q E hr h=>?_
 .obtain⟨k,a,x,j,qs,rfl,hk,W,nx,hN,q⟩:=h;refine⟨_,(A9 (QW K (pv 0) (E3 T.a2 (Eb T) (Rm hr) (A6 (pv 1) A8)))
   (A9 (QW K (pv 0) (E3 T.aD (X2 T) (Rm hr) (A6 (MZ K (pv 0)) (A6 Vv A8))))
   (A9 (QW K (pv 0) (G5 A8))
   (B5 (QW K (pv 0) (G5 A8)))))),?_⟩
  refine B4 λN1 D=>?_;refine C3 rfl ⟨x,j,qs,rfl,W,hN,λy c t p1 s1 hy W1 _=>?_⟩;have l:=s1 _ _ hk;have F:y≠k:=(B0 hk hy).symm;refine C3 rfl ⟨k,T.aa,a,[],rfl,l,T.ad,T.ag,by decide,?_⟩;refine D _ _ (B4 λN2 G=>?_);have I:(HY t k (.ins T.aa a (Q0 "web" (.ref y) []))) k=some (.ins T.aa a [("web",.ref y)]):=A7;have b2:Bt k k H (HY t k (.ins T.aa a (Q0 "web" (.ref y) []))):=(Bt.of s1).k;have J:IP T.ac (eK (HY t k (.ins T.aa a (Q0 "web" (.ref y) []))) k k) y j c:=by
   rw[Mp];exact W1.keepD l F λb o hb e=>(j8 hb hb).trans e
  generalize HY t k (.ins T.aa a (Q0 "web" (.ref y) []))=H2 at I b2 J⊢;refine C3 rfl ⟨k,T.aa,a,_,_,rfl,I,T.ad,T.ag,rfl,?_⟩;intro d hd;have L:=Cv.new (o:=.dK []) hd;have f3:(HY H2 d (.dK [])) d=some (.dK []):=A7;generalize HY H2 d (.dK [])=H3 at L f3⊢;refine⟨y,d,j,c,[],λ_ => "",rfl,(J.same V3).same L,f3,D_,λn hn=>absurd hn A_,λg M u s4 hg e4 N ks k4 p4=>?_⟩;have i:=L.trans s4;have h4:=i _ _ I;have W4:=J.same (Bt.of i (k:=k) (p:=k)).eK;have O:g≠k:=J8 e4 h4 (by intro z;cases z);refine C3 rfl ⟨k,T.aa,a,_,rfl,h4,T.ad,T.aB,CJ rfl,?_⟩;have h5:(HY u k (.ins T.aa a (Q0 "given" (.ref g) [("web",.ref y)]))) k=some (.ins T.aa a [("web",.ref y),("given",.ref g)]):=A7;have b5:Bt k k H (HY u k (.ins T.aa a (Q0 "given" (.ref g) [("web",.ref y)]))):=(b2.trans (Bt.of i)).k;have W5:IP T.ac (eK (HY u k (.ins T.aa a (Q0 "given" (.ref g) [("web",.ref y)]))) k k) y j c:=by
   rw[Mp];exact W4
  have e5:=(B7 (o:=.ins T.aa a (Q0 "given" (.ref g) [("web",.ref y)])) O).trans e4;generalize HY u k (.ins T.aa a (Q0 "given" (.ref g) [("web",.ref y)]))=H5 at h5 b5 W5 e5⊢;refine G _ _ (B4 λN3 R=>?_);refine⟨CB _,λr S=>?_⟩;have m:=Cv.new (o:=.lst []) S;generalize HY H5 r (.lst [])=v at m⊢;refine C3 rfl ⟨k,T.aa,a,_,rfl,m _ _ h5,T.ad,T.a8,CJ rfl,?_⟩;have U:(HY v k (.ins T.aa a (Q0 "reckoned" (.ref r) [("web",.ref y),("given",.ref g)]))) k=some (.ins T.aa a [("web",.ref y),("given",.ref g),("reckoned",.ref r)]):=A7;have V:Bt k k H (HY v k (.ins T.aa a (Q0 "reckoned" (.ref r) [("web",.ref y),("given",.ref g)]))):=(b5.trans (Bt.of m)).k;have W7:IP T.ac (eK (HY v k (.ins T.aa a (Q0 "reckoned" (.ref r) [("web",.ref y),("given",.ref g)]))) k k) y j c:=by
   rw[Mp];exact W5.same (Bt.of m).eK
  have X:=(B7 (o:=.ins T.aa a (Q0 "reckoned" (.ref r) [("web",.ref y),("given",.ref g)])) O).trans (m _ _ e5);generalize HY v k (.ins T.aa a (Q0 "reckoned" (.ref r) [("web",.ref y),("given",.ref g)]))=Y at U V W7 X⊢;refine R _ _ ⟨CB _,λp f=>?_⟩;have B:=Cv.new (o:=.lst []) f;have f8:(HY Y p (.lst [])) p=some (.lst []):=A7;have Z:p≠k:=(B0 U f).symm;have pg:p≠g:=(B0 X f).symm;have W8:IP T.ac (eK (HY Y p (.lst [])) k p) y j c:=by
   rw[Zr];refine W7.same λb o e=>?_;obtain⟨b1,_,e⟩:=Pe e;rw[j8 b1 (B0 e f)];exact e
  generalize HY Y p (.lst [])=H8 at B f8 W8⊢;refine C3 rfl ⟨k,T.aa,a,_,rfl,B _ _ U,T.ad,T.bh,CJ rfl,?_⟩;have hp:H p=none:=by
   cases e:H p with
   | none=>rfl
   | some o =>
    have:=V p o Z Z e;rw[f]at this;cases this
  refine q p c _ p1 (Bt.k λb o h1 _ e=>B _ _ (V b o h1 h1 e)) hp ⟨⟨a,y,g,r,M,ks,[],[],A7,by rw[Mp];exact W8,(B7 O).trans (B _ _ X),N,k4,p4,(B7 Z).trans f8,VD _⟩,hN⟩
def Yf{K:VA}{a C:A3}{ns:A0 Str}{r:St}{p:Str->Bool}{g:Str->Str}{u:TT}{w:TE}{H:Hp}{Q:St->Hp->Prop}(e:H a=some (.lst (ns.map V.str)))(F:ns.Nodup)(G:ns.length<=1000)(x:H C=none)
  (I:∀y∈ns,∀b,Cv H b->∀k:Bool->Hp->Prop,k (p y) b->u (some (.str y)::r) b k)
  (J:∀y∈ns,p y=true->∀b,Cv H b->∀k:VK,k (.str (g y)) b->w (some (.str y)::r) b k)
  (h:∀σ m,Cv H m->m C=some (.dK ((ns.filter p).map λn=>((Sum.inr n:IQ),V.str (g n))))->Q σ m) (z:A5 V) :
  Au (O0 0) u (Ei C (T9 0) w) (P_ K a) (z::r) (HY H C (.dK [])) Q:=by
 refine P1 (PF (K:=K) (IG.of e)) (λi σ f=>(∃v,σ=v::r)/\Cv H f/\f C=some (.dK (((ns.take i).filter p).map λn=>((Sum.inr n:IQ),V.str (g n)))))
  ⟨⟨_,rfl⟩,Cv.new x,A7⟩ (λi σ b _ ⟨_,L,_⟩=>L.at a) ?_ ?_
 .rintro i σ f v N A ⟨⟨z,rfl⟩,j,l⟩ B;rw[AH]at A;obtain⟨y,o,rfl⟩:=BF.mp A;have D:=BB o;have E:(ns.take (i+1)).filter p =(ns.take i).filter p++if p y=true then [y]else []:=by
   rw[D8 o,CM,BO,DQ]
  have P:(((ns.take i).filter p).map λn=>((Sum.inr n:IQ),V.str (g n))).length<=1000:=by
   rw[AB];have:=BC p (ns.take i);rw[AZ]at this;lia
  refine I y D f j _ (Z8 (λc=>?_) (λc=>B _ _ ⟨⟨_,rfl⟩,j,by rw[E,AI c,BW];exact l⟩));refine C3 rfl (J y D c f j _ ⟨_,Sum.inr y,l,rfl,by rw[sizeLine_eq];lia,B _ _ ⟨⟨_,rfl⟩,j.upd x,?_⟩⟩);have M:W9 (((ns.take i).filter p).map λn=>((Sum.inr n:IQ),V.str (g n))) (Sum.inr y:IQ)=none:=by
   cases e:W9 (((ns.take i).filter p).map λn=>((Sum.inr n:IQ),V.str (g n))) (Sum.inr y:IQ)with
   | none=>rfl
   | some v =>
    obtain⟨q,O,s⟩:=BK.mp (Rk e);obtain⟨d,t,rfl⟩:=BK.mp O;have s:d=y:=Sum.inr.inj s;exact absurd (s▸(AY.mp t).1) (Y7 F o)
  rw[A7,Md _ M,E,AN c,AK];rfl
 .rintro σ f ⟨_,j,l⟩;rw[AB,BR]at l;exact h σ f j l
def LH{b:A0 IM}{n y:Str}:y∈C2 b n↔(n,y)∈b.map λq=>q.2:=by
 unfold C2;rw[BK,BK];constructor
 .rintro⟨q,a,rfl⟩;obtain⟨c,d⟩:=AY.mp a;exact⟨q,c,Prod.ext (BL d) rfl⟩
 .rintro⟨q,a,e⟩;exact⟨q,AY.mpr ⟨a,AS (congrArg Prod.fst e)⟩,congrArg Prod.snd e⟩
def Mv{ns a ss ts:A0 Str}{f b:A0 IM}(e:∀q∈b,q.2.1∈a/\q.2.2∈a)(mt:∀x,x∈ts↔QR (C2 b) ss x)(d:∀n∈a,n∉ss->n∈ns/\∀y,y∈B2 f n↔y∈B2 b n){n:Str}(g:n∈a)(i:n∉ts) :
  n∈ns/\G9 (B2 b) n=G9 (B2 f) n:=by
 have out:∀n,n∉ts->n∉ss:=λn h c=>h ((mt n).mpr (QR.of c));refine⟨(d n g (out n i)).1,Dj (U:=λn=>n∈a/\n∉ts) (λn u y j=>⟨T6 e n u.1 y j,λc=>u.2 ((mt n).mpr (QR.step ((mt y).mp c) (LH.mpr (IR.mp j))))⟩) (λn u y=>((d n u.1 (out n u.2)).2 y).symm) ⟨g,i⟩⟩
theorem JE:IB ["self","web","changed","reckoned","stay","given","told"] ["self","web","changed"] (B6 LR):=KL
def Ry(K:VA)(i f:A3):Sp:=λo H Q _=>∃(k p x a:A3) (g b d:A0 Str) (h c:A0 IM) (m:Nat),o = [.ref k,.ref x,.ref a]/\KU i f H k p g h m/\m<=1000/\IP f (eK H k p) x b c/\(∀n∈b,P2 n=true)/\a≠p/\H a=some (.lst (d.map V.str))/\(∀y∈d,y∈b)/\d.Nodup /\
 (∀n∈b,n∉d->n∈g/\∀y,y∈B2 h n↔y∈B2 c n) /\
 ∀l j e,Bt k p H e->KU i f e k p b c (m+1)->H l=none->R3 (eK e k p) l j->(j.map λq=>q.2)=Az (WG g h) (G9 (B2 c)) b->Q (.ref l) e
set_option maxHeartbeats 1000000 in
theorem O9(T:Tx K mg):IJ P w K mg base JQ 7 T.ak.f T.ak.fd ["self","web","changed"] (Ry K T.aa T.ac):=by
 refine T.ak.F.o1 JE λcdv A outer s H vs Q E hr h=>?_
 .obtain⟨k,p,x,a,ns,r,ss,qs,J,m,rfl,hK,lm,W2,N2,nap,ha,hss,nds,hch,q⟩:=h;have hu:=Q8 hr;refine⟨_,(A9 (C6 (i:=3) JE.nd rfl (.inr rfl) (E3 T.bf (Pq T) (Rm hr) (A6 (pv 1) (A6 (pv 2) A8))))
   (A9 (Ud (i:=4) (N':=["name","self","reckoned"]) (cap:=[none,some 0,some 3]) (cl:=[("self",_),("reckoned",_)]) JE.nd rfl (.inl rfl) (O7 ⟨⟨rfl,rfl,rfl,rfl⟩,⟨⟨rfl,rfl,rfl,rfl⟩,trivial⟩⟩ ⟨rfl,⟨rfl,trivial⟩⟩) rfl (MW K (J3 (pv 1) T.af T.ab.m (E5 T) (Rm hr) T.ab.b .nil J6)) (λ_ _ _ _=>by exact⟨(LS 0),(K8 (B8 (o0 K) (pv 0) (pv 2) rfl)),(pv 0),(Y0 hu (MZ K (pv 1)) (pv 0) (λ_ _=>rfl))⟩))
   (A9 (C6 (i:=5) JE.nd rfl (.inl rfl) (E3 T.aD (X2 T) (Rm hr) (A6 (pv 1) (A6 (pv 4) A8))))
   (A9 (C6 (i:=6) JE.nd rfl (.inl rfl) (E3 T.aN (Cl T) (Rm hr) (A6 (MZ K (pv 0)) (A6 (pv 5) A8))))
   (A9 (J7 (Ps K VG VH VI R8 (MZ K (pv 0)) (A6 (J4 (A6 (MZ K (pv 0)) (A6 (MZ K (pv 0)) A8))) A8)))
   (A9 (QW K (pv 0) (pv 1))
   (A9 (QW K (pv 0) (pv 5))
   (A9 (QW K (pv 0) (pv 3))
   (B5 (C0 (pv 6))))))))))),?_⟩
  obtain⟨d,N,u,j,kv0,ks0,rl0,v,R,W0,hg0,wd0,kk0,pk0,hp,lp⟩:=hK.ex;have S:=W2.same V3;refine B4 λM1 hM1=>?_;refine C3 rfl (C3 rfl ⟨x,a,r,ss,J,rfl,S,hss,nds,.inl (IG.of ha),λl ts H1 s1 hl e1 ndt sot mt _=>?_⟩);refine hM1 _ _ (B4 λM2 hM2=>?_);have W21:=S.same s1;obtain⟨I,dx,a1,b1,c1,d1,kc,kd,ex,_⟩:=id W21;refine C3 rfl ⟨x,dx,C3 rfl ⟨ex,rfl,x,r,J,rfl,W21,λl2 hl2=>?_⟩⟩;have s2:=Cv.new (o:=.lst (r.map V.str)) hl2;have f2:(HY H1 l2 (.lst (r.map V.str))) l2=some (.lst (r.map V.str)):=A7;generalize HY H1 l2 (.lst (r.map V.str))=H2 at s2 f2⊢;refine⟨l2,rfl,⟨_,IG.of f2⟩,λD hD=>?_⟩;have s12:=s1.trans s2;refine Yf (p:=λn=>!decide (n∈ts)) (g:=G9 (B2 J)) f2 I.nd (by have:=I.len;lia) hD (λy hy H3 s3 Q' hQ=>?_) (λy hy c H3 s3 Q' hQ=>?_) (λσ H3 s3 e3=>?_) _
  .exact C3 rfl (C3 rfl (U4 (.inl (IG.of (s3 _ _ (s2 _ _ e1)))) ⟨_,rfl,hQ⟩))
  .have O:=s12.trans s3;refine C3 rfl ⟨k,T.aa,d,_,_,rfl,O _ _ R,T.ad,T.aB,rfl,C3 rfl ⟨u,_,rfl,?_,hQ⟩⟩;have hd:=LE.k (k:=.inr y) (O _ _ hg0);obtain⟨m1,m2⟩:=Mv I.mem mt hch hy (by simpa using c);rw[wd0 y,Wa m1,<-m2]at hd;exact hd
  have s13:=s12.trans s3;refine hM2 _ _ (B4 λM3 hM3=>?_);refine C3 rfl (C3 rfl ⟨x,D,r,J,_,_,rfl,S.same s13,e3,I.nd.filter _,λn hn=>⟨(AY.mp hn).1,rfl⟩,λC kv1 H4 s4 hg1 e4 wd4 ks1 k4 p4=>?_⟩);have B:=s13.trans s4;refine hM3 _ _ (B4 λM4 hM4=>?_);refine C3 rfl ⟨k,T.aa,d,_,_,rfl,B _ _ R,T.ad,T.aB,rfl,?_⟩;refine C3 rfl ⟨u,C,kv0,kv1,WG ns qs,G9 (B2 J),ks1,r,rfl,B _ _ hg0,wd0,e4,k4,p4,I.srt,I.len,λn hn=>by rw[wd4 n,Wa hn];rfl,λlo rs H5 s5 hlo R5 q5=>?_⟩;have U:=B.trans s5;have L:=U _ _ R;have W:=U _ _ hp;refine hM4 _ _ (B4 λM5 hM5=>?_);refine C3 rfl ⟨k,T.aa,d,_,_,rfl,L,T.ad,T.bh,rfl,.inl ⟨rfl,_,IG.of W⟩,?_⟩;refine C3 rfl ⟨k,T.aa,d,_,_,rfl,L,T.ad,T.ag,rfl,?_⟩;refine C3 rfl ⟨k,T.aa,d,_,_,rfl,L,T.ad,T.aB,rfl,?_⟩;refine⟨by show 2<=sizeLine;rw[sizeLine_eq];lia,λX ht6=>?_⟩;have s6:=Cv.new (o:=.tup [.ref N,.ref u]) ht6;generalize HY H5 X (.tup [.ref N,.ref u])=H6 at s6⊢;have Y:=U.trans s6;refine⟨p,v,_,rfl,rfl,Y _ _ hp,by rw[sizeLine_eq];lia,hM5 _ _ (B4 λM6 hM6=>?_)⟩;have M:k≠p:=J8 R hp (by intro z;cases z);have b7:Bt k p H (HY H6 p (.lst (v ++ [.ref X]))):=(Bt.of Y).p;have b57:Bt k p H5 (HY H6 p (.lst (v ++ [.ref X]))):=(Bt.of s6).p;have h7:(HY H6 p (.lst (v ++ [.ref X]))) k=some (.ins T.aa d (kf N u j p)):=(B7 M).trans (Y _ _ R);have p7:(HY H6 p (.lst (v ++ [.ref X]))) p=some (.lst (v ++ [.ref X])):=A7;generalize HY H6 p (.lst (v ++ [.ref X]))=H7 at b7 b57 h7 p7⊢;refine C3 rfl (C3 rfl ⟨k,T.aa,d,_,rfl,h7,T.ad,T.ag,CJ rfl,?_⟩);have h8:(HY H7 k (.ins T.aa d (Q0 "web" (.ref x) (kf N u j p)))) k=some (.ins T.aa d (kf x u j p)):=A7;have b8:=b7.k (o:=.ins T.aa d (Q0 "web" (.ref x) (kf N u j p)));have b58:=b57.k (o:=.ins T.aa d (Q0 "web" (.ref x) (kf N u j p)));have p8:=(B7 (o:=.ins T.aa d (Q0 "web" (.ref x) (kf N u j p))) M.symm).trans p7;generalize HY H7 k (.ins T.aa d (Q0 "web" (.ref x) (kf N u j p)))=H8 at h8 b8 b58 p8⊢;refine hM6 _ _ (B4 λM7 hM7=>?_);refine C3 rfl (C3 rfl ⟨k,T.aa,d,_,rfl,h8,T.ad,T.aB,CJ rfl,?_⟩);have h9:(HY H8 k (.ins T.aa d (Q0 "given" (.ref C) (kf x u j p)))) k=some (.ins T.aa d (kf x C j p)):=A7;have b9:=b8.k (o:=.ins T.aa d (Q0 "given" (.ref C) (kf x u j p)));have b59:=b58.k (o:=.ins T.aa d (Q0 "given" (.ref C) (kf x u j p)));have p9:=(B7 (o:=.ins T.aa d (Q0 "given" (.ref C) (kf x u j p))) M.symm).trans p8;generalize HY H8 k (.ins T.aa d (Q0 "given" (.ref C) (kf x u j p)))=H9 at h9 b9 b59 p9⊢;refine hM7 _ _ (B4 λM8 hM8=>?_);refine C3 rfl (C3 rfl ⟨k,T.aa,d,_,rfl,h9,T.ad,T.a8,CJ rfl,?_⟩);have h10:(HY H9 k (.ins T.aa d (Q0 "reckoned" (.ref l) (kf x C j p)))) k=some (.ins T.aa d (kf x C l p)):=A7;have Z:=b9.k (o:=.ins T.aa d (Q0 "reckoned" (.ref l) (kf x C j p)));have G:=b59.k (o:=.ins T.aa d (Q0 "reckoned" (.ref l) (kf x C j p)));have p10:=(B7 (o:=.ins T.aa d (Q0 "reckoned" (.ref l) (kf x C j p))) M.symm).trans p9;generalize HY H9 k (.ins T.aa d (Q0 "reckoned" (.ref l) (kf x C j p)))=H10 at h10 Z G p10⊢;refine hM8 _ _ (C3 rfl ?_);have h04:H4 k≠none:=by rw[B _ _ R];intro z;cases z
  have lok:∀{b:A3} {o:HO},H5 b=some o->H4 b=none->b≠k/\b≠p:=fun{b o} e n=>⟨λz=>(by rw[z,B _ _ R]at n;cases n),λz=>(by rw[z,B _ _ hp]at n;cases n)⟩;have e5:=s5 _ _ e4;refine q lo rs H10 Z ⟨⟨d,x,C,l,kv1,ks1,ts.map V.str,_,h10,W2.same Z.eK,G _ _ (J8 e5 L (by intro z;cases z)) (J8 e5 W (by intro z;cases z)) e5,wd4,k4,p4,p10,by rw[AV];exact E_ lp⟩,N2⟩ (B.free hlo) ⟨?_,λt ht=>?_⟩ q5
  .obtain⟨z1,z2⟩:=lok R5.1 hlo;rw[j8 z1 z2];exact G _ _ z1 z2 R5.1
  .have z1:=J8 (R5.2 t ht) L (by intro z;cases z);have z2:=J8 (R5.2 t ht) W (by intro z;cases z);rw[j8 z1 z2];exact G _ _ z1 z2 (R5.2 t ht)
def Ko{C j:A3}{H:Hp}{y k p m:A3}{r:A0 (Str×V)}{ns:A0 Str}{s:A0 IM}(h:IP C (HY H p (.own p)) y ns s)(w:H k=some (.ins j m r))(x:y≠k):IP C (eK H k p) y ns s:=by
 obtain⟨A,t,a,b,c,u,B,D,E,F,G,I,J,K,L,M⟩:=h;have g:∀{b:A3} {o:HO},(HY H p (.own p)) b=some o->o≠ .own p->b≠p/\H b=some o:=fun{b o} e n=>by
  have d:b≠p:=λq=>by
   rw[q,A7]at e;exact n (BU e).symm
  rw[B7 d]at e;exact⟨d,e⟩
 have f:∀{b:A3} {o:HO},(HY H p (.own p)) b=some o->o≠ .own p->o≠ .ins j m r->eK H k p b=some o:=fun{b o} e n N=>by
  obtain⟨d,e⟩:=g e n;rw[j8 (J8 e w N) d];exact e
 have O:eK H k p y=some (.ins C t (wf a b c u)):=by
  obtain⟨d,e⟩:=g E (by intro z;cases z);rw[j8 x d];exact e
 exact⟨A,t,a,b,c,u,B,D,O,f F (by intro z;cases z) (by intro z;cases z),f G (by intro z;cases z) (by intro z;cases z),λq P=>f (I q P) (by intro z;cases z) (by intro z;cases z),f J (by intro z;cases z) (by intro z;cases z),f K (by intro z;cases z) (by intro z;cases z),(λn i=>let⟨l,v,e⟩:=L n i;⟨l,v,f e (by intro z;cases z) (by intro z;cases z)⟩),λn i=>let⟨l,v,e⟩:=M n i;⟨l,v,f e (by intro z;cases z) (by intro z;cases z)⟩⟩
theorem Z9:IB ["self","one","other"] ["self","one","other"] (B6 KJ):=KL
def zCc(f g:A3):Sp:=λh H Q _=>∃(k p:A3) (a b:Str) (c:A0 Str) (d:A0 IM) (m:Nat),h = [.ref k,.str a,.str b]/\KU f g H k p c d m/\a∈c/\b∈c/\∀e,Cv H e->Q (.bl (decide ((a,b)∈d.map λq=>q.2))) e
theorem S5(T:Tx K mg):IJ P w K mg base JQ 3 T.ao.f T.ao.fd ["self","one","other"] (zCc T.aa T.ac):=by
 refine T.ao.F.o1 Z9 λB A i s H J Q E d h=>?_
 .obtain⟨k,p,a,b,j,c,m,rfl,C,z,D,q⟩:=h;have L:=Q8 d;refine⟨_,(A9 (J7 (N0 (MZ K (pv 0)) T.af T.aj.m (P0 T) (Rm d) T.aj.b .nil J6 (A6 (pv 1) A8)))
   (A9 (J7 (N0 (MZ K (pv 0)) T.af T.aj.m (P0 T) (Rm d) T.aj.b .nil J6 (A6 (pv 2) A8)))
   (B5 (C0 (R0 (Og K) (pv 2) (N0 (MZ K (pv 0)) T.af T.ap.m (S6 T) (Rm d) T.ap.b .nil J6 (A6 (pv 1) A8)) rfl))))),?_⟩
  obtain⟨n,x,g,r,M,N,O,R,o,G,S,U,kk,V,X,Y⟩:=C.ex;have W:=G.same V3;obtain⟨Z,t,a1,b1,c1,d1,kc,kd,u,_⟩:=id W;refine B4 λM1 v=>?_;refine C3 rfl ⟨k,T.aa,n,_,_,rfl,o,T.ad,T.ag,rfl,x,t,?_⟩;refine C3 rfl ⟨u,rfl,C3 rfl ⟨x,a,j,c,rfl,W,z,?_⟩⟩;refine v _ _ (B4 λM2 y=>?_);refine C3 rfl ⟨k,T.aa,n,_,_,rfl,o,T.ad,T.ag,rfl,x,t,?_⟩;refine C3 rfl ⟨u,rfl,C3 rfl ⟨x,b,j,c,rfl,W,D,?_⟩⟩;refine y _ _ ?_;refine C3 rfl (C3 rfl ⟨k,T.aa,n,_,_,rfl,o,T.ad,T.ag,rfl,x,t,?_⟩);refine C3 rfl ⟨u,rfl,C3 rfl ⟨x,a,j,c,rfl,W,z,λl I=>?_⟩⟩;refine V2 (.inl (IG.of A7)) ?_;have e:decide (b∈C2 c a)=decide ((a,b)∈c.map λq=>q.2):=EK.mpr LH;rw[e];exact q _ (Cv.new I)
theorem Z0:IB ["self","one","other"] ["self","one","other"] (B6 KI):=KL
def t7(g h:A3):Sp:=λj H Q _=>∃(k p:A3) (a b:Str) (d:A0 Str) (e:A0 IM) (m:Nat),j = [.ref k,.str a,.str b]/\KU g h H k p d e m/\m<=1000/\a∈d/\b∈d/\(a,b)∉(e.map λq=>q.2)/\e.length+1<=200 /\
 ∀l i c f,Bt k p H f->KU g h f k p d c (m+1)->(c.map λq=>q.2).Perm ((e.map λq=>q.2) ++ [(a,b)])->H l=none->R3 (eK f k p) l i->(i.map λq=>q.2)=Az (WG d e) (G9 (B2 c)) d->Q (.ref l) f
set_option maxHeartbeats 1000000 in
theorem a7(T:Tx K mg):IJ P w K mg base JQ 8 T.an.f T.an.fd ["self","one","other"] (t7 T.aa T.ac):=by
 refine T.an.F.o1 Z0 λcdv A outer s H vs Q E C h=>?_
 .obtain⟨k,p,a,b,j,i,m,rfl,D,lm,ha,hb,G,lq,q⟩:=h;have hu:=Q8 C;refine⟨_,(A9 (M0 (Q5 (N0 (pv 0) T.ad T.ao.m (S5 T) (Rm C) T.ao.b .nil J6 (A6 (pv 1) (A6 (pv 2) A8)))) (B5 Y3) E4)
   (B5 (C0 (N0 (pv 0) T.ad T.ak.m (O9 T) (Rm C) T.ak.b .nil J6 (A6 (l9 T.ba (Q7 T) (Rm C) rfl T.a9 T.ax .nil J6 (A6 (J3 (MZ K (pv 0)) T.af T.ab.m (E5 T) (Rm C) T.ab.b .nil J6) (A6 (G0 Dr (J3 (MZ K (pv 0)) T.af T.ae.m (I9 T) (Rm C) T.ae.b .nil J6) (G5 (A6 (J4 (A6 (pv 1) (A6 (pv 2) A8))) A8))) A8))) (A6 (G5 (A6 (pv 2) A8)) A8)))))),?_⟩
  refine B4 λM1 hM1=>?_;obtain⟨Z,x,g,r,kv,ks,rl,pl,I,W0,hg,wd,kk,pk,hp,lp⟩:=D.ex;have W:=W0.same V3;obtain⟨J,dx,a1,b1,c1,d1,kc,kd,ex,_,_,pin,_⟩:=id W;refine C3 rfl ⟨k,Z,?_⟩;refine C3 rfl ⟨I,rfl,C3 rfl (C3 rfl ⟨k,p,a,b,j,i,m,rfl,D,ha,hb,λH1 s1=>⟨_,rfl,?_⟩⟩)⟩;rw[AM G];refine N9 (hM1 _ _ ?_);have L:=s1 _ _ I;refine C3 rfl ⟨k,Z,C3 rfl ⟨L,rfl,?_⟩⟩;refine C3 rfl ⟨k,T.aa,Z,_,_,rfl,L,T.ad,T.ag,rfl,x,dx,C3 rfl ⟨s1 _ _ ex,rfl,x,j,i,rfl,W.same s1,λl1 hl1=>?_⟩⟩;have M:=s1.trans (Cv.new (o:=.lst (j.map V.str)) hl1);have N:(HY H1 l1 (.lst (j.map V.str))) l1=some (.lst (j.map V.str)):=A7;generalize HY H1 l1 (.lst (j.map V.str))=H2 at M N⊢;refine C3 rfl ⟨k,T.aa,Z,_,_,rfl,M _ _ I,T.ad,T.ag,rfl,x,dx,C3 rfl ⟨M _ _ ex,rfl,x,j,i,rfl,W.same M,λl2 hl2=>?_⟩⟩;have u3:=Cv.new (o:=.lst (E8 i)) hl2;have s3:=M.trans u3;have f3:(HY H2 l2 (.lst (E8 i))) l2=some (.lst (E8 i)):=A7;have N:=u3 _ _ N;generalize HY H2 l2 (.lst (E8 i))=H3 at s3 N f3⊢;refine C3 rfl (C3 rfl ⟨by show 2<=sizeLine;rw[sizeLine_eq];lia,λt ht=>⟨by show 1<=sizeLine;rw[sizeLine_eq];lia,λl3 O=>?_⟩⟩);have u4:=Cv.new (o:=.tup [.str a,.str b]) ht;have f4:(HY H3 t (.tup [.str a,.str b])) t=some (.tup [.str a,.str b]):=A7;generalize HY H3 t (.tup [.str a,.str b])=H4 at u4 f4 O⊢;have u5:=Cv.new (o:=.lst [.ref t]) O;have f5:(HY H4 l3 (.lst [.ref t])) l3=some (.lst [.ref t]):=A7;generalize HY H4 l3 (.lst [.ref t])=H5 at u5 f5⊢;have R:=u4.trans u5;refine⟨l2,l3,E8 i,[.ref t],rfl,rfl,R _ _ f3,f5,by unfold E8;rw[AB,sizeLine_eq];show i.length+1<=_;lia,λl4 hl4=>?_⟩;have u6:=Cv.new (o:=.lst (E8 i ++ [.ref t])) hl4;have f6:(HY H5 l4 (.lst (E8 i ++ [.ref t]))) l4=some (.lst (E8 (i ++ [(t,a,b)]))):=by rw[A7];unfold E8;rw[AK];rfl
  generalize HY H5 l4 (.lst (E8 i ++ [.ref t]))=H6 at u6 f6⊢;have S:=R.trans u6;have s6:=s3.trans S;have U:∀q∈i ++ [(t,a,b)],G8 H6 q:=λq hq=>by
   rcases AO.mp hq with c | c
   .exact G6 s6 pin q c
   .rw[AE.mp c];exact u6 _ _ (u5 _ _ f4)
  intro y dy ny ndy ney;refine Dg ny ndy (S _ _ N) f6 U ⟨D.nm,J.nd,J.len⟩ ⟨λq hq=>?_,?_,by rw[AV];exact lq⟩ λns2 u H7 pn sn pq sq s7 W7 C7=>?_
  .rcases AO.mp hq with c | c
   .exact J.mem q c
   .rw[AE.mp c];exact⟨ha,hb⟩
  .rw[AK];exact CI.mpr ⟨J.ndq,CL.mpr ⟨A_,D_⟩,λc hc d hd e=>G (by rw[AE.mp hd]at e;exact(show c =(a,b)from e)▸hc)⟩
  rw[K7 sn J.srt pn]at W7 C7;have v:=s6.trans s7;refine C3 rfl ⟨by show 1<=sizeLine;rw[sizeLine_eq];lia,λl5 X=>?_⟩;have u8:=Cv.new (o:=.lst [.str b]) X;have f8:(HY H7 l5 (.lst [.str b])) l5=some (.lst ([b].map V.str)):=A7;generalize HY H7 l5 (.lst [.str b])=H8 at u8 f8⊢;have B:=v.trans u8;have Y:(u.map λq=>q.2).Perm ((i.map λq=>q.2) ++ [(a,b)]):=(pq.map _).trans (FE (AK ..));have Wk:IP T.ac (eK H7 k p) y j u:=Ko (C7 p pl (.own p) (s6 _ _ hp)) (v _ _ I) (B0 (s6 _ _ I) ny).symm;refine⟨k,p,y,l5,j,j,[b],i,u,m,rfl,D.same B,lm,Wk.same (Bt.of u8).eK,D.nm,(B0 (v _ _ hp) X).symm,f8,λz hz=>by rw[AE.mp hz];exact hb,CL.mpr ⟨A_,D_⟩,λn hn nb=>⟨hn,λz=>?_⟩,λl rs H9 b9 K9 hl9 R9 q9=>q l rs u H9 ((Bt.of B).trans b9) K9 Y (B.free hl9) R9 q9⟩;rw[IR,IR,Y.mem_iff,AO,AE];exact⟨.inl,λz=>z.resolve_right λe=>nb (by cases e;exact AE.mpr rfl)⟩
theorem N_:IB ["_law_cell","_law_k","_law_m"] ["_law_cell","_law_k"] (B6 OS):=KL
def zCw:Sp:=λb H Q _=>∃(a k:Int),b = [.int a,.int k]/\0<=k/\k<=2000000/\∀m:Int,0<=m->m<1999999973->Q (.int m) H
theorem Dv(T:Tx K mg):IJ P w K mg base JQ 1 T.a3.f T.a3.fd ["_law_cell","_law_k"] zCw:=by
 refine T.a3.F.o1 N_ λd A b s H e Q E g h=>?_
 .obtain⟨a,k,rfl,j,l,q⟩:=h;refine⟨_,(A9 (C6 (i:=2) N_.nd rfl (.inl rfl) (G0 Du (G0 d9 (G0 U6 (G0 U6 (G0 Du (pv 0) B3) (G0 d9 (G0 d9 (pv 1) (pv 1)) B3)) B3) B3) B3))
   (B5 (C0 (G0 Du (G0 d9 (pv 2) (pv 2)) B3)))),?_⟩
  refine C3 rfl (B9 rfl rfl ⟨(show(0:Int)<2147483629 by decide),C3 rfl (C3 rfl (B9 rfl rfl ⟨.inl ⟨by lia,by lia⟩,B9 rfl rfl ⟨.inr ⟨by decide,by decide⟩,B9 rfl rfl (B9 rfl rfl (B9 rfl rfl ⟨.inr ⟨by decide,by decide⟩,B9 rfl rfl ⟨(show(0:Int)<2147483647 by decide),?_⟩⟩))⟩⟩))⟩);generalize c:(a % 2147483629+k*k*7919+11)*48271 % 2147483647=m;have n:0<=m:=by rw[<-c];exact GD _ (by decide)
  have o:m<2147483647:=by rw[<-c];exact FC _ (by decide)
  exact⟨_,rfl,_,rfl,_,_,rfl,rfl,.inl ⟨by lia,by lia⟩,_,_,rfl,rfl,(show(0:Int)<1999999973 by decide),q _ (GD _ (by decide)) (FC _ (by decide))⟩
def IK(H:Hp)(p:A3)(c:Int):Prop:=∃a b:Int,H p=some (.lst [.int a,.int b,.int c])/\0<=c
theorem IK.isS{H:Hp}{p:A3}{c:Int}(h:IK H p c):(H p).isSome=true:=by
 obtain⟨_,_,e,_⟩:=h;rw[e];rfl
theorem IK.get{H:Hp}{p:A3}{c:Int}(h:IK H p c):H p=some ((H p).get h.isS):=(Option.some_get _).symm
theorem IK.cast{H:Hp}{p:A3}{c a:Int}(h:IK H p c)(e:c=a):IK H p a:=e▸h
theorem IK.upd{H:Hp}{p a:A3}{c:Int}{o:HO}(h:IK H p c)(n:p≠a):IK (L2.HY H a o) p c:=by
 obtain⟨x,y,e,z⟩:=h;exact⟨x,y,by rw[B7 n];exact e,z⟩
theorem IK.same{H H':Hp}{p:A3}{c:Int}(h:IK H p c)(s:Cv H H'):IK H' p c:=by
 obtain⟨x,y,e,z⟩:=h;exact⟨x,y,s _ _ e,z⟩
theorem zGq(c:Bool):-(2^64) <(if c=true then(1:Int)else 0)/\(if c=true then(1:Int)else 0)<2^64:=by cases c<;>exact⟨by decide,by decide⟩
theorem NP:IB ["_law_script","_law_k","_law_cell"] ["_law_script","_law_k"] (B6 OD):=KL
def Yx(K:VA):Sp:=λb H Q _=>∃(p:A3) (c:A0 Int) (k:Nat),b = [.ref p,.int (k:Int)]/\IG K H p (c.map V.int)/\k<=1000/\∀l a,H l=none->Cv H a->IK a l 0->Q (.ref l) a
theorem Cc(T:Tx K mg):IJ P w K mg base JQ 1 T.aT.f T.aT.fd ["_law_script","_law_k"] (Yx K):=by
 refine T.aT.F.o1 NP λo A g s H t Q E u h=>?_
 .obtain⟨p,d,k,rfl,n,v,q⟩:=h;refine⟨_,(A9 (C6 (i:=2) NP.nd rfl (.inl rfl) (Fp (B8 Nj (pv 1) (I0 (P4 K) T.au O8 (A6 (pv 0) A8)) (C8 _)) (E6 (KN K) (pv 0) (pv 1) (λ_ _=>rfl)) B3))
   (B5 (C0 (G5 (A6 (G0 d9 (I0 Kt T.bx Xe (A6 (pv 2) A8)) (y8 Pu T.bz Xx (A6 (R0 zFj (I0 Kt T.bx Xe (A6 (pv 2) A8)) (G0 zBi B3 B3) (C8 _)) A8))) (A6 (G0 U6 (pv 2) (G0 d9 B3 (pv 1))) (A6 B3 A8))))))),?_⟩
  refine C3 rfl (C3 rfl (B9 (a:=p) rfl (.inl n) (B9 rfl rfl (C3 rfl ?_))));have j:decide ((k:Int) <((d.map V.int).length:Int))=true->∃c:Int,P6 (d.map V.int) (k:Int)=some (.int c):=λb=>by
   have b:(k:Int) <((d.map V.int).length:Int):=BL b;rw[AB]at b;have m:d[k]?=some (d[k]'(by lia)):=AF (by lia);exact⟨_,Q2 (by rw[AH,m];rfl)⟩
  refine Z8 (λb=>?_) (λb=>?_)
  .obtain⟨c,r⟩:=j b;refine C3 rfl (C3 rfl ⟨p,_,B9 rfl rfl ⟨n,r,?_⟩⟩)
   (repeat first | refine⟨_,rfl,?_⟩ | refine⟨_,_,rfl,rfl,?_⟩)
   refine⟨⟨by decide,by decide,by decide⟩,?_⟩
   (repeat first | refine⟨_,rfl,?_⟩ | refine⟨_,_,rfl,rfl,?_⟩)
   refine .inr ⟨_,rfl,?_⟩
   (repeat first | refine⟨_,rfl,?_⟩ | refine⟨_,_,rfl,rfl,?_⟩)
   refine⟨.inr ?_,?_⟩
   .exact zGq _
   (repeat first | refine⟨_,rfl,?_⟩ | refine⟨_,_,rfl,rfl,?_⟩)
   refine⟨.inl ⟨by decide,by decide⟩,?_⟩
   (repeat first | refine⟨_,rfl,?_⟩ | refine⟨_,_,rfl,rfl,?_⟩)
   exact⟨by show 3<=sizeLine;decide,λl e=>q l _ e (Cv.new e) ⟨_,_,A7,by decide⟩⟩
  .skip;(repeat first | refine⟨_,rfl,?_⟩ | refine⟨_,_,rfl,rfl,?_⟩)
   refine⟨⟨by decide,by decide,by decide⟩,?_⟩
   (repeat first | refine⟨_,rfl,?_⟩ | refine⟨_,_,rfl,rfl,?_⟩)
   refine .inr ⟨_,rfl,?_⟩
   (repeat first | refine⟨_,rfl,?_⟩ | refine⟨_,_,rfl,rfl,?_⟩)
   refine⟨.inr ?_,?_⟩
   .exact zGq _
   (repeat first | refine⟨_,rfl,?_⟩ | refine⟨_,_,rfl,rfl,?_⟩)
   refine⟨.inl ⟨by decide,by decide⟩,?_⟩
   (repeat first | refine⟨_,rfl,?_⟩ | refine⟨_,_,rfl,rfl,?_⟩)
   exact⟨by show 3<=sizeLine;decide,λl e=>q l _ e (Cv.new e) ⟨_,_,A7,by decide⟩⟩
theorem NO:IB ["_law_left_here","_law_many","_law_digit"] ["_law_left_here","_law_many"] (B6 OC):=KL
def Oy:Sp:=λe H Q _=>∃(p:A3) (c a:Int),e = [.ref p,.int a]/\IK H p c/\c<=1000000/\0<a/\a<=1000000 /\
 ∀(d:Nat) b,(d:Int)<a->Sm [p] H b->IK b p (c+1)->Q (.int (d:Int)) b
theorem C9(T:Tx K mg):IJ P w K mg base JQ 2 T.ah.f T.ah.fd ["_law_left_here","_law_many"] Oy:=by
 refine T.ah.F.o1 NO λu A o s H x Q E r h=>?_
 .obtain⟨p,c,j,rfl,⟨a,b,e,y⟩,z,k,B,q⟩:=h;refine⟨_,(A9 (Bl (G0 U6 (E6 (KN K) (pv 0) B3 (λ_ _=>rfl)) B3) (Lc (pv 0) B3 Aw))
   (A9 (M0 (B8 Yl (E6 (KN K) (pv 0) B3 (λ_ _=>rfl)) B3 (C8 _)) (A9 (C6 (i:=2) NO.nd rfl (.inl rfl) (G0 Du (E6 (KN K) (pv 0) B3 (λ_ _=>rfl)) (pv 1)))
   (A9 (Bl (G0 Fb (E6 (KN K) (pv 0) B3 (λ_ _=>rfl)) (pv 1)) (Lc (pv 0) B3 Aw))
   (B5 (C0 (pv 2))))) E4)
   (B5 (C0 (G0 Du (G0 Fb (E3 T.a3 (Dv T) (Rm r) (A6 (E3 T.a3 (Dv T) (Rm r) (A6 (E6 (KN K) (pv 0) B3 (λ_ _=>rfl)) (A6 (E6 (KN K) (pv 0) B3 (λ_ _=>rfl)) A8))) (A6 (G0 U6 (E6 (KN K) (pv 0) B3 (λ_ _=>rfl)) B3) A8))) B3) (pv 1)))))),?_⟩
  have t:∀d:Int,0<=d->d<j->∀l m,Q (.int d) (HY (HY H p (.lst [.int a,.int b,.int (c+1)])) p (.lst [.int l,.int m,.int (c+1)]))/\Q (.int d) (HY H p (.lst [.int l,.int m,.int (c+1)])):=λd v g l m=>by
   obtain⟨n,rfl⟩:=Int.eq_ofNat_of_zero_le v;exact⟨q n _ g (((Sm.refl _ _).upd (by simp)).upd (by simp)) ⟨l,m,A7,by lia⟩,q n _ g ((Sm.refl _ _).upd (by simp)) ⟨l,m,A7,by lia⟩⟩
  refine C3 rfl ⟨p,_,B9 rfl rfl ⟨IG.of e,rfl,B9 rfl rfl (C3 rfl ⟨p,_,_,2,rfl,rfl,e,rfl,?_⟩)⟩⟩;refine C3 rfl ⟨p,_,B9 rfl rfl ⟨IG.of A7,rfl,B9 rfl rfl (C3 rfl ?_)⟩⟩;refine Z8 (λg=>?_) (λg=>?_)
  .have g:(0:Int)<a:=BL g;refine C3 rfl ⟨p,_,B9 rfl rfl ⟨IG.of A7,rfl,C3 rfl (B9 rfl rfl ⟨k,?_⟩)⟩⟩;refine C3 rfl ⟨p,_,B9 rfl rfl ⟨IG.of A7,rfl,C3 rfl (B9 rfl rfl ⟨⟨k,by lia⟩,C3 rfl ⟨p,_,_,0,rfl,rfl,A7,rfl,?_⟩⟩)⟩⟩;exact⟨_,rfl,(t _ (GD _ (by lia)) (FC _ k) _ _).1⟩
  .refine C3 rfl ⟨p,_,B9 rfl rfl ⟨IG.of A7,rfl,C3 rfl ⟨p,_,B9 rfl rfl ⟨IG.of A7,rfl,_,C3 rfl ⟨by lia,by lia,λC D G=>?_⟩⟩⟩⟩⟩;refine C3 rfl ⟨p,_,B9 rfl rfl ⟨IG.of A7,rfl,B9 rfl rfl ⟨_,C3 rfl ⟨by lia,by lia,λI J L=>?_⟩⟩⟩⟩;refine B9 rfl rfl ⟨⟨by decide,by decide⟩,C3 rfl (B9 rfl rfl ⟨k,?_⟩)⟩;exact(t _ (GD _ (by lia)) (FC _ k) _ _).2
def pd(k:Str×Str):PyData:=.tuple [.str k.1,.str k.2]
def P9{x:Str}(h:P2 x=true):PySem.PyData.strOk x=true:=by
 unfold P2 at h;rw[DC]at h;unfold PySem.PyData.strOk;rw[<-Array.all_toList,EJ];intro c a;have:=(EJ.mp h.2) c a;unfold Jz at this;rw[DC]at this;have:=BL this.2;exact AS (by lia)
def j9{K:VA}{H:Hp}{t:A3}{k:Str×Str}(h:H t=some (.tup [.str k.1,.str k.2])):Rp K H (pd k) (.ref t):=by
 unfold pd;simp only[Rp,PJ];exact⟨t,_,rfl,IU.of h,_,_,rfl,rfl,_,_,rfl,rfl,rfl⟩
def Ik{K:VA}{H:Hp}:∀{ps:A0 IM},(∀q∈ps,G8 H q)->PJ K H (ps.map λq=>pd q.2) (E8 ps)
 | [],_=>by simp[PJ,E8]
 | q::r,h=>by
  show PJ K H (pd q.2::r.map λq=>pd q.2) (V.ref q.1::E8 r);simp only[PJ];exact⟨_,_,rfl,j9 (h q (AX ..)),Ik λz a=>h z (AL _ a)⟩
def Fi{K:VA}{H:Hp}{l:A3}{ps:A0 IM}(a:H l=some (.lst (E8 ps)))(h:∀q∈ps,G8 H q):Rp K H (.list (ps.map λq=>pd q.2)) (.ref l):=by
 simp only[Rp];exact⟨l,_,rfl,IG.of a,Ik h⟩
def Qa(a b:Str×Str):PyData.eqv (pd a) (pd b)=decide (a=b):=by
 unfold pd;rw[PyData.eqv,PyData.eqvAll,PyData.eqvAll,PyData.eqvAll,PyData.eqv,PyData.eqv];by_cases c:a.1=b.1
 .by_cases d:a.2=b.2
  .rw[AS (Prod.ext c d),c,d];simp
  .rw[AM λz=>d (congrArg Prod.snd z)];simp[d]
 .rw[AM λz=>c (congrArg Prod.fst z)];simp[c]
def Bm(k:Str×Str):∀ps:A0 IM,((ps.map λq=>pd q.2).any λz=>PyData.eqv z (pd k))=decide (k∈ps.map λq=>q.2)
 | []=>rfl
 | q::r=>by
  rw[BM,GG,Bm k r,Qa,BM];by_cases e:q.2=k
  .rw[AS e,Bool.true_or,AS (show k∈q.2::_ from by rw[<-e];exact AX ..)]
  .rw[AM e,Bool.false_or];by_cases h:k∈r.map λq=>q.2
   .rw[AS h,AS (AL _ h)]
   .rw[AM h,AM λz=>(AR.mp z).elim (λz=>e z.symm) h]
def Ca{k:Str×Str}(h1:PySem.PyData.strOk k.1=true)(h2:PySem.PyData.strOk k.2=true):(pd k).canLay0=true:=by
 unfold pd;simp[PyData.canLay0,PyData.canLayAll0,h1,h2]
def Es:∀{ps:A0 IM},(∀q∈ps,PySem.PyData.strOk q.2.1=true/\PySem.PyData.strOk q.2.2=true)->PyData.canLayAll0 (ps.map λq=>pd q.2)=true
 | [],_=>rfl
 | q::r,h=>by
  rw[BM,PyData.canLayAll0,Ca (h q (AX ..)).1 (h q (AX ..)).2,Es λz a=>h z (AL _ a)];rfl
def Ef{K:VA}{H:Hp}{t l:A3}{k:Str×Str}{ps:A0 IM}{Q:VK}(b:H t=some (.tup [.str k.1,.str k.2]))(c:H l=some (.lst (E8 ps)))(d:∀q∈ps,G8 H q)
  (a:PySem.PyData.strOk k.1=true/\PySem.PyData.strOk k.2=true) (e:∀q∈ps,PySem.PyData.strOk q.2.1=true/\PySem.PyData.strOk q.2.2=true) (q:Q (.bl (!decide (k∈ps.map λq=>q.2))) H):SV K true (.ref t) (.ref l) H Q :=
 ⟨pd k,_,j9 b,.inl (Fi c d),⟨Ca a.1 a.2,by simp[pd,PyData.depth,PyData.depthAll]⟩,Es e,by rw[AN rfl,Bm];exact q⟩
structure FL(H:Hp)(l:A3)(ps:A0 IM)(ss:A0 Str):Prop where
 at_:H l=some (.lst (E8 ps))
 pin:∀q∈ps,G8 H q
 nm:∀q∈ps,q.2.1∈ss/\q.2.2∈ss
 nd:(ps.map λq=>q.2).Nodup
def FL.sm{H H':Hp}{p l:A3}{c:Int}{ps:A0 IM}{ss:A0 Str}(h:FL H l ps ss)(L:IK H p c)(n:l≠p)(s:Sm [p] H H'):FL H' l ps ss:=by
 obtain⟨x,y,e,_⟩:=L;exact⟨MI s h.at_ n,λq a=>MI s (h.pin q a) (J8 (h.pin q a) e (by intro z;cases z)),h.nm,h.nd⟩
def FL.new{H:Hp}{l t:A3}{o:HO}{ps:A0 IM}{ss:A0 Str}(h:FL H l ps ss)(n:H t=none):FL (HY H t o) l ps ss :=
 ⟨by rw[B7 (B0 h.at_ n)];exact h.at_,λq a=>by unfold G8;rw[B7 (B0 (h.pin q a) n)];exact h.pin q a,h.nm,h.nd⟩
def FL.put{H:Hp}{l t:A3}{ps:A0 IM}{ss:A0 Str}{x y:Str}(h:FL H l ps ss)(k:Nat)(b:H t=some (.tup [.str x,.str y]))(e:x∈ss)(f:y∈ss)(g:(x,y)∉ps.map λq=>q.2) :
  FL (HY H l (.lst ((E8 ps).take k++V.ref t ::(E8 ps).drop k))) l (ps.take k ++(t,x,y)::ps.drop k) ss:=by
 have c:(ps.take k ++(t,x,y)::ps.drop k).Perm ((t,x,y)::ps):=by
  refine List.perm_middle.trans (List.Perm.cons _ ?_);rw[BX]
 have d:∀q∈ps.take k ++(t,x,y)::ps.drop k,q =(t,x,y)\/q∈ps:=λq a=>AR.mp (c.mem_iff.mp a);refine⟨?_,λq a=>?_,λq a=>?_,?_⟩
 .rw[A7];unfold E8;rw[AK,List.map_take,BM,List.map_drop]
 .unfold G8;rcases d q a with rfl | z
  .rw[B7 (J8 b h.at_ (by intro z;cases z))];exact b
  .rw[B7 (J8 (h.pin q z) h.at_ (by intro z;cases z))];exact h.pin q z
 .rcases d q a with rfl | z
  .exact⟨e,f⟩
  .exact h.nm q z
 .rw[(c.map _).nodup_iff];show((x,y)::ps.map λq=>q.2).Nodup;exact CL.mpr ⟨g,h.nd⟩
def FL.app{H:Hp}{l t:A3}{ps:A0 IM}{ss:A0 Str}{x y:Str}(h:FL H l ps ss)(a:H t=some (.tup [.str x,.str y]))(b:x∈ss)(c:y∈ss)(d:(x,y)∉ps.map λq=>q.2) :
  FL (HY H l (.lst (E8 ps ++ [V.ref t]))) l (ps ++ [(t,x,y)]) ss:=by
 have:=h.put ps.length a b c d;have e:(E8 ps).length=ps.length:=by unfold E8;rw[AB]
 rw[<-e,BR,HR,e,BR,HR]at this;exact this
def Kv{K:VA}{a D:A3}{b:A0 IM}{r:St}{m:TT}{H:Hp}{Q:St->Hp->Prop}(p:IM->Bool)(e:H a=some (.lst (E8 b)))(x:b.length<=1000)(n:H D=none)
  (z:∀y∈b,∀k,Cv H k->∀o:Bool->Hp->Prop,(∀g,Cv k g->o (p y) g)->m (some (.ref y.1)::r) k o) (h:∀σ g,Cv H g->g D=some (.lst (E8 (b.filter p)))->Q σ g) (q:A5 V) :
  Au (O0 0) m (Z7 D (T9 0)) (P_ K a) (q::r) (HY H D (.lst [])) Q:=by
 refine P1 (PF (K:=K) (IG.of e)) (λi σ j=>(∃v,σ=v::r)/\Cv H j/\j D=some (.lst (E8 ((b.take i).filter p))))
  ⟨⟨_,rfl⟩,Cv.new n,A7⟩ (λi σ k _ ⟨_,A,_⟩=>A.at a) ?_ ?_
 .rintro i σ j v N l ⟨⟨q,rfl⟩,f,d⟩ s;unfold E8 at l;rw[AH]at l;obtain⟨y,t,rfl⟩:=BF.mp l;refine z y (BB t) j f _ λB u=>?_;have d:=u _ _ d;have f:=f.trans u;have w:(b.take (i+1)).filter p =(b.take i).filter p++if p y=true then [y]else []:=by
   rw[D8 t,CM,BO,DQ]
  have C:(E8 ((b.take i).filter p)).length<=1000:=by
   unfold E8;rw[AB];have:=BC p (b.take i);rw[AZ]at this;lia
  refine Z8 (λc=>C3 rfl ⟨_,d,by rw[sizeLine_eq];lia,s _ _ ⟨⟨_,rfl⟩,f.upd n,?_⟩⟩) (λc=>s _ _ ⟨⟨_,rfl⟩,f,?_⟩)
  .rw[A7,w,AN c];unfold E8;rw[AK];rfl
  .rw[w,AI c,BW];exact d
 .rintro σ j ⟨_,f,d⟩;unfold E8 at d;rw[AB,BR]at d;exact h σ j f d
theorem JZ:IB ["self","one","other","strikes"] ["self","one","other"] (B6 KD):=KL
def c9(g h:A3):Sp:=λj H Q _=>∃(k p:A3) (a b:Str) (d:A0 Str) (e:A0 IM) (m:Nat),j = [.ref k,.str a,.str b]/\KU g h H k p d e m/\m<=1000/\a∈d/\b∈d/\(a,b)∈(e.map λq=>q.2) /\
 ∀l i c f,Bt k p H f->KU g h f k p d c (m+1)->(c.map λq=>q.2).Perm ((e.map λq=>q.2).filter λq=>!decide (q =(a,b)))->H l=none->R3 (eK f k p) l i->(i.map λq=>q.2)=Az (WG d e) (G9 (B2 c)) d->Q (.ref l) f
set_option maxHeartbeats 1000000 in
theorem X0(T:Tx K mg):IJ P w K mg base JQ 8 T.am.f T.am.fd ["self","one","other"] (c9 T.aa T.ac):=by
 refine T.am.F.o1 JZ λcdv A outer s H vs Q E I h=>?_
 .obtain⟨k,p,a,b,j,u,m,rfl,v,lm,ha,hb,hab,q⟩:=h;have hu:=Q8 I;refine⟨_,(A9 (M0 (U0 (Q5 (N0 (pv 0) T.ad T.ao.m (S5 T) (Rm I) T.ao.b .nil J6 (A6 (pv 1) (A6 (pv 2) A8))))) (B5 Y3) E4)
   (A9 (V4 (i:=3) (N':=["pair","one","other"]) (cap:=[none,some 1,some 2]) (cl:=[("other",_),("one",_)]) JZ.nd rfl (.inl rfl) (O7 ⟨⟨rfl,rfl,rfl,rfl⟩,⟨⟨rfl,rfl,rfl,rfl⟩,trivial⟩⟩ ⟨rfl,⟨rfl,trivial⟩⟩) rfl (MW K (J3 (MZ K (pv 0)) T.af T.ae.m (I9 T) (Rm I) T.ae.b .nil J6)) (λ_ _ _ _=>by exact⟨(LS 0),(K8 (B8 (Vb K I.units) (pv 0) (J4 (A6 (pv 1) (A6 (pv 2) A8))) (C8 _))),(pv 0)⟩))
   (B5 (C0 (N0 (pv 0) T.ad T.ak.m (O9 T) (Rm I) T.ak.b .nil J6 (A6 (l9 T.ba (Q7 T) (Rm I) rfl T.a9 T.ax .nil J6 (A6 (J3 (MZ K (pv 0)) T.af T.ab.m (E5 T) (Rm I) T.ab.b .nil J6) (A6 (pv 3) A8))) (A6 (G5 (A6 (pv 2) A8)) A8))))))),?_⟩
  refine B4 λM1 hM1=>?_;obtain⟨Z,x,g,r,kv,ks,rl,pl,N,W0,hg,wd,kk,pk,hp,lp⟩:=v.ex;have W:=W0.same V3;obtain⟨G,dx,a1,b1,c1,d1,kc,kd,ex,_,_,O,_⟩:=id W;refine C3 rfl ⟨k,Z,C3 rfl ⟨N,rfl,C3 rfl (C3 rfl ⟨k,p,a,b,j,u,m,rfl,v,ha,hb,λH1 s1=>⟨_,rfl,?_⟩⟩)⟩⟩;rw[AS hab];refine N9 (hM1 _ _ (B4 λM2 hM2=>?_));have hk1:=s1 _ _ N;refine C3 rfl ⟨k,T.aa,Z,_,_,rfl,hk1,T.ad,T.ag,rfl,x,dx,C3 rfl ⟨s1 _ _ ex,rfl,x,j,u,rfl,W.same s1,λl2 hl2=>?_⟩⟩;have s2:=s1.trans (Cv.new (o:=.lst (E8 u)) hl2);have f2:(HY H1 l2 (.lst (E8 u))) l2=some (.lst (E8 u)):=A7;generalize HY H1 l2 (.lst (E8 u))=H2 at s2 f2⊢;refine⟨l2,rfl,⟨_,IG.of f2⟩,λD hD=>?_⟩;refine Kv (λq=>!decide (q.2 =(a,b))) f2 (by have:=G.lenq;lia) hD (λy hy R s3 Q' hQ=>?_) (λσ R s3 e3=>?_) _
  .have ey:=s3 _ _ (s2 _ _ (O y hy));obtain⟨m1,m2⟩:=G.mem y hy;have oy:PySem.PyData.strOk y.2.1=true/\PySem.PyData.strOk y.2.2=true:=⟨P9 (v.nm _ m1),P9 (v.nm _ m2)⟩;have S:PySem.PyData.strOk a=true/\PySem.PyData.strOk b=true:=⟨P9 (v.nm _ ha),P9 (v.nm _ hb)⟩;unfold i8 OL;refine C3 rfl (C3 rfl (C3 rfl ⟨by show 2<=sizeLine;rw[sizeLine_eq];lia,λt ht=>?_⟩));have J:=Cv.new (o:=.tup [.str a,.str b]) ht;have U:(HY R t (.tup [.str a,.str b])) t=some (.tup [.str a,.str b]):=A7;generalize HY R t (.tup [.str a,.str b])=H4 at J U⊢;refine⟨pd y.2,pd (a,b),j9 (J _ _ ey),j9 U,⟨Ca oy.1 oy.2,by simp[pd,PyData.depth,PyData.depthAll]⟩,⟨Ca S.1 S.2,by simp[pd,PyData.depth,PyData.depthAll]⟩,?_⟩;rw[Qa];exact⟨_,rfl,hQ _ J⟩
  refine hM2 _ _ ?_;have d:=s2.trans s3;refine C3 rfl ⟨k,Z,C3 rfl ⟨d _ _ N,rfl,?_⟩⟩;refine C3 rfl ⟨k,T.aa,Z,_,_,rfl,d _ _ N,T.ad,T.ag,rfl,x,dx,C3 rfl ⟨d _ _ ex,rfl,x,j,u,rfl,W.same d,λl1 hl1=>?_⟩⟩;have J:=Cv.new (o:=.lst (j.map V.str)) hl1;have U:(HY R l1 (.lst (j.map V.str))) l1=some (.lst (j.map V.str)):=A7;generalize HY R l1 (.lst (j.map V.str))=H4 at J U⊢;have B:=d.trans J;refine C3 rfl ?_;intro y dy ny ndy ney;refine Dg ny ndy U (J _ _ e3) (λq hq=>G6 B O q (AY.mp hq).1) ⟨v.nm,G.nd,G.len⟩ ⟨λq hq=>G.mem q (AY.mp hq).1,G.ndq.sublist (DW.map _),VE (BC ..) G.lenq⟩ λns2 C H7 pn sn pq sq s7 W7 C7=>?_;rw[K7 sn G.srt pn]at W7 C7;have L:=B.trans s7;refine C3 rfl ⟨by show 1<=sizeLine;rw[sizeLine_eq];lia,λl5 X=>?_⟩;have u8:=Cv.new (o:=.lst [.str b]) X;have f8:(HY H7 l5 (.lst [.str b])) l5=some (.lst ([b].map V.str)):=A7;generalize HY H7 l5 (.lst [.str b])=H8 at u8 f8⊢;have M:=L.trans u8;have Y:(C.map λq=>q.2).Perm ((u.map λq=>q.2).filter λq=>!decide (q =(a,b))):=(pq.map _).trans (FE (by rw[GE];rfl));have Wk:IP T.ac (eK H7 k p) y j C:=Ko (C7 p pl (.own p) (B _ _ hp)) (L _ _ N) (B0 (B _ _ N) ny).symm;refine⟨k,p,y,l5,j,j,[b],u,C,m,rfl,v.same M,lm,Wk.same (Bt.of u8).eK,v.nm,(B0 (L _ _ hp) X).symm,f8,λz hz=>by rw[AE.mp hz];exact hb,CL.mpr ⟨A_,D_⟩,λn hn nb=>⟨hn,λz=>?_⟩,λl rs H9 b9 K9 hl9 R9 q9=>q l rs C H9 ((Bt.of M).trans b9) K9 Y (M.free hl9) R9 q9⟩;rw[IR,IR,Y.mem_iff,AY];exact⟨λc=>⟨c,by
   rw[AM λe:(z,n) =(a,b)=>nb (by cases e;exact AE.mpr rfl)];rfl⟩,λc=>c.1⟩
theorem r9:IB ["self","name"] ["self","name"] (B6 Kc):=KL
def Bu(g h:A3):Sp:=λj H Q _=>∃(k p:A3) (a:Str) (d:A0 Str) (f:A0 IM) (m:Nat),j = [.ref k,.str a]/\KU g h H k p d f m/\m<=1000/\P2 a=true/\a∉d/\d.length+1<=100 /\
 ∀l i b c e,Bt k p H e->KU g h e k p b c (m+1)->b.Perm (d ++ [a])->c.Perm f->H l=none->R3 (eK e k p) l i->(i.map λq=>q.2)=Az (WG d f) (G9 (B2 c)) b->Q (.ref l) e
set_option maxHeartbeats 1000000 in
theorem t8(T:Tx K mg):IJ P w K mg base JQ 8 T.as.f T.as.fd ["self","name"] (Bu T.aa T.ac):=by
 refine T.as.F.o1 r9 λcdv A outer s H vs Q E t h=>?_
 .obtain⟨k,p,a,i,j,m,rfl,hK,lm,ha,I,lq,q⟩:=h;have hu:=Q8 t;refine⟨_,(A9 (M0 (PW.pt (Bj (U0 (Q5 (E3 T.a1 (Ds T) (Rm t) (A6 (pv 1) A8)))) (X8 (B8 (Og K) (pv 1) (J3 (MZ K (pv 0)) T.af T.ab.m (E5 T) (Rm t) T.ab.b .nil J6) rfl)))) (B5 Y3) E4)
   (B5 (C0 (N0 (pv 0) T.ad T.ak.m (O9 T) (Rm t) T.ak.b .nil J6 (A6 (l9 T.ba (Q7 T) (Rm t) rfl T.a9 T.ax .nil J6 (A6 (G0 Dr (J3 (MZ K (pv 0)) T.af T.ab.m (E5 T) (Rm t) T.ab.b .nil J6) (G5 (A6 (pv 1) A8))) (A6 (J3 (MZ K (pv 0)) T.af T.ae.m (I9 T) (Rm t) T.ae.b .nil J6) A8))) (A6 (G5 (A6 (pv 1) A8)) A8)))))),?_⟩
  refine B4 λM1 hM1=>?_;obtain⟨R,x,g,r,kv,ks,rl,pl,D,W0,hg,wd,kk,pk,hp,lp⟩:=hK.ex;have W:=W0.same V3;obtain⟨J,dx,a1,b1,c1,d1,kc,kd,ex,_,_,pin,_⟩:=id W;refine C3 rfl ⟨a,rfl,by have:=(Hl ha).2;lia,λH1 S=>⟨_,rfl,?_⟩⟩;rw[ha];have hk1:=S _ _ D;refine N9 (C3 rfl (C3 rfl ⟨k,T.aa,R,_,_,rfl,hk1,T.ad,T.ag,rfl,x,dx,C3 rfl ⟨S _ _ ex,rfl,x,i,j,rfl,W.same S,λl1 hl1=>?_⟩⟩));have G:=S.trans (Cv.new (o:=.lst (i.map V.str)) hl1);refine V2 (.inl (IG.of A7)) ⟨_,rfl,?_⟩;generalize HY H1 l1 (.lst (i.map V.str))=H2 at G⊢;rw[AM I];refine N9 (hM1 _ _ ?_);refine C3 rfl ⟨k,R,C3 rfl ⟨G _ _ D,rfl,?_⟩⟩;refine C3 rfl ⟨k,T.aa,R,_,_,rfl,G _ _ D,T.ad,T.ag,rfl,x,dx,C3 rfl ⟨G _ _ ex,rfl,x,i,j,rfl,W.same G,λU hl2=>?_⟩⟩;have u3:=Cv.new (o:=.lst (i.map V.str)) hl2;have L:(HY H2 U (.lst (i.map V.str))) U=some (.lst (i.map V.str)):=A7;generalize HY H2 U (.lst (i.map V.str))=H3 at u3 L⊢;have s3:=G.trans u3;refine C3 rfl ⟨by show 1<=sizeLine;rw[sizeLine_eq];lia,λX hl3=>?_⟩;have u4:=Cv.new (o:=.lst [.str a]) hl3;have f4:(HY H3 X (.lst [.str a])) X=some (.lst [.str a]):=A7;have L:=u4 _ _ L;generalize HY H3 X (.lst [.str a])=H4 at u4 f4 L⊢;have s4:=s3.trans u4;refine⟨U,X,_,_,rfl,rfl,L,f4,by rw[AB,sizeLine_eq];show i.length+1<=_;lia,λl4 hl4=>?_⟩;have u5:=Cv.new (o:=.lst (i.map V.str ++ [.str a])) hl4;have f5:(HY H4 l4 (.lst (i.map V.str ++ [.str a]))) l4=some (.lst ((i ++ [a]).map V.str)):=by rw[A7,AK];rfl
  generalize HY H4 l4 (.lst (i.map V.str ++ [.str a]))=H5 at u5 f5⊢;have Y:=s4.trans u5;refine C3 rfl ⟨k,T.aa,R,_,_,rfl,Y _ _ D,T.ad,T.ag,rfl,x,dx,C3 rfl ⟨Y _ _ ex,rfl,x,i,j,rfl,W.same Y,λl6 hl6=>?_⟩⟩;have u6:=Cv.new (o:=.lst (E8 j)) hl6;have f6:(HY H5 l6 (.lst (E8 j))) l6=some (.lst (E8 j)):=A7;generalize HY H5 l6 (.lst (E8 j))=H6 at u6 f6⊢;have Z:=Y.trans u6;have nda:(i ++ [a]).Nodup:=CI.mpr ⟨J.nd,CL.mpr ⟨A_,D_⟩,λc hc d hd e=>I (by rw[<-AE.mp hd,<-e];exact hc)⟩;have M:∀n∈i ++ [a],P2 n=true:=λn N=>(AO.mp N).elim (hK.nm n) λc=>by rw[AE.mp c];exact ha
  intro y dy ny ndy ney;refine Dg ny ndy (u6 _ _ f5) f6 (G6 Z pin) ⟨M,nda,by rw[AV];exact lq⟩ ⟨λq hq=>⟨AO.mpr (.inl (J.mem q hq).1),AO.mpr (.inl (J.mem q hq).2)⟩,J.ndq,J.lenq⟩ λu v H7 pn sn pq sq s7 W7 C7=>?_;have B:=Z.trans s7;refine C3 rfl ⟨by show 1<=sizeLine;rw[sizeLine_eq];lia,λl7 O=>?_⟩;have u8:=Cv.new (o:=.lst [.str a]) O;have f8:(HY H7 l7 (.lst [.str a])) l7=some (.lst ([a].map V.str)):=A7;generalize HY H7 l7 (.lst [.str a])=H8 at u8 f8⊢;have C:=B.trans u8;have Wk:IP T.ac (eK H7 k p) y u v:=Ko (C7 p pl (.own p) (Z _ _ hp)) (B _ _ D) (B0 (Z _ _ D) ny).symm;refine⟨k,p,y,l7,i,u,[a],j,v,m,rfl,hK.same C,lm,Wk.same (Bt.of u8).eK,λn N=>M n (pn.mem_iff.mp N),(B0 (B _ _ hp) O).symm,f8,λz hz=>by rw[AE.mp hz];exact pn.mem_iff.mpr (AO.mpr (.inr (AE.mpr rfl))),CL.mpr ⟨A_,D_⟩,λn N nb=>⟨(AO.mp (pn.mem_iff.mp N)).resolve_right nb,λz=>?_⟩,λl rs H9 b9 K9 hl9 R9 q9=>q l rs u v H9 ((Bt.of C).trans b9) K9 pn pq (C.free hl9) R9 q9⟩;rw[IR,IR,(pq.map λq:IM=>q.2).mem_iff]
theorem Aa:IB ["self"] ["self"] (B6 LD):=KL
def Nc(f c:A3):Sp:=λg H Q _=>∃(k p:A3) (d:A0 Str) (e:A0 IM) (m:Nat),g = [.ref k]/\KU f c H k p d e m/\∀(y:A3) (a:A0 IM) (b:Hp),a.Perm e->Cv H b->H y=none->IP c b y d a->Q (.ref y) b
theorem w4(T:Tx K mg):IJ P w K mg base JQ 6 T.ay.f T.ay.fd ["self"] (Nc T.aa T.ac):=by
 refine T.ay.F.o1 Aa λd A a s H B Q E e h=>?_
 .obtain⟨k,p,i,j,m,rfl,c,q⟩:=h;refine⟨_,(B5 (C0 (E3 T.a2 (Eb T) (Rm e) (A6 (MZ K (pv 0)) A8)))),?_⟩;obtain⟨l,x,g,r,C,D,G,I,n,o,J,L,kk,M,N,O⟩:=c.ex;exact C3 rfl ⟨k,T.aa,l,_,_,rfl,n,T.ad,T.ag,rfl,x,i,j,rfl,o.same V3,c.nm,λy b t u s v z _=>q y b t u s v z⟩
def Sq{b:A0 IM}(h:(b.map λq=>q.2).Nodup)(n:Str):(C2 b n).Nodup:=by
 unfold C2;refine CS.mpr (List.Pairwise.imp_of_mem (fun{x y} c d a e=>a (Prod.ext ?_ e)) ((CS.mp h).filter _));rw[BL (AY.mp c).2,BL (AY.mp d).2]
theorem JC:IB ["self","name","struck","names","strikes"] ["self","name"] (B6 KR):=KL
def An(g h:A3):Sp:=λj H Q _=>∃(k p:A3) (a:Str) (d:A0 Str) (f:A0 IM) (m:Nat),j = [.ref k,.str a]/\KU g h H k p d f m/\m<=1000/\a∈d /\
 ∀l i b c e,Bt k p H e->KU g h e k p b c (m+1)->b=d.filter (λn=>!decide (n=a))->(c.map λq=>q.2).Perm ((f.map λq=>q.2).filter λq=>!decide (a=q.1\/a=q.2))->H l=none->R3 (eK e k p) l i->(i.map λq=>q.2)=Az (WG d f) (G9 (B2 c)) b->Q (.ref l) e
set_option maxHeartbeats 1000000 in
theorem j4(T:Tx K mg):IJ P w K mg base JQ 8 T.aq.f T.aq.fd ["self","name"] (An T.aa T.ac):=by
 refine T.aq.F.o1 JC λcdv A outer s H vs Q E M h=>?_
 .obtain⟨k,p,a,v,d,m,rfl,hK,lm,ha,q⟩:=h;have hu:=Q8 M;refine⟨_,(A9 (V4 (i:=2) (N':=["other","name"]) (cap:=[none,some 1]) (cl:=[("name",_)]) JC.nd rfl (.inl rfl) (O7 ⟨⟨rfl,rfl,rfl,rfl⟩,trivial⟩ ⟨rfl,trivial⟩) rfl (MW K (N0 (MZ K (pv 0)) T.af T.ap.m (S6 T) (Rm M) T.ap.b .nil J6 (A6 (pv 1) A8))) (λ_ _ _ _=>by exact⟨(LS 0),(K8 (B8 Cy (pv 0) (pv 1) (C8 _))),(pv 0)⟩))
   (A9 (V4 (i:=3) (N':=["one","name"]) (cap:=[none,some 1]) (cl:=[("name",_)]) JC.nd rfl (.inl rfl) (O7 ⟨⟨rfl,rfl,rfl,rfl⟩,trivial⟩ ⟨rfl,trivial⟩) rfl (MW K (J3 (MZ K (pv 0)) T.af T.ab.m (E5 T) (Rm M) T.ab.b .nil J6)) (λ_ _ _ _=>by exact⟨(LS 0),(K8 (B8 Cy (pv 0) (pv 1) (C8 _))),(pv 0)⟩))
   (A9 (V4 (i:=4) (N':=["pair","name"]) (cap:=[none,some 1]) (cl:=[("name",_)]) JC.nd rfl (.inl rfl) (O7 ⟨⟨rfl,rfl,rfl,rfl⟩,trivial⟩ ⟨rfl,trivial⟩) rfl (MW K (J3 (MZ K (pv 0)) T.af T.ae.m (I9 T) (Rm M) T.ae.b .nil J6)) (λ_ _ _ _=>by exact⟨(LS 0),(K8 (B8 (o0 K) (pv 1) (pv 0) rfl)),(pv 0)⟩))
   (B5 (C0 (N0 (pv 0) T.ad T.ak.m (O9 T) (Rm M) T.ak.b .nil J6 (A6 (l9 T.ba (Q7 T) (Rm M) rfl T.a9 T.ax .nil J6 (A6 (pv 3) (A6 (pv 4) A8))) (A6 (pv 2) A8)))))))),?_⟩
  obtain⟨dk,x,g,r,kv,ks,rl,pl,N,W0,hg,wd,kk,pk,hp,lp⟩:=hK.ex;have W:=W0.same V3;obtain⟨j,dx,a1,b1,c1,d1,kc,kd,ex,_,_,R,_⟩:=id W;refine B4 λM1 hM1=>?_;refine C3 rfl ⟨k,T.aa,dk,_,_,rfl,N,T.ad,T.ag,rfl,x,dx,C3 rfl ⟨ex,rfl,C3 rfl ⟨x,a,v,d,rfl,W,ha,λl1 hl1=>?_⟩⟩⟩;have s1:=Cv.new (o:=.lst ((C2 d a).map V.str)) hl1;have f1:(HY H l1 (.lst ((C2 d a).map V.str))) l1=some (.lst ((C2 d a).map V.str)):=A7;generalize HY H l1 (.lst ((C2 d a).map V.str))=H1 at s1 f1⊢;have lst:(C2 d a).length<=1000:=by
   unfold C2;rw[AB];have:=BC (λq:IM=>decide (q.2.1=a)) d;have:=j.lenq;lia
  refine⟨l1,rfl,⟨_,IG.of f1⟩,λD hD=>?_⟩;refine U5 (λn=>!decide (n=a)) f1 lst hD (λy hy H2 s2 Q' S=>?_) (λσ H2 s2 t=>?_) _
  .unfold i8 OL;refine C3 rfl (C3 rfl ⟨rfl,_,rfl,?_⟩);have:(!decide (V.str y=V.str a))=!decide (y=a):=congrArg Bool.not (EK.mpr ⟨λz=>V.str.inj z,λz=>congrArg V.str z⟩);rw[this];exact S H2 λb o e=>e
  refine hM1 _ _ (B4 λM2 hM2=>?_);have B:=s1.trans s2;refine C3 rfl ⟨k,T.aa,dk,_,_,rfl,B _ _ N,T.ad,T.ag,rfl,x,dx,C3 rfl ⟨B _ _ ex,rfl,x,v,d,rfl,W.same B,λl3 hl3=>?_⟩⟩;have u3:=Cv.new (o:=.lst (v.map V.str)) hl3;have f3:(HY H2 l3 (.lst (v.map V.str))) l3=some (.lst (v.map V.str)):=A7;have t:=u3 _ _ t;generalize HY H2 l3 (.lst (v.map V.str))=H3 at u3 f3 t⊢;have s03:=B.trans u3;refine⟨l3,rfl,⟨_,IG.of f3⟩,λD2 hD2=>?_⟩;refine U5 (λn=>!decide (n=a)) f3 (by have:=j.len;lia) hD2 (λy hy H4 s4 Q' S=>?_) (λσ H4 s4 O=>?_) _
  .unfold i8 OL;refine C3 rfl (C3 rfl ⟨rfl,_,rfl,?_⟩);have:(!decide (V.str y=V.str a))=!decide (y=a):=congrArg Bool.not (EK.mpr ⟨λz=>V.str.inj z,λz=>congrArg V.str z⟩);rw[this];exact S H4 λb o e=>e
  refine hM2 _ _ (B4 λM3 hM3=>?_);have C:=s03.trans s4;have t:=s4 _ _ t;refine C3 rfl ⟨k,T.aa,dk,_,_,rfl,C _ _ N,T.ad,T.ag,rfl,x,dx,C3 rfl ⟨C _ _ ex,rfl,x,v,d,rfl,W.same C,λl5 hl5=>?_⟩⟩;have u5:=Cv.new (o:=.lst (E8 d)) hl5;have f5:(HY H4 l5 (.lst (E8 d))) l5=some (.lst (E8 d)):=A7;have t:=u5 _ _ t;have O:=u5 _ _ O;generalize HY H4 l5 (.lst (E8 d))=H5 at u5 f5 t O⊢;have U:=C.trans u5;refine⟨l5,rfl,⟨_,IG.of f5⟩,λD3 hD3=>?_⟩;refine Kv (λq=>!decide (a=q.2.1\/a=q.2.2)) f5 (by have:=j.lenq;lia) hD3 (λy hy H6 X Q' S=>?_) (λσ H6 X e6=>?_) _
  .have ey:=X _ _ (U _ _ (R y hy));refine C3 rfl (C3 rfl ?_);refine U4 (ss:=[y.2.1,y.2.2]) (.inr (IU.of ey)) ⟨_,rfl,?_⟩;have:(!decide (a∈[y.2.1,y.2.2]))=!decide (a=y.2.1\/a=y.2.2):=congrArg Bool.not (EK.mpr (by rw[AR,AE]));rw[this];exact S H6 λb o e=>e
  refine hM3 _ _ ?_;have u:=U.trans X;have t:=X _ _ t;have O:=X _ _ O;refine C3 rfl ⟨k,dk,C3 rfl ⟨u _ _ N,rfl,?_⟩⟩;refine C3 rfl (C3 rfl ?_);intro y dy ny ndy ney;refine Dg ny ndy O e6 (λq hq=>G6 u R q (AY.mp hq).1) ⟨λn G=>hK.nm n (AY.mp G).1,j.nd.filter _,VE (BC ..) j.len⟩ ⟨λq hq=>?_,j.ndq.sublist (DW.map _),VE (BC ..) j.lenq⟩ λI J H7 pn sn pq sq s7 W7 C7=>?_
  .obtain⟨q1,q2⟩:=AY.mp hq;have q3:¬(a=q.2.1\/a=q.2.2):=by simpa using q2
   exact⟨AY.mpr ⟨(j.mem q q1).1,by rw[AM λe=>q3 (.inl e.symm)];rfl⟩,AY.mpr ⟨(j.mem q q1).2,by rw[AM λe=>q3 (.inr e.symm)];rfl⟩⟩
  have Y:I=v.filter λn=>!decide (n=a):=K7 sn (j.srt.filter _) pn;have L:=u.trans s7;have Wk:IP T.ac (eK H7 k p) y I J:=Ko (C7 p pl (.own p) (u _ _ hp)) (L _ _ N) (B0 (u _ _ N) ny).symm;have Z:(J.map λq=>q.2).Perm ((d.map λq=>q.2).filter λq=>!decide (a=q.1\/a=q.2)):=(pq.map _).trans (FE (by rw[GE];rfl));have nDp:D≠p:=(B0 (s1 _ _ hp) hD).symm;refine C3 rfl ⟨k,p,y,D,v,I,(C2 d a).filter (λn=>!decide (n=a)),d,J,m,rfl,hK.same L,lm,Wk,λn G=>hK.nm n (by rw[Y]at G;exact(AY.mp G).1),nDp,s7 _ _ t,λz hz=>?_,?_,λn G nb=>⟨by rw[Y]at G;exact(AY.mp G).1,λz=>?_⟩,λl rs H9 b9 K9 hl9 R9 q9=>q l rs I J H9 ((Bt.of L).trans b9) K9 Y Z (L.free hl9) R9 q9⟩
  .obtain⟨z1,z2⟩:=AY.mp hz;rw[Y];exact AY.mpr ⟨Ak j.mem a ha z z1,z2⟩
  .exact List.Pairwise.filter _ (Sq j.ndq a)
  .rw[IR,IR,Z.mem_iff,AY];refine⟨λc=>⟨c,?_⟩,λc=>c.1⟩;have na:n≠a:=λe=>by
    rw[Y]at G;have:=(AY.mp G).2;rw[e,AS rfl]at this;cases this
   have:¬(a=z\/a=n):=λo=>o.elim (λe=>nb (AY.mpr ⟨LH.mpr (e▸c),by rw[AM na];rfl⟩)) λe=>na e.symm;rw[AM this];rfl
structure PH(H:Hp)(p v:A3)(ns:A0 Str)(ks:A0 (Str×Str))(A B:A0 Nat):Prop where
 ex:∃a s t,H v=some (.lst [.ref a,.ref s,.ref t])/\H a=some (.lst (ns.map V.str))/\H s=some (.lst (A.map Lx))/\H t=some (.lst (B.map Lx))/\v≠p/\a≠p/\s≠p/\t≠p
 mA:MB ns (ks.map λk=>(k.2,k.1)) A
 mB:MB ns ks B
def Qt{n j:Nat}(h:j<n):RK n (j:Int)=some j:=by
 unfold RK;rw[AN (by lia),AN (by lia),CH]
def Fq{B:A0 Nat}{a:Nat}(h:a<B.length):P6 (B.map Lx) (a:Int)=some (.int ((B.getD a 0:Nat):Int)):=by
 refine Q2 ?_;rw[AH,AF h,CA,AF h];rfl
def Kw(n:Nat):(List.replicate ((n:Int).toNat) [V.int 0]).flatten =(List.replicate n 0).map Lx:=by
 rw[CH]
 induction n with
 | zero=>rfl
 | succ n a =>
  rw[DA,FM,a,DA,BM];rfl
def Ly(B:A0 Nat)(a m:Nat):(B.map Lx).set a (.int (m:Int)) =(B.set a m).map Lx:=by
 rw[List.map_set];rfl
theorem JL:IB ["_law_names","_law_strikes","_law_strikers","_law_struck","_law_one","_law_other","_law_a","_law_b"] ["_law_names","_law_strikes"] (B6 NR):=KL
def Wp:Sp:=λe H Q _=>∃(n a:A3) (b:A0 Str) (ps:A0 IM),e = [.ref n,.ref a]/\H n=some (.lst (b.map V.str))/\X4 b/\H a=some (.lst (E8 ps))/\(∀q∈ps,G8 H q)/\NN b ps /\
 ∀v c A B d,H v=none->Cv H d->c.Perm b->c.Pairwise NL->(∀p o,H p=some o->PH d p v c (ps.map λq=>q.2) A B)->Q (.ref v) d
set_option maxHeartbeats 2000000 in
theorem Gh(T:Tx K mg):IJ P w K mg base JQ 1 T.aY.f T.aY.fd ["_law_names","_law_strikes"] Wp:=by
 refine T.aY.F.o1 JL λcdv A outer s H vs Q E hr h=>?_
 .obtain⟨n,a,ss,ps,rfl,hn,hN,ha,hP,hO,q⟩:=h;refine⟨_,(A9 (C6 (i:=0) JL.nd rfl (.inl rfl) (I0 (n8 K) T.av M9 (A6 (pv 0) A8)))
   (A9 (Xg (i:=2) (j:=3) rfl JL.nd rfl rfl (by decide) rfl rfl (A6 (G0 Xl (G5 (A6 B3 A8)) (I0 (P4 K) T.au O8 (A6 (pv 0) A8))) (A6 (G0 Xl (G5 (A6 B3 A8)) (I0 (P4 K) T.au O8 (A6 (pv 0) A8))) A8)) rfl)
   (A9 (U1 PassesOwn.never rfl (MW K (pv 1)) (QX K (n:=2) (E7 (J0 (i:=4) JL.nd rfl (.inl rfl)) (E7 (J0 (i:=5) JL.nd rfl (.inl rfl)) Q9)))
   (A9 (Xg (i:=6) (j:=7) rfl JL.nd rfl rfl (by decide) rfl rfl (A6 (Ps K VG VJ VL (Mf K) (pv 0) (A6 (pv 4) A8)) (A6 (Ps K VG VJ VL (Mf K) (pv 0) (A6 (pv 5) A8)) A8)) rfl)
   (A9 (Bl (G0 Vw (E6 (KN K) (pv 2) (pv 7) (λ_ _=>rfl)) (G0 Pz B3 (pv 6))) (Lc (pv 2) (pv 7) Aw))
   (B5 (Bl (G0 Vw (E6 (KN K) (pv 3) (pv 6) (λ_ _=>rfl)) (G0 Pz B3 (pv 7))) (Lc (pv 3) (pv 6) Aw))))))
   (B5 (C0 (G5 (A6 (pv 0) (A6 (pv 2) (A6 (pv 3) A8))))))))),?_⟩
  refine C3 rfl ⟨n,ss,rfl,IG.of hn,λl b hl D srt=>?_⟩;have R:b.Nodup:=D.nodup_iff.mpr hN.2.1;have S:(b.map V.str).length=b.length:=AB ..;have ln:b.length<=100:=by rw[D.length_eq];exact hN.2.2
  have s1:Cv H (HY H l (.lst (b.map V.str))):=Cv.new hl;refine⟨by show 1<=sizeLine;decide,λU d=>?_⟩;have s2:=s1.trans (Cv.new (o:=.lst [V.int 0]) d);refine C3 rfl (B9 (a:=l) rfl (.inl (IG.of ((Cv.new d) _ _ A7))) ⟨U,B9 rfl rfl ⟨A7,by lia,by lia,by rw[S,CH,sizeLine_eq];show 1*b.length<=_;lia,λs W=>?_⟩⟩);rw[S,Kw];have hs1:HY H l (.lst (b.map V.str)) s=none:=(Cv.new d).free W;have G:H s=none:=s2.free W;have nls:l≠s:=B0 A7 hs1;have s3:=s2.trans (Cv.new (o:=.lst ((List.replicate b.length 0).map Lx)) W);refine⟨by show 1<=sizeLine;decide,λI r=>?_⟩;have s4:=s3.trans (Cv.new (o:=.lst [V.int 0]) r);have X:(HY (HY (HY (HY H l (.lst (b.map V.str))) U (.lst [V.int 0])) s (.lst ((List.replicate b.length 0).map Lx))) I (.lst [V.int 0])) l=some (.lst (b.map V.str)) :=
   (Cv.new r) _ _ ((Cv.new W) _ _ ((Cv.new d) _ _ A7))
  have es:(HY (HY (HY (HY H l (.lst (b.map V.str))) U (.lst [V.int 0])) s (.lst ((List.replicate b.length 0).map Lx))) I (.lst [V.int 0])) s=some (.lst ((List.replicate b.length 0).map Lx)):=(Cv.new r) _ _ A7;generalize hG:HY (HY (HY (HY H l (.lst (b.map V.str))) U (.lst [V.int 0])) s (.lst ((List.replicate b.length 0).map Lx))) I (.lst [V.int 0])=H4 at s4 X es⊢;have et2:H4 I=some (.lst [V.int 0]):=by rw[<-hG];exact A7
  refine C3 rfl (B9 (a:=l) rfl (.inl (IG.of X)) ⟨I,B9 rfl rfl ⟨et2,by lia,by lia,by rw[S,CH,sizeLine_eq];show 1*b.length<=_;lia,λt Y=>?_⟩⟩);rw[S,Kw];have J:l≠t:=B0 X Y;have e:s≠t:=B0 es Y;have s5:=s4.trans (Cv.new (o:=.lst ((List.replicate b.length 0).map Lx)) Y);have L:H t=none:=s4.free Y;refine⟨_,C3 rfl (C3 rfl ⟨a,rfl,⟨_,IG.of (s5 _ _ ha)⟩,?_⟩)⟩;refine Eg (PF (K:=K) (IG.of ha)) (λi σ u=>(∃v4 v5 v6 v7,σ = [some (.ref l),some (.ref a),some (.ref s),some (.ref t),v4,v5,v6,v7])/\Cv H u/\u l=some (.lst (b.map V.str)) /\
   ∃A B:A0 Nat,u s=some (.lst (A.map Lx))/\u t=some (.lst (B.map Lx))/\MB b ((ps.take i).map λq=>(q.2.2,q.2.1)) A/\MB b ((ps.take i).map λq=>q.2) B) ?_ ?_ ?_ ?_
  .exact⟨⟨_,_,_,_,rfl⟩,s5,by rw[B7 J];exact X,_,_,by rw[B7 e];exact es,A7,MB.zero b,MB.zero b⟩
  .rintro i σ u hi ⟨_,g,_⟩;exact g.at a
  .rintro i σ u v c ⟨⟨v4,v5,v6,v7,rfl⟩,g,x,A,B,Z,h4,y,C⟩ D1 hD1 _;unfold E8 at c;rw[AH]at c;cases M:ps[i]? with
   | none=>rw[M]at c;cases c
   | some q =>
    rw[M]at c;cases c;have hm:q∈ps:=BB M;obtain⟨m1,m2⟩:=hO.nm q hm;have m1:q.2.1∈b:=D.mem_iff.mpr m1;have m2:q.2.2∈b:=D.mem_iff.mpr m2;obtain⟨j,N⟩:=List.mem_iff_getElem?.mp m1;obtain⟨k,O⟩:=List.mem_iff_getElem?.mp m2;have lj:j<b.length:=(AJ.mp N).1;have lk:k<b.length:=(AJ.mp O).1;refine⟨q.1,C3 rfl ⟨IU.of (g _ _ (hP q hm)),rfl,_,C3 rfl (B9 rfl rfl ?_)⟩⟩;refine C3 rfl ⟨.inl ⟨rfl,_,IG.of x⟩,C3 rfl ⟨l,b,q.2.1,j,rfl,rfl,IG.of x,N,λm hm z=>by have:=Be R z N;lia,?_⟩⟩;refine C3 rfl ⟨.inl ⟨rfl,_,IG.of x⟩,C3 rfl ⟨l,b,q.2.2,k,rfl,rfl,IG.of x,O,λm hm z=>by have:=Be R z O;lia,?_⟩⟩;refine⟨_,C3 rfl ?_⟩;refine C3 rfl (C3 rfl ⟨s,_,B9 rfl rfl ⟨IG.of Z,Fq (by rw[y.len];exact lk),C3 rfl (B9 rfl rfl ⟨⟨by lia,by lia,by decide⟩,B9 rfl rfl ?_⟩)⟩⟩);dsimp only;rw[zEy,bor];refine C3 rfl (C3 rfl ⟨s,_,_,k,rfl,rfl,Z,Qt (by rw[AB,y.len];exact lk),?_⟩);rw[Ly];refine C3 rfl (C3 rfl ⟨t,_,B9 rfl rfl ⟨IG.of (by rw[B7 e.symm];exact h4),Fq (by rw[C.len];exact lj),C3 rfl (B9 rfl rfl ⟨⟨by lia,by lia,by decide⟩,B9 rfl rfl ?_⟩)⟩⟩);dsimp only;rw[zEy,bor];refine C3 rfl (C3 rfl ⟨t,_,_,j,rfl,rfl,by rw[B7 e.symm];exact h4,Qt (by rw[AB,C.len];exact lj),?_⟩);rw[Ly];refine hD1 _ _ ⟨⟨_,_,_,_,rfl⟩,(g.upd G).upd L,?_,A.set k (A.getD k 0 ||| 2^j),_,?_,A7,?_,?_⟩
    .rw[B7 J,B7 nls];exact x
    .rw[B7 e,A7]
    .rw[D8 M,AK];exact y.step R O N
    .rw[D8 M,AK];exact C.step R N O
  .rintro σ u ⟨⟨v4,v5,v6,v7,rfl⟩,g,x,A,B,Z,h4,y,C⟩;have lr:(E8 ps).length=ps.length:=by unfold E8;rw[AB]
   rw[lr,BR]at y C;refine C3 rfl (C3 rfl (C3 rfl ⟨by show 3<=sizeLine;decide,λv c=>?_⟩));have s9:=Cv.new (o:=.lst [.ref l,.ref s,.ref t]) c;refine q v b A B _ (g.free c) (g.trans s9) D srt λp o hp=>⟨⟨l,s,t,A7,s9 _ _ x,s9 _ _ Z,s9 _ _ h4,(B0 (g _ _ hp) c).symm,(B0 hp hl).symm,(B0 hp G).symm,(B0 hp L).symm⟩,?_,C⟩;rw[BS];exact y
def TH(B:A0 Nat)(m j:Nat):Prop:=∃k,m.testBit k=true/\(B.getD k 0).testBit j=true
def MT(n:Nat)(A B:A0 Nat)(m j:Nat):Prop:=j<n/\∀b,(A.getD j 0).testBit b=true->TH B m b
def Hn(a h:Nat):decide (V.int (Builtin.bitAnd (a:Int) (Builtin.bitNot (h:Int)))=V.int 0)=true↔∀b,a.testBit b=true->h.testBit b=true:=by
 rw[decide_eq_true_iff,PyProof.Rows.bitAnd_not,zFw];constructor
 .intro e b c;injection e with e;have e:a=a &&& h:=by lia
  rw[e,Nat.testBit_and,DC]at c;exact c.2
 .intro k;have e:a &&& h=a:=Nat.eq_of_testBit_eq λb=>by
   rw[Nat.testBit_and];cases c:a.testBit b with
   | false=>rfl
   | true=>rw[k b c];rfl
  rw[e,Int.sub_self]
def Zv(d k j:Nat):(d ||| 2^k).testBit j=true↔d.testBit j=true\/j=k:=by
 rw[Nat.testBit_or,Bool.or_eq_true,Nat.testBit_two_pow,decide_eq_true_iff];exact⟨λh=>h.imp id Eq.symm,λh=>h.imp id Eq.symm⟩
theorem LG:IB ["_law_view","_law_mask","_law_hit_here","_law_k"] ["_law_view","_law_mask"] (B6 OT):=KL
def zCi:Sp:=λb H Q _=>∃(p v:A3) (m:Nat) (a:A0 Str) (c:A0 (Str×Str)) (A B:A0 Nat),b = [.ref v,.int (m:Int)]/\PH H p v a c A B/\a.length<=100 /\
 ∀h:Nat,(∀j,h.testBit j=true↔TH B m j)->Q (.int (h:Int)) H
theorem Dq(T:Tx K mg):IJ P w K mg base JQ 1 T.a4.f T.a4.fd ["_law_view","_law_mask"] zCi:=by
 refine T.a4.F.o1 LG λx A g s H J Q E L h=>?_
 .obtain⟨p,v,m,M,N,A,B,rfl,y,O,q⟩:=h;obtain⟨⟨a,s,t,r,C,R,D,_⟩,S,u⟩:=id y;refine⟨_,(A9 (C6 (i:=2) LG.nd rfl (.inl rfl) B3)
   (A9 (U1 PassesOwn.never rfl (SW T.aL (A6 (I0 (P4 K) T.au O8 (A6 (E6 (KN K) (pv 0) B3 (λ_ _=>rfl)) A8)) A8)) (J0 (i:=3) LG.nd rfl (.inl rfl))
   (B5 (M0 (B8 U2 (G0 La (G0 Pn (pv 1) (pv 3)) B3) B3 (C8 _)) (B5 (C6 (i:=2) LG.nd rfl (.inl rfl) (G0 Vw (pv 2) (E6 (KN K) (E6 (KN K) (pv 0) B3 (λ_ _=>rfl)) (pv 3) (λ_ _=>rfl))))) E4)))
   (B5 (C0 (pv 2))))),?_⟩
  refine C3 rfl ⟨v,_,B9 rfl rfl ⟨IG.of r,rfl,B9 (a:=a) rfl (.inl (IG.of C)) (C3 rfl ⟨?_,?_,?_⟩)⟩⟩
  .lia
  .rw[AB];lia
  rw[AB,CH];refine U3 (λi σ l=>l=H/\∃(h:Nat) (n:A5 V),σ = [some (.ref v),some (.int (m:Int)),some (.int (h:Int)),n]/\∀j,h.testBit j=true↔∃k,k<i/\m.testBit k=true/\(B.getD k 0).testBit j=true) ?_ ?_ ?_
  .exact⟨rfl,0,_,rfl,λj=>by rw[FR];simp⟩
  .rintro i σ l G ⟨rfl,h,n,rfl,d⟩ U c _;rw[Int.zero_add];refine C3 rfl (C3 rfl (B9 rfl rfl ⟨(show(0:Int)<=(i:Int) by lia),B9 rfl rfl ⟨rfl,C3 rfl ?_⟩⟩));dsimp only;rw[zBw];refine Z8 (λo=>?_) (λo=>?_)
   .refine C3 rfl (C3 rfl ⟨v,_,B9 rfl rfl ⟨IG.of r,rfl,C3 rfl ⟨t,_,B9 rfl rfl ⟨IG.of D,Fq (by rw[u.len];exact G),B9 rfl rfl ?_⟩⟩⟩⟩);dsimp only;rw[bor];refine c _ _ ⟨rfl,_,_,rfl,λj=>?_⟩;rw[Nat.testBit_or,Bool.or_eq_true,d];constructor
    .rintro(⟨k,b,h2⟩ | h2)
     .exact⟨k,by lia,h2⟩
     .exact⟨i,by lia,o,h2⟩
    .rintro⟨k,b,h2⟩;by_cases e:k=i
     .rw[e]at h2;exact .inr h2.2
     .exact .inl ⟨k,by lia,h2⟩
   .refine c _ _ ⟨rfl,h,_,rfl,λj=>?_⟩;rw[d];constructor
    .rintro⟨k,b,h2⟩;exact⟨k,by lia,h2⟩
    .rintro⟨k,b,h2⟩;by_cases e:k=i
     .rw[e]at h2;exact absurd h2.1 o
     .exact⟨k,by lia,h2⟩
  .rintro σ l ⟨rfl,h,n,rfl,d⟩;refine C3 rfl (q h λj=>?_);rw[d];constructor
   .rintro⟨k,b,h2⟩;exact⟨k,h2⟩
   .rintro⟨k,b,h2⟩;refine⟨k,?_,b,h2⟩;obtain⟨z,_,I,_⟩:=(u.bit k j).mp h2;exact(AJ.mp I).1
theorem KC:IB ["_law_view","_law_mask","_law_hit_here","_law_kept_here","_law_k"] ["_law_view","_law_mask"] (B6 OE):=KL
def Yd:Sp:=λb H Q _=>∃(p v:A3) (m:Nat) (a:A0 Str) (c:A0 (Str×Str)) (A B:A0 Nat),b = [.ref v,.int (m:Int)]/\PH H p v a c A B/\a.length<=100 /\
 ∀h:Nat,(∀j,h.testBit j=true↔MT a.length A B m j)->Q (.int (h:Int)) H
theorem Bq(T:Tx K mg):IJ P w K mg base JQ 2 T.aU.f T.aU.fd ["_law_view","_law_mask"] Yd:=by
 refine T.aU.F.o1 KC λM A x s H Z Q E N h=>?_
 .obtain⟨p,v,m,O,R,A,B,rfl,I,S,q⟩:=h;obtain⟨⟨a,s,t,J,U,W,e4,_⟩,X,mB⟩:=id I;refine⟨_,(A9 (C6 (i:=2) KC.nd rfl (.inl rfl) (E3 T.a4 (Dq T) (Rm N) (A6 (pv 0) (A6 (pv 1) A8))))
   (A9 (C6 (i:=3) KC.nd rfl (.inl rfl) B3)
   (A9 (U1 PassesOwn.never rfl (SW T.aL (A6 (I0 (P4 K) T.au O8 (A6 (E6 (KN K) (pv 0) B3 (λ_ _=>rfl)) A8)) A8)) (J0 (i:=4) KC.nd rfl (.inl rfl))
   (B5 (M0 (B8 U2 (G0 La (E6 (KN K) (E6 (KN K) (pv 0) B3 (λ_ _=>rfl)) (pv 4) (λ_ _=>rfl)) (zFd zCd (pv 2))) B3 (C8 _)) (B5 (C6 (i:=3) KC.nd rfl (.inl rfl) (G0 Vw (pv 3) (G0 Pz B3 (pv 4))))) E4)))
   (B5 (C0 (pv 3)))))),?_⟩
  refine C3 rfl (C3 rfl (zFl (a:=p) (b:=v) (c:=m) (d:=O) (e:=R) (f:=A) (g:=B) rfl I S λo k=>?_));refine C3 rfl ⟨v,_,B9 rfl rfl ⟨IG.of J,rfl,B9 (a:=a) rfl (.inl (IG.of U)) (C3 rfl ⟨?_,?_,?_⟩)⟩⟩
  .lia
  .rw[AB];lia
  rw[AB,CH];refine U3 (λi σ y=>y=H/\∃(h:Nat) (C:A5 V),σ = [some (.ref v),some (.int (m:Int)),some (.int (o:Int)),some (.int (h:Int)),C]/\∀j,h.testBit j=true↔MT i A B m j) ?_ ?_ ?_
  .exact⟨rfl,0,_,rfl,λj=>by rw[FR];exact⟨λz=>(by cases z),λz=>absurd z.1 (Nat.not_lt_zero _)⟩⟩
  .rintro i σ y Y ⟨rfl,h,C,rfl,u⟩ D1 r _;rw[Int.zero_add];refine C3 rfl ⟨v,_,B9 rfl rfl ⟨IG.of J,rfl,C3 rfl ⟨s,_,B9 rfl rfl ⟨IG.of W,Fq (by rw[X.len];exact Y),C3 rfl (C3 rfl (B9 rfl rfl ⟨rfl,C3 rfl ?_⟩))⟩⟩⟩⟩;dsimp only;have L:=Hn (A.getD i 0) o;refine Z8 (λD=>?_) (λD=>?_)
   .refine C3 rfl (C3 rfl (B9 rfl rfl ⟨⟨by lia,by lia,by decide⟩,B9 rfl rfl ?_⟩));dsimp only;rw[zEy,bor];refine r _ _ ⟨rfl,_,_,rfl,λj=>?_⟩;rw[Zv,u];constructor
    .rintro(⟨G,l⟩ | rfl)
     .exact⟨by lia,l⟩
     .exact⟨by lia,λb n=>(k b).mp (L.mp D b n)⟩
    .rintro⟨G,l⟩;by_cases e:j=i
     .exact .inr e
     .exact .inl ⟨by lia,l⟩
   .refine r _ _ ⟨rfl,h,_,rfl,λj=>?_⟩;rw[u];constructor
    .rintro⟨G,l⟩;exact⟨by lia,l⟩
    .rintro⟨G,l⟩;by_cases e:j=i
     .subst e;exact absurd (L.mpr λb n=>(k b).mpr (l b n)) D
     .exact⟨by lia,l⟩
  .rintro σ y ⟨rfl,h,C,rfl,u⟩;exact⟨_,rfl,q h u⟩
def SK(n m:Nat):Prop:=∀j,m.testBit j=true->j<n
def SK.zero(n:Nat):SK n 0:=λj a=>by rw[FR]at a;cases a
def Sub(c a:Nat):Prop:=∀j,c.testBit j=true->a.testBit j=true
def S7(m i:Nat):A0 Nat:=(List.range i).filter λk=>m.testBit k
def Kk(m i:Nat):S7 m (i+1)=S7 m i++if m.testBit i=true then [i]else []:=by
 unfold S7;rw[List.range_succ,CM,BO,DQ]
def Ia(m i:Nat):(S7 m i).length<=i:=VE (BC ..) (by rw[DX];exact VD _)
def Xw{m r:Nat}(s:Sub m r):∀n,(S7 m n).length<=(S7 r n).length/\((S7 m n).length =(S7 r n).length->∀j,j<n->m.testBit j=r.testBit j)
 | 0=>⟨VD _,λ_ j h=>absurd h (Nat.not_lt_zero _)⟩
 | n+1=>by
  obtain⟨b,d⟩:=Xw s n;have f:∀z,(S7 z (n+1)).length =(S7 z n).length+if z.testBit n=true then 1 else 0:=λz=>by
   rw[Kk,AV];split<;>rfl
  rw[f,f];cases a:m.testBit n with
  | true =>
   rw[s n a];refine⟨by simp;exact b,λe j g=>?_⟩;by_cases c:j=n
   .rw[c,a,s n a]
   .exact d (by simpa using e) j (by lia)
  | false =>
   cases i:r.testBit n with
   | true=>exact⟨by simp;lia,λe=>by simp at e;lia⟩
   | false =>
    refine⟨by simp;exact b,λe j g=>?_⟩;by_cases c:j=n
    .rw[c,a,i]
    .exact d (by simpa using e) j (by lia)
def zCb{n m r:Nat}(s:Sub m r)(lo:SK n r)(a:m≠r):(S7 m n).length <(S7 r n).length:=by
 obtain⟨b,d⟩:=Xw s n;refine FS b λe=>a (Nat.eq_of_testBit_eq λj=>?_);by_cases c:j<n
 .exact d e j c
 .rw[ET.mpr λz=>c (lo j z),ET.mpr λz=>c (lo j (s j z))]
def MT.up{n:Nat}{A B:A0 Nat}{m r j:Nat}(s:Sub m r)(h:MT n A B m j):MT n A B r j:=⟨h.1,λb a=>let⟨k,c,d⟩:=h.2 b a;⟨k,s k c,d⟩⟩
theorem JW:IB ["_law_view","_law_mask","_law_more"] ["_law_view"] (B6 NS):=KL
def Gv(n:Nat)(A B:A0 Nat)(m:Nat):Prop:=SK n m/\(∀j,m.testBit j=true↔MT n A B m j)/\∀X:Nat->Prop,(∀(r:Nat) j,(∀i,r.testBit i=true->X i)->MT n A B r j->X j)->∀j,m.testBit j=true->X j
def Qp:Sp:=λb H Q _=>∃(p v:A3) (a:A0 Str) (c:A0 (Str×Str)) (A B:A0 Nat),b = [.ref v]/\PH H p v a c A B/\a.length<=100/\∀m:Nat,Gv a.length A B m->Q (.int (m:Int)) H
theorem He(T:Tx K mg):IJ P w K mg base JQ 3 T.aZ.f T.aZ.fd ["_law_view"] Qp:=by
 refine T.aZ.F.o1 JW λR A l s H V Q E D h=>?_
 .obtain⟨p,v,a,I,A,B,rfl,J,L,q⟩:=h;refine⟨_,(A9 (C6 (i:=1) JW.nd rfl (.inl rfl) B3)
   (A9 (C6 (i:=2) JW.nd rfl (.inl rfl) (E3 T.aU (Bq T) (Rm D) (A6 (pv 0) (A6 B3 A8))))
   (A9 (Fu PassesOwn.never (B8 Cy (pv 2) (pv 1) (C8 _)) (A9 (C6 (i:=1) JW.nd rfl (.inl rfl) (pv 2))
   (B5 (C6 (i:=2) JW.nd rfl (.inl rfl) (E3 T.aU (Bq T) (Rm D) (A6 (pv 0) (A6 (pv 1) A8)))))))
   (B5 (C0 (pv 1)))))),?_⟩
  refine B4 λW n=>?_;refine n _ _ (B4 λY o=>?_);refine C3 rfl ⟨p,v,0,a,I,A,B,rfl,J,L,λr u=>?_⟩;refine o _ _ (B4 λZ x=>?_);refine⟨λt σ G=>G=H/\∃m r:Nat,σ = [some (.ref v),some (.int (m:Int)),some (.int (r:Int))]/\SK a.length m/\(∀j,r.testBit j=true↔MT a.length A B m j)/\Sub m r/\t +(S7 m a.length).length=a.length/\∀X:Nat->Prop,(∀(r:Nat) j,(∀i,r.testBit i=true->X i)->MT a.length A B r j->X j)->∀j,m.testBit j=true->X j,⟨a.length-(S7 0 a.length).length,rfl,0,r,rfl,SK.zero _,u,(λj h=>by rw[FR]at h;cases h),by have:=Ia 0 a.length;lia,λX _ j h=>by rw[FR]at h;cases h⟩,?_⟩;rintro t σ G ⟨rfl,m,r,rfl,lo,d,sub,ht,M⟩;have g:SK a.length r:=λj k=>((d j).mp k).1;refine C3 rfl (C3 rfl ⟨rfl,_,rfl,Z8 (λz=>?_) λz=>x _ _ (C3 rfl (q m ⟨lo,?_,M⟩))⟩)
  .have S:m≠r:=λe=>by
    rw[e]at z;simp at z
   refine⟨λσ' N=>N=G/\∃b:Nat,σ' = [some (.ref v),some (.int (r:Int)),some (.int (b:Int))]/\∀j,b.testBit j=true↔MT a.length A B r j,λσ' N ⟨e,b,U,h⟩=>?_,?_⟩
   .have:=zCb sub g S;have:=Ia r a.length;exact⟨a.length-(S7 r a.length).length,by lia,e,r,b,U,g,h,λj k=>(h j).mpr (((d j).mp k).up sub),by lia,λX O j k=>O m j (M X O) ((d j).mp k)⟩
   .refine B4 λN4 y=>?_;refine C3 rfl (y _ _ ?_);exact C3 rfl (C3 rfl ⟨p,v,r,a,I,A,B,rfl,J,L,λb C=>⟨rfl,b,rfl,C⟩⟩)
  .have e:m=r:=Decidable.byContradiction λc=>z (by simpa using (show ¬((r:Int) =(m:Int))from λe=>c (by lia)));rw[<-e]at d;exact d
def MQ:A0 Str:=["b","ab","x","know","c","m","ba","aba","xa","knowa","ca","ma","bbb","abbb","xbb","knowbb","cbb","mbb","bccc","abccc","xccc","knowccc","cccc","mccc","bdddd","abdddd","xdddd","knowdddd","cdddd","mdddd"]
abbrev SB:A0 Str:=["b","ab","x","know","c","m"]
abbrev QY:Str := "aabcd"
theorem PU:(∀x∈MQ,P2 x=true)/\MQ.Nodup:=⟨by decide +kernel,by decide +kernel⟩
def zGr(i:Nat):A5 Str:=(SB[i % 6]?).bind λx=>(QY.cps.toList[i / 6]?).map λc=>x++Im ⟨#[c]⟩ (i / 6)
theorem Ul:∀i:Fin 30,zGr i.1=MQ[i.1]?/\((MQ[i.1]?).map λx=>decide (x.length<=8))=some true:=by decide +kernel
theorem zAf{i:Nat}(h:i<30):∃x c y,P6 (SB.map V.str) ((i:Int) % 6)=some (.str x)/\P6 QY.cps.toList ((i:Int) / 6)=some c/\x++Im ⟨#[c]⟩ (i / 6)=y/\MQ[i]?=some y/\x.length +(Im ⟨#[c]⟩ (i / 6)).length<=8:=by
 obtain⟨a,b⟩:=Ul ⟨i,h⟩;unfold zGr at a;simp only at a b;cases d:SB[i % 6]? with
 | none=>rw[d]at a;rw[<-a]at b;cases b
 | some x =>
  cases f:QY.cps.toList[i / 6]? with
  | none=>rw[d,f]at a;rw[<-a]at b;cases b
  | some c =>
   rw[d,f]at a;have a:some (x++Im ⟨#[c]⟩ (i / 6))=MQ[i]?:=a;refine⟨x,c,_,?_,?_,rfl,a.symm,?_⟩
   .exact Q2 (j:=i % 6) (by rw[AH,d];rfl)
   .exact Q2 (j:=i / 6) f
   .rw[<-a]at b;have:(x++Im ⟨#[c]⟩ (i / 6)).length<=8:=by
     have b:some (decide ((x++Im ⟨#[c]⟩ (i / 6)).length<=8))=some true:=b;exact BL (BU b)
    have e:(x++Im ⟨#[c]⟩ (i / 6)).length=x.length +(Im ⟨#[c]⟩ (i / 6)).length:=Array.size_append;lia
theorem JV:IB ["_law_left_here","_law_many","_law_some","_law_k"] ["_law_left_here","_law_many"] (B6 LC):=KL
def Eo:Sp:=λe H Q _=>∃(p:A3) (c:Int) (a:Nat),e = [.ref p,.int (a:Int)]/\IK H p c/\c<=900000/\a<=30 /\
 ∀l (d:A0 Str) b,H l=none->Sm [p] H b->b l=some (.lst (d.map V.str))->d.length=a->X4 d->IK b p (c+a)->Q (.ref l) b
set_option maxHeartbeats 2000000 in
theorem w5(T:Tx K mg):IJ P w K mg base JQ 3 T.aF.f T.aF.fd ["_law_left_here","_law_many"] Eo:=by
 refine T.aF.F.o1 JV λcdv A L s H vs Q E hr h=>?_
 .obtain⟨p,c,l,rfl,hL,c1,m1,q⟩:=h;obtain⟨a0,b0,e0,c0⟩:=id hL;refine⟨_,(A9 (C6 (i:=2) JV.nd rfl (.inr rfl) (G5 A8))
   (@A9 _ _ _ _ _ (U1 PassesOwn.never rfl (SW T.aL (A6 B3 A8)) (J0 (i:=3) JV.nd rfl (.inl rfl))
   (@B5 _ _ _ (J7 (Ps K VG VH VI R8 (pv 2) (@A6 _ _ _ _ _ (@G0 _ _ _ _ _ _ _ _ No (@E6 _ _ _ _ _ _ _ (KN K) (@G5 _ _ _ _ (@A6 _ _ _ _ _ C1 (@A6 _ _ _ _ _ C1 (@A6 _ _ _ _ _ C1 (@A6 _ _ _ _ _ C1 (@A6 _ _ _ _ _ C1 (@A6 _ _ _ _ _ C1 A8 (by rfl)) (by rfl)) (by rfl)) (by rfl)) (by rfl)) (by rfl))) (G0 Du (pv 3) B3) (λ_ _=>rfl)) (G0 Nq (E6 zEe C1 (G0 Fb (pv 3) B3) (λ_ _=>rfl)) (G0 Fb (pv 3) B3))) A8 (by rfl))))))
   (B5 (C0 (V9 (N':=["_law_k","_law_some","_law_left_here"]) (cap:=[none,some 2,some 0]) (cl:=[("_law_some",_),("_law_left_here",_)]) (O7 ⟨⟨rfl,rfl,rfl,rfl⟩,⟨⟨rfl,rfl,rfl,rfl⟩,trivial⟩⟩ ⟨rfl,⟨rfl,trivial⟩⟩) rfl (SW T.aL (A6 (pv 1) A8)) (λ_ _ _ _=>by exact⟨(LS 0),P5,(Ps K VG PySem.F.slot_list_pop PySem.F.type_list_pop Uu (pv 1) (A6 (E3 T.ah (C9 T) (Rm hr) (A6 (pv 2) (A6 (I0 (P4 K) T.au O8 (A6 (pv 1) A8)) A8))) A8))⟩)))))),?_⟩
  refine⟨CB _,λa G=>?_⟩;have u:p≠a:=B0 e0 G;refine C3 rfl ⟨by decide,by decide,?_⟩;refine U3 (λi σ g=>(∃M,σ = [some (.ref p),some (.int (l:Int)),some (.ref a),M])/\Cv H g/\g a=some (.lst ((MQ.take i).map V.str))) ?_ ?_ ?_
  .exact⟨⟨_,rfl⟩,Cv.new G,A7⟩
  .rintro i σ g o ⟨⟨M,rfl⟩,r,k⟩ D1 O _;have o:i<30:=o;obtain⟨x,ch,y,n1,n2,n3,n4,n5⟩:=zAf o;rw[Int.zero_add];refine C3 rfl ⟨.inl ⟨rfl,_,IG.of k⟩,by show 6<=sizeLine;decide,λt ht=>?_⟩;have R:a≠t:=B0 k ht;refine C3 rfl (B9 rfl rfl ⟨(show(0:Int)<6 by decide),t,_,B9 rfl rfl ⟨IG.of A7,n1,C3 rfl (B9 rfl rfl ⟨⟨by decide,by decide⟩,_,B9 rfl rfl ⟨by decide,n2,C3 rfl (B9 rfl rfl ⟨⟨by decide,by decide⟩,_,_,i / 6,rfl,rfl,by lia,by lia,by show 1<=1000;decide,B9 rfl rfl ⟨by rw[sizeLine_eq];lia,?_⟩⟩)⟩⟩)⟩⟩);rw[n3];refine⟨a,B9 rfl rfl ⟨by rw[B7 R];exact k,?_,O _ _ ⟨⟨_,rfl⟩,?_,?_⟩⟩⟩
   .rw[AB,AZ,sizeLine_eq];lia
   .exact(r.trans (Cv.new ht)).upd G
   .rw[A7,D8 n4,AK];rfl
  .rintro σ g ⟨⟨M,rfl⟩,r,k⟩;have k:g a=some (.lst (MQ.map V.str)):=k;dsimp only[S_,SU,O0,zGi,R_,U7,Iy];refine C3 rfl (C3 rfl ⟨by lia,by lia,λD v=>?_⟩);have z:p≠D:=B0 (r _ _ e0) v;have m:a≠D:=B0 k v;have B:H D=none:=r.free v;rw[CH];refine Gu (n:=l) (λi σ g=>(∃S,σ = [S,some (.ref a),some (.ref p)])/\Sm [p] H g/\IK g p (c+i)/\∃e j:A0 Str,g a=some (.lst (e.map V.str))/\g D=some (.lst (j.map V.str))/\(e++j).Perm MQ/\j.length=i) ?_ ?_ ?_ ?_ ?_
   .exact⟨⟨_,rfl⟩,(r.trans (Cv.new v)).sm,(hL.cast (by lia)).same (r.trans (Cv.new v)),MQ,[],by rw[B7 m];exact k,A7,by rw[BW],rfl⟩
   .intro i σ g o _;exact o
   .intro σ g _;exact VD _
   .rintro i σ g x H' N o ⟨⟨S,rfl⟩,U,W,e,j,k,X,I,J⟩ ⟨rfl,rfl⟩ hN;have hlen:e.length=30-i:=by
     have:=I.length_eq;rw[AV,J]at this;have:e.length+i=30:=this;lia
    refine Dz ?_;refine C3 rfl ⟨.inl ⟨rfl,_,IG.of k⟩,C3 rfl (C3 rfl (B9 (a:=a) rfl (.inl (IG.of k)) (V8 (a:=p) (b:=c+i) rfl W (by lia) ?_ ?_ λd H2 hd Y L2=>?_)))⟩
    .rw[AB];lia
    .rw[AB];lia
    rw[AB]at hd;have C:d<e.length:=by lia
    have hx:e[d]?=some e[d]:=AF C;have Z:=MI Y k u.symm;have eb2:=MI Y X z.symm;refine⟨a,_,_,d,.str e[d],rfl,rfl,Z,by lia,by lia,six (by rw[AB];exact C),by rw[AH,hx];rfl,_,by rw[B7 m.symm];exact eb2,?_,?_⟩
    .rw[AB,sizeLine_eq];lia
    refine hN _ _ ⟨⟨_,rfl⟩,?_,?_,e.eraseIdx d,j ++ [e[d]],?_,?_,Wc I hx,by rw[AV,J];rfl⟩
    .exact((U.trans Y).updN G).updN B
    .exact((L2.cast (by lia)).upd u).upd z
    .rw[B7 m,A7,Il]
    .rw[A7,AK];rfl
   .rintro σ g ⟨⟨S,rfl⟩,U,W,e,j,k,X,I,J⟩;exact q D j g B U X J (Vj I PU.1 PU.2 (by decide)) W
section
variable{ns:A0 Str}{ks:A0 (Str×Str)}{A B:A0 Nat}{m:Nat}{sk:Str->A0 Str}
theorem Xh(c:MB ns (ks.map λk=>(k.2,k.1)) A)(i j:Nat):(A.getD i 0).testBit j=true↔∃x y,ns[j]?=some x/\ns[i]?=some y/\(x,y)∈ks:=by
 rw[c.bit];constructor
 .rintro⟨k,d,a,b⟩;obtain⟨q,e,rfl⟩:=BK.mp d;exact⟨q.1,q.2,b,a,e⟩
 .rintro⟨x,y,a,b,f⟩;exact⟨(y,x),BK.mpr ⟨(x,y),f,rfl⟩,b,a⟩
theorem Ru(c:MB ns ks B)(i j:Nat):(B.getD i 0).testBit j=true↔∃x y,ns[i]?=some x/\ns[j]?=some y/\(x,y)∈ks:=by
 rw[c.bit];exact⟨λ⟨k,d,a,b⟩=>⟨k.1,k.2,a,b,d⟩,λ⟨x,y,a,b,e⟩=>⟨(x,y),e,a,b⟩⟩
theorem Kq(q:MB ns (ks.map λk=>(k.2,k.1)) A)(s:MB ns ks B)(t:Gv ns.length A B m)(f:∀n y,y∈sk n↔(y,n)∈ks)(c:∀k∈ks,k.1∈ns/\k.2∈ns){j:Nat}(h:m.testBit j=true):∃n,ns[j]?=some n/\GW sk n true:=by
 refine t.2.2 (λj=>∃n,ns[j]?=some n/\GW sk n true) (λr j u d=>?_) j h;obtain⟨i,d⟩:=d;refine⟨ns[j],AF i,GW.inn λy a=>?_⟩;have a:=(f _ _).mp a;obtain⟨b,v,e⟩:=EA.mp (c _ a).1;have l:ns[b]?=some y:=by rw[AF v,e]
 obtain⟨k,w,C⟩:=d b ((Xh q j b).mpr ⟨y,_,l,AF i,a⟩);obtain⟨z,D,g⟩:=u k w;obtain⟨x,F,o,p,E⟩:=(Ru s k b).mp C;rw[D]at o;cases o;rw[l]at p;cases p;exact GW.out ((f _ _).mpr E) g
theorem Kp(p:MB ns (ks.map λk=>(k.2,k.1)) A)(q:MB ns ks B)(r:Gv ns.length A B m)(f:∀n y,y∈sk n↔(y,n)∈ks)(c:∀k∈ks,k.1∈ns/\k.2∈ns){n:Str}{b:Bool}(g:GW sk n b):∀i,ns[i]?=some n->if b=true then m.testBit i=true else TH B m i:=by
 induction g with
 | inn h d =>
  rename_i n;intro i a;refine(r.2.1 i).mpr ⟨(AJ.mp a).1,λb s=>?_⟩;obtain⟨x,y,t,j,u⟩:=(Xh p i b).mp s;rw[a]at j;cases j;exact d x ((f _ _).mpr u) b t
 | out h g d =>
  rename_i n y;intro i a;have l:=(f _ _).mp h;obtain⟨k,v,e⟩:=EA.mp (c _ l).1;have o:ns[k]?=some y:=by rw[AF v,e]
  exact⟨k,d k o,(Ru q k i).mpr ⟨y,n,o,a,l⟩⟩
theorem To(e:MB ns (ks.map λk=>(k.2,k.1)) A)(b:MB ns ks B)(f:Gv ns.length A B m)(c:∀n y,y∈sk n↔(y,n)∈ks)(a:∀k∈ks,k.1∈ns/\k.2∈ns){j:Nat}(h:TH B m j):∃n,ns[j]?=some n/\GW sk n false:=by
 obtain⟨k,i,l⟩:=h;obtain⟨z,o,g⟩:=Kq e b f c a i;obtain⟨x,y,d,p,q⟩:=(Ru b k j).mp l;rw[o]at d;cases d;exact⟨y,p,GW.out ((c _ _).mpr q) g⟩
theorem Ta(e:MB ns (ks.map λk=>(k.2,k.1)) A)(f:MB ns ks B)(l:Gv ns.length A B m)(o:∀n y,y∈sk n↔(y,n)∈ks)(a:∀k∈ks,k.1∈ns/\k.2∈ns){h i:Nat}(p:∀j,h.testBit j=true↔TH B m j){n:Str}(hi:ns[i]?=some n) :
  (if m.testBit i=true then G9 sk n=ON/\h.testBit i=false else if h.testBit i=true then G9 sk n=KW else G9 sk n=NZ):=by
 by_cases c:m.testBit i=true
 .rw[AN c];obtain⟨z,b,g⟩:=Kq e f l o a c;rw[hi]at b;cases b;refine⟨NA.mpr g,ET.mpr λd=>?_⟩;obtain⟨z,b,q⟩:=To e f l o a ((p i).mp d);rw[hi]at b;cases b;exact g.ne q
 .rw[AI c];have r:¬GW sk n true:=λg=>c (Kp e f l o a g i hi);by_cases d:h.testBit i=true
  .rw[AN d];obtain⟨z,b,g⟩:=To e f l o a ((p i).mp d);rw[hi]at b;cases b;exact MF.mpr g
  .rw[AI d];have s:¬GW sk n false:=λg=>d ((p i).mpr (Kp e f l o a g i hi));unfold G9;rw[AI r,AI s]
end
structure JO(X:A0 A3)(H:Hp)(o:A3)(ss:A0 Str)(ps:A0 IM):Prop where
 ex:∃a b,H o=some (.lst [.ref a,.ref b])/\H a=some (.lst (ss.map V.str))/\H b=some (.lst (E8 ps))/\o∉X/\a∉X/\b∉X
 pin:∀q∈ps,G8 H q/\q.1∉X
 nm:X4 ss
 st:NN ss ps
def JO.sm{X:A0 A3}{H H':Hp}{o:A3}{ss:A0 Str}{ps:A0 IM}(h:JO X H o ss ps)(s:Sm X H H'):JO X H' o ss ps:=by
 obtain⟨⟨a,b,i,j,k,e,f,g⟩,c,l,m⟩:=h;exact⟨⟨a,b,s _ _ i e,s _ _ j f,s _ _ k g,e,f,g⟩,λq d=>⟨s _ _ (c q d).1 (c q d).2,(c q d).2⟩,l,m⟩
def JO.same{X:A0 A3}{H H':Hp}{o:A3}{ss:A0 Str}{ps:A0 IM}(h:JO X H o ss ps)(s:Cv H H'):JO X H' o ss ps:=h.sm s.sm
def Rn(m k:Nat):Builtin.bitAnd ((m:Int) / 2 ^((k:Int).toNat)) 1=if m.testBit k=true then 1 else 0:=by
 have a:(m:Int) / 2 ^((k:Int).toNat) =((m / 2^k:Nat):Int):=by rw[CH,Int.natCast_ediv,Int.natCast_pow];rfl
 have b:Builtin.bitAnd ((m / 2^k:Nat):Int) 1 =((m / 2^k % 2:Nat):Int):=by
  rw[show(1:Int) =((1:Nat):Int)from rfl,zFw,Nat.and_one_is_mod]
 rw[a,b,Nat.testBit_eq_decide_div_mod_eq];rcases Nat.mod_two_eq_zero_or_one (m / 2^k)with h | h
 .rw[h];rfl
 .rw[h];rfl
def t4(m h k:Nat):Str:=if m.testBit k=true then "in" else if h.testBit k=true then "out" else "open"
def Zp{m h k:Nat}(n:¬(m.testBit k=true/\h.testBit k=true)):P6 [V.str "open",.str "in",.str "out"] (Builtin.bitAnd ((m:Int) / 2 ^((k:Int).toNat)) 1+2*Builtin.bitAnd ((h:Int) / 2 ^((k:Int).toNat)) 1)=some (.str (t4 m h k)):=by
 rw[Rn,Rn];unfold t4;by_cases b:m.testBit k=true
 .rw[AN b,AN b,AI λa=>n ⟨b,a⟩];rfl
 .rw[AI b,AI b];by_cases a:h.testBit k=true
  .rw[AN a,AN a];rfl
  .rw[AI a,AI a];rfl
def Ij(ns:A0 Str)(ps:A0 IM):A0 (Str×Str):=ns.map λn=>(n,G9 (B2 ps) n)
theorem IW:IB ["_law_own","_law_view","_law_mask","_law_hit_here","_law_rows","_law_k","_law_name"] ["_law_own"] (B6 LL):=KL
def Vc:Sp:=λe H Q _=>∃(X:A0 A3) (o:A3) (d:A0 Str) (ps:A0 IM),e = [.ref o]/\JO X H o d ps /\
 ∀l b (c:A0 IM) a,Cv H a->H l=none->b.Perm d->b.Pairwise NL->a l=some (.lst (E8 c))->(∀q∈c,G8 a q/\H q.1=none)->(c.map λq=>q.2)=Ij b ps->Q (.ref l) a
set_option maxHeartbeats 1000000 in
theorem V7(T:Tx K mg):IJ P w K mg base JQ 4 T.aA.f T.aA.fd ["_law_own"] Vc:=by
 refine T.aA.F.o1 IW λcdv A outer s H vs Q E Y h=>?_
 .obtain⟨X,o,ss,ps,rfl,hO,q⟩:=h;have hu:=Q8 Y;refine⟨_,(A9 (C6 (i:=1) IW.nd rfl (.inl rfl) (E3 T.aY (Gh T) (Rm Y) (A6 (E6 (KN K) (pv 0) B3 (λ_ _=>rfl)) (A6 (E6 (KN K) (pv 0) B3 (λ_ _=>rfl)) A8))))
   (A9 (C6 (i:=2) IW.nd rfl (.inl rfl) (E3 T.aZ (He T) (Rm Y) (A6 (pv 1) A8)))
   (A9 (C6 (i:=3) IW.nd rfl (.inl rfl) (E3 T.a4 (Dq T) (Rm Y) (A6 (pv 1) (A6 (pv 2) A8))))
   (A9 (C6 (i:=4) IW.nd rfl (.inl rfl) (G5 A8))
   (A9 (U1 PassesOwn.never rfl (zFn K T.a5 (A6 (E6 (KN K) (pv 1) B3 (λ_ _=>rfl)) A8)) (QX K (n:=2) (E7 (J0 (i:=5) IW.nd rfl (.inl rfl)) (E7 (J0 (i:=6) IW.nd rfl (.inl rfl)) Q9)))
   (B5 (J7 (Ps K VG VH VI R8 (pv 4) (A6 (J4 (A6 (pv 6) (A6 (E6 (KN K) (G5 (A6 C1 (A6 C1 (A6 C1 A8)))) (G0 U6 (G0 La (G0 Pn (pv 2) (pv 5)) B3) (G0 d9 B3 (G0 La (G0 Pn (pv 3) (pv 5)) B3))) (λ_ _=>rfl)) A8))) A8)))))
   (B5 (C0 (pv 4)))))))),?_⟩
  obtain⟨⟨a,b,e1,e2,e3,n1,n2,n3⟩,pin,nm,st⟩:=id hO;refine B4 λN1 hN1=>?_;refine C3 rfl ⟨o,_,0,_,rfl,rfl,IG.of e1,rfl,C3 rfl ⟨o,_,1,_,rfl,rfl,IG.of e1,rfl,?_⟩⟩;refine⟨a,b,ss,ps,rfl,e2,nm,e3,λq p=>(pin q p).1,st,λv e A1 B1 H1 hv s1 pn srt hV=>?_⟩;have J:=hV o _ e1;have ln:e.length<=100:=by rw[pn.length_eq];exact nm.2.2
  refine hN1 _ _ (B4 λN2 hN2=>?_);refine C3 rfl ⟨o,v,e,_,A1,B1,rfl,J,ln,λm hm=>?_⟩;refine hN2 _ _ (B4 λN3 hN3=>?_);refine C3 rfl (C3 rfl ⟨o,v,m,e,_,A1,B1,rfl,J,ln,λh hh=>?_⟩);refine hN3 _ _ (B4 λN4 hN4=>?_);refine⟨CB _,λr j=>?_⟩;have Z:=Cv.new (o:=.lst []) j;have f2:(HY H1 r (.lst [])) r=some (.lst []):=A7;generalize HY H1 r (.lst [])=H2 at Z f2⊢;obtain⟨I,s2,t2,g1,g2,_⟩:=J.ex;refine hN4 _ _ (B4 λN5 hN5=>?_);refine C3 rfl ⟨v,_,0,_,rfl,rfl,IG.of (Z _ _ g1),rfl,I,e.map V.str,rfl,?_⟩;have nr:r≠I:=(B0 g2 j).symm;have C:=λ(i:Nat) (n:Str) (L:e[i]?=some n)=>Ta J.mA J.mB hm (sk:=B2 ps) (λn y=>IR) (λk M=>by
   obtain⟨q,p,rfl⟩:=BK.mp M;exact⟨pn.mem_iff.mpr (st.nm q p).1,pn.mem_iff.mpr (st.nm q p).2⟩) hh L
  refine Kx (.inl (IG.of g2)) (Z.at I) λsq M=>Wl (n:=e.length) (λi σ l=>∃N O,σ = [some (.ref o),some (.ref v),some (.int (m:Int)),some (.int (h:Int)),some (.ref r),N,O]/\Cv H1 l/\∃D:A0 IM,l r=some (.lst (E8 D))/\(∀q∈D,G8 l q/\H q.1=none)/\(D.map λq=>q.2)=Ij (e.take i) ps) ⟨_,_,rfl,Z,[],f2,λq p=>absurd p A_,rfl⟩ ?_ ?_ ?_ ?_
  .rintro i σ l L ⟨N,O,rfl,B,_⟩;exact⟨_,_,M _ (B.at I),by rw[AH,AF L];rfl⟩
  .rintro σ l ⟨N,O,rfl,B,_⟩;exact⟨_,M _ (B.at I),by rw[AB]⟩
  .rintro i σ l x H4 L ⟨N,O,rfl,B,D,L3,P3,R⟩ ⟨t,x,rfl,ht,rfl,hx⟩;have hx:=hx _ (M _ (B.at I));have G:e[i]?=some e[i]:=AF L;rw[AH,G]at hx;cases hx;refine⟨t,C3 rfl ⟨IU.of A7,rfl,_,C3 rfl (B9 rfl rfl ?_)⟩⟩;have u4:=Cv.new (o:=.tup [.int (i:Int),.str e[i]]) ht;generalize HY l t (.tup [.int (i:Int),.str e[i]])=H4 at u4⊢;have s4:=B.trans u4;have L4:=u4 _ _ L3;have lr:=congrArg List.length R;unfold Ij at lr;rw[AB,AB,AZ]at lr;refine C3 rfl ⟨.inl ⟨rfl,_,IG.of L4⟩,?_⟩;have i0:(0:Int)<=(i:Int):=Int.natCast_nonneg i;have g:=C i _ G;have nq:¬(m.testBit i=true/\h.testBit i=true):=λz=>by
    rw[AN z.1]at g;rw[z.2]at g;cases g.2
   have eg:t4 m h i=G9 (B2 ps) e[i]:=by
    unfold t4;by_cases c:m.testBit i=true
    .rw[AN c]at g⊢;exact g.1.symm
    .rw[AI c]at g⊢;by_cases d:h.testBit i=true
     .rw[AN d]at g⊢;exact g.symm
     .rw[AI d]at g⊢;exact g.symm
   refine C3 rfl ⟨by show 3<=sizeLine;decide,λu hu=>?_⟩;have u5:=Cv.new (o:=.lst [.str "open",.str "in",.str "out"]) hu;have e6:(HY H4 u (.lst [.str "open",.str "in",.str "out"])) u=some (.lst [.str "open",.str "in",.str "out"]):=A7;generalize HY H4 u (.lst [.str "open",.str "in",.str "out"])=H5 at u5 e6⊢;refine C3 rfl (C3 rfl (B9 rfl rfl ⟨i0,B9 rfl rfl (C3 rfl (C3 rfl (B9 rfl rfl ⟨i0,B9 rfl rfl (B9 rfl rfl ⟨.inl ⟨by decide,by decide⟩,B9 rfl rfl ⟨u,_,B9 rfl rfl ⟨IG.of e6,Zp nq,?_⟩⟩⟩)⟩)))⟩));refine⟨by show 2<=sizeLine;decide,λS U=>?_⟩;have u6:=Cv.new (o:=.tup [.str e[i],.str (t4 m h i)]) U;have f6:(HY H5 S (.tup [.str e[i],.str (t4 m h i)])) S=some (.tup [.str e[i],.str (t4 m h i)]):=A7;generalize HY H5 S (.tup [.str e[i],.str (t4 m h i)])=H6 at u6 f6⊢;have s6:=(s4.trans u5).trans u6;have W:=(u4.trans u5).trans u6;have L6:=W _ _ L3;have tr:S≠r:=J8 f6 L6 (by intro z;cases z);refine⟨r,_,_,rfl,rfl,L6,by unfold E8;rw[AB,sizeLine_eq];lia,_,_,rfl,s6.upd j,D ++ [(S,e[i],t4 m h i)],?_,λq p=>?_,?_⟩
   .rw[A7];unfold E8;rw[AK];rfl
   .rcases AO.mp p with c | c
    .have:=W _ _ (P3 q c).1;exact⟨(B7 (J8 this L6 (by intro z;cases z))).trans this,(P3 q c).2⟩
    .rw[AE.mp c];exact⟨(B7 tr).trans f6,(s1.trans (s4.trans u5)).free U⟩
   .rw[D8 G,AK,R,eg];unfold Ij;rw[AK];rfl
  .rintro σ l ⟨N,O,rfl,B,D,L3,P3,R⟩;rw[BR]at R;exact hN5 _ _ (C3 rfl (q r e D l (s1.trans B) (s1.free j) pn srt L3 P3 R))
def Ux{K:VA}{a D:A3}{us:A0 IM}{ss:A0 Str}{r:St}{f:Str->A5 Str}{g:Str->Str}{L:TT}{M:TE}{H:Hp}{Q:St->Hp->Prop}(e:H a=some (.lst (E8 us)))(B:∀q∈us,G8 H q)(O:(us.map λq=>q.2)=ss.map λn=>(n,g n))(len:ss.length<=1000)(P:H D=none)
  (C:∀y∈ss,∀j,Cv H j->∀m:Bool->Hp->Prop,m (Ty f g y) j->L (some (.str y)::some (.str (g y))::r) j m)
  (he:∀y∈ss,∀j,Cv H j->∀m:VK,(∀t,j t=none->m (.ref t) (HY j t (.tup [.str y,oV (f y),.str (g y)])))->M (some (.str y)::some (.str (g y))::r) j m)
  (h:∀σ E b,Cv H E->R3 E D b->(b.map λq=>q.2)=Az f g ss->Q σ E) (s w:A5 V) :
  Au (SX K 2 (Cw (O0 0) (Cw (O0 1) TB))) L (Z7 D M) (P_ K a) (s::w::r) (HY H D (.lst [])) Q:=by
 have lu:us.length=ss.length:=by
  have:=congrArg List.length O
  rwa [AB,AB]at this
 refine P1 (PF (K:=K) (IG.of e)) (λi σ d=>(∃s w,σ=s::w::r)/\Cv H d/\∃b,R3 d D b/\(b.map λq=>q.2)=Az f g (ss.take i))
  ⟨⟨_,_,rfl⟩,Cv.new P,[],⟨A7,λq x=>absurd x A_⟩,rfl⟩ (λi σ j _ ⟨_,s1,_⟩=>s1.at a) ?_ ?_
 .rintro i σ d v N F ⟨⟨s,w,rfl⟩,k,b,A,l⟩ R;unfold E8 at F;rw[AH]at F;obtain⟨u,S,rfl⟩:=BF.mp F;have T:(us.map λq=>q.2)[i]?=some u.2:=by rw[AH,S];rfl
  rw[O,AH]at T;obtain⟨y,U,ey⟩:=BF.mp T;have X:=BB U;have G:=k _ _ (B u (BB S));have G:d u.1=some (.tup [.str y,.str (g y)]):=by
   rw[G,<-ey]
  refine⟨u.1,C3 rfl ⟨IU.of G,rfl,_,C3 rfl (B9 rfl rfl ?_)⟩⟩;have Y:Az f g (ss.take (i+1))=Az f g (ss.take i)++if Ty f g y=true then [(y,f y,g y)]else []:=by
   unfold Az;rw[D8 U,CM,BO,DQ,AK];by_cases c:Ty f g y=true
   .rw[AN c,AN c];rfl
   .rw[AI c,AI c];rfl
  have hl:b.length<=1000:=by
   have Z:=congrArg List.length l;unfold Az at Z;have:=BC (Ty f g) (ss.take i);rw[AB,AB]at Z;rw[AZ]at this;lia
  refine C y X d k _ (Z8 (λc=>he y X d k _ λt C=>?_) (λc=>R _ _ ⟨⟨_,_,rfl⟩,k,b,A,by rw[Y,AI c,BW];exact l⟩));have I:=Cv.new (o:=.tup [.str y,oV (f y),.str (g y)]) C;have J:(HY d t (.tup [.str y,oV (f y),.str (g y)])) t=some (.tup [.str y,oV (f y),.str (g y)]):=A7;generalize HY d t (.tup [.str y,oV (f y),.str (g y)])=H4 at I J⊢;have p:=A.same I;refine⟨_,p.1,by rw[AB,sizeLine_eq];lia,R _ _ ⟨⟨_,_,rfl⟩,(k.trans I).upd P,b ++ [(t,y,f y,g y)],⟨?_,λq x=>?_⟩,?_⟩⟩
  .rw[A7,AK];rfl
  .have nt:q.1≠D:=by
    rcases AO.mp x with c | c
    .exact J8 (p.2 q c) p.1 (by intro z;cases z)
    .rw[AE.mp c];exact J8 J p.1 (by intro z;cases z)
   rw[B7 nt];rcases AO.mp x with c | c
   .exact p.2 q c
   .rw[AE.mp c];exact J
  .rw[AK,l,Y,AN c];rfl
 .rintro σ d ⟨_,k,b,A,l⟩;unfold E8 at l;rw[AB,lu,BR]at l;exact h σ d b k A l
theorem LB:IB ["_law_old","_law_new","_law_ahead"] ["_law_old","_law_new"] (B6 LN):=KL
def Ph:Sp:=λj H Q _=>∃(a b:A3) (g c:A0 IM) (f d:A0 Str) (ps e:A0 IM),j = [.ref a,.ref b]/\H a=some (.lst (E8 g))/\(∀q∈g,G8 H q)/\(g.map λq=>q.2)=Ij f ps/\f.Nodup/\f.length<=100/\H b=some (.lst (E8 c))/\(∀q∈c,G8 H q)/\(c.map λq=>q.2)=Ij d e/\d.length<=100 /\
 ∀l i h,Cv H h->H l=none->R3 h l i->(i.map λq=>q.2)=Az (WG f ps) (G9 (B2 e)) d->Q (.ref l) h
set_option maxHeartbeats 1000000 in
theorem At(T:Tx K mg):IJ P w K mg base JQ 1 T.aJ.f T.aJ.fd ["_law_old","_law_new"] Ph:=by
 refine T.aJ.F.o1 LB λS A B s H vs Q E U h=>?_
 .obtain⟨a,b,p,W,e,X,ps,C,rfl,Y,Z,J,nd,ln,L,pb,qb,lb,q⟩:=h;have M:=Q8 U;refine⟨_,(A9 (C6 (i:=2) LB.nd rfl (.inr rfl) (y8 Vi T.bk Jy (A6 (pv 0) A8)))
   (B5 (C0 (V9 (N':=["_law_name","_law_word","_law_ahead"]) (cap:=[none,none,some 2]) (cl:=[("_law_ahead",_)]) (O7 ⟨⟨rfl,rfl,rfl,rfl⟩,trivial⟩ ⟨rfl,trivial⟩) rfl (MW K (pv 1)) (λ_ _ _ _=>by exact⟨(QX K (n:=2) (E7 (LS 0) (E7 (LS 1) Q9))),(K8 (B8 Cy (Y9 M (pv 2) (pv 0) ⟨rfl,rfl,rfl,rfl⟩) (pv 1) (C8 _))),(J4 (A6 (pv 0) (A6 (Y9 M (pv 2) (pv 0) ⟨rfl,rfl,rfl,rfl⟩) (A6 (pv 1) A8))))⟩))))),?_⟩
  refine B4 λN1 G=>?_;have lu:p.length<=1000:=by
   have:=congrArg List.length J;unfold Ij at this;rw[AB,AB]at this;lia
  refine C3 rfl ⟨a,p.map λq=>(q.1,(Sum.inr q.2.1:IQ),V.str q.2.2),rfl,by rw[Y,BS];rfl,λq hq=>?_,by rw[AB];exact lu,λd hd=>?_⟩
  .obtain⟨z,hz,rfl⟩:=BK.mp hq;exact Z z hz
  have ek:X7 [] ((p.map λq=>(q.1,(Sum.inr q.2.1:IQ),V.str q.2.2)).map λq=>q.2)=X7 [] (e.map λn=>((Sum.inr n:IQ),V.str (G9 (B2 ps) n))):=by
   have:((p.map λq=>(q.1,(Sum.inr q.2.1:IQ),V.str q.2.2)).map λq=>q.2) =(p.map λq=>q.2).map λz=>((Sum.inr z.1:IQ),V.str z.2):=by
    rw[BS,BS];rfl
   rw[this,J];unfold Ij;rw[BS];rfl
  rw[ek];have N:WD (X7 [] (e.map λn=>((Sum.inr n:IQ),V.str (G9 (B2 ps) n)))) (WG e ps):=λn =>
   (WD.mrgG (l:=e) (kvs:=[]) (f:=λ_=>none) (g:=G9 (B2 ps)) (λn=>rfl) n).trans rfl
  generalize X7 [] (e.map λn=>((Sum.inr n:IQ),V.str (G9 (B2 ps) n)))=kvs at N⊢;have m:=Cv.new (o:=.dK kvs) hd;have O:(HY H d (.dK kvs)) d=some (.dK kvs):=A7;generalize HY H d (.dK kvs)=H1 at m O⊢;refine G _ _ (C3 rfl ⟨b,rfl,⟨_,IG.of (m _ _ L)⟩,λD R=>?_⟩);have r:∀(y:Str) (v:A5 V) (c:Hp) (u:VK),Cv H1 c->u (oV (WG e ps y)) c->Li (T9 2) (T9 0) [some (.str y),v,some (.ref d)] c u:=λy v c u j q'=>by
   have x:=j _ _ O;refine C3 rfl ⟨d,rfl,.inl ⟨_,.inl x⟩,C3 rfl ⟨_,LE.k (k:=.inr y) x,?_⟩⟩;rw[N y];exact q'
  refine Ux (f:=WG e ps) (g:=G9 (B2 C)) (m _ _ L) (G6 m pb) qb (by lia) R (λy hy c j u I=>?_) (λy hy c j u I=>?_) (λσ c rs j L2 x=>q D rs c (m.trans j) (m.free R) L2 x) _ _
  .unfold i8 OL;refine r y _ c _ j (C3 rfl ?_);refine⟨(Uj _ _).1,_,rfl,?_⟩;rw[(Uj _ _).2];exact I
  .exact C3 rfl (r y _ c _ j (C3 rfl ⟨by show 3<=sizeLine;rw[sizeLine_eq];lia,λt ht=>I t ht⟩))
def IK.ne{H:Hp}{p n:A3}{c:Int}{ss:A0 Str}(h:IK H p c)(d:H n=some (.lst (ss.map V.str))):n≠p:=by
 rintro rfl;obtain⟨a,b,e,_⟩:=h;rw[d]at e;cases ss with
 | nil=>cases e
 | cons x r=>cases e
def IK.neP{H:Hp}{p n:A3}{c:Int}{ss:A0 IM}(h:IK H p c)(d:H n=some (.lst (E8 ss))):n≠p:=by
 rintro rfl;obtain⟨a,b,e,_⟩:=h;rw[d]at e;cases ss with
 | nil=>cases e
 | cons x r=>cases e
def zEf(d:Nat)(h:d<8):∃n:Nat,n<4/\P6 [V.int 0,.int 0,.int 1,.int 1,.int 1,.int 2,.int 2,.int 3] (d:Int)=some (.int (n:Int)):=by
 suffices ∃n:Nat,n<4/\[V.int 0,.int 0,.int 1,.int 1,.int 1,.int 2,.int 2,.int 3][d]?=some (.int (n:Int)) by
  obtain⟨n,a,e⟩:=this;exact⟨n,a,Q2 e⟩
 match d,h with
 | 0,_=>exact⟨0,by lia,rfl⟩
 | 1,_=>exact⟨0,by lia,rfl⟩
 | 2,_=>exact⟨1,by lia,rfl⟩
 | 3,_=>exact⟨1,by lia,rfl⟩
 | 4,_=>exact⟨1,by lia,rfl⟩
 | 5,_=>exact⟨2,by lia,rfl⟩
 | 6,_=>exact⟨2,by lia,rfl⟩
 | 7,_=>exact⟨3,by lia,rfl⟩
def Ur{a b c d:Nat}(e:a<9)(f:b<7)(g:c<4)(i:d<4)(j:Nat)(h:j<4):∃n:Nat,n<=28/\P6 [V.int (20 +(a:Int)),.int (8 +(b:Int)),.int (4 +(c:Int)),.int (d:Int)] (j:Int)=some (.int (n:Int)):=by
 match j,h with
 | 0,_=>exact⟨20+a,by lia,Q2 (j:=0) (by rw[Int.natCast_add];rfl)⟩
 | 1,_=>exact⟨8+b,by lia,Q2 (j:=1) (by rw[Int.natCast_add];rfl)⟩
 | 2,_=>exact⟨4+c,by lia,Q2 (j:=2) (by rw[Int.natCast_add];rfl)⟩
 | 3,_=>exact⟨d,by lia,Q2 (j:=3) rfl⟩
theorem IY:IB ["_law_left_here","_law_way","_law_size","_law_names","_law_strikes","_law_turn","_law_pair"] ["_law_left_here"] (B6 LM):=KL
def Qk:Sp:=λd H Q _=>∃(p:A3) (c:Int),d = [.ref p]/\IK H p c/\c<=1000 /\
 ∀o b ps a,H o=none->Sm [p] H a->JO [p] a o b ps->b.length<=28->ps.length<=56->Q (.ref o) a
set_option maxHeartbeats 1000000 in
theorem Ar(T:Tx K mg):IJ P w K mg base JQ 4 T.aI.f T.aI.fd ["_law_left_here"] Qk:=by
 refine T.aI.F.o1 IY λcdv A outer s H vs Q E l h=>?_
 .obtain⟨p,c,rfl,hL,c1,q⟩:=h;have hu:=Q8 l;refine⟨_,(A9 (C6 (i:=1) IY.nd rfl (.inl rfl) (E3 T.ah (C9 T) (Rm l) (A6 (pv 0) (A6 B3 A8))))
   (A9 (C6 (i:=2) IY.nd rfl (.inl rfl) (G5 (A6 (G0 U6 B3 (E3 T.ah (C9 T) (Rm l) (A6 (pv 0) (A6 B3 A8)))) (A6 (G0 U6 B3 (E3 T.ah (C9 T) (Rm l) (A6 (pv 0) (A6 B3 A8)))) (A6 (G0 U6 B3 (E3 T.ah (C9 T) (Rm l) (A6 (pv 0) (A6 B3 A8)))) (A6 (E3 T.ah (C9 T) (Rm l) (A6 (pv 0) (A6 B3 A8))) A8))))))
   (@A9 _ _ _ _ _ (@C6 _ _ 3 _ _ _ _ IY.nd rfl (.inl rfl) (E3 T.aF (w5 T) (Rm l) (@A6 _ _ _ _ _ (pv 0) (@A6 _ _ _ _ _ (@E6 _ _ _ _ _ _ _ (KN K) (pv 2) (@E6 _ _ _ _ _ _ _ (KN K) (@G5 _ _ _ _ (@A6 _ _ _ _ _ B3 (@A6 _ _ _ _ _ B3 (@A6 _ _ _ _ _ B3 (@A6 _ _ _ _ _ B3 (@A6 _ _ _ _ _ B3 (@A6 _ _ _ _ _ B3 (@A6 _ _ _ _ _ B3 (@A6 _ _ _ _ _ B3 A8 (by rfl)) (by rfl)) (by rfl)) (by rfl)) (by rfl)) (by rfl)) (by rfl)) (by rfl))) (pv 1) (λ_ _=>rfl)) (λ_ _=>rfl)) A8 (by rfl)) (by rfl))) (by rfl) (by first | exact .inl rfl | exact .inr rfl | assumption))
   (A9 (C6 (i:=4) IY.nd rfl (.inl rfl) (G5 A8))
   (A9 (U1 PassesOwn.never rfl (SW T.aL (A6 (E3 T.ah (C9 T) (Rm l) (A6 (pv 0) (A6 (G0 U6 (G0 d9 B3 (I0 (P4 K) T.au O8 (A6 (pv 3) A8))) B3) A8))) A8)) (J0 (i:=5) IY.nd rfl (.inl rfl))
   (A9 (C6 (i:=6) IY.nd rfl (.inl rfl) (J4 (A6 (E6 (KN K) (pv 3) (E3 T.ah (C9 T) (Rm l) (A6 (pv 0) (A6 (I0 (P4 K) T.au O8 (A6 (pv 3) A8)) A8))) (λ_ _=>rfl)) (A6 (E6 (KN K) (pv 3) (E3 T.ah (C9 T) (Rm l) (A6 (pv 0) (A6 (I0 (P4 K) T.au O8 (A6 (pv 3) A8)) A8))) (λ_ _=>rfl)) A8))))
   (B5 (M0 (B8 (Lq K l.units) (pv 6) (pv 4) rfl) (B5 (J7 (Ps K VG VH VI R8 (pv 4) (A6 (pv 6) A8)))) E4))))
   (B5 (C0 (G5 (A6 (pv 3) (A6 (pv 4) A8)))))))))),?_⟩
  refine B4 λN1 hN1=>?_;obtain⟨a0,b0,e0,c0⟩:=id hL;refine C3 rfl (V8 (a:=p) (b:=c) rfl hL (by lia) (by decide) (by decide) λO R hw k1 L1=>?_);refine hN1 _ _ (B4 λN2 hN2=>?_);refine C3 rfl (V8 (a:=p) rfl L1 (by lia) (by decide) (by decide) λS H2 B k2 L2=>B9 rfl rfl ?_);refine C3 rfl (V8 (a:=p) rfl L2 (by lia) (by decide) (by decide) λU H3 h2 k3 L3=>B9 rfl rfl ?_);refine C3 rfl (V8 (a:=p) rfl L3 (by lia) (by decide) (by decide) λW H4 h3 k4 L4=>B9 rfl rfl ?_);refine C3 rfl (V8 (a:=p) rfl L4 (by lia) (by decide) (by decide) λX H5 h4 k5 L5=>?_);have k15:=(((k1.trans k2).trans k3).trans k4).trans k5;refine⟨by show 4<=sizeLine;decide,λz hz=>?_⟩;have u6:=Cv.new (o:=.lst [V.int (20 +(S:Int)),.int (8 +(U:Int)),.int (4 +(W:Int)),.int (X:Int)]) hz;have Y:(HY H5 z (.lst [V.int (20 +(S:Int)),.int (8 +(U:Int)),.int (4 +(W:Int)),.int (X:Int)])) z=some (.lst [V.int (20 +(S:Int)),.int (8 +(U:Int)),.int (4 +(W:Int)),.int (X:Int)]):=A7;have L6:=L5.same u6;have k6:=k15.trans u6.sm;refine hN2 _ _ ?_;generalize HY H5 z (.lst [V.int (20 +(S:Int)),.int (8 +(U:Int)),.int (4 +(W:Int)),.int (X:Int)])=H6 at Y L6 k6⊢;refine B4 λN3 hN3=>?_;refine C3 rfl (C3 rfl ⟨by show 8<=sizeLine;decide,λz2 hz2=>?_⟩);obtain⟨j,hj,ej⟩:=zEf O (by lia);obtain⟨n,hn,en⟩:=Ur (by lia:S<9) (by lia:U<7) (by lia:W<4) (by lia:X<4) j hj;have u7:=Cv.new (o:=.lst [V.int 0,.int 0,.int 1,.int 1,.int 1,.int 2,.int 2,.int 3]) hz2;have f7:(HY H6 z2 (.lst [V.int 0,.int 0,.int 1,.int 1,.int 1,.int 2,.int 2,.int 3])) z2=some (.lst [V.int 0,.int 0,.int 1,.int 1,.int 1,.int 2,.int 2,.int 3]):=A7;have Y:=u7 _ _ Y;have L7:=L6.same u7;have k7:=k6.trans u7.sm;generalize HY H6 z2 (.lst [V.int 0,.int 0,.int 1,.int 1,.int 1,.int 2,.int 2,.int 3])=H7 at Y f7 L7 k7⊢;refine C3 rfl ⟨z2,_,_,_,rfl,rfl,IG.of f7,ej,z,_,_,_,rfl,rfl,IG.of Y,en,?_⟩;refine⟨p,_,n,rfl,L7,by lia,by lia,λa d H8 ha k8 e8 len8 Z L8=>?_⟩;have k08:=k7.trans k8;have k7:Sm [p] H H7:=k7;refine hN3 _ _ (B4 λN4 hN4=>?_);refine⟨CB _,λf hf=>?_⟩;have u9:=Cv.new (o:=.lst []) hf;have f9:(HY H8 f (.lst [])) f=some (.lst []):=A7;have L9:=L8.same u9;have e9:=u9 _ _ e8;have k9:=k08.trans u9.sm;have g:p≠f:=B0 L8.get hf;generalize HY H8 f (.lst [])=H9 at f9 L9 e9 k9⊢;refine hN4 _ _ (B4 λN5 hN5=>?_);refine C3 rfl (C3 rfl ⟨a,_,rfl,.inl (IG.of e9),B9 rfl rfl ⟨.inl ⟨by decide,by decide⟩,B9 rfl rfl ?_⟩⟩);rw[AB];refine V8 (a:=p) rfl L9 (by lia) (by lia) (by lia) λD H10 ht10 G L10=>?_;refine⟨(D:Int),rfl,by lia,by lia,?_⟩;rw[CH];have k010:=k9.trans G;have ap:a≠p:=L9.ne e9;have e10:=MI G e9 ap;have f10:=MI G f9 g.symm;have nm:∀x∈d,PySem.PyData.strOk x=true:=λx hx=>P9 (Z.1 x hx);refine U3 (λi σ R=>∃v5 v6 ps,σ = [some (.ref p),some (.int (O:Int)),some (.ref z),some (.ref a),some (.ref f),v5,v6]/\Sm [p] H R/\IK R p (c+1+1+1+1+1+n+1+2*i)/\R a=some (.lst (d.map V.str))/\FL R f ps d/\ps.length<=i) ?_ ?_ ?_
  .exact⟨_,_,[],rfl,k010,by simpa using L10,e10,⟨f10,λq M=>absurd M A_,λq M=>absurd M A_,D_⟩,VD _⟩
  .rintro i σ G1 hi ⟨v5,v6,ps,rfl,g1,M1,ea,I,lp⟩ D1 hD1 _;rw[Int.zero_add];have pos:0<d.length:=by lia
   refine C3 rfl (C3 rfl (C3 rfl ⟨a,_,rfl,.inl (IG.of ea),?_⟩));rw[AB];refine V8 (a:=p) rfl M1 (by lia) (by lia) (by lia) λm G2 hx1 g2 M2=>?_;have J:=MI g2 ea ap;have F2:=I.sm M1 g.symm g2;have hn1:d[m]?=some d[m]:=AF (by lia);refine⟨a,_,_,_,rfl,rfl,IG.of J,Q2 (j:=m) (by rw[AH,hn1];rfl),?_⟩;refine C3 rfl (C3 rfl (C3 rfl ⟨a,_,rfl,.inl (IG.of J),?_⟩));rw[AB];refine V8 (a:=p) rfl M2 (by lia) (by lia) (by lia) λu G3 hx2 g3 M3=>?_;have ea3:=MI g3 J ap;have F3:=F2.sm M2 g.symm g3;have hn2:d[u]?=some d[u]:=AF (by lia);refine⟨a,_,_,_,rfl,rfl,IG.of ea3,Q2 (j:=u) (by rw[AH,hn2];rfl),?_⟩;refine⟨by show 2<=sizeLine;decide,λt ht=>?_⟩;have hm1:d[m]∈d:=DL _;have hm2:d[u]∈d:=DL _;have u4:=Cv.new (o:=.tup [.str d[m],.str d[u]]) ht;have f4:(HY G3 t (.tup [.str d[m],.str d[u]])) t=some (.tup [.str d[m],.str d[u]]):=A7;have v:=F3.new (o:=.tup [.str d[m],.str d[u]]) ht;have M4:=M3.same u4;have C:=u4 _ _ ea3;have L:=((g1.trans g2).trans g3).trans u4.sm;generalize HY G3 t (.tup [.str d[m],.str d[u]])=G4 at u4 f4 v M4 C L⊢;refine C3 rfl (C3 rfl (Ef (k:=(d[m],d[u])) f4 v.at_ v.pin ⟨nm _ hm1,nm _ hm2⟩ (λq M=>⟨nm _ (v.nm q M).1,nm _ (v.nm q M).2⟩) ⟨_,rfl,?_⟩));have eM:c+1+1+1+1+1+n+1+2 *(i:Int)+1+1=c+1+1+1+1+1+n+1+2 *((i+1:Nat):Int):=by lia
   rw[eM]at M4;refine Z8 (λh3=>?_) (λh3=>hD1 _ _ ⟨_,_,ps,rfl,L,M4,C,v,by lia⟩);have h3':(d[m],d[u])∉ps.map λq=>q.2:=by simpa using h3
   refine C3 rfl ⟨.inl ⟨rfl,_,IG.of v.at_⟩,C3 rfl ⟨f,_,_,rfl,rfl,v.at_,by unfold E8;rw[AB,sizeLine_eq];lia,?_⟩⟩;have af:a≠f:=λe=>by
    have B:=v.at_;rw[<-e,C]at B;cases d with
    | nil=>exact absurd pos (by simp)
    | cons y r =>
     injection B with B;injection B with B;unfold E8 at B;cases ps with
     | nil=>cases B
     | cons y r=>cases B
   exact hD1 _ _ ⟨_,_,_,rfl,L.updN (by
    cases e:H f with
    | none=>rfl
    | some o=>exact absurd (k08 _ _ e (by simpa using g.symm)) (by rw[hf];intro z;cases z)),M4.upd g,(B7 af).trans C,v.app f4 hm1 hm2 h3',by rw[AV];exact E_ lp⟩
  .rintro σ G1 ⟨v5,v6,ps,rfl,g1,M1,ea,I,lp⟩;refine hN5 _ _ (C3 rfl (C3 rfl ⟨by show 2<=sizeLine;decide,λo N=>?_⟩));have u2:=Cv.new (o:=.lst [.ref a,.ref f]) N;have ho0:H o=none:=by
    cases e:H o with
    | none=>rfl
    | some x =>
     have hop:o≠p:=λz=>by
      rw[z,M1.get]at N;cases N
     exact absurd (g1 _ _ e (by simpa using hop)) (by rw[N];intro z;cases z)
   have nop:o≠p:=λz=>by rw[z,M1.get]at N;cases N
   refine q o d ps _ ho0 (g1.trans u2.sm) ⟨⟨a,f,A7,u2 _ _ ea,u2 _ _ I.at_,by simpa using nop,by simpa using ap,by simpa using g.symm⟩,λz hz=>⟨u2 _ _ (I.pin z hz),?_⟩,Z,⟨I.nm,I.nd,by lia⟩⟩ (by lia) (by lia);obtain⟨xa,xb,em,_⟩:=id M1;have:=J8 (I.pin z hz) em (by intro z;cases z);simpa using this
def JO.smp{X:A0 A3}{H H':Hp}{o p:A3}{ss:A0 Str}{ps:A0 IM}(h:JO X H o ss ps)(a:p∈X)(s:Sm [p] H H'):JO X H' o ss ps:=h.sm λb x e c=>s b x e λz=>c (by rw[AE.mp z];exact a)
def Td:∀ds:A0 PyData,PyData.eqv (.list ds) (.list [])=ds.isEmpty
 | []=>by rw[PyData.eqv,PyData.eqvAll];rfl
 | _::_=>by rw[PyData.eqv,PyData.eqvAll];rfl
def Ks:∀{ss:A0 Str},(∀x∈ss,PySem.PyData.strOk x=true)->PyData.canLayAll0 (ss.map PyData.str)=true
 | [],_=>rfl
 | x::r,h=>by
  rw[BM,PyData.canLayAll0,PyData.canLay0,h x (AX ..),Ks λy a=>h y (AL _ a)];rfl
def Ln{K:VA}{H:Hp}:∀ss:A0 Str,PJ K H (ss.map PyData.str) (ss.map V.str)
 | []=>by rw[FY,FY,PJ]
 | x::r=>by
  rw[BM,BM,PJ];exact⟨_,_,rfl,by rw[Rp],Ln r⟩
def Dp:∀ss:A0 Str,PyData.depthAll (ss.map PyData.str)<=1
 | []=>by rw[FY,PyData.depthAll];lia
 | x::r=>by
  rw[BM,PyData.depthAll,PyData.depth];have:=Dp r;lia
def Lj{K:VA}{H:Hp}{a z:A3}{ss:A0 Str}{Q:VK}(b:H a=some (.lst (ss.map V.str)))(c:∀x∈ss,PySem.PyData.strOk x=true)(hz:H z=some (.lst []))(q:Q (.bl ss.isEmpty) H):SS K (.ref a) (.ref z) H Q :=
 ⟨.list (ss.map PyData.str),.list [],by rw[Rp];exact⟨a,_,rfl,IG.of b,Ln ss⟩,by rw[Rp];exact⟨z,_,rfl,IG.of hz,by rw[PJ]⟩,⟨by rw[PyData.canLay0];exact Ks c,by rw[PyData.depth];have:=Dp ss;lia⟩,⟨rfl,by simp[PyData.depth,PyData.depthAll]⟩,by
  rw[Td];have:(ss.map PyData.str).isEmpty=ss.isEmpty:=by cases ss<;>rfl
  rw[this];exact q⟩
def zEj(d:Nat)(h:d<4):∃y:Str,PySem.PyData.strOk y=true/\P6 [V.str "nobody",.str "",.str "A",.str "zq"] (d:Int)=some (.str y):=by
 match d,h with
 | 0,_=>exact⟨"nobody",by decide +kernel,rfl⟩
 | 1,_=>exact⟨"",by decide +kernel,rfl⟩
 | 2,_=>exact⟨"A",by decide +kernel,rfl⟩
 | 3,_=>exact⟨"zq",by decide +kernel,rfl⟩
theorem Fz:IB ["_law_left_here","_law_own"] ["_law_left_here","_law_own"] (B6 ND):=KL
def Bh:Sp:=λd H Q _=>∃(X:A0 A3) (p o:A3) (c:Int) (e:A0 Str) (ps:A0 IM),d = [.ref p,.ref o]/\IK H p c/\c<=1000/\p∈X/\JO X H o e ps /\
 ∀(y:Str) (b:Int) a,PySem.PyData.strOk y=true->b<=c+2->Sm [p] H a->IK a p b->Q (.str y) a
theorem Q3(T:Tx K mg):IJ P w K mg base JQ 3 T.aw.f T.aw.fd ["_law_left_here","_law_own"] Bh:=by
 refine T.aw.F.o1 Fz λcdv A G s H vs Q E m h=>?_
 .obtain⟨X,p,o,c,I,ps,rfl,hL,c1,J,W,q⟩:=h;have hu:=Q8 m;refine⟨_,(A9 (M0 (PW.pt (Bj (B8 (Oi K m.units) (E6 (KN K) (pv 1) B3 (λ_ _=>rfl)) (G5 A8) (C8 _)) (X8 (B8 U2 (E3 T.ah (C9 T) (Rm m) (A6 (pv 0) (A6 B3 A8))) B3 (C8 _))))) (B5 (C0 (E6 (KN K) (G5 (A6 C1 (A6 C1 (A6 C1 (A6 C1 A8))))) (E3 T.ah (C9 T) (Rm m) (A6 (pv 0) (A6 B3 A8))) (λ_ _=>rfl)))) E4)
   (B5 (C0 (E6 (KN K) (I0 (n8 K) T.av M9 (A6 (E6 (KN K) (pv 1) B3 (λ_ _=>rfl)) A8)) (E3 T.ah (C9 T) (Rm m) (A6 (pv 0) (A6 (I0 (P4 K) T.au O8 (A6 (E6 (KN K) (pv 1) B3 (λ_ _=>rfl)) A8)) A8))) (λ_ _=>rfl))))),?_⟩
  obtain⟨⟨a,b,Y,Z,e3,n1,n2,n3⟩,pin,nm,st⟩:=id W;have ok:∀x∈I,PySem.PyData.strOk x=true:=λx hx=>P9 (nm.1 x hx);have ap:a≠p:=λz=>n2 (z▸J);refine B4 λN1 M=>?_;have n:∀(N:Int) (g:Hp),N<=c+1->Sm [p] H g->IK g p N->OL (SO K) (SR (U7 (tC (V.str "nobody")) (U7 (tC (V.str "")) (U7 (tC (V.str "A")) (U7 (tC (V.str "zq")) Iy))))) (Sl Oy [] E0 (U7 (T9 0) (U7 (tC (V.int 4)) Iy))) [some (.ref p),some (.ref o)] g Q:=λN g hc k L=>by
   refine⟨by show 4<=sizeLine;decide,λz D=>?_⟩;have u:=Cv.new (o:=.lst [V.str "nobody",.str "",.str "A",.str "zq"]) D;have L2:=L.same u;have pz:z≠p:=(B0 L.get D).symm;refine C3 rfl (V8 (a:=p) rfl L2 (by lia) (by decide) (by decide) λd H3 hd k3 r=>?_);obtain⟨y,oy,ey⟩:=zEj d (by lia);exact⟨z,_,_,_,rfl,rfl,IG.of (MI k3 A7 pz),ey,q y _ H3 oy (by lia) ((k.trans u.sm).trans k3) r⟩
  refine C3 rfl ⟨o,_,0,_,rfl,rfl,IG.of Y,rfl,⟨CB _,λz D=>?_⟩⟩;have t:=Cv.new (o:=.lst []) D;have f1:(HY H z (.lst [])) z=some (.lst []):=A7;have O:=hL.same t;generalize HY H z (.lst [])=g at t f1 O⊢;refine Lj (t _ _ Z) ok f1 ⟨_,rfl,?_⟩;refine Z8 (λ_=>Y6 (n c g (by lia) t.sm O)) λne=>?_;refine C3 rfl (V8 (a:=p) rfl O (by lia) (by decide) (by decide) λd R hd k2 L2=>⟨rfl,_,rfl,?_⟩);have e:=t.sm.trans k2;refine Z8 (λ_=>n (c+1) R (by lia) e L2) λ_=>M _ _ ?_;have O2:=W.smp J e;have v:=MI e Y (λz=>n1 (z▸J));have B:=MI e Z ap;refine C3 rfl ⟨o,_,0,_,rfl,rfl,IG.of v,rfl,a,I,rfl,IG.of B,λl i hl pn srt=>?_⟩;have C:=Cv.new (o:=.lst (i.map V.str)) hl;have S:(HY R l (.lst (i.map V.str))) l=some (.lst (i.map V.str)):=A7;have r:=L2.same C;generalize HY R l (.lst (i.map V.str))=H3 at C S r⊢;refine C3 rfl (C3 rfl ⟨o,_,0,_,rfl,rfl,IG.of (C _ _ v),rfl,a,_,rfl,.inl (IG.of (C _ _ B)),?_⟩);rw[AB];have pos:0<I.length:=List.length_pos_iff.mpr λz=>ne (by rw[z];rfl);have le:=nm.2.2;refine V8 (a:=p) rfl r (by lia) (by lia) (by lia) λU H4 hd4 k4 L4=>?_;have ll:=pn.length_eq;have hi:i[U]?=some i[U]:=AF (by lia);exact⟨l,_,_,_,rfl,rfl,IG.of (MI k4 S (r.ne S)),Q2 (j:=U) (by rw[AH,hi];rfl),q _ _ H4 (ok _ (pn.mem_iff.mp (DL _))) (by lia) ((e.trans C.sm).trans k4) L4⟩
inductive JA | pn (y:Str) | tn (y:Str) | ps (a b:Str) | ts (a b:Str)
def JA.strs:JA->A0 Str
 | .pn y=>["put_name",y]
 | .tn y=>["take_name",y]
 | .ps a b=>["put_strike",a,b]
 | .ts a b=>["take_strike",a,b]
def JA.fit(ss:A0 Str)(ps:A0 IM):JA->Prop
 | .pn y=>ss.length+1<=30/\y.length<=100
 | .ps _ _=>ps.length+1<=140
 | _=>True
structure MD(H:Hp)(t:A3)(d:JA):Prop where
 at_:H t=some (.tup (d.strs.map V.str))
 ok:∀x∈d.strs,PySem.PyData.strOk x=true
def MD.same{H H':Hp}{t:A3}{d:JA}(h:MD H t d)(s:Cv H H'):MD H' t d:=⟨s _ _ h.at_,h.ok⟩
def zFx:PySem.PyData.strOk "put_name" = true/\PySem.PyData.strOk "take_name" = true/\PySem.PyData.strOk "put_strike" = true/\PySem.PyData.strOk "take_strike" = true:=⟨by decide +kernel,by decide +kernel,by decide +kernel,by decide +kernel⟩
theorem zCa(d:Nat)(h:d<6):∃y:Str,PySem.PyData.strOk y=true/\y.length<=100/\P6 [V.str "",.str "A",.str "abcdefghi",.str "a b",.str "a1",.str "ab\n"] (d:Int)=some (.str y):=by
 match d,h with
 | 0,_=>exact⟨"",by decide +kernel,by decide +kernel,rfl⟩
 | 1,_=>exact⟨"A",by decide +kernel,by decide +kernel,rfl⟩
 | 2,_=>exact⟨"abcdefghi",by decide +kernel,by decide +kernel,rfl⟩
 | 3,_=>exact⟨"a b",by decide +kernel,by decide +kernel,rfl⟩
 | 4,_=>exact⟨"a1",by decide +kernel,by decide +kernel,rfl⟩
 | 5,_=>exact⟨"ab\n",by decide +kernel,by decide +kernel,rfl⟩
def QI:A0 Str:=["b","ab","x","know","c","m","ba","aba","xa","ca","ma","bbb","pq","abcdefgh","p","pp"]
theorem Lk:∀x∈QI,PySem.PyData.strOk x=true/\x.length<=100:=by decide +kernel
theorem Hd:∀ps:A0 IM,PyData.depthAll (ps.map λq=>pd q.2)<=2
 | []=>by rw[FY,PyData.depthAll];lia
 | x::r=>by
  rw[BM,PyData.depthAll];have:=Hd r;have:(pd x.2).depth<=2:=by simp[pd,PyData.depth,PyData.depthAll]
  lia
theorem Zn{K:VA}{H:Hp}{b z:A3}{ps:A0 IM}{Q:VK}(c:H b=some (.lst (E8 ps)))(a:∀q∈ps,G8 H q)(d:∀q∈ps,PySem.PyData.strOk q.2.1=true/\PySem.PyData.strOk q.2.2=true)(hz:H z=some (.lst []))(q:Q (.bl (!ps.isEmpty)) H):TD K (.ref b) (.ref z) H Q :=
 ⟨_,.list [],Fi c a,by rw[Rp];exact⟨z,_,rfl,IG.of hz,by rw[PJ]⟩,⟨by rw[PyData.canLay0];exact Es d,by rw[PyData.depth];have:=Hd ps;lia⟩,⟨rfl,by simp[PyData.depth,PyData.depthAll]⟩,by
  rw[Td];have:(ps.map λq=>pd q.2).isEmpty=ps.isEmpty:=by cases ps<;>rfl
  rw[this];exact q⟩
theorem Uh{H:Hp}{p o a b:A3}{d:Int}{v3:A5 V}{ss:A0 Str}{g:Bool->Hp->Prop}(l:H o=some (.lst [.ref a,.ref b]))(m:H a=some (.lst (ss.map V.str)))(q:∀x∈ss,PySem.PyData.strOk x=true)
  (h:∀c H',Cv H H'->(c=true->ss.length+1<=30)->g c H') :
  tOr (zGp (i8 (OL (QV λi j=>V.bl (decide (i<j))) (T9 2) (tC (V.int 2)))) (i8 (OL (QV λi j=>V.bl (decide (i<j))) (R_ (λxs H Q=>∃p k,xs = [V.ref p]/\(IG K H p k\/IU K H p k)/\Q (V.int (k.length:Int)) H) (U7 (OL (SO K) (T9 1) (tC (V.int 0))) Iy)) (tC (V.int 30)))))
   (i8 (OL (SS K) (OL (SO K) (T9 1) (tC (V.int 0))) (SR Iy))) [some (.ref p),some (.ref o),some (.int d),v3] H g:=by
 have f:i8 (OL (SS K) (OL (SO K) (T9 1) (tC (V.int 0))) (SR Iy)) [some (.ref p),some (.ref o),some (.int d),v3] H g:=by
  refine C3 rfl ⟨o,_,0,_,rfl,rfl,IG.of l,rfl,⟨CB _,λz s=>?_⟩⟩;have n:=Cv.new (o:=.lst []) s;refine Lj (n _ _ m) q A7 ⟨_,rfl,h _ _ n λc=>?_⟩;cases ss with
  | nil=>show 0+1<=30;lia
  | cons x r=>cases c
 refine C3 rfl (B9 rfl rfl ⟨_,rfl,Z8 (λ_=>?_) λ_=>N9 f⟩);refine C3 rfl ⟨o,_,0,_,rfl,rfl,IG.of l,rfl,a,_,rfl,.inl (IG.of m),B9 rfl rfl ⟨_,rfl,Z8 (λc=>h _ _ (λb o e=>e) λ_=>?_) λ_=>f⟩⟩;rw[AB]at c;have:=BL c;lia
theorem LX:IB ["_law_left_here","_law_own","_law_way","_law_some"] ["_law_left_here","_law_own"] (B6 OG):=KL
def Yi:Sp:=λf H Q _=>∃(X:A0 A3) (p o:A3) (c:Int) (b:A0 Str) (ps:A0 IM),f = [.ref p,.ref o]/\IK H p c/\c<=900/\p∈X/\JO X H o b ps/\ps.length<=200 /\
 ∀(t:A3) (d:JA) (e:Int) a,H t=none->e<=c+10->Sm [p] H a->IK a p e->MD a t d->d.fit b ps->Q (.ref t) a
set_option maxHeartbeats 1000000 in
theorem Kf(T:Tx K mg):IJ P w K mg base JQ 4 T.a6.f T.a6.fd ["_law_left_here","_law_own"] Yi:=by
 refine T.a6.F.o1 LX λcdv A outer s H vs Q E n h=>?_
 .obtain⟨X,p,o,c,ss,ps,rfl,hL,c1,v,hO,OZ,q⟩:=h;have hu:=Q8 n;refine⟨_,(A9 (C6 (i:=2) LX.nd rfl (.inl rfl) (E3 T.ah (C9 T) (Rm n) (A6 (pv 0) (A6 B3 A8))))
   (@A9 _ _ _ _ _ (@M0 _ _ _ _ _ _ _ _ (PW.pt (Bj (PW.pt (Ci (B8 Nj (pv 2) B3 (C8 _)) (m8 (B8 Nj (I0 (P4 K) T.au O8 (A6 (E6 (KN K) (pv 1) B3 (λ_ _=>rfl)) A8)) B3 (C8 _))))) (X8 (B8 (Oi K n.units) (E6 (KN K) (pv 1) B3 (λ_ _=>rfl)) (G5 A8) (C8 _))))) (@A9 _ _ _ _ _ (@C6 _ _ 3 _ _ _ _ LX.nd rfl (.inl rfl) (@G5 _ _ _ _ (@A6 _ _ _ _ _ C1 (@A6 _ _ _ _ _ C1 (@A6 _ _ _ _ _ C1 (@A6 _ _ _ _ _ C1 (@A6 _ _ _ _ _ C1 (@A6 _ _ _ _ _ C1 (@A6 _ _ _ _ _ C1 (@A6 _ _ _ _ _ C1 (@A6 _ _ _ _ _ C1 (@A6 _ _ _ _ _ C1 (@A6 _ _ _ _ _ C1 (@A6 _ _ _ _ _ C1 (@A6 _ _ _ _ _ C1 (@A6 _ _ _ _ _ C1 (@A6 _ _ _ _ _ C1 (@A6 _ _ _ _ _ C1 A8 (by rfl)) (by rfl)) (by rfl)) (by rfl)) (by rfl)) (by rfl)) (by rfl)) (by rfl)) (by rfl)) (by rfl)) (by rfl)) (by rfl)) (by rfl)) (by rfl)) (by rfl)) (by rfl))) (by rfl) (by first | exact .inl rfl | exact .inr rfl | assumption))
   (@A9 _ _ _ _ _ (@M0 _ _ _ _ _ _ _ _ (B8 U2 (E3 T.ah (C9 T) (Rm n) (A6 (pv 0) (A6 B3 A8))) B3 (C8 _)) (@B5 _ _ _ (@C0 _ _ _ _ (@J4 _ _ _ _ _ (@A6 _ _ _ _ _ C1 (@A6 _ _ _ _ _ (@E6 _ _ _ _ _ _ _ (KN K) (@G5 _ _ _ _ (@A6 _ _ _ _ _ C1 (@A6 _ _ _ _ _ C1 (@A6 _ _ _ _ _ C1 (@A6 _ _ _ _ _ C1 (@A6 _ _ _ _ _ C1 (@A6 _ _ _ _ _ C1 A8 (by rfl)) (by rfl)) (by rfl)) (by rfl)) (by rfl)) (by rfl))) (E3 T.ah (C9 T) (Rm n) (A6 (pv 0) (A6 B3 A8))) (λ_ _=>rfl)) A8 (by rfl)) (by rfl))))) E4)
   (B5 (C0 (J4 (A6 C1 (A6 (E6 (KN K) (pv 3) (E3 T.ah (C9 T) (Rm n) (A6 (pv 0) (A6 B3 A8))) (λ_ _=>rfl)) A8))))))) E4)
   (A9 (M0 (B8 Nj (pv 2) B3 (C8 _)) (B5 (C0 (J4 (A6 C1 (A6 (E3 T.aw (Q3 T) (Rm n) (A6 (pv 0) (A6 (pv 1) A8))) A8))))) E4)
   (A9 (M0 (PW.pt (Ci (B8 Nj (pv 2) B3 (C8 _)) (m8 (B8 Nj (I0 (P4 K) T.au O8 (A6 (E6 (KN K) (pv 1) B3 (λ_ _=>rfl)) A8)) B3 (C8 _))))) (B5 (C0 (J4 (A6 C1 (A6 (E3 T.aw (Q3 T) (Rm n) (A6 (pv 0) (A6 (pv 1) A8))) (A6 (E3 T.aw (Q3 T) (Rm n) (A6 (pv 0) (A6 (pv 1) A8))) A8)))))) E4)
   (A9 (M0 (PW.pt (Ci (B8 (Vb K n.units) (E6 (KN K) (pv 1) B3 (λ_ _=>rfl)) (G5 A8) (C8 _)) (m8 (B8 Yl (E3 T.ah (C9 T) (Rm n) (A6 (pv 0) (A6 B3 A8))) B3 (C8 _))))) (B5 (C0 (G0 (Zy K) (J4 (A6 C1 A8)) (E6 (KN K) (I0 (Ev K) T.av M9 (A6 (E6 (KN K) (pv 1) B3 (λ_ _=>rfl)) A8)) (E3 T.ah (C9 T) (Rm n) (A6 (pv 0) (A6 (I0 (P4 K) T.au O8 (A6 (E6 (KN K) (pv 1) B3 (λ_ _=>rfl)) A8)) A8))) (λ_ _=>rfl))))) E4)
   (B5 (C0 (J4 (A6 C1 (A6 (E3 T.aw (Q3 T) (Rm n) (A6 (pv 0) (A6 (pv 1) A8))) (A6 (E3 T.aw (Q3 T) (Rm n) (A6 (pv 0) (A6 (pv 1) A8))) A8))))))))))),?_⟩
  obtain⟨⟨a,b,e1,e2,e3,n1,n2,n3⟩,pin,nm,st⟩:=id hO;have ok:∀x∈ss,PySem.PyData.strOk x=true:=λx hx=>P9 (nm.1 x hx);have ap:a≠p:=λz=>n2 (z▸v);have fresh:∀(t:A3) (B:Hp) (r:Int),Sm [p] H B->IK B p r->B t=none->H t=none:=λt B r k L m=>by
   cases e:H t with
   | none=>rfl
   | some x =>
    have tp:t≠p:=λz=>by rw[z,L.get]at m;cases m
    exact absurd (k _ _ e (by simpa using tp)) (by rw[m];intro z;cases z)
  have C:∀(d:JA) (r:Int) (B:Hp),r<=c+10->Sm [p] H B->IK B p r->(∀x∈d.strs,PySem.PyData.strOk x=true)->d.fit ss ps->∀t,B t=none->Q (.ref t) (HY B t (.tup (d.strs.map V.str))):=λd r B hc k L od fd t m =>
   q t d r _ (fresh t B r k L m) hc (k.trans (Cv.new m).sm) (L.same (Cv.new m)) ⟨A7,od⟩ fd
  obtain⟨ko1,ko2,ko3,Y⟩:=zFx;refine B4 λN1 hN1=>?_;refine C3 rfl (V8 (a:=p) (b:=c) rfl hL (by lia) (by decide) (by decide) λway B hw k1 L1=>?_);refine hN1 _ _ (B4 λN2 hN2=>?_);have e1a:=MI k1 e1 (λz=>n1 (z▸v));have e2a:=MI k1 e2 ap;refine Uh e1a e2a ok λbb Z s2 hbb=>?_;have k2:=k1.trans s2.sm;have L2:=L1.same s2;refine Z8 (λhb=>?_) λ_=>hN2 _ _ ?_
  .have fit:=hbb hb;refine⟨by show 16<=sizeLine;decide,λz hz=>?_⟩;have G:=Cv.new (o:=.lst [V.str "b",.str "ab",.str "x",.str "know",.str "c",.str "m",.str "ba",.str "aba",.str "xa",.str "ca",.str "ma",.str "bbb",.str "pq",.str "abcdefgh",.str "p",.str "pp"]) hz;have f3:(HY Z z (.lst [V.str "b",.str "ab",.str "x",.str "know",.str "c",.str "m",.str "ba",.str "aba",.str "xa",.str "ca",.str "ma",.str "bbb",.str "pq",.str "abcdefgh",.str "p",.str "pp"])) z=some (.lst (QI.map V.str)):=A7;have I:=L2.same G;have N:=k2.trans G.sm;generalize HY Z z (.lst [V.str "b",.str "ab",.str "x",.str "know",.str "c",.str "m",.str "ba",.str "aba",.str "xa",.str "ca",.str "ma",.str "bbb",.str "pq",.str "abcdefgh",.str "p",.str "pp"])=J at G f3 I N⊢;refine C3 rfl (V8 (a:=p) rfl I (by lia) (by decide) (by decide) λd4 H4 hd4 M O=>⟨rfl,_,rfl,?_⟩);have u:=N.trans M;refine Z8 (λ_=>?_) λ_=>?_
   .refine⟨by show 6<=sizeLine;decide,λz2 hz2=>?_⟩;have D:=Cv.new (o:=.lst [V.str "",.str "A",.str "abcdefghi",.str "a b",.str "a1",.str "ab\n"]) hz2;have L5:=O.same D;have pz:z2≠p:=(B0 O.get hz2).symm;refine C3 rfl (V8 (a:=p) rfl L5 (by lia) (by decide) (by decide) λd6 H6 hd6 R S=>?_);obtain⟨y,oy,ly,ey⟩:=zCa d6 (by lia);refine⟨z2,_,_,_,rfl,rfl,IG.of (MI R A7 pz),ey,⟨by show 2<=sizeLine;decide,λt m=>?_⟩⟩;exact C (.pn y) _ H6 (by lia) ((u.trans D.sm).trans R) S (λx hx=>by
     rcases AR.mp hx with rfl | hx
     .exact ko1
     .rw[AE.mp hx];exact oy) ⟨fit,ly⟩ t m
   .refine C3 rfl (C3 rfl (V8 (a:=p) rfl O (by lia) (by decide) (by decide) λd6 H6 hd6 R S=>?_));have zp:z≠p:=I.ne f3;have hi:QI[d6]?=some (QI[d6]'(by show d6<16;lia)):=AF _;refine⟨z,_,_,_,rfl,rfl,IG.of (MI R (MI M f3 zp) zp),Q2 (j:=d6) (by rw[AH,hi];rfl),⟨by show 2<=sizeLine;decide,λt m=>?_⟩⟩;exact C (.pn _) _ H6 (by lia) (u.trans R) S (λx hx=>by
     rcases AR.mp hx with rfl | hx
     .exact ko1
     .rw[AE.mp hx];exact(Lk _ (DL _)).1) ⟨fit,(Lk _ (DL _)).2⟩ t m
  .have O2:=hO.smp v k2;have e1b:=s2 _ _ e1a;have bp:b≠p:=λz=>n3 (z▸v);have e3b:=MI k2 e3 bp;have pin2:∀q∈ps,G8 Z q:=λq hq=>(O2.pin q hq).1;have okp:∀q∈ps,PySem.PyData.strOk q.2.1=true/\PySem.PyData.strOk q.2.2=true:=λq hq=>⟨ok _ (st.nm q hq).1,ok _ (st.nm q hq).2⟩;have two:∀(mk:Str->Str->JA) (kd:Str) (r:Int) (J:Hp),(∀y z,(mk y z).strs = [kd,y,z])->PySem.PyData.strOk kd=true->(∀y z,(mk y z).fit ss ps)->r<=c+4->Sm [p] H J->IK J p r ->
     zEp (U7 (tC (V.str kd)) (U7 (Sl Bh [] E0 (U7 (T9 0) (U7 (T9 1) Iy))) (U7 (Sl Bh [] E0 (U7 (T9 0) (U7 (T9 1) Iy))) Iy))) [some (.ref p),some (.ref o),some (.int (way:Int)),none] J Q:=λmk kd r J hs okd hf hc k L=>by
    refine C3 rfl (C3 rfl ⟨X,p,o,r,ss,ps,rfl,L,by lia,v,hO.smp v k,λy c4 H4 oy hc4 M O=>?_⟩);refine C3 rfl (C3 rfl ⟨X,p,o,c4,ss,ps,rfl,O,by lia,v,hO.smp v (k.trans M),λz c5 H5 oz hc5 k5 L5=>?_⟩);refine⟨by show 3<=sizeLine;decide,λt m=>?_⟩;have:=C (mk y z) c5 H5 (by lia) ((k.trans M).trans k5) L5 (λx hx=>by
     rw[hs]at hx;rcases AR.mp hx with rfl | hx
     .exact okd
     .rcases AR.mp hx with rfl | hx
      .exact oy
      .rw[AE.mp hx];exact oz) (hf y z) t m
    rw[hs]at this;exact this
   refine B4 λN3 hN3=>?_;refine C3 rfl (B9 rfl rfl ⟨_,rfl,Z8 (λ_=>?_) λ_=>hN3 _ _ ?_⟩)
   .refine C3 rfl (C3 rfl ⟨X,p,o,_,ss,ps,rfl,L2,by lia,v,O2,λy c3 J oy hc3 N I=>⟨by show 2<=sizeLine;decide,λt m=>?_⟩⟩);exact C (.tn y) c3 J (by lia) (k2.trans N) I (λx hx=>by
     rcases AR.mp hx with rfl | hx
     .exact ko2
     .rw[AE.mp hx];exact oy) VC t m
   .refine B4 λN4 hN4=>?_;have U:N4 [some (.ref p),some (.ref o),some (.int (way:Int)),none] Z:=by
     refine hN4 _ _ (B4 λN5 hN5=>?_);refine C3 rfl ⟨o,_,1,_,rfl,rfl,IG.of e1b,rfl,⟨CB _,λz hz=>?_⟩⟩;have G:=Cv.new (o:=.lst []) hz;have f3:(HY Z z (.lst [])) z=some (.lst []):=A7;have I:=L2.same G;have N:=k2.trans G.sm;have W:=G6 G pin2;have e1c:=G _ _ e1b;have e3c:=G _ _ e3b;generalize HY Z z (.lst [])=J at G f3 I N W e1c e3c⊢;refine Zn e3c W okp f3 ⟨_,rfl,?_⟩;refine Z8 (λne=>?_) λ_=>N9 (hN5 _ _ (two JA.ts _ _ J (λ_ _=>rfl) Y (λ_ _=>VC) (by lia) N I));refine C3 rfl (V8 (a:=p) rfl I (by lia) (by decide) (by decide) λd4 H4 hd4 M O=>B9 rfl rfl ⟨_,rfl,?_⟩);have u:=N.trans M;refine Z8 (λ_=>?_) λ_=>hN5 _ _ (two JA.ts _ _ H4 (λ_ _=>rfl) Y (λ_ _=>VC) (by lia) u O);have O4:=hO.smp v u;have e1d:=MI M e1c (λz=>n1 (z▸v));have e3d:=MI M e3c bp;refine⟨by show 1<=sizeLine;decide,λt1 ht1=>?_⟩;have D:=Cv.new (o:=.tup [.str "take_strike"]) ht1;have f5:(HY H4 t1 (.tup [.str "take_strike"])) t1=some (.tup [.str "take_strike"]):=A7;have L5:=O.same D;have O5:=O4.same D;have k5:=u.trans D.sm;generalize HY H4 t1 (.tup [.str "take_strike"])=H5 at D f5 L5 O5 k5⊢;refine C3 rfl ⟨o,_,1,_,rfl,rfl,IG.of (D _ _ e1d),rfl,b,ps,rfl,IG.of (D _ _ e3d),λq hq=>(O5.pin q hq).1,λl g hl pm _=>?_⟩;have u6:=Cv.new (o:=.lst (g.map λq=>V.ref q.1)) hl;have f6:(HY H5 l (.lst (g.map λq=>V.ref q.1))) l=some (.lst (E8 g)):=A7;have S:=L5.same u6;have O6:=O5.same u6;have R:=k5.trans u6.sm;have f5:=u6 _ _ f5;have e1e:=u6 _ _ (D _ _ e1d);have e3e:=u6 _ _ (D _ _ e3d);generalize HY H5 l (.lst (g.map λq=>V.ref q.1))=H6 at f6 S O6 R f5 e1e e3e⊢;refine C3 rfl (C3 rfl ⟨o,_,1,_,rfl,rfl,IG.of e1e,rfl,b,_,rfl,.inl (IG.of e3e),?_⟩);have rl:(E8 ps).length=ps.length:=by unfold E8;rw[AB]
     rw[rl];have pos:0<ps.length:=List.length_pos_iff.mpr λz=>by rw[z]at ne;cases ne
     refine V8 (a:=p) rfl S (by lia) (by lia) (by lia) λd7 H7 hd7 k7 L7=>?_;have ll:=pm.length_eq;have hi:g[d7]?=some g[d7]:=AF (by lia);have hm:g[d7]∈ps:=pm.mem_iff.mp (DL _);have lp:l≠p:=S.neP f6;have e7:=((O6.smp v k7).pin _ hm).1;have t1p:t1≠p:=λz=>by
      obtain⟨xa,xb,em,_⟩:=id S;rw[z,em]at f5;cases f5
     refine⟨l,_,_,_,rfl,rfl,IG.of (MI k7 f6 lp),Q2 (j:=d7) (by unfold E8;rw[AH,hi];rfl),?_⟩;refine⟨t1,g[d7].1,_,_,rfl,rfl,IU.of (MI k7 f5 t1p),IU.of e7,(λz=>by cases z),by show 3<=sizeLine;decide,(λz=>by cases z),λ_ t m=>?_⟩;exact C (.ts g[d7].2.1 g[d7].2.2) _ H7 (by lia) (R.trans k7) L7 (λx hx=>by
      rcases AR.mp hx with rfl | hx
      .exact Y
      .rcases AR.mp hx with rfl | hx
       .exact(okp _ hm).1
       .rw[AE.mp hx];exact(okp _ hm).2) VC t m
    refine C3 rfl (B9 rfl rfl ⟨_,rfl,Z8 (λ_=>?_) λ_=>N9 U⟩);refine C3 rfl ⟨o,_,1,_,rfl,rfl,IG.of e1b,rfl,b,_,rfl,.inl (IG.of e3b),B9 rfl rfl ⟨_,rfl,Z8 (λfew=>?_) λ_=>U⟩⟩;have rl:(E8 ps).length=ps.length:=by unfold E8;rw[AB]
    rw[rl]at few;have:=BL few;exact two JA.ps _ _ Z (λ_ _=>rfl) ko3 (λ_ _=>by show ps.length+1<=140;lia) (by lia) k2 L2
def Yg(x:Str):A0 Str:=(x.cps.toList.filter λc=>!Jz c).map λc=>⟨#[c]⟩
def Vo(x:Str):(Yg x).isEmpty=x.cps.toList.all Jz:=by
 unfold Yg;generalize x.cps.toList=l
 induction l with
 | nil=>rfl
 | cons c r a =>
  rw[BO,List.all_cons];cases h:Jz c with
  | true=>rw[AI (by decide),a,HS]
  | false=>rw[AN (by decide),DP];rfl
def zDz{x:Str}(h:PySem.PyData.strOk x=true):∀y∈Yg x,PySem.PyData.strOk y=true:=λy b=>by
 unfold Yg at b;obtain⟨c,a,rfl⟩:=BK.mp b;have a:=(AY.mp a).1;unfold PySem.PyData.strOk at h⊢;rw[Array.all_eq_true']at h;have:=h c (by rw[<-Array.mem_toList_iff];exact a);simpa using this
theorem LW:IB ["_law_word","_law_letters"] ["_law_word"] (B6 MN):=KL
def Ny:Sp:=λb H Q _=>∃x:Str,b = [.str x]/\PySem.PyData.strOk x=true/\x.length<=100/\∀a,Cv H a->Q (.bl (P2 x)) a
theorem Cs(T:Tx K mg):IJ P w K mg base JQ 1 T.aR.f T.aR.fd ["_law_word"] Ny:=by
 refine T.aR.F.o1 LW λJ A j s H W Q E p h=>?_
 .obtain⟨x,rfl,L,X,q⟩:=h;have Y:=Q8 p;refine⟨_,(A9 (C6 (i:=1) LW.nd rfl (.inr rfl) C1)
   (B5 (C0 (Bz (Wr Vr Vr B3 (I0 Ac T.au O8 (A6 (pv 0) A8)) B3) (Dt (R0 (Oi K p.units) (V9 (N':=["_law_sign","_law_letters"]) (cap:=[none,some 1]) (cl:=[("_law_letters",_)]) (O7 ⟨⟨rfl,rfl,rfl,rfl⟩,trivial⟩ ⟨rfl,trivial⟩) rfl (Xq (pv 0)) (λ_ _ _ _=>by exact⟨(LS 0),(K8 (B8 Ir (pv 0) (pv 1) rfl)),(pv 0)⟩)) (G5 A8) (C8 _))))))),?_⟩
  refine B4 λZ k=>?_;have l:x.length<=sizeLine:=by rw[sizeLine_eq];lia
  have r:x.cps.size=x.length:=rfl;refine k _ _ ?_;refine C3 rfl ⟨x,rfl,l,B9 rfl rfl (C3 rfl ?_)⟩;refine Z8 (λa=>?_) (λa=>?_)
  .have a:(1:Int)<=(x.length:Int):=BL a;refine B9 rfl rfl ⟨_,rfl,?_⟩;by_cases t:(x.length:Int)<=8
   .rw[AS t];refine Y6 ?_;refine C3 rfl ⟨x,rfl,λD u=>?_⟩;refine Gu (n:=x.cps.size) (λi σ m=>(∃v,σ = [v,some (.str "abcdefghijklmnopqrstuvwxyz")])/\Cv H m/\m D=some (.lst (((x.cps.toList.take i).filter λc=>!Jz c).map λc=>V.str ⟨#[c]⟩))) ⟨⟨_,rfl⟩,Cv.new u,A7⟩ (λi _ _ y _=>y) (λ_ _ _=>rfl) ?_ ?_
    .rintro i σ B v m N y ⟨⟨v0,rfl⟩,d,g⟩ ⟨rfl,c,M,rfl⟩ C;have O:x.cps.toList[i]?=some c:=by rw[BJ];exact M
     have G:((x.cps.toList.take (i+1)).filter λc=>!Jz c) =((x.cps.toList.take i).filter λc=>!Jz c)++if(!Jz c)=true then [c]else []:=by
      rw[D8 O,CM,BO,DQ]
     have R:=BC (λc=>!Jz c) (x.cps.toList.take i);rw[AZ]at R;refine C3 rfl (C3 rfl ⟨_,_,rfl,rfl,_,rfl,?_⟩);rw[PySem.StrLaws.found_one,Sf];refine Z8 (λb=>C3 rfl ⟨_,g,by rw[AB,sizeLine_eq];lia,C _ _ ⟨⟨_,rfl⟩,d.upd u,?_⟩⟩) (λb=>C _ _ ⟨⟨_,rfl⟩,d,?_⟩)
     .rw[A7,G,AN b,AK];rfl
     .rw[G,AI b,BW];exact g
    .rintro σ B ⟨_,d,g⟩;have S:B D=some (.lst ((Yg x).map V.str)):=by
      rw[g,<-AU,BR];unfold Yg;rw[BS];rfl
     refine⟨CB _,λz U=>?_⟩;have I:=Cv.new (o:=.lst []) U;refine Lj (I _ _ S) (zDz L) A7 ?_;have e:(Yg x).isEmpty=P2 x:=by
      unfold P2;rw[Vo,AS (show 1<=x.length by lia),AS (show x.length<=8 by lia)];rfl
     rw[e];exact q _ (d.trans I)
   .rw[AM t];refine N9 ?_;have e:P2 x=false:=by
     unfold P2;rw[AM (show ¬x.length<=8 by lia),HI,DP]
    have:=q H (Cv.refl H);rw[e]at this;exact this
  .have a:¬(1:Int)<=(x.length:Int):=λz=>a (AS z);refine⟨_,rfl,N9 ?_⟩;have e:P2 x=false:=by
    unfold P2;rw[AM (show ¬1<=x.length by lia),DP,DP]
   have:=q H (Cv.refl H);rw[e]at this;exact this
def JA.can(ss:A0 Str)(ps:A0 IM):JA->Prop
 | .pn y=>P2 y=true/\y∉ss
 | .tn y=>y∈ss
 | .ps a b=>a∈ss/\b∈ss/\(a,b)∉ps.map λq=>q.2
 | .ts a b=>a∈ss/\b∈ss/\(a,b)∈ps.map λq=>q.2
def Vf{K:VA}{H:Hp}{a z:A3}{ss:A0 Str}{Q:VK}(c:H a=some (.lst (ss.map V.str)))(f:∀x∈ss,PySem.PyData.strOk x=true)(hz:H z=some (.lst []))(q:Q (.bl (!ss.isEmpty)) H):TD K (.ref a) (.ref z) H Q:=by
 obtain⟨d,e,g,h,i,j,b⟩:=Lj (K:=K) (Q:=λv k=>v = .bl ss.isEmpty) c f hz rfl;refine⟨d,e,g,h,i,j,?_⟩;have b:PyData.eqv d e=ss.isEmpty:=(V.bl.inj b);rw[b];exact q
def Oq{J:It}{a D:A3}{ts:A0 Str}{r:St}{j:TT}{H:Hp}{Q:St->Hp->Prop}(p:Str->Bool)(as:NK J (ts.map V.str) a H)(u:ts.length<=1000)(k:H D=none)
  (w:∀y∈ts,∀g,Cv H g->∀l:Bool->Hp->Prop,(∀e,Cv g e->l (p y) e)->j (some (.str y)::r) g l) (h:∀σ e,Cv H e->e D=some (.lst ((ts.filter p).map V.str))->Q σ e) (m:A5 V) :
  Au (O0 0) j (Z7 D (T9 0)) J (m::r) (HY H D (.lst [])) Q:=by
 refine P1 as (λi σ f=>(∃v,σ=v::r)/\Cv H f/\f D=some (.lst (((ts.take i).filter p).map V.str)))
  ⟨⟨_,rfl⟩,Cv.new k,A7⟩ (λi σ g _ ⟨_,x,_⟩=>x.at a) ?_ ?_
 .rintro i σ f v N n ⟨⟨m,rfl⟩,b,d⟩ o;rw[AH]at n;obtain⟨y,q,rfl⟩:=BF.mp n;refine w y (BB q) f b _ λz s=>?_;have d:=s _ _ d;have b:=b.trans s;have t:(ts.take (i+1)).filter p =(ts.take i).filter p++if p y=true then [y]else []:=by
   rw[D8 q,CM,BO,DQ]
  have A:(((ts.take i).filter p).map V.str).length<=1000:=by
   rw[AB];have:=BC p (ts.take i);rw[AZ]at this;lia
  refine Z8 (λc=>C3 rfl ⟨_,d,by rw[sizeLine_eq];lia,o _ _ ⟨⟨_,rfl⟩,b.upd k,?_⟩⟩) (λc=>o _ _ ⟨⟨_,rfl⟩,b,?_⟩)
  .rw[A7,t,AN c,AK];rfl
  .rw[t,AI c,BW];exact d
 .rintro σ f ⟨_,b,d⟩;rw[AB,BR]at d;exact h σ f b d
def zAn{K:VA}{H:Hp}{t l:A3}{k:Str×Str}{ps:A0 IM}{Q:VK}(b:H t=some (.tup [.str k.1,.str k.2]))(c:H l=some (.lst (E8 ps)))(d:∀q∈ps,G8 H q)
  (a:PySem.PyData.strOk k.1=true/\PySem.PyData.strOk k.2=true) (e:∀q∈ps,PySem.PyData.strOk q.2.1=true/\PySem.PyData.strOk q.2.2=true) (q:Q (.bl (decide (k∈ps.map λq=>q.2))) H):SV K false (.ref t) (.ref l) H Q :=
 ⟨pd k,_,j9 b,.inl (Fi c d),⟨Ca a.1 a.2,by simp[pd,PyData.depth,PyData.depthAll]⟩,Es e,by rw[AI (by decide),Bm];exact q⟩
def zDh(x y:Str)(ss:A0 Str):([x,y].filter λn=>!decide (n∈ss)).isEmpty=decide (x∈ss/\y∈ss):=by
 by_cases c:x∈ss
 .by_cases d:y∈ss
  .rw[BO,AS c,BO,AS d,AS ⟨c,d⟩];rfl
  .rw[BO,AS c,BO,AM d,AM λz=>d z.2];rfl
 .rw[BO,AM c,AM λz=>c z.1];rfl
def Fy{K:VA}{H:Hp}{o t a b:A3}{kd:Str}{tl ss:A0 Str}{q:A5 V}{l:Bool->Hp->Prop}(r:H t=some (.tup ((kd::tl).map V.str)))(c:Hb ((kd::tl).map V.str) (some 1) none=tl.map V.str)
  (f:¬(HT.JN ((kd::tl).map V.str).length 0 (some 1)=0/\HT.JN ((kd::tl).map V.str).length ((kd::tl).map V.str).length none =((kd::tl).map V.str).length)) (s:H a=some (.lst (ss.map V.str))) (u:∀x∈tl,PySem.PyData.strOk x=true) (E:tl.length<=10)
  (h:∀H',Cv H H'->l (!(tl.filter λn=>!decide (n∈ss)).isEmpty) H') :
  i8 (OL (TD K) (Kj (zFo K (tSl (zEq K) (T9 1) (zDm (tC (V.int 1))) Pj)) (λ_=>HO.lst []) [none,some 2] λD J σ H Q=>Au (O0 0) (i8 (OL (SC K true) (T9 0) (T9 1))) (Z7 D (T9 0)) J σ H Q) (SR Iy)) [some (.ref o),some (.ref t),some (.ref a),some (.ref b),q] H l:=by
 refine C3 rfl ⟨1,rfl,t,_,rfl,IU.of r,f,λd g=>?_⟩;rw[c];have i:=Cv.new (o:=.tup (tl.map V.str)) g;have j:(HY H d (.tup (tl.map V.str))) d=some (.tup (tl.map V.str)):=A7;generalize HY H d (.tup (tl.map V.str))=F at i j⊢;refine⟨d,rfl,⟨_,IU.of j⟩,λD v=>?_⟩;refine Oq (λn=>!decide (n∈ss)) (asT (K:=K) (IU.of j)) (by lia) v (λy G m k I w=>?_) (λσ m k A=>?_) _
 .exact C3 rfl (C3 rfl (U4 (.inl (IG.of (k _ _ (i _ _ s)))) ⟨_,rfl,w m λb o e=>e⟩))
 .refine⟨CB _,λz B=>?_⟩;have p:=Cv.new (o:=.lst []) B;exact Vf (p _ _ A) (λx C=>u x (AY.mp C).1) A7 ⟨_,rfl,h _ ((i.trans k).trans p)⟩
theorem JR:IB ["_law_own","_law_deed_here","_law_names","_law_strikes","_law_word"] ["_law_own","_law_deed_here"] (B6 Le):=KL
def Yt:Sp:=λc H Q _=>∃(X:A0 A3) (o t:A3) (b:A0 Str) (ps:A0 IM) (d:JA),c = [.ref o,.ref t]/\JO X H o b ps/\MD H t d/\d.fit b ps/\(∀a,Cv H a->d.can b ps->Q .non a)/\∀r a,Cv H a->Q (.ref r) a
set_option maxHeartbeats 1000000 in
theorem Cf(T:Tx K mg):IJ P w K mg base JQ 3 T.aO.f T.aO.fd ["_law_own","_law_deed_here"] Yt:=by
 refine T.aO.F.o1 JR λcdv A outer s H vs Q E j h=>?_
 .obtain⟨X,o,t,G,ps,d,rfl,hO,hD,hf,Z,M⟩:=h;have hu:=Q8 j;refine⟨_,(A9 (Bl (pv 0) (pgL K (n:=2) (E7 (J0 (i:=2) JR.nd rfl (.inr rfl)) (E7 (J0 (i:=3) JR.nd rfl (.inl rfl)) Q9))))
   (A9 (C6 (i:=4) JR.nd rfl (.inl rfl) (E6 (OP K) (pv 1) B3 (λ_ _=>rfl)))
   (A9 (M0 (B8 U2 (pv 4) C1 (C8 _)) (B5 (C0 (Fp (PW.pt (Bj (U0 (Q5 (E3 T.aR (Cs T) (Rm j) (A6 (E6 (OP K) (pv 1) B3 (λ_ _=>rfl)) A8)))) (X8 (B8 (Og K) (E6 (OP K) (pv 1) B3 (λ_ _=>rfl)) (pv 2) rfl)))) (J4 (A6 C1 (A6 B3 A8))) g7))) E4)
   (A9 (M0 (B8 (Vb K j.units) (V9 (N':=["_law_name","_law_names"]) (cap:=[none,some 2]) (cl:=[("_law_names",_)]) (O7 ⟨⟨rfl,rfl,rfl,rfl⟩,trivial⟩ ⟨rfl,trivial⟩) rfl (piT K (Y2 (TK K) (pv 1) (y4 B3) w8)) (λ_ _ _ _=>by exact⟨(LS 0),(K8 (B8 (o0 K) (pv 0) (pv 1) rfl)),(pv 0)⟩)) (G5 A8) (C8 _)) (B5 (C0 (J4 (A6 C1 (A6 g7 A8))))) E4)
   (A9 (M0 (PW.pt (Ci (B8 U2 (pv 4) C1 (C8 _)) (m8 (B8 (zFp K j.units) (Y2 (TK K) (pv 1) (y4 B3) w8) (pv 3) rfl)))) (B5 (C0 (J4 (A6 C1 (A6 B3 A8))))) E4)
   (A9 (M0 (PW.pt (Ci (B8 U2 (pv 4) C1 (C8 _)) (m8 (B8 (Lq K j.units) (Y2 (TK K) (pv 1) (y4 B3) w8) (pv 3) rfl)))) (B5 (C0 (J4 (A6 C1 (A6 g7 A8))))) E4)
   (B5 (C0 g7)))))))),?_⟩
  obtain⟨⟨a,b,e1,e2,e3,n1,n2,n3⟩,S,nm,st⟩:=id hO;obtain⟨v,l⟩:=id hD;have ok:∀x∈G,PySem.PyData.strOk x=true:=λx N=>P9 (nm.1 x N);refine B4 λN1 hN1=>?_;refine⟨_,rfl,o,_,rfl,IG.of e1,rfl,_,C3 rfl (B9 rfl rfl (hN1 _ _ (B4 λN2 I=>?_)))⟩;have g:∀{x y:Str},x≠y->decide (V.str x=V.str y)=false:=λh=>AM λz=>h (V.str.inj z);cases d with
  | pn y =>
   obtain⟨hf1,hf2⟩:=hf;refine C3 rfl ⟨t,_,0,_,rfl,rfl,IU.of v,rfl,I _ _ (B4 λN3 u=>?_)⟩;refine C3 rfl ⟨rfl,_,rfl,Y6 ?_⟩;refine C3 rfl ⟨t,_,1,_,rfl,rfl,IU.of v,rfl,y,rfl,l y (AL _ (AX ..)),hf2,λU p=>⟨_,rfl,?_⟩⟩;cases hb:P2 y with
   | false=>exact Y6 (Y6 ⟨by show 2<=sizeLine;decide,λr j=>M r _ (p.trans (Cv.new j))⟩)
   | true =>
    refine N9 (C3 rfl ⟨t,_,1,_,rfl,rfl,IU.of (p _ _ v),rfl,C3 rfl (V2 (.inl (IG.of (p _ _ e2))) ⟨_,rfl,?_⟩)⟩);by_cases c:y∈G
    .rw[AS c];exact Y6 ⟨by show 2<=sizeLine;decide,λr j=>M r _ (p.trans (Cv.new j))⟩
    .rw[AM c];exact N9 (Z _ p ⟨hb,c⟩)
  | tn y =>
   refine C3 rfl ⟨t,_,0,_,rfl,rfl,IU.of v,rfl,I _ _ (B4 λN3 u=>?_)⟩;refine C3 rfl ⟨rfl,_,rfl,?_⟩;rw[g (by decide +kernel)];refine N9 (u _ _ (B4 λN4 B=>?_));refine Fy (tl:=[y]) v rfl (by show ¬(HT.JN 2 0 (some 1)=0/\HT.JN 2 2 none=2);decide) e2 (λx N=>l x (AL _ N)) (by show 1<=10;decide) λU p=>?_;by_cases c:y∈G
   .have e:([y].filter λn=>!decide (n∈G)) = []:=by rw[BO,AS c];rfl
    rw[e];refine N9 (B _ _ (B4 λN5 C=>?_));refine C3 rfl ⟨rfl,_,rfl,?_⟩;rw[g (by decide +kernel)];refine N9 (N9 (C _ _ (B4 λN6 D=>?_)));refine C3 rfl ⟨rfl,_,rfl,?_⟩;rw[g (by decide +kernel)];exact N9 (N9 (D _ _ (Z _ p c)))
   .have e:([y].filter λn=>!decide (n∈G)) = [y]:=by rw[BO,AM c];rfl
    rw[e];exact Y6 ⟨by show 2<=sizeLine;decide,λr j=>M r _ (p.trans (Cv.new j))⟩
  | ps x y =>
   have W:¬(HT.JN 3 0 (some 1)=0/\HT.JN 3 3 none=3):=by decide
   have ox:PySem.PyData.strOk x=true/\PySem.PyData.strOk y=true:=⟨l x (AL _ (AX ..)),l y (AL _ (AL _ (AX ..)))⟩;have O:∀q∈ps,PySem.PyData.strOk q.2.1=true/\PySem.PyData.strOk q.2.2=true:=λq J=>⟨ok _ (st.nm q J).1,ok _ (st.nm q J).2⟩;refine C3 rfl ⟨t,_,0,_,rfl,rfl,IU.of v,rfl,I _ _ (B4 λN3 u=>?_)⟩;refine C3 rfl ⟨rfl,_,rfl,?_⟩;rw[g (by decide +kernel)];refine N9 (u _ _ (B4 λN4 B=>?_));refine Fy (tl:=[x,y]) v rfl W e2 (λx N=>l x (AL _ N)) (by show 2<=10;decide) λU p=>?_;rw[zDh];by_cases c:x∈G/\y∈G
   .rw[AS c];refine N9 (B _ _ (B4 λN5 C=>?_));refine C3 rfl ⟨rfl,_,rfl,?_⟩;refine Y6 (C3 rfl ⟨1,rfl,t,_,rfl,IU.of (p _ _ v),W,λY R=>C3 rfl ?_⟩);have u2:=Cv.new (o:=.tup [.str x,.str y]) R;have f2:(HY U Y (.tup [.str x,.str y])) Y=some (.tup [.str x,.str y]):=A7;have L:=p.trans u2;refine zAn (k:=(x,y)) f2 (L _ _ e3) (λq J=>L _ _ (S q J).1) ox O ⟨_,rfl,?_⟩;by_cases m:(x,y)∈ps.map λq=>q.2
    .rw[AS m];exact Y6 ⟨by show 2<=sizeLine;decide,λr j=>M r _ (L.trans (Cv.new j))⟩
    .rw[AM m];refine N9 (C _ _ (B4 λN6 D=>?_));refine C3 rfl ⟨rfl,_,rfl,?_⟩;rw[g (by decide +kernel)];exact N9 (N9 (D _ _ (Z _ L ⟨c.1,c.2,m⟩)))
   .rw[AM c];exact Y6 ⟨by show 2<=sizeLine;decide,λr j=>M r _ (p.trans (Cv.new j))⟩
  | ts x y =>
   have W:¬(HT.JN 3 0 (some 1)=0/\HT.JN 3 3 none=3):=by decide
   have ox:PySem.PyData.strOk x=true/\PySem.PyData.strOk y=true:=⟨l x (AL _ (AX ..)),l y (AL _ (AL _ (AX ..)))⟩;have O:∀q∈ps,PySem.PyData.strOk q.2.1=true/\PySem.PyData.strOk q.2.2=true:=λq J=>⟨ok _ (st.nm q J).1,ok _ (st.nm q J).2⟩;refine C3 rfl ⟨t,_,0,_,rfl,rfl,IU.of v,rfl,I _ _ (B4 λN3 u=>?_)⟩;refine C3 rfl ⟨rfl,_,rfl,?_⟩;rw[g (by decide +kernel)];refine N9 (u _ _ (B4 λN4 B=>?_));refine Fy (tl:=[x,y]) v rfl W e2 (λx N=>l x (AL _ N)) (by show 2<=10;decide) λU p=>?_;rw[zDh];by_cases c:x∈G/\y∈G
   .rw[AS c];refine N9 (B _ _ (B4 λN5 C=>?_));refine C3 rfl ⟨rfl,_,rfl,?_⟩;rw[g (by decide +kernel)];refine N9 (N9 (C _ _ (B4 λN6 D=>?_)));refine C3 rfl ⟨rfl,_,rfl,?_⟩;refine Y6 (C3 rfl ⟨1,rfl,t,_,rfl,IU.of (p _ _ v),W,λY R=>C3 rfl ?_⟩);have u2:=Cv.new (o:=.tup [.str x,.str y]) R;have f2:(HY U Y (.tup [.str x,.str y])) Y=some (.tup [.str x,.str y]):=A7;have L:=p.trans u2;refine Ef (k:=(x,y)) f2 (L _ _ e3) (λq J=>L _ _ (S q J).1) ox O ⟨_,rfl,?_⟩;by_cases m:(x,y)∈ps.map λq=>q.2
    .rw[AS m];exact N9 (D _ _ (Z _ L ⟨c.1,c.2,m⟩))
    .rw[AM m];exact Y6 ⟨by show 2<=sizeLine;decide,λr j=>M r _ (L.trans (Cv.new j))⟩
   .rw[AM c];exact Y6 ⟨by show 2<=sizeLine;decide,λr j=>M r _ (p.trans (Cv.new j))⟩
def JA.names(ss:A0 Str):JA->A0 Str
 | .pn y=>ss ++ [y]
 | .tn y=>ss.filter λn=>!decide (n=y)
 | _=>ss
def JA.prs(c:A0 (Str×Str)):JA->A0 (Str×Str)
 | .pn _=>c
 | .tn y=>c.filter λq=>!decide (y=q.1\/y=q.2)
 | .ps a b=>c ++ [(a,b)]
 | .ts a b=>c.filter λq=>!decide (q =(a,b))
def Zi{K:VA}{a D:A3}{k:A0 IM}{r:St}{m:TT}{n:TE}{H:Hp}{Q:St->Hp->Prop}(p:IM->Bool)(e:H a=some (.lst (E8 k)))(z:k.length<=1000)(o:H D=none)
  (A:∀y∈k,∀b,Cv H b->∀g:Bool->Hp->Prop,g (p y) b->m (some (.ref y.1)::r) b g) (B:∀y∈k,∀b,Cv H b->∀g:VK,g (.str y.2.2) b->n (some (.ref y.1)::r) b g) (h:∀σ q,Cv H q->Q σ q) (s:A5 V) :
  Au (O0 0) m (Z7 D n) (P_ K a) (s::r) (HY H D (.lst [])) Q:=by
 refine P1 (PF (K:=K) (IG.of e)) (λi σ d=>(∃v,σ=v::r)/\Cv H d/\∃j:A0 V,d D=some (.lst j)/\j.length<=i)
  ⟨⟨_,rfl⟩,Cv.new o,[],A7,VD _⟩ (λi σ b _ ⟨_,C,_⟩=>C.at a) ?_ ?_
 .rintro i σ d v N l ⟨⟨s,rfl⟩,f,j,t,E⟩ u;unfold E8 at l;rw[AH]at l;obtain⟨y,w,rfl⟩:=BF.mp l;have F:=(AJ.mp w).1;have x:=BB w;refine A y x d f _ (Z8 (λc=>B y x d f _ ⟨j,t,by rw[sizeLine_eq];lia,u _ _ ⟨⟨_,rfl⟩,f.upd o,_,A7,by rw[AV];exact E_ E⟩⟩) (λc=>u _ _ ⟨⟨_,rfl⟩,f,j,t,by lia⟩))
 .rintro σ d ⟨_,f,_⟩;exact h σ d f
theorem JD:IB ["_law_own","_law_deed_here","_law_names","_law_strikes","_law_word","_law_name","_law_spread"] ["_law_own","_law_deed_here"] (B6 MO):=KL
def Nv:Sp:=λg H Q _=>∃(X:A0 A3) (o t:A3) (c:A0 Str) (ps:A0 IM) (d:JA),g = [.ref o,.ref t]/\(∀z∈X,H z≠none)/\JO X H o c ps/\MD H t d/\d.fit c ps/\d.can c ps/\ps.length<=199 /\
 ∀r f h a b e,Cv H e->H r=none->e r=some (.tup [.ref f,.ref h])->JO X e f a b->a=d.names c->(b.map λq=>q.2)=d.prs (ps.map λq=>q.2)->Q (.ref r) e
set_option maxHeartbeats 1000000 in
theorem Cr(T:Tx K mg):IJ P w K mg base JQ 1 T.aS.f T.aS.fd ["_law_own","_law_deed_here"] Nv:=by
 refine T.aS.F.o1 JD λcdv A outer s H vs Q E hr h=>?_
 .obtain⟨X,o,t,ss,ps,d,rfl,hX,hO,hD,hf,hc,lp,q⟩:=h;have hu:=Q8 hr;refine⟨_,(A9 (Bl (pv 0) (pgL K (n:=2) (E7 (J0 (i:=2) JD.nd rfl (.inl rfl)) (E7 (J0 (i:=3) JD.nd rfl (.inl rfl)) Q9))))
   (A9 (Bl (Y2 (zHi K) (pv 1) w8 (y4 B3)) (QX K (n:=2) (E7 (J0 (i:=4) JD.nd rfl (.inl rfl)) (E7 (J0 (i:=5) JD.nd rfl (.inr rfl)) Q9))))
   (A9 (M0 (B8 U2 (pv 4) C1 (C8 _)) (B5 (C0 (J4 (A6 (G5 (A6 (G0 Dr (pv 2) (G5 (A6 (pv 5) A8))) (A6 (y8 (X3 K) T.az T3 (A6 (pv 3) A8)) A8))) (A6 (G5 (A6 (pv 5) A8)) A8))))) E4)
   (A9 (M0 (B8 U2 (pv 4) C1 (C8 _)) (A9 (V4 (i:=6) (N':=["_law_pair","_law_name"]) (cap:=[none,some 5]) (cl:=[("_law_name",_)]) JD.nd rfl (.inl rfl) (O7 ⟨⟨rfl,rfl,rfl,rfl⟩,trivial⟩ ⟨rfl,trivial⟩) rfl (MW K (pv 3)) (λ_ _ _ _=>by exact⟨(LS 0),(K8 (PW.pt (Ci (B8 U2 (E6 (OP K) (pv 0) B3 (λ_ _=>rfl)) (pv 1) (C8 _)) (m8 (B8 Cy (E6 (OP K) (pv 0) B3 (λ_ _=>rfl)) (pv 1) (C8 _)))))),(E6 (OP K) (pv 0) B3 (λ_ _=>rfl))⟩))
   (B5 (C0 (J4 (A6 (G5 (A6 (V9 (N':=["_law_one","_law_name"]) (cap:=[none,some 5]) (cl:=[("_law_name",_)]) (O7 ⟨⟨rfl,rfl,rfl,rfl⟩,trivial⟩ ⟨rfl,trivial⟩) rfl (MW K (pv 2)) (λ_ _ _ _=>by exact⟨(LS 0),(K8 (B8 Cy (pv 0) (pv 1) (C8 _))),(pv 0)⟩)) (A6 (V9 (N':=["_law_pair","_law_name"]) (cap:=[none,some 5]) (cl:=[("_law_name",_)]) (O7 ⟨⟨rfl,rfl,rfl,rfl⟩,trivial⟩ ⟨rfl,trivial⟩) rfl (MW K (pv 3)) (λ_ _ _ _=>by exact⟨(LS 0),(K8 (B8 (o0 K) (pv 1) (pv 0) rfl)),(pv 0)⟩)) A8))) (A6 (pv 6) A8)))))) E4)
   (A9 (M0 (B8 U2 (pv 4) C1 (C8 _)) (B5 (C0 (J4 (A6 (G5 (A6 (y8 (X3 K) T.az T3 (A6 (pv 2) A8)) (A6 (G0 Dr (pv 3) (G5 (A6 (Y2 (TK K) (pv 1) (y4 B3) w8) A8))) A8))) (A6 (G5 (A6 (E6 (OP K) (pv 1) B3 (λ_ _=>rfl)) A8)) A8))))) E4)
   (B5 (C0 (J4 (A6 (G5 (A6 (y8 (X3 K) T.az T3 (A6 (pv 2) A8)) (A6 (V9 (N':=["_law_pair","_law_deed_here"]) (cap:=[none,some 1]) (cl:=[("_law_deed_here",_)]) (O7 ⟨⟨rfl,rfl,rfl,rfl⟩,trivial⟩ ⟨rfl,trivial⟩) rfl (MW K (pv 3)) (λ_ _ _ _=>by exact⟨(LS 0),(K8 (B8 (Vb K hr.units) (pv 0) (Y2 (TK K) (pv 1) (y4 B3) w8) (C8 _))),(pv 0)⟩)) A8))) (A6 (G5 (A6 (E6 (OP K) (pv 1) B3 (λ_ _=>rfl)) A8)) A8)))))))))),?_⟩
  obtain⟨⟨a,b,e1,e2,e3,n1,n2,n3⟩,k,nm,st⟩:=id hO;obtain⟨et,okd⟩:=id hD;have ok:∀x∈ss,PySem.PyData.strOk x=true:=λx hx=>P9 (nm.1 x hx);have N:∀z,H z=none->z∉X:=λz Z hx=>hX z hx Z;have fin:∀(l x y sa:A3) (S:A0 Str) (U:A0 IM) (O:Hp),Cv H O->O l=some (.lst [.ref x,.ref y])->O x=some (.lst (S.map V.str))->O y=some (.lst (E8 U))->H l=none->H x=none->H y=none ->
    (∀q∈U,G8 O q/\q.1∉X)->X4 S->NN S U->S=d.names ss->(U.map λq=>q.2)=d.prs (ps.map λq=>q.2)->∀r,O r=none->Q (.ref r) (HY O r (.tup [.ref l,.ref sa])) :=
   λl x y sa S U O s el ex ey l0 x0 y0 pn nm2 st2 hn hp r hr=>by
    have u:=Cv.new (o:=.tup [.ref l,.ref sa]) hr;exact q r l sa S U _ (s.trans u) (s.free hr) A7 ⟨⟨x,y,u _ _ el,u _ _ ex,u _ _ ey,N l l0,N x x0,N y y0⟩,λq m=>⟨u _ _ (pn q m).1,(pn q m).2⟩,nm2,st2⟩ hn hp
  refine B4 λN1 hN1=>?_;refine⟨_,rfl,o,_,rfl,IG.of e1,rfl,_,C3 rfl (B9 rfl rfl (hN1 _ _ (B4 λN2 hN2=>?_)))⟩;have g:∀{x y:Str},x≠y->decide (V.str x=V.str y)=false:=λh=>AM λz=>h (V.str.inj z);cases d with
  | pn y =>
   obtain⟨hc1,hc2⟩:=hc;refine C3 rfl ⟨2,rfl,.inr ⟨t,_,rfl,IU.of et,by show HT.JN 2 0 none=0/\HT.JN 2 2 (some 2)=2;decide,?_⟩⟩;refine⟨t,_,rfl,IU.of et,rfl,_,C3 rfl (B9 rfl rfl (hN2 _ _ (B4 λN3 W=>?_)))⟩;refine C3 rfl ⟨rfl,_,rfl,Y6 ?_⟩;refine C3 rfl (C3 rfl ⟨by show 1<=sizeLine;decide,λl1 hl1=>?_⟩);have u1:=Cv.new (o:=.lst [V.str y]) hl1;have f1:(HY H l1 (.lst [V.str y])) l1=some (.lst [V.str y]):=A7;generalize HY H l1 (.lst [V.str y])=O at u1 f1⊢;refine⟨a,l1,_,_,rfl,rfl,u1 _ _ e2,f1,by rw[AB,sizeLine_eq];show ss.length+1<=_;have:=hf.1;lia,λj D=>?_⟩;have u2:=Cv.new (o:=.lst (ss.map V.str ++ [V.str y])) D;have Y:(HY O j (.lst (ss.map V.str ++ [V.str y]))) j=some (.lst ((ss ++ [y]).map V.str)):=by rw[A7,AK];rfl
   generalize HY O j (.lst (ss.map V.str ++ [V.str y]))=H2 at u2 Y⊢;have G:=u1.trans u2;refine C3 rfl ⟨b,_,rfl,.inl (IG.of (G _ _ e3)),λI hl3=>?_⟩;have u3:=Cv.new (o:=.lst (E8 ps)) hl3;have f3:(HY H2 I (.lst (E8 ps))) I=some (.lst (E8 ps)):=A7;have Y:=u3 _ _ Y;generalize HY H2 I (.lst (E8 ps))=L at u3 Y f3⊢;have M:=G.trans u3;refine⟨by show 2<=sizeLine;decide,λC p=>?_⟩;have B:=Cv.new (o:=.lst [.ref j,.ref I]) p;have R:(HY L C (.lst [.ref j,.ref I])) C=some (.lst [.ref j,.ref I]):=A7;generalize HY L C (.lst [.ref j,.ref I])=H4 at B R⊢;have s4:=M.trans B;refine C3 rfl ⟨by show 1<=sizeLine;decide,λl5 hl5=>?_⟩;have u5:=Cv.new (o:=.lst [V.str y]) hl5;have u45:=B.trans u5;have s5:=s4.trans u5;refine⟨by show 2<=sizeLine;decide,fin C j I l5 (ss ++ [y]) ps _ s5 (u5 _ _ R) (u45 _ _ Y) (u45 _ _ f3) (M.free p) (u1.free D) (G.free hl3) (λq m=>⟨s5 _ _ (k q m).1,(k q m).2⟩) ⟨λn hn=>(AO.mp hn).elim (nm.1 n) λc=>by rw[AE.mp c];exact hc1,CI.mpr ⟨nm.2.1,CL.mpr ⟨A_,D_⟩,λc hc d hd e=>hc2 (by rw[<-AE.mp hd,<-e];exact hc)⟩,by rw[AV];have:=hf.1;show ss.length+1<=100;lia⟩ ⟨λq m=>⟨AO.mpr (.inl (st.nm q m).1),AO.mpr (.inl (st.nm q m).2)⟩,st.nd,st.len⟩ rfl rfl⟩
  | tn y =>
   have v:∀z:Str,decide (V.str z=V.str y)=decide (z=y):=λz=>EK.mpr ⟨λe=>V.str.inj e,λe=>congrArg V.str e⟩;refine C3 rfl ⟨2,rfl,.inr ⟨t,_,rfl,IU.of et,by show HT.JN 2 0 none=0/\HT.JN 2 2 (some 2)=2;decide,?_⟩⟩;refine⟨t,_,rfl,IU.of et,rfl,_,C3 rfl (B9 rfl rfl (hN2 _ _ (B4 λN3 W=>?_)))⟩;refine C3 rfl ⟨rfl,_,rfl,?_⟩;rw[g (by decide +kernel)];refine N9 (W _ _ (B4 λN4 hN4=>?_));refine C3 rfl ⟨rfl,_,rfl,Y6 (B4 λN5 hN5=>?_)⟩;have OZ:ps.length<=1000:=by lia
   refine C3 rfl ⟨b,rfl,⟨_,IG.of e3⟩,λD1 hD1=>?_⟩;refine Zi (λq=>decide (q.2.1=y)&&!decide (q.2.2=y)) e3 OZ hD1 (λz Z O s1 Q' hQ=>?_) (λz Z O s1 Q' hQ=>?_) (λσ O s1=>?_) _
   .have ez:=s1 _ _ (k z Z).1;refine C3 rfl ⟨z.1,_,0,_,rfl,rfl,IU.of ez,rfl,C3 rfl ⟨rfl,_,rfl,?_⟩⟩;rw[v];by_cases c:z.2.1=y
    .rw[AS c];refine Y6 (C3 rfl ⟨z.1,_,1,_,rfl,rfl,IU.of ez,rfl,C3 rfl ⟨rfl,_,rfl,?_⟩⟩);rw[v];rw[AS c,HS]at hQ;exact hQ
    .rw[AM c];rw[AM c,DP]at hQ;exact N9 hQ
   .exact C3 rfl ⟨z.1,_,1,_,rfl,rfl,IU.of (s1 _ _ (k z Z).1),rfl,hQ⟩
   refine hN5 _ _ ?_;refine C3 rfl ⟨a,rfl,⟨_,IG.of (s1 _ _ e2)⟩,λD2 hD2=>?_⟩;refine U5 (λn=>!decide (n=y)) (s1 _ _ e2) (by have:=nm.2.2;lia) hD2 (λz Z H2 G Q' hQ=>?_) (λσ H2 G Y=>?_) _
   .refine C3 rfl (C3 rfl ⟨rfl,_,rfl,?_⟩);rw[v];exact hQ H2 λb o e=>e
   have s12:=s1.trans G;refine C3 rfl ⟨b,rfl,⟨_,IG.of (s12 _ _ e3)⟩,λD3 hD3=>?_⟩;refine Kv (λq=>!decide (y=q.2.1\/y=q.2.2)) (s12 _ _ e3) OZ hD3 (λz Z L M Q' hQ=>?_) (λσ L M f3=>?_) _
   .have ez:=M _ _ (s12 _ _ (k z Z).1);refine C3 rfl (C3 rfl (U4 (ss:=[z.2.1,z.2.2]) (.inr (IU.of ez)) ⟨_,rfl,?_⟩));have:(!decide (y∈[z.2.1,z.2.2]))=!decide (y=z.2.1\/y=z.2.2):=congrArg Bool.not (EK.mpr (by rw[AR,AE]));rw[this];exact hQ L λb o e=>e
   have s13:=s12.trans M;refine⟨by show 2<=sizeLine;decide,λC p=>?_⟩;have B:=Cv.new (o:=.lst [.ref D2,.ref D3]) p;have R:(HY L C (.lst [.ref D2,.ref D3])) C=some (.lst [.ref D2,.ref D3]):=A7;generalize HY L C (.lst [.ref D2,.ref D3])=H4 at B R⊢;have s14:=s13.trans B;refine C3 rfl ⟨by show 2<=sizeLine;decide,fin C D2 D3 D1 _ _ H4 s14 R (B _ _ (M _ _ Y)) (B _ _ f3) (s13.free p) (s1.free hD2) (s12.free hD3) (λq m=>⟨s14 _ _ (k q (AY.mp m).1).1,(k q (AY.mp m).1).2⟩) ⟨λn hn=>nm.1 n (AY.mp hn).1,nm.2.1.filter _,VE (BC ..) nm.2.2⟩ ⟨λq m=>?_,st.nd.sublist (DW.map _),VE (BC ..) st.len⟩ rfl (by show _=List.filter (λq:Str×Str=>!decide (y=q.1\/y=q.2)) (ps.map λq=>q.2);rw[GE];rfl)⟩;obtain⟨q1,q2⟩:=AY.mp m;have q3:¬(y=q.2.1\/y=q.2.2):=by simpa using q2
   exact⟨AY.mpr ⟨(st.nm q q1).1,by rw[AM λe=>q3 (.inl e.symm)];rfl⟩,AY.mpr ⟨(st.nm q q1).2,by rw[AM λe=>q3 (.inr e.symm)];rfl⟩⟩
  | ps x y =>
   obtain⟨hx,hy,hxy⟩:=hc;refine C3 rfl ⟨2,rfl,.inl ⟨t,_,rfl,IU.of et,by show ¬(HT.JN 3 0 none=0/\HT.JN 3 3 (some 2)=3);decide,λT1 hT1=>?_⟩⟩;have u0:=Cv.new (o:=.tup (Hb ((JA.ps x y).strs.map V.str) none (some 2))) hT1;have f0:(HY H T1 (.tup (Hb ((JA.ps x y).strs.map V.str) none (some 2)))) T1=some (.tup [.str "put_strike",.str x]):=A7;generalize HY H T1 (.tup (Hb ((JA.ps x y).strs.map V.str) none (some 2)))=H0 at u0 f0⊢;refine⟨T1,_,rfl,IU.of f0,rfl,_,C3 rfl (B9 rfl rfl (hN2 _ _ (B4 λN3 W=>?_)))⟩;refine C3 rfl ⟨rfl,_,rfl,?_⟩;rw[g (by decide +kernel)];refine N9 (W _ _ (B4 λN4 hN4=>?_));refine C3 rfl ⟨rfl,_,rfl,?_⟩;rw[g (by decide +kernel)];refine N9 (hN4 _ _ (B4 λN5 hN5=>?_));refine C3 rfl ⟨rfl,_,rfl,Y6 ?_⟩;refine C3 rfl ⟨a,_,rfl,.inl (IG.of (u0 _ _ e2)),λj D=>?_⟩;have u2:=Cv.new (o:=.lst (ss.map V.str)) D;have Y:(HY H0 j (.lst (ss.map V.str))) j=some (.lst (ss.map V.str)):=A7;generalize HY H0 j (.lst (ss.map V.str))=H2 at u2 Y⊢;have G:=u0.trans u2;refine C3 rfl (C3 rfl ⟨1,rfl,t,_,rfl,IU.of (G _ _ et),by show ¬(HT.JN 3 0 (some 1)=0/\HT.JN 3 3 none=3);decide,λJ hT2=>⟨by show 1<=sizeLine;decide,λl1 hl1=>?_⟩⟩);have u3:=Cv.new (o:=.tup (Hb ((JA.ps x y).strs.map V.str) (some 1) none)) hT2;have f3:(HY H2 J (.tup (Hb ((JA.ps x y).strs.map V.str) (some 1) none))) J=some (.tup [.str x,.str y]):=A7;generalize HY H2 J (.tup (Hb ((JA.ps x y).strs.map V.str) (some 1) none))=L at u3 f3 hl1⊢;have B:=Cv.new (o:=.lst [.ref J]) hl1;have R:(HY L l1 (.lst [.ref J])) l1=some (.lst [.ref J]):=A7;generalize HY L l1 (.lst [.ref J])=H4 at B R⊢;have M:=G.trans u3;have s4:=M.trans B;refine⟨b,l1,_,_,rfl,rfl,s4 _ _ e3,R,by unfold E8;rw[AB,sizeLine_eq];show ps.length+1<=_;lia,λI hl3=>?_⟩;have u5:=Cv.new (o:=.lst (E8 ps ++ [V.ref J])) hl3;have f5:(HY H4 I (.lst (E8 ps ++ [V.ref J]))) I=some (.lst (E8 (ps ++ [(J,x,y)]))):=by rw[A7];unfold E8;rw[AK];rfl
   generalize HY H4 I (.lst (E8 ps ++ [V.ref J]))=H5 at u5 f5⊢;have s5:=s4.trans u5;refine⟨by show 2<=sizeLine;decide,λC p=>?_⟩;have u6:=Cv.new (o:=.lst [.ref j,.ref I]) p;have f6:(HY H5 C (.lst [.ref j,.ref I])) C=some (.lst [.ref j,.ref I]):=A7;generalize HY H5 C (.lst [.ref j,.ref I])=H6 at u6 f6⊢;have s6:=s5.trans u6;refine C3 rfl ⟨t,_,2,_,rfl,rfl,IU.of (s6 _ _ et),rfl,⟨by show 1<=sizeLine;decide,λl5 hl5=>?_⟩⟩;have u7:=Cv.new (o:=.lst [V.str y]) hl5;have s7:=s6.trans u7;have u27:=(((u3.trans B).trans u5).trans u6).trans u7;have u37:=((B.trans u5).trans u6).trans u7;refine⟨by show 2<=sizeLine;decide,fin C j I l5 ss (ps ++ [(J,x,y)]) _ s7 (u7 _ _ f6) (u27 _ _ Y) ((u6.trans u7) _ _ f5) (s5.free p) (u0.free D) (s4.free hl3) (λq m=>?_) nm ⟨λq m=>?_,?_,by rw[AV];show ps.length+1<=200;lia⟩ rfl (by rw[AK];rfl)⟩
   .rcases AO.mp m with c | c
    .exact⟨s7 _ _ (k q c).1,(k q c).2⟩
    .rw[AE.mp c];exact⟨u37 _ _ f3,N J (G.free hT2)⟩
   .rcases AO.mp m with c | c
    .exact st.nm q c
    .rw[AE.mp c];exact⟨hx,hy⟩
   .rw[AK];exact CI.mpr ⟨st.nd,CL.mpr ⟨A_,D_⟩,λc hc d hd e=>hxy (by rw[AE.mp hd]at e;exact(show c =(x,y)from e)▸hc)⟩
  | ts x y =>
   obtain⟨hx,hy,hxy⟩:=hc;have ox:PySem.PyData.strOk x=true/\PySem.PyData.strOk y=true:=⟨ok x hx,ok y hy⟩;have okp:∀q∈ps,PySem.PyData.strOk q.2.1=true/\PySem.PyData.strOk q.2.2=true:=λq m=>⟨ok _ (st.nm q m).1,ok _ (st.nm q m).2⟩;refine C3 rfl ⟨2,rfl,.inl ⟨t,_,rfl,IU.of et,by show ¬(HT.JN 3 0 none=0/\HT.JN 3 3 (some 2)=3);decide,λT1 hT1=>?_⟩⟩;have u0:=Cv.new (o:=.tup (Hb ((JA.ts x y).strs.map V.str) none (some 2))) hT1;have f0:(HY H T1 (.tup (Hb ((JA.ts x y).strs.map V.str) none (some 2)))) T1=some (.tup [.str "take_strike",.str x]):=A7;generalize HY H T1 (.tup (Hb ((JA.ts x y).strs.map V.str) none (some 2)))=H0 at u0 f0⊢;refine⟨T1,_,rfl,IU.of f0,rfl,_,C3 rfl (B9 rfl rfl (hN2 _ _ (B4 λN3 W=>?_)))⟩;refine C3 rfl ⟨rfl,_,rfl,?_⟩;rw[g (by decide +kernel)];refine N9 (W _ _ (B4 λN4 hN4=>?_));refine C3 rfl ⟨rfl,_,rfl,?_⟩;rw[g (by decide +kernel)];refine N9 (hN4 _ _ (B4 λN5 hN5=>?_));refine C3 rfl ⟨rfl,_,rfl,?_⟩;rw[g (by decide +kernel)];refine N9 (hN5 _ _ ?_);refine C3 rfl ⟨a,_,rfl,.inl (IG.of (u0 _ _ e2)),λj D=>?_⟩;have u2:=Cv.new (o:=.lst (ss.map V.str)) D;have Y:(HY H0 j (.lst (ss.map V.str))) j=some (.lst (ss.map V.str)):=A7;generalize HY H0 j (.lst (ss.map V.str))=H2 at u2 Y⊢;have G:=u0.trans u2;refine C3 rfl ⟨b,rfl,⟨_,IG.of (G _ _ e3)⟩,λD3 hD3=>?_⟩;refine Kv (λq=>!decide (q.2 =(x,y))) (G _ _ e3) (by lia) hD3 (λz Z L M Q' hQ=>?_) (λσ L M f3=>?_) _
   .have ez:=M _ _ (G _ _ (k z Z).1);refine C3 rfl (C3 rfl ⟨1,rfl,t,_,rfl,IU.of (M _ _ (G _ _ et)),by show ¬(HT.JN 3 0 (some 1)=0/\HT.JN 3 3 none=3);decide,λJ hT2=>?_⟩);have B:=Cv.new (o:=.tup (Hb ((JA.ts x y).strs.map V.str) (some 1) none)) hT2;have R:(HY L J (.tup (Hb ((JA.ts x y).strs.map V.str) (some 1) none))) J=some (.tup [.str x,.str y]):=A7;generalize HY L J (.tup (Hb ((JA.ts x y).strs.map V.str) (some 1) none))=H4 at B R⊢;refine⟨pd z.2,pd (x,y),j9 (B _ _ ez),j9 R,⟨Ca (okp z Z).1 (okp z Z).2,by simp[pd,PyData.depth,PyData.depthAll]⟩,⟨Ca ox.1 ox.2,by simp[pd,PyData.depth,PyData.depthAll]⟩,?_⟩;rw[Qa];exact⟨_,rfl,hQ _ B⟩
   have s13:=G.trans M;refine⟨by show 2<=sizeLine;decide,λC p=>?_⟩;have B:=Cv.new (o:=.lst [.ref j,.ref D3]) p;have R:(HY L C (.lst [.ref j,.ref D3])) C=some (.lst [.ref j,.ref D3]):=A7;generalize HY L C (.lst [.ref j,.ref D3])=H4 at B R⊢;have s14:=s13.trans B;refine C3 rfl ⟨t,_,2,_,rfl,rfl,IU.of (s14 _ _ et),rfl,⟨by show 1<=sizeLine;decide,λl5 hl5=>?_⟩⟩;have u5:=Cv.new (o:=.lst [V.str y]) hl5;have u45:=B.trans u5;have s15:=s14.trans u5;exact⟨by show 2<=sizeLine;decide,fin C j D3 l5 ss _ _ s15 (u5 _ _ R) ((M.trans u45) _ _ Y) (u45 _ _ f3) (s13.free p) (u0.free D) (G.free hD3) (λq m=>⟨s15 _ _ (k q (AY.mp m).1).1,(k q (AY.mp m).1).2⟩) nm ⟨λq m=>st.nm q (AY.mp m).1,st.nd.sublist (DW.map _),VE (BC ..) st.len⟩ rfl (by show _=List.filter (λq:Str×Str=>!decide (q =(x,y))) (ps.map λq=>q.2);rw[GE];rfl)⟩
theorem Fg:IB ["_law_own"] ["_law_own"] (B6 NB):=KL
def Tp:Sp:=λb H Q _=>∃(X:A0 A3) (o:A3) (a:A0 Str) (ps:A0 IM),b = [.ref o]/\JO X H o a ps/\Q (.int (1000 +(a.length:Int) *(ps.length:Int))) H
theorem Fo(T:Tx K mg):IJ P w K mg base JQ 1 T.aW.f T.aW.fd ["_law_own"] Tp:=by
 refine T.aW.F.o1 Fg λe A c s H n Q E p h=>?_
 .obtain⟨X,o,r,ps,rfl,g,q⟩:=h;refine⟨_,(B5 (C0 (G0 U6 B3 (G0 d9 (I0 (P4 K) T.au O8 (A6 (E6 (KN K) (pv 0) B3 (λ_ _=>rfl)) A8)) (I0 (P4 K) T.au O8 (A6 (E6 (KN K) (pv 0) B3 (λ_ _=>rfl)) A8)))))),?_⟩;obtain⟨⟨a,b,d,i,j,t,u,v⟩,k,l,st⟩:=id g;have x:=l.2.2;have y:=st.len;refine C3 rfl ⟨o,_,0,_,rfl,rfl,IG.of d,rfl,a,_,rfl,.inl (IG.of i),C3 rfl ⟨o,_,1,_,rfl,rfl,IG.of d,rfl,b,_,rfl,.inl (IG.of j),?_⟩⟩;have m:(E8 ps).length=ps.length:=by unfold E8;rw[AB]
  rw[AB,m];exact B9 rfl rfl ⟨.inl ⟨by lia,by lia⟩,B9 rfl rfl q⟩
def Pa:Sp:=λ_ _ _ _=>False
theorem Yu{f:A3}{a:IT}{ps:A0 Str}:IJ P w K mg base JQ 0 f a ps Pa:=⟨λ_ _ _ _ h=>h.elim,λ_ _ _ _ _ _ _ _ _ _ _ _ _ h=>h.elim⟩
theorem IJ.calm{P:HV}{w:HX}{K:VA}{mg:Str->A5 A2}{base:H_}{CX:QT}{k:Nat}{f:A3}{b:IT}{ps:A0 Str}{sp:Sp}(F:IJ P w K mg base JQ k f b ps sp):IJ P w K mg base CX k f b ps sp :=
 ⟨F.len,λA a s H args c d Q E g i j l m=>FK (F.run A a s H args c d Q E g i j l m) λr n h=>by
  cases r with
  | ok v=>cases v<;>exact h
  | error e=>exact h.elim⟩
theorem JB:IB ["_law_keeper","_law_deed_here","_law_caught","_law_found","_law_error"] ["_law_keeper","_law_deed_here"] (B6 OF):=KL
def Us(g h:A3):Sp:=λj H Q _=>∃(k p t:A3) (c:A0 Str) (e:A0 IM) (m:Nat) (d:JA),j = [.ref k,.ref t]/\KU g h H k p c e m/\m<=1000/\MD H t d/\d.fit c e/\d.can c e /\
 ∀r l i a b f,Bt k p H f->H r=none->H l=none->(eK f k p) r=some (.tup [.str "told",.ref l])->KU g h f k p a b (m+1)->a.Perm (d.names c)->(b.map λq=>q.2).Perm (d.prs (e.map λq=>q.2))->R3 (eK f k p) l i->(i.map λq=>q.2)=Az (WG c e) (G9 (B2 b)) a->Q (.ref r) f
set_option maxHeartbeats 1000000 in
theorem Iw(T:Tx K mg):IJ P w K mg base JQ 9 T.a7.f T.a7.fd ["_law_keeper","_law_deed_here"] (Us T.aa T.ac):=by
 have n:IJ P w K mg base (RT P w) 8 T.as.f T.as.fd ["self","name"] (Bu T.aa T.ac):=Sw.IJ.calm (t8 T);have j:IJ P w K mg base (RT P w) 8 T.aq.f T.aq.fd ["self","name"] (An T.aa T.ac):=Sw.IJ.calm (j4 T);have c:IJ P w K mg base (RT P w) 8 T.an.f T.an.fd ["self","one","other"] (t7 T.aa T.ac):=Sw.IJ.calm (a7 T);have a:IJ P w K mg base (RT P w) 8 T.am.f T.am.fd ["self","one","other"] (c9 T.aa T.ac):=Sw.IJ.calm (X0 T);have C:IJ P w K mg base JQ 0 T.bg.f T.bg.fd ["_law_error"] Pa:=Yu;refine T.a7.F.o1 JB λcdv A outer s H vs Q E I h=>?_
 .obtain⟨k,p,t,Y,Z,m,d,rfl,hK,lm,hD,hf,N,q⟩:=h;have hu:=Q8 I;refine⟨_,(A9 (C6 (i:=2) JB.nd rfl (.inl rfl) g7)
   (A9 (C6 (i:=3) JB.nd rfl (.inl rfl) g7)
   (A9 (zAg (i:=4) (λ_ _ z=>z) rfl rfl JB.nd rfl rfl rfl T.bv T.bu (Qe (λ_ _ z=>z) (B8 U2 (E6 (OP K) (pv 1) B3 (λ_ _=>rfl)) C1 (C8 _)) (Ek (i:=3) JB.nd rfl (.inl rfl) (Bb (λ_ _ z=>z) (pv 0) T.ad T.as.m n (Rm I) T.as.b (A6 (E6 (OP K) (pv 1) B3 (λ_ _=>rfl)) A8))) (Qe (λ_ _ z=>z) (B8 U2 (E6 (OP K) (pv 1) B3 (λ_ _=>rfl)) C1 (C8 _)) (Ek (i:=3) JB.nd rfl (.inl rfl) (Bb (λ_ _ z=>z) (pv 0) T.ad T.aq.m j (Rm I) T.aq.b (A6 (E6 (OP K) (pv 1) B3 (λ_ _=>rfl)) A8))) (Qe (λ_ _ z=>z) (B8 U2 (E6 (OP K) (pv 1) B3 (λ_ _=>rfl)) C1 (C8 _)) (Ek (i:=3) JB.nd rfl (.inl rfl) (Bb (λ_ _ z=>z) (pv 0) T.ad T.an.m c (Rm I) T.an.b (A6 (E6 (OP K) (pv 1) B3 (λ_ _=>rfl)) (A6 (E6 (OP K) (pv 1) B3 (λ_ _=>rfl)) A8)))) (Ek (i:=3) JB.nd rfl (.inl rfl) (Bb (λ_ _ z=>z) (pv 0) T.ad T.am.m a (Rm I) T.am.b (A6 (E6 (OP K) (pv 1) B3 (λ_ _=>rfl)) (A6 (E6 (OP K) (pv 1) B3 (λ_ _=>rfl)) A8)))))))
   (λ_=>(B5 (C6 (i:=2) JB.nd rfl (.inl rfl) (pv 4)))))
   (B5 (C0 (Fp (B8 Pr (pv 2) g7 (C8 _)) (J4 (A6 C1 (A6 (pv 3) A8))) (J4 (A6 C1 (A6 (E3 T.bg C (Rm I) (A6 (pv 2) A8)) A8))))))))),?_⟩
  obtain⟨dk,x0,g0,r0,kv0,ks0,rl0,pl0,hk,_,_,_,_,_,hp,_⟩:=id hK.ex;obtain⟨D,okd⟩:=id hD;have g:∀{x y:Str},x≠y->decide (V.str x=V.str y)=false:=λh=>AM λz=>h (V.str.inj z);have O:∀(l:A3) (J:A0 (A3×Row3)) (B:A0 Str) (v:A0 IM) (G:Hp),Bt k p H G->H l=none->KU T.aa T.ac G k p B v (m+1)->B.Perm (d.names Y)->(v.map λq=>q.2).Perm (d.prs (Z.map λq=>q.2))->R3 (eK G k p) l J->(J.map λq=>q.2)=Az (WG Y Z) (G9 (B2 v)) B->∀r,G r=none->Q (.ref r) (HY G r (.tup [.str "told",.ref l])) :=
   λl J B v G L R M pn S U W r I=>by
    obtain⟨dk1,x1,g1,r1,kv1,ks1,rl1,pl1,hk1,_,_,_,_,_,hp1,_⟩:=M.ex;have rk:r≠k:=(B0 hk1 I).symm;have rp:r≠p:=(B0 hp1 I).symm;have u:=Cv.new (o:=.tup [.str "told",.ref l]) I;have r0:H r=none:=by
     cases e:H r with
     | none=>rfl
     | some o=>rw[L r o rk rp e]at I;cases I
    exact q r l J B v _ (L.trans (Bt.of u)) r0 R (by rw[j8 rk rp];exact A7) (M.same u) pn S (U.same (Bt.of u).eK) W
  refine B4 λN1 hN1=>?_;refine hN1 _ _ (B4 λN2 hN2=>hN2 _ _ (B4 λN3 X=>?_));cases d with
  | pn y =>
   refine C3 rfl ⟨t,_,0,_,rfl,rfl,IU.of D,rfl,⟨rfl,_,rfl,Y6 ?_⟩⟩;refine C3 rfl ⟨k,dk,C3 rfl ⟨hk,rfl,C3 rfl ⟨t,_,1,_,rfl,rfl,IU.of D,rfl,?_⟩⟩⟩;refine⟨k,p,y,Y,Z,m,rfl,hK,lm,N.1,N.2,by have:=hf.1;lia,λl J B v G L M pn S R U W=>X _ _ ?_⟩;exact C3 rfl ⟨rfl,_,rfl,Y6 (C3 rfl ⟨by show 2<=sizeLine;decide,O l J B v G L R M pn (S.map _) U W⟩)⟩
  | tn y =>
   refine C3 rfl ⟨t,_,0,_,rfl,rfl,IU.of D,rfl,⟨rfl,_,rfl,?_⟩⟩;rw[g (by decide +kernel)];refine N9 (C3 rfl ⟨t,_,0,_,rfl,rfl,IU.of D,rfl,⟨rfl,_,rfl,Y6 ?_⟩⟩);refine C3 rfl ⟨k,dk,C3 rfl ⟨hk,rfl,C3 rfl ⟨t,_,1,_,rfl,rfl,IU.of D,rfl,?_⟩⟩⟩;refine⟨k,p,y,Y,Z,m,rfl,hK,lm,N,λl J B v G L M en S R U W=>X _ _ ?_⟩;exact C3 rfl ⟨rfl,_,rfl,Y6 (C3 rfl ⟨by show 2<=sizeLine;decide,O l J B v G L R M (.of_eq en) S U W⟩)⟩
  | ps x y =>
   refine C3 rfl ⟨t,_,0,_,rfl,rfl,IU.of D,rfl,⟨rfl,_,rfl,?_⟩⟩;rw[g (by decide +kernel)];refine N9 (C3 rfl ⟨t,_,0,_,rfl,rfl,IU.of D,rfl,⟨rfl,_,rfl,?_⟩⟩);rw[g (by decide +kernel)];refine N9 (C3 rfl ⟨t,_,0,_,rfl,rfl,IU.of D,rfl,⟨rfl,_,rfl,Y6 ?_⟩⟩);refine C3 rfl ⟨k,dk,C3 rfl ⟨hk,rfl,C3 rfl ⟨t,_,1,_,rfl,rfl,IU.of D,rfl,C3 rfl ⟨t,_,2,_,rfl,rfl,IU.of D,rfl,?_⟩⟩⟩⟩;refine⟨k,p,x,y,Y,Z,m,rfl,hK,lm,N.1,N.2.1,N.2.2,by have:Z.length+1<=140:=hf;lia,λl J v G L M S R U W=>X _ _ ?_⟩;exact C3 rfl ⟨rfl,_,rfl,Y6 (C3 rfl ⟨by show 2<=sizeLine;decide,O l J Y v G L R M (.refl _) S U W⟩)⟩
  | ts x y =>
   refine C3 rfl ⟨t,_,0,_,rfl,rfl,IU.of D,rfl,⟨rfl,_,rfl,?_⟩⟩;rw[g (by decide +kernel)];refine N9 (C3 rfl ⟨t,_,0,_,rfl,rfl,IU.of D,rfl,⟨rfl,_,rfl,?_⟩⟩);rw[g (by decide +kernel)];refine N9 (C3 rfl ⟨t,_,0,_,rfl,rfl,IU.of D,rfl,⟨rfl,_,rfl,?_⟩⟩);rw[g (by decide +kernel)];refine N9 ?_;refine C3 rfl ⟨k,dk,C3 rfl ⟨hk,rfl,C3 rfl ⟨t,_,1,_,rfl,rfl,IU.of D,rfl,C3 rfl ⟨t,_,2,_,rfl,rfl,IU.of D,rfl,?_⟩⟩⟩⟩;refine⟨k,p,x,y,Y,Z,m,rfl,hK,lm,N.1,N.2.1,N.2.2,λl J v G L M S R U W=>X _ _ ?_⟩;exact C3 rfl ⟨rfl,_,rfl,Y6 (C3 rfl ⟨by show 2<=sizeLine;decide,O l J Y v G L R M (.refl _) S U W⟩)⟩
def Pf:Sp:=λ_ _ _ _=>False
def Wf{K:VA}{x:Str}{H:Hp}{Q:VK}(o:PySem.PyData.strOk x=true)(q:Q (.bl true) H):SS K (.str x) (.str x) H Q:=by
 have e:Rp K H (.str x) (.str x):=by simp only[Rp]
 have p:Pl (.str x):=⟨by rw[PyData.canLay0];exact o,by rw[PyData.depth];decide⟩;exact⟨_,_,e,e,p,p,by rw[PySem.SeqAt.eqv_refl _ p.1];exact q⟩
def tyB(b:Bool):A2:=.type (bif b then "list" else "tuple")
def zBk{K:VA}:∀b,PySem.W.kitOne K (tyB b) (.type "list")=some b
 | true=>rfl
 | false=>rfl
def zBa{K:VA}:∀b,PySem.W.kitOne K (tyB b) (.type "tuple")=some !b
 | true=>rfl
 | false=>rfl
def zFt{K:VA}:∀b,PySem.W.kitAny K (tyB b) (["list","tuple"].map Value.type)=some true
 | true=>rfl
 | false=>rfl
def zDb(b:Bool):(!decide (V.bl b=V.bl b))=false:=congrArg _ (AS rfl)
def LT(b:Bool)(xs:A0 V):HO:=bif b then .lst xs else .tup xs
def Tj{K:VA}{H:Hp}{l:A3}{xs:A0 V}:∀{b:Bool},H l=some (LT b xs)->MA K H (.ref l) (tyB b)
 | true,h=>.lst h
 | false,h=>.tup h
def zEc{H:Hp}{l:A3}{xs:A0 V}:∀{b:Bool},H l=some (LT b xs)->H l=some (.lst xs)\/H l=some (.tup xs)
 | true,h=>.inl h
 | false,h=>.inr h
def sqB(K:VA)(b:Bool):Hp->A3->A0 V->Prop:=bif b then IG K else IU K
def Os{K:VA}{H:Hp}{l:A3}{xs:A0 V}:∀{b:Bool},H l=some (LT b xs)->sqB K b H l xs
 | true,h=>IG.of h
 | false,h=>IU.of h
def Xt{K:VA}{H:Hp}{l:A3}{xs:A0 V}{b:Bool}(h:H l=some (LT b xs)):QK K H l xs:=(zEc h).imp IG.of IU.of
def zBg{K:VA}{H:Hp}{l m:A3}{xs c:A0 V}{R:It->Hp->Prop}:∀{b:Bool},H l=some (LT b xs)->H m=some (LT b c)->R (SN (sqB K b) l m) H->zHa K R l m xs c H
 | true,h,a,q=>.inl ⟨IG.of h,IG.of a,q⟩
 | false,h,a,q=>.inr ⟨IU.of h,IU.of a,q⟩
theorem Jr:IB ["_law_found","_law_due"] ["_law_found","_law_due"] (B6 OB):=KL
theorem Yp{f:A3}{a:IT}{ps:A0 Str}:IJ P w K mg base JQ 0 f a ps Pf:=⟨λ_ _ _ _ h=>h.elim,λ_ _ _ _ _ _ _ _ _ _ _ _ _ h=>h.elim⟩
def Qd(S:Sp):Sp:=λg H Q _=>(∃a:Str,g = [.str a,.str a]/\PySem.PyData.strOk a=true/\∀c,Cv H c->Q (.bl true) c) \/
 ∃(l m:A3) (b:Bool) (e f:A0 V),g = [.ref l,.ref m]/\H l=some (LT b e)/\H m=some (LT b f)/\e.length=f.length/\e.length<=1000 /\
  (∀(i:Nat) (x y:V) (c:Hp) (h:VK) (E:XK),e[i]?=some x->f[i]?=some y->Cv H c->(∀d,Cv c d->h (.bl true) d)->S [x,y] c h E)/\∀c,Cv H c->Q (.bl true) c
theorem Gy(T:Tx K mg){n:Nat}{S:Sp}(c:IJ P w K mg base JQ n T.al.f T.al.fd ["_law_found","_law_due"] S):IJ P w K mg base JQ (n+1) T.al.f T.al.fd ["_law_found","_law_due"] (Qd S):=by
 refine T.al.F.ok Jr (λZ H Q E h=>?_) (λcdv A C s H Z Q E z h=>?_)
 .rcases h with⟨a,rfl,_⟩ | ⟨l,m,b,v,O,rfl,_⟩
  .rfl
  .rfl
 .refine⟨_,(A9 (M0 (Q5 (I0 (Uy K) T.ai D0 (A6 (pv 1) (A6 (J4 (A6 (i6 T.az T3) (A6 (i6 T.bd Ax) A8))) A8)))) (A9 (M0 (PW.pt (Bj (B8 Cy (I0 (Q6 K) T.ai D0 (A6 (pv 0) (A6 (i6 T.az T3) A8))) (I0 (Q6 K) T.ai D0 (A6 (pv 1) (A6 (i6 T.az T3) A8))) (C8 _)) (X8 (B8 Cy (I0 (Q6 K) T.ai D0 (A6 (pv 0) (A6 (i6 T.bd Ax) A8))) (I0 (Q6 K) T.ai D0 (A6 (pv 1) (A6 (i6 T.bd Ax) A8))) (C8 _))))) (B5 (C0 Hg)) E4)
   (B5 (C0 (Bz (R0 U2 (I0 (P4 K) T.au O8 (A6 (pv 0) A8)) (I0 (P4 K) T.au O8 (A6 (pv 1) A8)) (C8 _)) (Dt (I0 (Rv K) T.bq Qg (A6 (V9 (N':=["_law_one","_law_other"]) (cap:=[none,none]) (cl:=[]) (O7 trivial trivial) rfl (zHy K T.bD (A6 (pv 0) (A6 (pv 1) A8))) (λ_ _ _ _=>by exact⟨(QX K (n:=2) (E7 (LS 0) (E7 (LS 1) Q9))),P5,(E3 T.al c (z.mono (VD _)) (A6 (pv 0) (A6 (pv 1) A8)))⟩)) A8))))))) E4)
   (A9 (M0 (PW.pt (Bj (B8 Pr (pv 1) g7 (C8 _)) (X8 (Q5 (I0 (Q6 K) T.ai D0 (A6 (pv 1) (A6 (i6 T.bi Ld) A8))))))) (B5 (C0 (Bz (R0 (Oi K z.units) (pv 0) (pv 1) (C8 _)) (Dt (R0 U2 (I0 (Q6 K) T.ai D0 (A6 (pv 0) (A6 (i6 T.bi Ld) A8))) (I0 (Q6 K) T.ai D0 (A6 (pv 1) (A6 (i6 T.bi Ld) A8))) (C8 _)))))) E4)
   (A9 (M0 (Q5 (I0 (Q6 K) T.ai D0 (A6 (pv 1) (A6 (i6 T.bj Ki) A8)))) (B5 (C0 (Bz (I0 (Q6 K) T.ai D0 (A6 (pv 0) (A6 (i6 T.bj Ki) A8))) (Dt (R0 (Oi K z.units) (pv 0) (pv 1) (C8 _)))))) E4)
   (B5 (C0 (Bz (I0 (Q6 K) T.ai D0 (A6 (pv 0) (A6 (i6 T.bz Xx) A8))) (Bz (zDp (I0 (Q6 K) T.ai D0 (A6 (pv 0) (A6 (i6 T.bj Ki) A8)))) (Dt (R0 (Oi K z.units) (pv 0) (pv 1) (C8 _)))))))))),?_⟩
  rcases h with⟨b,rfl,ob,q⟩ | ⟨l,m,b,v,O,rfl,hl,hm,B,len,hS,q⟩
  .refine C3 rfl ⟨by show 2<=sizeLine;decide,λt G=>?_⟩;have j:=Cv.new (o:=.tup [.ty "list",.ty "tuple"]) G;refine⟨.str b,t,["list","tuple"],_,false,rfl,A7,.str b,.inl ⟨b,rfl⟩,rfl,?_⟩;generalize HY H t (.tup [.ty "list",.ty "tuple"])=R at j⊢;refine C3 rfl (N9 ?_);refine C3 rfl ⟨rfl,C3 rfl (N9 ?_)⟩;refine C3 rfl ⟨.str b, "str",_,true,rfl,.str b,rfl,C3 rfl (Y6 ?_)⟩;refine C3 rfl (C3 rfl (Wf ob ⟨_,rfl,Y6 ?_⟩));refine C3 rfl ⟨.str b, "str",_,true,rfl,.str b,rfl,C3 rfl ⟨.str b, "str",_,true,rfl,.str b,rfl,?_⟩⟩;exact⟨rfl,q _ j⟩
  .refine C3 rfl ⟨by show 2<=sizeLine;decide,λt G=>?_⟩;have j:=Cv.new (o:=.tup [.ty "list",.ty "tuple"]) G;have p:=j _ _ hl;have g:=j _ _ hm;refine⟨.ref m,t,["list","tuple"],_,true,rfl,A7,Tj g,.inr ⟨m,_,rfl,zEc g⟩,zFt b,?_⟩;generalize HY H t (.tup [.ty "list",.ty "tuple"])=R at j p g⊢;refine C3 rfl (Y6 ?_);refine C3 rfl ⟨.ref l, "list",_,b,rfl,Tj p,zBk b,C3 rfl ⟨.ref m, "list",_,b,rfl,Tj g,zBk b,rfl,?_⟩⟩;refine⟨false,congrArg V.bl (zDb b),N9 ?_⟩;refine C3 rfl ⟨.ref l, "tuple",_,_,rfl,Tj p,zBa b,C3 rfl ⟨.ref m, "tuple",_,_,rfl,Tj g,zBa b,rfl,?_⟩⟩;refine⟨false,congrArg V.bl (zDb !b),N9 ?_⟩;refine C3 rfl (B9 (a:=l) rfl (Xt p) (C3 rfl (B9 (a:=m) rfl (Xt g) ⟨rfl,C3 rfl ?_⟩)));refine Z8 (λ_=>?_) (λh=>absurd (AS (congrArg (λk:Nat=>V.int k) B)) h);refine C3 rfl (C3 rfl ⟨l,m,v,O,?_⟩);refine⟨rfl,zBg p g λD U=>?_⟩;refine Gu (n:=v.length) (λi σ r=>(∃W X,σ = [W,X])/\Cv R r/\r D=some (.lst ((List.replicate i true).map V.bl))) ⟨⟨_,_,rfl⟩,Cv.new U,A7⟩ ?_ ?_ ?_ ?_
   .rintro i σ r I ⟨_,d,_⟩;exact⟨_,_,_,_,Os (d _ _ p),Os (d _ _ g),VF B,AF I,AF (B▸I)⟩
   .rintro σ r ⟨_,d,_⟩;exact⟨_,_,Os (d _ _ p),Os (d _ _ g),VF B,rfl⟩
   .rintro i σ r x H3 N I ⟨⟨W,X,rfl⟩,d,J⟩ ⟨u,x,y,rfl,hu,rfl,L,hy⟩ hN;have M:=Cv.new (o:=.tup [x,y]) hu;refine⟨u,C3 rfl ⟨IU.of A7,rfl,_,C3 rfl (B9 rfl rfl ?_)⟩⟩;refine C3 rfl (C3 rfl (hS i x y _ _ _ (L _ (Os (d _ _ p))) (hy _ (Os (d _ _ g))) ((j.trans d).trans M) λH4 Y=>?_));refine⟨_,Y _ _ (M _ _ J),by rw[AB,GI,sizeLine_eq];lia,hN _ _ ⟨⟨_,_,rfl⟩,((d.trans M).trans Y).upd U,?_⟩⟩;rw[A7,List.replicate_succ',AK];rfl
   .rintro σ r ⟨_,d,J⟩;have e:(List.replicate v.length true).all id=true:=EJ.mpr λx L=>(List.mem_replicate.mp L).2;have q':Q (.bl ((List.replicate v.length true).all id)) r:=e.symm▸q _ (j.trans d);exact⟨D,_,rfl,IG.of J,q'⟩
def QM(b:Bool)(ds:A0 PyData):PyData:=bif b then .list ds else .tuple ds
def ad(b:Bool)(l:A3):A0 A3:=bif b then [l]else []
def Ow(H:Hp):Nat->PyData->V->A0 A3->Prop
 | 0,_,_,_=>False
 | n+1,d,v,L=>(∃s:Str,d = .str s/\v = .str s/\PySem.PyData.strOk s=true/\L = []) \/
  ∃(b:Bool) (l:A3) (a:A0 V) (c:A0 PyData) (e:A0 (A0 A3)),d=QM b c/\v = .ref l/\H l=some (LT b a)/\a.length=c.length/\a.length=e.length/\a.length<=200/\L=ad b l++e.flatten /\
   ∀(i:Nat) f x M,c[i]?=some f->a[i]?=some x->e[i]?=some M->Ow H n f x M
def Ow.keep{H H':Hp}{X:A0 A3}(k:∀a o,H a=some o->a∉X->H' a=some o)(c:∀x∈X,∀xs,H x≠some (.tup xs)):∀{n:Nat} {d:PyData} {v:V} {L:A0 A3},(∀l∈L,l∉X)->Ow H n d v L->Ow H' n d v L
 | 0,_,_,_,_,h=>h.elim
 | _+1,_,_,_,_,.inl h=>.inl h
 | n+1,_,_,_,e,.inr ⟨b,l,xs,j,m,p,q,f,r,s,t,u,h⟩=>by
  subst u;refine .inr ⟨b,l,xs,j,m,p,q,k _ _ f ?_,r,s,t,rfl,λi w x M A B g=>(h i w x M A B g).keep k c λy C=>e y (BN _ (List.mem_flatten.mpr ⟨M,BB g,C⟩))⟩;cases b with
  | true=>exact e l (.head _)
  | false=>exact λz=>c l z xs f
def Ow.same{H H':Hp}(s:Cv H H'){n:Nat}{d:PyData}{v:V}{L:A0 A3}(h:Ow H n d v L):Ow H' n d v L:=h.keep (X:=[]) (λa o e _=>s a o e) (λx z=>by cases z) λl _ z=>by cases z
def Ow.str{H:Hp}{n:Nat}{s:Str}(h:PySem.PyData.strOk s=true):Ow H (n+1) (.str s) (.str s) []:=.inl ⟨s,rfl,rfl,h,rfl⟩
def Ow.LT{H:Hp}{n:Nat}{b:Bool}{l:A3}{xs:A0 V}{ds:A0 PyData}{Ls:A0 (A0 A3)}(e:H l=some (Sw.LT b xs))(a:xs.length=ds.length)(l2:xs.length=Ls.length)(c:xs.length<=200)(h:∀(i:Nat) d' x M,ds[i]?=some d'->xs[i]?=some x->Ls[i]?=some M->Ow H n d' x M):Ow H (n+1) (QM b ds) (.ref l) (ad b l++Ls.flatten):=.inr ⟨b,l,xs,ds,Ls,rfl,rfl,e,a,l2,c,rfl,h⟩
def Kz{α:Type}:∀n:Nat,(List.replicate n ([]:A0 α)).flatten = []
 | 0=>rfl
 | n+1=>by rw[DA,FM,Kz n];rfl
def Ow.flat{H:Hp}{n:Nat}{b:Bool}{l:A3}{xs:A0 V}{ds:A0 PyData}(e:H l=some (Sw.LT b xs))(a:xs.length=ds.length)(c:xs.length<=200)(h:∀(i:Nat) d' x,ds[i]?=some d'->xs[i]?=some x->Ow H n d' x []):Ow H (n+1) (QM b ds) (.ref l) (ad b l):=by
 have:=Ow.LT (n:=n) (Ls:=List.replicate xs.length []) e a (by rw[GI]) c λi d' x M d f g=>by
  rw[(List.mem_replicate.mp (BB g)).2];exact h i d' x d f
 rwa [Kz,BW]at this
def Ow.strs{H:Hp}{n:Nat}{b:Bool}{l:A3}{ss:A0 Str}(e:H l=some (Sw.LT b (ss.map V.str)))(f:∀s∈ss,PySem.PyData.strOk s=true)(g:ss.length<=200):Ow H (n+2) (QM b (ss.map PyData.str)) (.ref l) (ad b l) :=
 Ow.flat e (by rw[AB,AB]) (by rw[AB];exact g) λi h x c a=>by
  rw[AH]at c a;obtain⟨s,d,rfl⟩:=BF.mp c;rw[d]at a;cases a;exact .str (f s (BB d))
def Ow.two{H:Hp}{n:Nat}{l:A3}{x y:V}{d e:PyData}{L M:A0 A3}(h:H l=some (.tup [x,y]))(a:Ow H n d x L)(b:Ow H n e y M):Ow H (n+1) (.tuple [d,e]) (.ref l) (L++M):=by
 have:=Ow.LT (n:=n) (b:=false) (xs:=[x,y]) (ds:=[d,e]) (Ls:=[L,M]) h rfl rfl (by show 2<=200;decide) λi j k m c f g=>by
  match i,c,f,g with
  | 0,c,f,g=>cases c;cases f;cases g;exact a
  | 1,c,f,g=>cases c;cases f;cases g;exact b
 rwa [show ad false l ++ [L,M].flatten=L++M by show [] ++(L ++(M ++ []))=_;rw[BW];rfl]at this
def Y4:Nat->Sp
 | 0=>Pf
 | n+1=>Qd (Y4 n)
def Yw{ds a:A0 PyData}:∀{b c:Bool},QM b ds=QM c a->b=c/\ds=a
 | true,true,h=>⟨rfl,PyData.list.inj h⟩
 | false,false,h=>⟨rfl,PyData.tuple.inj h⟩
 | true,false,h=>by cases h
 | false,true,h=>by cases h
def Rt{ds:A0 PyData}{s:Str}:∀{b:Bool},PyData.str s≠QM b ds
 | true,h=>by cases h
 | false,h=>by cases h
def Ow.alike{H:Hp}:∀{n:Nat} {d:PyData} {x y:V} {L M:A0 A3} {Q:VK} {E:XK},Ow H n d x L->Ow H n d y M->(∀H',Cv H H'->Q (.bl true) H')->Y4 n [x,y] H Q E
 | 0,_,_,_,_,_,_,_,h,_,_=>h.elim
 | n+1,d,x,y,_,_,Q,E,.inl ⟨s,f,j,o,_⟩,g,q=>by
  subst f j;rcases g with⟨v,a,c,_⟩ | ⟨b,l,r,k,m,a,_⟩
  .cases a;subst c;exact .inl ⟨s,rfl,o,q⟩
  .exact absurd a Rt
 | n+1,d,x,y,_,_,Q,E,.inr ⟨b,l,r,k,m,f,j,a,w,N,O,_,h⟩,g,q=>by
  subst f j;rcases g with⟨v,c,_⟩ | ⟨P,z,p,A,e,c,B,C,D,R,S,_,F⟩
  .exact absurd c.symm Rt
  .obtain⟨rfl,rfl⟩:=Yw c;subst B;refine .inr ⟨l,z,b,r,p,rfl,a,C,w.trans D.symm,by lia,λi x y H' T E t G s I=>?_,q⟩;have U:=(AJ.mp t).1;have u:k[i]?=some (k[i]'(by lia)):=AF _;have J:m[i]?=some (m[i]'(by lia)):=AF _;have K:e[i]?=some (e[i]'(by lia)):=AF _;exact((h i _ x _ u t J).same s).alike ((F i _ y _ u G K).same s) I
theorem X6(T:Tx K mg):∀n,IJ P w K mg base JQ n T.al.f T.al.fd ["_law_found","_law_due"] (Y4 n)
 | 0=>Yp
 | n+1=>Gy T (X6 T n)
def Za{a b:A0 IM}(h1:a.Pairwise QB)(h2:b.Pairwise QB)(h:(a.map λq=>q.2).Perm (b.map λq=>q.2)):(a.map λq=>q.2)=b.map λq=>q.2 :=
 List.Perm.eq_of_pairwise (le:=leK) (λ_ _ _ _=>Wi) (CS.mpr h1) (CS.mpr h2) h
def K5(a:A0 (Str×Str))(n:Str):A0 Str:=(a.filter λk=>decide (k.2=n)).map λk=>k.1
def S0(a:A0 (Str×Str))(n:Str):A0 Str:=(a.filter λk=>decide (k.1=n)).map λk=>k.2
def Af(a:A0 IM)(n:Str):B2 a n=K5 (a.map λq=>q.2) n:=by
 unfold B2 K5;rw[GE,BS];rfl
def Df(a:A0 IM)(n:Str):C2 a n=S0 (a.map λq=>q.2) n:=by
 unfold C2 S0;rw[GE,BS];rfl
def El{K:VA}{l D:A3}{a:A0 IM}{n:Str}{b:Hp}{σ:St}{Q:St->Hp->Prop}(e:b l=some (.lst (E8 a)))(p:∀q∈a,G8 b q)(x:a.length<=300)(u:b D=none)(hσ:∃o r,σ = [o,r,some (.str n)])(h:∀σ s,Cv b s->s D=some (.lst ((K5 (a.map λq=>q.2) n).map V.str))->Q σ s) :
  Au (SX K 2 (Cw (O0 0) (Cw (O0 1) TB))) (i8 (OL rEq (T9 1) (T9 2))) (Z7 D (T9 0)) (P_ K l) σ (HY b D (.lst [])) Q:=by
 refine P1 (PF (K:=K) (IG.of e)) (λi σ d=>(∃o r,σ = [o,r,some (.str n)])/\Cv b d/\d D=some (.lst ((K5 ((a.take i).map λq=>q.2) n).map V.str)))
  ⟨hσ,Cv.new u,A7⟩ (λi σ b _ ⟨_,A,_⟩=>A.at l) ?_ ?_
 .rintro i σ d v N t ⟨⟨o,r,rfl⟩,f,g⟩ j;unfold E8 at t;rw[AH]at t;obtain⟨z,w,rfl⟩:=BF.mp t;have m:K5 ((a.take (i+1)).map λq=>q.2) n=K5 ((a.take i).map λq=>q.2) n++if z.2.2=n then [z.2.1]else []:=by
   unfold K5;rw[D8 w,AK,CM,AK,BM,FY,BO,DQ];by_cases c:z.2.2=n
   .rw[AN (AS c),AN c];rfl
   .rw[AI λy=>c (BL y),AI c];rfl
  have C:((K5 ((a.take i).map λq=>q.2) n).map V.str).length<=300:=by
   unfold K5;rw[AB,AB];have h:=(DW (l:=(a.take i).map λq=>q.2) (p:=λk=>decide (k.2=n))).length_le;rw[AB,AZ]at h;lia
  refine⟨z.1,C3 rfl ⟨IU.of (f _ _ (p z (BB w))),rfl,_,C3 rfl (B9 rfl rfl ?_)⟩⟩;refine C3 rfl (C3 rfl ⟨rfl,C3 rfl (Z8 (λc=>?_) (λc=>?_))⟩)
  .have c:z.2.2=n:=by injection BL c
   refine C3 rfl ⟨_,g,by rw[sizeLine_eq];lia,j _ _ ⟨⟨_,_,rfl⟩,f.upd u,?_⟩⟩;rw[A7,m,AN c,AK];rfl
  .have c:¬z.2.2=n:=λy=>c (AS (congrArg V.str y));exact j _ _ ⟨⟨_,_,rfl⟩,f,by rw[m,AI c,BW];exact g⟩
 .rintro σ d ⟨_,f,g⟩;have B:(E8 a).length=a.length:=by unfold E8;rw[AB]
  rw[B,BR]at g;exact h σ d f g
def Fx(a:A0 (Str×Str))(n:Str):(K5 a n).length<=a.length:=by
 unfold K5;rw[AB];exact DW.length_le
def Je{K:VA}{l D:A3}{a:A0 IM}{n:Str}{b:Hp}{σ:St}{Q:St->Hp->Prop}(e:b l=some (.lst (E8 a)))(p:∀q∈a,G8 b q)(x:a.length<=300)(u:b D=none)(hσ:∃o r,σ = [o,r,some (.str n)])(h:∀σ s,Cv b s->s D=some (.lst ((S0 (a.map λq=>q.2) n).map V.str))->Q σ s) :
  Au (SX K 2 (Cw (O0 0) (Cw (O0 1) TB))) (i8 (OL rEq (T9 0) (T9 2))) (Z7 D (T9 1)) (P_ K l) σ (HY b D (.lst [])) Q:=by
 refine P1 (PF (K:=K) (IG.of e)) (λi σ d=>(∃o r,σ = [o,r,some (.str n)])/\Cv b d/\d D=some (.lst ((S0 ((a.take i).map λq=>q.2) n).map V.str)))
  ⟨hσ,Cv.new u,A7⟩ (λi σ b _ ⟨_,A,_⟩=>A.at l) ?_ ?_
 .rintro i σ d v N t ⟨⟨o,r,rfl⟩,f,g⟩ j;unfold E8 at t;rw[AH]at t;obtain⟨z,w,rfl⟩:=BF.mp t;have m:S0 ((a.take (i+1)).map λq=>q.2) n=S0 ((a.take i).map λq=>q.2) n++if z.2.1=n then [z.2.2]else []:=by
   unfold S0;rw[D8 w,AK,CM,AK,BM,FY,BO,DQ];by_cases c:z.2.1=n
   .rw[AN (AS c),AN c];rfl
   .rw[AI λy=>c (BL y),AI c];rfl
  have C:((S0 ((a.take i).map λq=>q.2) n).map V.str).length<=300:=by
   unfold S0;rw[AB,AB];have h:=(DW (l:=(a.take i).map λq=>q.2) (p:=λk=>decide (k.1=n))).length_le;rw[AB,AZ]at h;lia
  refine⟨z.1,C3 rfl ⟨IU.of (f _ _ (p z (BB w))),rfl,_,C3 rfl (B9 rfl rfl ?_)⟩⟩;refine C3 rfl (C3 rfl ⟨rfl,C3 rfl (Z8 (λc=>?_) (λc=>?_))⟩)
  .have c:z.2.1=n:=by injection BL c
   refine C3 rfl ⟨_,g,by rw[sizeLine_eq];lia,j _ _ ⟨⟨_,_,rfl⟩,f.upd u,?_⟩⟩;rw[A7,m,AN c,AK];rfl
  .have c:¬z.2.1=n:=λy=>c (AS (congrArg V.str y));exact j _ _ ⟨⟨_,_,rfl⟩,f,by rw[m,AI c,BW];exact g⟩
 .rintro σ d ⟨_,f,g⟩;have B:(E8 a).length=a.length:=by unfold E8;rw[AB]
  rw[B,BR]at g;exact h σ d f g
def Jx(a:A0 (Str×Str))(n:Str):(S0 a n).length<=a.length:=by
 unfold S0;rw[AB];exact DW.length_le
def zAi{q r:IM}(h:QB q r):NL q.2.1 r.2.1:=λz=>by
 have e:TS.JH (Gc r) (Gc q)=true:=TS.I1.mpr (.inl z);rw[show TS.JH (Gc r) (Gc q)=false from h]at e;cases e
def zAe{q r:IM}(h:QB q r)(a:q.2.1=r.2.1):NL q.2.2 r.2.2:=λz=>by
 have e:TS.JH (Gc r) (Gc q)=true:=TS.I1.mpr (.inr ⟨by show r.2.1.cps.toList=q.2.1.cps.toList;rw[a],z⟩);rw[show TS.JH (Gc r) (Gc q)=false from h]at e;cases e
def Gk{c:A0 IM}(h:c.Pairwise QB)(n:Str):(B2 c n).Pairwise NL:=by
 unfold B2;rw[CS];exact(h.filter _).imp fun{a b} z=>zAi z
def Nm{c:A0 IM}(h:c.Pairwise QB)(n:Str):(C2 c n).Pairwise NL:=by
 unfold C2;rw[CS];exact(EH.mp (h.filter _)).imp fun{a b} ⟨d,e,z⟩=>zAe z ((BL (AY.mp d).2).trans (BL (AY.mp e).2).symm)
def Hz{a ps:A0 IM}{n:Str}{ts:A0 Str}(h:a.Pairwise QB)(k:(a.map λq=>q.2).Perm (ps.map λq=>q.2))(p:ts.Perm (K5 (ps.map λq=>q.2) n))(w:ts.Pairwise NL):ts=B2 a n :=
 K7 w (Gk h n) (p.trans (by rw[Af];exact((k.symm.filter _).map _)))
def Ot{a ps:A0 IM}{n:Str}{ts:A0 Str}(h:a.Pairwise QB)(k:(a.map λq=>q.2).Perm (ps.map λq=>q.2))(p:ts.Perm (S0 (ps.map λq=>q.2) n))(w:ts.Pairwise NL):ts=C2 a n :=
 K7 w (Nm h n) (p.trans (by rw[Df];exact((k.symm.filter _).map _)))
def y7{H:Hp}{l:A3}{ss:A0 Str}{n:Nat}(e:H l=some (.lst (ss.map V.str)))(c:∀s∈ss,PySem.PyData.strOk s=true)(a:ss.length<=200):Ow H (n+2) (QM true (ss.map PyData.str)) (.ref l) [l]:=Ow.strs (b:=true) e c a
def Xb{H:Hp}{t:A3}{ss:A0 Str}{n:Nat}(e:H t=some (.tup (ss.map V.str)))(c:∀s∈ss,PySem.PyData.strOk s=true)(a:ss.length<=200):Ow H (n+2) (QM false (ss.map PyData.str)) (.ref t) []:=Ow.strs (b:=false) e c a
def Mj{H:Hp}{l:A3}{a:A0 IM}(e:H l=some (.lst (E8 a)))(c:∀q∈a,G8 H q)(j:∀q∈a,PySem.PyData.strOk q.2.1=true/\PySem.PyData.strOk q.2.2=true)(d:a.length<=200):Ow H 3 (QM true ((a.map λq=>q.2).map λk=>QM false ([k.1,k.2].map PyData.str))) (.ref l) [l]:=by
 refine Ow.flat (b:=true) e (by unfold E8;rw[AB,AB,AB]) (by unfold E8;rw[AB];exact d) λi p x f g=>?_;unfold E8 at g;rw[AH]at g;rw[BS,AH]at f;obtain⟨q,o,rfl⟩:=BF.mp g;rw[o]at f;cases f;have m:=BB o;exact Xb (n:=0) (ss:=[q.2.1,q.2.2]) (c q m) (λs h=>(AR.mp h).elim (λe=>by rw[e];exact(j q m).1) λh=>by rw[AE.mp h];exact(j q m).2) (by show 2<=200;decide)
theorem MM:IB ["_law_web","_law_own","_law_name"] ["_law_web","_law_own"] (B6 NC):=KL
def Vs(C:A3):Sp:=λe H Q _=>∃(X:A0 A3) (x o:A3) (a b:A0 Str) (c ps:A0 IM),e = [.ref x,.ref o]/\IP C H x b c/\JO X H o a ps/\b.Perm a/\(c.map λq=>q.2).Perm (ps.map λq=>q.2)/\∀d,Cv H d->Q (.bl true) d
set_option maxHeartbeats 4000000 in
theorem Eu(T:Tx K mg):IJ P w K mg base JQ 4 T.aV.f T.aV.fd ["_law_web","_law_own"] (Vs T.ac):=by
 have g:IJ P w K mg base JQ 3 T.al.f T.al.fd ["_law_found","_law_due"] (Y4 3):=X6 T 3;refine T.aV.F.o1 MM λcdv A outer s H vs Q E J h=>?_
 .obtain⟨X,x,o,ss,k,j,ps,rfl,W,hO,pn,kq,q⟩:=h;refine⟨_,(A9 (M0 (PW.pt (Bj (U0 (Q5 (E3 T.al g (Rm J) (A6 (J3 (pv 0) T.af T.ab.m (E5 T) (Rm J) T.ab.b .nil J6) (A6 (I0 (n8 K) T.av M9 (A6 (E6 (KN K) (pv 1) B3 (λ_ _=>rfl)) A8)) A8))))) (X8 (U0 (Q5 (E3 T.al g (Rm J) (A6 (J3 (pv 0) T.af T.ae.m (I9 T) (Rm J) T.ae.b .nil J6) (A6 (I0 (Ev K) T.av M9 (A6 (E6 (KN K) (pv 1) B3 (λ_ _=>rfl)) A8)) A8)))))))) (B5 (C0 Hg)) E4)
   (A9 (U1 PassesOwn.never rfl (MW K (E6 (KN K) (pv 1) B3 (λ_ _=>rfl))) (J0 (i:=2) MM.nd rfl (.inr rfl))
   (A9 (M0 (U0 (Q5 (E3 T.al g (Rm J) (A6 (N0 (pv 0) T.af T.ar.m (S9 T) (Rm J) T.ar.b .nil J6 (A6 (pv 2) A8)) (A6 (I0 (n8 K) T.av M9 (A6 (V9 (N':=["_law_one","_law_other","_law_name"]) (cap:=[none,none,some 2]) (cl:=[("_law_name",_)]) (O7 ⟨⟨rfl,rfl,rfl,rfl⟩,trivial⟩ ⟨rfl,trivial⟩) rfl (MW K (E6 (KN K) (pv 1) B3 (λ_ _=>rfl))) (λ_ _ _ _=>by exact⟨(QX K (n:=2) (E7 (LS 0) (E7 (LS 1) Q9))),(K8 (B8 U2 (pv 1) (pv 2) (C8 _))),(pv 0)⟩)) A8)) A8))))) (B5 (C0 Hg)) E4)
   (B5 (M0 (U0 (Q5 (E3 T.al g (Rm J) (A6 (N0 (pv 0) T.af T.ap.m (S6 T) (Rm J) T.ap.b .nil J6 (A6 (pv 2) A8)) (A6 (I0 (n8 K) T.av M9 (A6 (V9 (N':=["_law_one","_law_other","_law_name"]) (cap:=[none,none,some 2]) (cl:=[("_law_name",_)]) (O7 ⟨⟨rfl,rfl,rfl,rfl⟩,trivial⟩ ⟨rfl,trivial⟩) rfl (MW K (E6 (KN K) (pv 1) B3 (λ_ _=>rfl))) (λ_ _ _ _=>by exact⟨(QX K (n:=2) (E7 (LS 0) (E7 (LS 1) Q9))),(K8 (B8 U2 (pv 0) (pv 2) (C8 _))),(pv 1)⟩)) A8)) A8))))) (B5 (C0 Hg)) E4))))
   (B5 (C0 Hg)))),?_⟩
  obtain⟨r,dx,a1,b1,c,d,kc,kd,e2,_,_,pin,_⟩:=id W;obtain⟨⟨n,a,ho,hn,ha,_⟩,U,nm,st⟩:=id hO;have U:∀q∈ps,G8 H q:=λq u=>(U q u).1;have t:∀y∈k,PySem.PyData.strOk y=true:=λy hy=>P9 (nm.1 y (pn.mem_iff.mp hy));have M:∀q∈j,PySem.PyData.strOk q.2.1=true/\PySem.PyData.strOk q.2.2=true:=λq u=>⟨t _ (r.mem q u).1,t _ (r.mem q u).2⟩;have lns:k.length<=200:=VE r.len (by decide);refine B4 λN1 hN1=>?_;refine C3 rfl ⟨x,dx,C3 rfl ⟨e2,rfl,x,k,j,rfl,W,λl1 hl1=>?_⟩⟩;have s5:=Cv.new (o:=.lst (k.map V.str)) hl1;have Y:(HY H l1 (.lst (k.map V.str))) l1=some (.lst (k.map V.str)):=A7;generalize HY H l1 (.lst (k.map V.str))=H5 at s5 Y⊢;refine C3 rfl ⟨o,_,0,_,rfl,rfl,IG.of (s5 _ _ ho),rfl,n,ss,rfl,IG.of (s5 _ _ hn),λl2 ss2 hl2 p2 w2=>?_⟩;rw[K7 w2 r.srt (p2.trans pn.symm)];have u6:=Cv.new (o:=.lst (k.map V.str)) hl2;have Z:=s5.trans u6;have g6:(HY H5 l2 (.lst (k.map V.str))) l2=some (.lst (k.map V.str)):=A7;have f6:=u6 _ _ Y;generalize HY H5 l2 (.lst (k.map V.str))=H6 at Z g6 f6⊢;refine(y7 f6 t lns).alike (y7 g6 t lns) λH7 s7=>⟨_,rfl,N9 ?_⟩;have B:=Z.trans s7;refine C3 rfl ⟨x,dx,C3 rfl ⟨B _ _ e2,rfl,x,k,j,rfl,W.same B,λl3 hl3=>?_⟩⟩;have u8:=Cv.new (o:=.lst (E8 j)) hl3;have L:=B.trans u8;have f8:(HY H7 l3 (.lst (E8 j))) l3=some (.lst (E8 j)):=A7;generalize HY H7 l3 (.lst (E8 j))=H8 at L f8⊢;refine C3 rfl ⟨o,_,1,_,rfl,rfl,IG.of (L _ _ ho),rfl,a,ps,rfl,IG.of (L _ _ ha),G6 L U,λm N hm pm so=>?_⟩;have u9:=Cv.new (o:=.lst (E8 N)) hm;have s9:=L.trans u9;have ek:(N.map λq=>q.2)=j.map λq=>q.2:=Za so r.srq ((pm.map _).trans kq.symm);have e9:=Mj (H:=HY H8 m (.lst (E8 N))) A7 (G6 s9 λq u=>U q (pm.mem_iff.mp u)) (λq u=>by
   have:q.2∈j.map λq=>q.2:=ek▸BK.mpr ⟨q,u,rfl⟩;obtain⟨z,hz,e⟩:=BK.mp this;rw[<-e];exact M z hz) (by rw[pm.length_eq];exact st.len)
  rw[ek]at e9;refine(Mj (u9 _ _ f8) (G6 s9 pin) M r.lenq).alike e9 λH10 s10=>⟨_,rfl,N9 ?_⟩;have s0:=s9.trans s10;clear e9 u9 f8 L u8 B s7 f6 g6 Z u6 s5 Y;refine hN1 _ _ (B4 λN2 hN2=>?_);have h0:=s0 _ _ hn;refine C3 rfl ⟨o,_,0,_,rfl,rfl,IG.of (s0 _ _ ho),rfl,n,rfl,⟨_,IG.of h0⟩,Eg (PF (IG.of h0)) (λi σ O=>(∃v4,σ = [some (.ref x),some (.ref o),v4])/\Cv H10 O) ?_ ?_ ?_ ?_⟩
  .exact⟨⟨_,rfl⟩,λb o e=>e⟩
  .rintro i σ O hi ⟨_,s1⟩;exact s1.at n
  .rintro i σ O v hv ⟨⟨v4,rfl⟩,s1⟩ D1 hD1 _;rw[AH]at hv;obtain⟨y,hy,rfl⟩:=BF.mp hv;have R:y∈k:=pn.mem_iff.mpr (BB hy);have C:=s0.trans s1;refine Ze λM1 hM1=>?_;refine C3 rfl ⟨x,dx,C3 rfl ⟨C _ _ e2,rfl,C3 rfl ⟨x,y,k,j,rfl,W.same C,R,λl5 hl5=>?_⟩⟩⟩;have u1:=Cv.new (o:=.lst ((B2 j y).map V.str)) hl5;have f1:(HY O l5 (.lst ((B2 j y).map V.str))) l5=some (.lst ((B2 j y).map V.str)):=A7;generalize HY O l5 (.lst ((B2 j y).map V.str))=H2 at u1 f1⊢;have G:=C.trans u1;refine C3 rfl ⟨o,_,1,_,rfl,rfl,IG.of (G _ _ ho),rfl,a,rfl,⟨_,IG.of (G _ _ ha)⟩,λD hD=>El (G _ _ ha) (G6 G U) (VE st.len (by decide)) hD ⟨_,_,rfl⟩ λσ H3 s3 e3=>?_⟩;refine⟨D,_,rfl,IG.of e3,λl6 ts hl6 pt wt=>?_⟩;rw[Hz r.srq kq pt wt];have u4:=Cv.new (o:=.lst ((B2 j y).map V.str)) hl6;have l:∀z∈B2 j y,PySem.PyData.strOk z=true:=λz hz=>t z (T6 r.mem y R z hz);have p:(B2 j y).length<=200:=by rw[Af];exact VE (Fx ..) (by rw[AB];exact r.lenq)
   refine(y7 (u4 _ _ (s3 _ _ f1)) l p).alike (y7 A7 l p) λH4 s4=>⟨_,rfl,N9 ?_⟩;have s14:=((u1.trans s3).trans u4).trans s4;have S:=C.trans s14;clear u1 f1 u4 s3 s4 e3 l p;refine hM1 _ _ ?_;refine C3 rfl ⟨x,dx,C3 rfl ⟨S _ _ e2,rfl,C3 rfl ⟨x,y,k,j,rfl,W.same S,R,λl7 hl7=>?_⟩⟩⟩;have u5:=Cv.new (o:=.lst ((C2 j y).map V.str)) hl7;have Y:(HY H4 l7 (.lst ((C2 j y).map V.str))) l7=some (.lst ((C2 j y).map V.str)):=A7;generalize HY H4 l7 (.lst ((C2 j y).map V.str))=H5 at u5 Y⊢;have I:=S.trans u5;refine C3 rfl ⟨o,_,1,_,rfl,rfl,IG.of (I _ _ ho),rfl,a,rfl,⟨_,IG.of (I _ _ ha)⟩,λD hD=>Je (I _ _ ha) (G6 I U) (VE st.len (by decide)) hD ⟨_,_,rfl⟩ λσ H6 Z e6=>?_⟩;refine⟨D,_,rfl,IG.of e6,λl8 ts hl8 pt wt=>?_⟩;rw[Ot r.srq kq pt wt];have u7:=Cv.new (o:=.lst ((C2 j y).map V.str)) hl8;have l:∀z∈C2 j y,PySem.PyData.strOk z=true:=λz hz=>by
    obtain⟨q,u,e⟩:=BK.mp (LH.mp hz);have:=(M q u).2
    rwa [e]at this
   have p:(C2 j y).length<=200:=by rw[Df];exact VE (Jx ..) (by rw[AB];exact r.lenq)
   refine(y7 (u7 _ _ (Z _ _ Y)) l p).alike (y7 A7 l p) λH8 L=>⟨_,rfl,N9 ?_⟩;exact hD1 _ _ ⟨⟨_,rfl⟩,s1.trans (s14.trans (((u5.trans Z).trans u7).trans L))⟩
  .rintro σ O ⟨⟨v4,rfl⟩,s1⟩;exact hN2 _ _ (q O (s0.trans s1))
def My{lo:Int}{n:Nat}{g:TG}{c:TS}{D:Ends}{σ:St}{H:Hp}(Pv:Nat->St->Hp->Prop)(f:Pv 0 σ H)
  (h:∀i σ H,i<n->Pv i σ H->∀a:Ends,(∀σ' H',Pv (i+1) σ' H'->a.nx σ' H')->(∀σ' H',Pv i σ' H'->a.bk σ' H')->g (.int (lo+i)) σ H λσ2 b=>c a σ2 b) (d:∀i σ H,Pv i σ H->D.nx σ H) :
  ∃W:Nat->Nat->St->Hp->Prop,(∃m,W 0 m σ H)/\∀i m σ H,W i m σ H ->
   ((QN lo n).stop i H/\D.nx σ H)\/((QN lo n).go i H/\∃N:St->Hp->Prop,(∀σ' H',N σ' H'->∃e,e < m/\W (i+1) e σ' H')/\∀x H',(QN lo n).yld i H x H'->g x σ H' λσ2 b=>c { D with nx:=N,ct:=N,bk:=D.nx } σ2 b) :=
 Ge Pv f (λi σ H j k=>h i σ H j k _ (λ_ _ z=>z) (d i)) (d n)
def IP.sm{C:A3}{H H':Hp}{x p:A3}{c:Int}{ns:A0 Str}{g:A0 IM}(h:IP C H x ns g)(L:IK H p c)(s:Sm [p] H H'):IP C H' x ns g:=by
 obtain⟨m,r,a,b,c,d,t,u,w,i,j,A,B,D,E,F⟩:=h;obtain⟨y,z,G,_⟩:=id L;have k:∀{b:A3} {o:HO},H b=some o->o≠ .lst [.int y,.int z,.int _]->H' b=some o:=λe n=>MI s e (J8 e G n);exact⟨m,r,a,b,c,d,t,u,k w (by intro z;cases z),MI s i (L.ne i),MI s j (L.neP j),λq I=>k (A q I) (by intro z;cases z),k B (by intro z;cases z),k D (by intro z;cases z),λn f=>let⟨l,v,e⟩:=E n f;⟨l,v,MI s e (L.ne e)⟩,λn f=>let⟨l,v,e⟩:=F n f;⟨l,v,MI s e (L.ne e)⟩⟩
def KU.sm{f i:A3}{H H':Hp}{k p l:A3}{c:Int}{ns:A0 Str}{j:A0 IM}{m:Nat}(h:KU f i H k p ns j m)(L:IK H l c)(q:l≠p)(s:Sm [l] H H'):KU f i H' k p ns j m:=by
 obtain⟨⟨v,x,g,r,a,w,A,B,t,C,u,D,E,F,G,I⟩,J⟩:=h;obtain⟨y,z,d,K⟩:=id L;have lk:l≠k:=J8 d t (by intro z;cases z);refine⟨⟨v,x,g,r,a,w,A,B,MI s t lk.symm,C.sm (p:=l) (c:=c) ⟨y,z,by rw[j8 lk q];exact d,K⟩ (λb o e n=>?_),MI s u (J8 u d (by intro z;cases z)),D,E,F,MI s G q.symm,I⟩,J⟩;obtain⟨M,N,e⟩:=Pe e;rw[j8 M N];exact s _ _ e n
def JO.neX{X Y:A0 A3}{H:Hp}{o:A3}{ss:A0 Str}{ps:A0 IM}(h:JO X H o ss ps)(l:∀z∈Y,H z=none\/z∈X):JO Y H o ss ps:=by
 obtain⟨⟨a,b,i,j,k,m,p,r⟩,d,s,t⟩:=h;have g:∀{b:A3} {u:HO},H b=some u->b∉X->b∉Y:=fun{b u} e n z=>(l b z).elim (λc=>by rw[c]at e;cases e) n;exact⟨⟨a,b,i,j,k,g i m,g j p,g k r⟩,λq f=>⟨(d q f).1,g (d q f).1 (d q f).2⟩,s,t⟩
def De{a ps:A0 IM}(h:(a.map λq=>q.2).Perm (ps.map λq=>q.2)):G9 (B2 a)=G9 (B2 ps) :=
 funext λn=>Dj (U:=λ_=>True) (λ_ _ _ _=>trivial) (λn _ y=>by rw[IR,IR,h.mem_iff]) trivial
def Yy{ns:A0 Str}{a ps:A0 IM}(h:(a.map λq=>q.2).Perm (ps.map λq=>q.2)):WG ns a=WG ns ps:=by
 funext n;unfold WG;rw[De h]
def JA.names_perm{a b:A0 Str}(h:a.Perm b):∀d:JA,(d.names a).Perm (d.names b)
 | .pn _=>h.append_right _
 | .tn _=>h.filter _
 | .ps _ _=>h
 | .ts _ _=>h
def JA.prs_perm{a b:A0 (Str×Str)}(h:a.Perm b):∀d:JA,(d.prs a).Perm (d.prs b)
 | .pn _=>h
 | .tn _=>h.filter _
 | .ps _ _=>h.append_right _
 | .ts _ _=>h.filter _
def JA.names_len{ss:A0 Str}{ps:A0 IM}(h:ss.length<=30):∀d:JA,d.fit ss ps->(d.names ss).length<=30
 | .pn _,f=>by show(ss++_).length<=30;rw[AV];exact f.1
 | .tn _,_=>VE (BC ..) h
 | .ps _ _,_=>h
 | .ts _ _,_=>h
def JA.prs_len{ss:A0 Str}{ps:A0 IM}(h:ps.length<=140):∀d:JA,d.fit ss ps->(d.prs (ps.map λq=>q.2)).length<=140
 | .pn _,_=>by show(ps.map _).length<=140;rw[AB];exact h
 | .tn _,_=>VE (BC ..) (by rw[AB];exact h)
 | .ps _ _,f=>by show(ps.map _++_).length<=140;rw[AV,AB];exact f
 | .ts _ _,_=>VE (BC ..) (by rw[AB];exact h)
def JA.fit_perm{ss ns:A0 Str}{ps a:A0 IM}(h:ns.Perm ss)(k:(a.map λq=>q.2).Perm (ps.map λq=>q.2)):∀d:JA,d.fit ss ps->d.fit ns a
 | .pn _,f=>⟨by rw[h.length_eq];exact f.1,f.2⟩
 | .tn _,_=>trivial
 | .ps _ _,f=>by
  have e:=k.length_eq;rw[AB,AB]at e;show a.length+1<=140;rw[e];exact f
 | .ts _ _,_=>trivial
def JA.can_perm{ss ns:A0 Str}{ps a:A0 IM}(h:ns.Perm ss)(k:(a.map λq=>q.2).Perm (ps.map λq=>q.2)):∀d:JA,d.can ss ps->d.can ns a
 | .pn _,c=>⟨c.1,λz=>c.2 (h.mem_iff.mp z)⟩
 | .tn _,c=>h.mem_iff.mpr c
 | .ps _ _,c=>⟨h.mem_iff.mpr c.1,h.mem_iff.mpr c.2.1,λz=>c.2.2 (k.mem_iff.mp z)⟩
 | .ts _ _,c=>⟨h.mem_iff.mpr c.1,h.mem_iff.mpr c.2.1,k.mem_iff.mpr c.2.2⟩
def zGg(q:Row3):PyData:=QM false ([q.1,q.2.1.getD "",q.2.2].map PyData.str)
def R3.ow{H:Hp}{l:A3}{g:A0 (A3×Row3)}{ns a:A0 Str}{f:A0 IM}{sk:Str->A0 Str}{ds:A0 Row3}(h:R3 H l g)(e:(g.map λq=>q.2)=ds)(k:ds=Az (WG ns f) (G9 sk) a)(sub:∀n∈a,n∈ns)(t:∀n∈a,PySem.PyData.strOk n=true)(u:a.length<=100):Ow H 3 (QM true (ds.map zGg)) (.ref l) [l]:=by
 have v:g.length<=200:=by
  have:=congrArg List.length (e.trans k);unfold Az at this;rw[AB,AB]at this;have:=BC (Ty (WG ns f) (G9 sk)) a;lia
 refine Ow.flat (b:=true) h.1 (by rw[<-e,AB,AB,AB]) (by rw[AB];exact v) λi y x j o=>?_;rw[AH]at o;rw[<-e,BS,AH]at j;obtain⟨q,p,rfl⟩:=BF.mp o;rw[p]at j;cases j;have m:=BB p;have w:q.2∈Az (WG ns f) (G9 sk) a:=k▸e▸BK.mpr ⟨q,m,rfl⟩;obtain⟨n,c,r⟩:=BK.mp w;have c:=(AY.mp c).1;have d:=h.2 q m;rw[<-r,Wa (sub n c)]at d;show Ow H 2 (zGg q.2) _ _;rw[<-r,Wa (sub n c)];refine Xb (n:=0) (ss:=[n,G9 (B2 f) n,G9 sk n]) d (λs hs=>?_) (by show 3<=200;decide);rcases AR.mp hs with z | hs
 .rw[z];exact t n c
 .rcases AR.mp hs with z | hs
  .rw[z];exact Lz
  .rw[AE.mp hs];exact Lz
def Ow.told{H:Hp}{r l:A3}{d:PyData}(h:H r=some (.tup [.str "told",.ref l]))(o:Ow H 3 d (.ref l) [l]):Ow H 4 (.tuple [.str "told",d]) (.ref r) [l]:=Ow.two (L:=[]) h (.str (by decide +kernel)) o
structure KO(CK CW:A3)(X:A0 A3)(H:Hp)(k p o:A3)(ss:A0 Str)(ps:A0 IM)(ns:A0 Str)(qs:A0 IM)(m:Nat):Prop where
 kp:KU CK CW H k p ns qs m
 own:JO X H o ss ps
 pn:ns.Perm ss
 pq:(qs.map λq=>q.2).Perm (ps.map λq=>q.2)
 l30:ss.length<=30
 l140:ps.length<=140
def KO.same{a b:A3}{X:A0 A3}{H H':Hp}{k p o:A3}{ss ns:A0 Str}{ps c:A0 IM}{m:Nat}(h:KO a b X H k p o ss ps ns c m)(s:Cv H H'):KO a b X H' k p o ss ps ns c m:=⟨h.kp.same s,h.own.same s,h.pn,h.pq,h.l30,h.l140⟩
def KO.neX{a b:A3}{X Y:A0 A3}{H:Hp}{k p o:A3}{ss ns:A0 Str}{ps c:A0 IM}{m:Nat}(h:KO a b X H k p o ss ps ns c m)(d:∀z∈Y,H z=none\/z∈X):KO a b Y H k p o ss ps ns c m:=⟨h.kp,h.own.neX d,h.pn,h.pq,h.l30,h.l140⟩
theorem KA:IB ["_law_script","_law_own","_law_keeper","_law_spent","_law_k","_law_left_here","_law_turn","_law_deed_here","_law_new","_law_found","_law_due"] ["_law_script"] (B6 NT):=KL
def Mh(K:VA):Sp:=λb H Q _=>∃(u:A3) (a:A0 Int),b = [.ref u]/\IG K H u (a.map V.int)/\a.length<=63/\∀c,Q (.bl true) c
set_option maxHeartbeats 8000000 in
theorem zCv(T:Tx K mg){f:A3}{fd:IT}(F:PM K "law" "law" NT f fd):IJ P w K mg base JQ 10 f fd ["_law_script"] (Mh K):=by
 have D:IJ P w K mg base JQ 4 T.al.f T.al.fd ["_law_found","_law_due"] (Y4 4):=X6 T 4;refine F.o1 KA λcdv A outer s H vs Q E C h=>?_
 .obtain⟨u,xs,rfl,hS,hlen,q⟩:=h;have hu:=Q8 C;refine⟨_,(A9 (C6 (i:=1) KA.nd rfl (.inl rfl) (E3 T.aI (Ar T) (Rm C) (A6 (E3 T.aT (Cc T) (Rm C) (A6 (pv 0) (A6 B3 A8))) A8)))
   (A9 (C6 (i:=2) KA.nd rfl (.inl rfl) (l9 T.bB (Cq T) (Rm C) rfl T.bA T.bo .nil J6 (A6 (l9 T.ba (Q7 T) (Rm C) rfl T.a9 T.ax .nil J6 (A6 (E6 (KN K) (pv 1) B3 (λ_ _=>rfl)) (A6 (E6 (KN K) (pv 1) B3 (λ_ _=>rfl)) A8))) A8)))
   (A9 (C6 (i:=3) KA.nd rfl (.inl rfl) B3)
   (A9 (U1 PassesOwn.never rfl (Tv (by rfl) T.aL (A6 B3 (A6 (I0 (Tm rfl) T.bF zBn (A6 B3 (A6 (I0 (Ti rfl) T.bE zBj (A6 (I0 (P4 K) T.au O8 (A6 (pv 0) A8)) (A6 B3 A8))) A8))) A8))) (J0 (i:=4) KA.nd rfl (.inl rfl))
   (A9 (C6 (i:=5) KA.nd rfl (.inl rfl) (E3 T.aT (Cc T) (Rm C) (A6 (pv 0) (A6 (pv 4) A8))))
   (A9 (C6 (i:=3) KA.nd rfl (.inl rfl) (G0 U6 (pv 3) (G0 d9 B3 (E3 T.aW (Fo T) (Rm C) (A6 (pv 1) A8)))))
   (A9 (M0 (B8 Yl (pv 3) B3 (C8 _)) (B5 Wh) E4)
   (B5 (U1 PassesOwn.never rfl (SW T.aL (A6 (G0 U6 B3 (E3 T.ah (C9 T) (Rm C) (A6 (pv 5) (A6 B3 A8)))) A8)) (J0 (i:=6) KA.nd rfl (.inl rfl))
   (A9 (C6 (i:=7) KA.nd rfl (.inl rfl) (E3 T.a6 (Kf T) (Rm C) (A6 (pv 5) (A6 (pv 1) A8))))
   (B5 (M0 (B8 Pr (E3 T.aO (Cf T) (Rm C) (A6 (pv 1) (A6 (pv 7) A8))) g7 (C8 _)) (A9 (C6 (i:=8) KA.nd rfl (.inl rfl) (E6 (OP K) (E3 T.aS (Cr T) (Rm C) (A6 (pv 1) (A6 (pv 7) A8))) B3 (λ_ _=>rfl)))
   (A9 (C6 (i:=9) KA.nd rfl (.inl rfl) (E3 T.a7 (Iw T) (Rm C) (A6 (pv 2) (A6 (pv 7) A8))))
   (A9 (C6 (i:=10) KA.nd rfl (.inl rfl) (E3 T.aJ (At T) (Rm C) (A6 (E3 T.aA (V7 T) (Rm C) (A6 (pv 1) A8)) (A6 (E3 T.aA (V7 T) (Rm C) (A6 (pv 8) A8)) A8))))
   (A9 (M0 (PW.pt (Ci (B8 (Og K) (E6 (OP K) (pv 7) B3 (λ_ _=>rfl)) (J4 (A6 C1 (A6 C1 A8))) rfl) (m8 (U0 (Q5 (E3 T.al D (Rm C) (A6 (pv 9) (A6 (J4 (A6 C1 (A6 (pv 10) A8))) A8)))))))) (B5 (C0 Hg)) E4)
   (B5 (C6 (i:=1) KA.nd rfl (.inl rfl) (pv 8))))))) E4)))))))))
   (B5 (C0 (E3 T.aV (Eu T) (Rm C) (A6 (J3 (pv 2) T.ad T.ay.m (w4 T) (Rm C) T.ay.b .nil J6) (A6 (pv 1) A8))))))))),?_⟩
  refine B4 λN1 hN1=>?_;refine C3 rfl ⟨u,xs,0,rfl,hS,by decide,λp0 H1 hp0 s1 L1=>?_⟩;refine⟨p0,0,rfl,L1,by decide,λo ss ps H2 ho k2 O2 ls lp=>?_⟩;refine hN1 _ _ (B4 λN2 hN2=>?_);obtain⟨⟨a,b,e1,e2,e3,_⟩,pin,nm,st⟩:=id O2;have s2:Cv H H2:=λb o e=>k2 b o (s1 b o e) (by simpa using B0 e hp0);refine C3 rfl ⟨o,_,0,_,rfl,rfl,IG.of e1,rfl,C3 rfl ⟨o,_,1,_,rfl,rfl,IG.of e1,rfl,?_⟩⟩;intro y dy ny ndy ney;refine Dg ny ndy e2 e3 (λq hq=>(pin q hq).1) nm st λI M H3 pn sn pq sq s3 W3 _=>?_;obtain⟨_,dx,_,_,_,_,_,_,ey,_⟩:=id W3;intro k dk nk ndk nek;have s0:Cv H3 (HY (HY H3 dk (.own k)) k (.ins T.aa dk [])):=λb o e=>by
   rw[B7 (B0 e nk),B7 (B0 e ndk)];exact e
  have nmn:∀n∈I,P2 n=true:=λn hn=>nm.1 n (pn.mem_iff.mp hn);refine⟨k,dk,y,I,M,rfl,A7,W3.same s0,B0 ey nk,nmn,λp O H4 N b4 hp K4=>⟨rfl,?_⟩⟩;have hp3:H3 p=none:=s0.free hp;have s34:Cv H3 H4:=λb o e=>b4 b o (B0 e nk) (B0 e hp3) (s0 b o e);have KO4:KO T.aa T.ac [k,p] H4 k p o ss ps I O 0:=⟨K4,(((O2.same s3).neX (Y:=[k,p]) λz hz=>.inl (by
   rcases AR.mp hz with e | e
   .rw[e];exact nk
   .rw[AE.mp e];exact hp3)).same s34),pn,(N.map _).trans (pq.map _),VE ls (by decide),VE lp (by decide)⟩
  have J:=s2.trans (s3.trans s34);have kH:H k=none:=(s2.trans s3).free nk;have pH:H p=none:=(s2.trans s3).free hp3;clear b4 hp K4 s0 hp3 W3 ey pq sq N sn pn nmn s3 s34 e1 e2 e3 pin nm st O2 k2 L1 s1 s2;refine hN2 _ _ (B4 λN3 hN3=>?_);refine hN3 _ _ (B4 λN4 hN4=>?_);have hS4:IG K H4 u (xs.map V.int):=(J.at u).seqL hS;refine⟨_,rfl,u,_,rfl,.inl hS4,_,_,rfl,_,_,rfl,?_⟩;have hz:∀l:Int,∃z:Nat,(if(if(31:Int)<l then 31 else l) >(9:Int)then(if(31:Int)<l then 31 else l)else 9) =(z:Int)/\1<=z/\z<=31:=λl=>by
   by_cases h1:(31:Int)<l
   .rw[AN h1];exact⟨31,rfl,by decide,by decide⟩
   .rw[AI h1];by_cases h2:l>9
    .rw[AN h2];exact⟨l.toNat,by lia,by lia,by lia⟩
    .rw[AI h2];exact⟨9,rfl,by decide,by decide⟩
  obtain⟨z,ez,z1,z2⟩:=hz ((xs.map V.int).length:Int);refine⟨1,(z:Int),congrArg (λt=>[V.int 1,V.int t]) ez,⟨by lia,by lia,by lia,by lia⟩,?_⟩;rw[show((z:Int)-1).toNat=z-1 by lia];refine My (λi σ G=>∃(o:A3) (sp:Int) (v4 v5 v6 v7 v8 v9 L:A5 V) (ss I:A0 Str) (ps M:A0 IM) (m:Nat),σ = [some (.ref u),some (.ref o),some (.ref k),some (.int sp),v4,v5,v6,v7,v8,v9,L]/\Cv H G/\KO T.aa T.ac [k,p] G k p o ss ps I M m/\m<=3*i) ⟨_,_,_,_,_,_,_,_,_,_,_,_,_,_,rfl,J,KO4,VD _⟩ ?_ ?_
  .clear KO4 J hS4 hN1 hN2 hN3 hN4;rintro i σ F0 hi ⟨o,sp,v4,v5,v6,v7,v8,v9,L,R,I,S,M,m,rfl,sF,KF,lm⟩ D1 hD1 hB1;refine Ze λM1 U=>?_;refine C3 rfl (C3 rfl ⟨u,xs,1+i,rfl,(sF.at u).seqL hS,by lia,λl F1 hl s1 L1=>?_⟩);refine U _ _ (B4 λM2 X=>?_);have K1:=KF.same s1;have sF1:=sF.trans s1;obtain⟨dk,_,_,_,_,_,_,_,hk,_,_,_,_,_,hp,_⟩:=KF.kp.ex;have lk:l≠k:=(B0 hk hl).symm;have lp:l≠p:=(B0 hp hl).symm;have K1:KO T.aa T.ac [l,k,p] F1 k p o R S I M m:=(KF.neX (Y:=[l,k,p]) λz hz=>(AR.mp hz).elim (λe=>.inl (by rw[e];exact hl)) .inr).same s1;clear s1 hk hp;refine C3 rfl (C3 rfl ⟨[l,k,p],o,R,S,rfl,K1.own,⟨3,_,rfl,rfl,.inl ⟨by decide,by decide⟩,B9 rfl rfl (X _ _ (B4 λM3 Z=>?_))⟩⟩);refine C3 rfl (B9 rfl rfl ?_);refine⟨_,rfl,Z8 (λ_=>?_) λ_=>?_⟩
   .exact hB1 _ _ ⟨_,_,_,_,_,_,_,_,_,_,_,_,_,_,rfl,sF1,K1.neX λz hz=>.inr (AL _ hz),lm⟩
   refine Z _ _ ?_;refine C3 rfl ⟨l,0,3,rfl,L1,by decide,by decide,by decide,λd F2 hd k2 L2=>?_⟩;refine B9 rfl rfl ⟨1 +(d:Int),rfl,by lia,by lia,?_⟩;rw[show(1 +(d:Int)).toNat=1+d by lia];have lX:l∈[l,k,p]:=AX ..;have sF2:Cv H F2:=λb o e=>k2 b o (sF1 b o e) (by simpa using B0 (sF b o e) hl);have v:KO T.aa T.ac [l,k,p] F2 k p o R S I M m:=⟨K1.kp.sm L1 lp k2,K1.own.smp lX k2,K1.pn,K1.pq,K1.l30,K1.l140⟩;have l0:H l=none:=by
    cases e:H l with
    | none=>rfl
    | some o=>rw[sF l o e]at hl;cases hl
   refine U3 (λj σ G=>∃(o:A3) (v6 v7 v8 v9 L:A5 V) (ss I:A0 Str) (ps M:A0 IM) (m:Nat) (c:Int),σ = [some (.ref u),some (.ref o),some (.ref k),some (.int (sp+3 *(1000 +(R.length:Int) *(S.length:Int)))),some (.int (1 +(i:Int))),some (.ref l),v6,v7,v8,v9,L]/\Cv H G/\IK G l c/\c<=1+10 *(j:Int)/\KO T.aa T.ac [l,k,p] G k p o ss ps I M m/\m<=3*i+j) ⟨_,_,_,_,_,_,_,_,_,_,_,_,rfl,sF2,L2,by lia,v,by lia⟩ ?_ ?_
   .clear v K1 KF sF2 sF1 L1 L2 lm k2 U X Z hB1 hD1;rintro j σ F2 hj ⟨o,v6,v7,v8,v9,L,ss,I,ps,M,m,c,rfl,s2,L2,hc,v,lm⟩ D2 hD2 _;have j3:j<3:=by lia
    refine Ze λM1 U=>?_;refine C3 rfl (C3 rfl ⟨[l,k,p],l,o,c,ss,ps,rfl,L2,by lia,lX,v.own,by have:=v.l140;lia,λt e c' F3 ht hc' k3 L3 D3 f3=>?_⟩);refine U _ _ ?_;have s3:Cv H F3:=λb o e=>k3 b o (s2 b o e) (by simpa using B0 e l0);have kp3:=v.kp.sm L2 lp k3;have O3:=v.own.smp lX k3;refine C3 rfl (C3 rfl ⟨[l,k,p],o,t,ss,ps,e,rfl,O3,D3,f3,λF4 J hc=>?_,λr F4 J=>?_⟩)
    .refine⟨rfl,_,rfl,Y6 (B4 λM2 X=>?_)⟩;have O4:=O3.same J;have D4:=D3.same J;have kp4:=kp3.same J;obtain⟨dk,_,_,_,_,_,_,_,hk,W,_,_,_,_,hp,_⟩:=id kp4.ex;have hX:∀z∈[l,k,p],F4 z≠none:=λz hz=>by
      obtain⟨_,_,el,_⟩:=L3.same J;rcases AR.mp hz with h | hz
      .rw[h,el];intro z;cases z
      rcases AR.mp hz with h | hz
      .rw[h,hk];intro z;cases z
      .rw[AE.mp hz,hp];intro z;cases z
     refine C3 rfl (C3 rfl ⟨[l,k,p],o,t,ss,ps,e,rfl,hX,O4,D4,f3,hc,by have:=v.l140;lia,λr o2 sa ss2 ps2 F5 s5 hr0 er O5 en ep=>?_⟩);refine⟨r,_,0,_,rfl,rfl,IU.of er,rfl,?_⟩;refine X _ _ (B4 λM3 Z=>?_);have s5':=s3.trans (J.trans s5);refine C3 rfl (C3 rfl ⟨k,p,t,I,M,m,e,rfl,kp4.same s5,by lia,D4.same s5,e.fit_perm v.pn v.pq f3,e.can_perm v.pn v.pq hc,λr2 l2 rs ns2 O F6 b6 hr2 hl2 er2 K6 pn2 N R6 e6=>?_⟩);refine Z _ _ (B4 λM4 hM4=>?_);have m6:Sm [l,k,p] F5 F6:=λb u e n=>b6 b u (λz=>n (by rw[z];simp)) (λz=>n (by rw[z];simp)) e;have s6:Cv H F6:=λb o e=>b6 b o (B0 e kH) (B0 e pH) (s5' b o e);have L6:IK F6 l c':=let⟨y,z,e,h⟩:=(L3.same J).same s5;⟨y,z,b6 _ _ lk lp e,h⟩;have D6:MD F6 t e:=⟨b6 _ _ (J8 D4.at_ hk (by intro z;cases z)) (J8 D4.at_ hp (by intro z;cases z)) (D4.same s5).at_,D4.ok⟩;have O6:=(O4.same s5).sm m6;have N6:=O5.sm m6;have er6:F6 r2=some (.tup [.str "told",.ref l2]):=(Pe er2).2.2;have R6:=R6.same V3;have W6:=K6.ex;obtain⟨_,_,_,_,_,_,_,_,_,W2,_⟩:=K6.ex;have pn3:ns2.Perm ss2:=by rw[en];exact pn2.trans (e.names_perm v.pn)
     have pq3:(O.map λq=>q.2).Perm (ps2.map λq=>q.2):=by rw[ep];exact N.trans (e.prs_perm v.pq)
     clear b6 hr2 hl2 er2 m6 O5 O4 D4 D3 hk hp hX kp4 kp3 s5' s5 J s3 L3 k3 O3 er hr0 L2 s2;refine C3 rfl ⟨[l,k,p],o,ss,ps,rfl,O6,λla nsa ra F7 s7 hla pna srta ea pina qa=>?_⟩;refine C3 rfl ⟨[l,k,p],o2,ss2,ps2,rfl,N6.same s7,λlb nsb rb F8 s8 hlb pnb srtb eb pinb qb=>?_⟩;have nda:nsa.Nodup:=pna.nodup_iff.mpr O6.nm.2.1;refine⟨la,lb,ra,rb,nsa,nsb,ps,ps2,rfl,s8 _ _ ea,λq hq=>s8 _ _ (pina q hq).1,qa,nda,by rw[pna.length_eq];exact O6.nm.2.2,eb,λq hq=>(pinb q hq).1,qb,by rw[pnb.length_eq];exact N6.nm.2.2,λl3 rs3 F9 s9 hl3 R9 e9=>?_⟩;refine hM4 _ _ (B4 λM5 hM5=>?_);have s79:=(s7.trans s8).trans s9;have okn:∀n∈ns2,PySem.PyData.strOk n=true:=λn hn=>P9 (N6.nm.1 n (pn3.mem_iff.mp hn));have OI:ns2.length<=100:=by rw[pn3.length_eq];exact N6.nm.2.2
     rw[K7 srta W.ok.srt (pna.trans v.pn.symm),K7 srtb W2.ok.srt (pnb.trans pn3.symm),<-Yy v.pq,<-De pq3]at e9;have same:(∀n∈ns2,n∈I)->∀(g:Hp) (z:A3) (Q':VK) (E':XK),Cv F9 g->g z=none->(∀H',Cv g H'->Q' (.bl true) H')->Y4 4 [.ref r2,.ref z] (HY g z (.tup [.str "told",.ref l3])) Q' E':=λsub g z Q' E' B hz hQ=>by
      have u:=Cv.new (o:=.tup [.str "told",.ref l3]) hz;exact(Ow.told (u _ _ (B _ _ (s79 _ _ er6))) ((R6.same ((s79.trans B).trans u)).ow e6 rfl sub okn OI)).alike (Ow.told A7 ((R9.same (B.trans u)).ow e9 rfl sub okn OI)) λH' s'=>hQ H' (u.trans s')
     have fin:∀σ' g,σ' = [some (.ref u),some (.ref o),some (.ref k),some (.int (sp+3 *(1000 +(R.length:Int) *(S.length:Int)))),some (.int (1 +(i:Int))),some (.ref l),some (.int (0 +(j:Int))),some (.ref t),some (.ref o2),some (.ref r2),some (.ref l3)]->Cv F9 g->M5 σ' g:=λσ' g eσ B=>by
      subst eσ;have s:=s79.trans B;refine hM5 _ _ (C3 rfl (hD2 _ _ ⟨_,_,_,_,_,_,_,_,_,_,_,_,rfl,s6.trans s,L6.same s,by lia,⟨K6.same s,N6.same s,pn3,pq3,?_,?_⟩,by lia⟩))
      .rw[en];exact e.names_len v.l30 f3
      .have:=e.prs_len v.l140 f3;rw[<-ep,AB]at this;exact this
     have D9:=D6.same s79;clear U X Z hM4 hM5 e6 e9 R6 R9 okn OI ea eb qa qb pina pinb srta srtb;cases e with
     | pn y =>
      refine C3 rfl ⟨t,_,0,_,rfl,rfl,IU.of D9.at_,rfl,⟨by show 2<=sizeLine;decide,λz hz=>V2 (ss:=["put_strike","take_strike"]) (.inr (IU.of A7)) ⟨_,rfl,?_⟩⟩⟩;rw[show decide (("put_name":Str)∈(["put_strike","take_strike"]:A0 Str))=false by decide +kernel];exact N9 (N9 (fin _ _ rfl (Cv.new hz)))
     | tn y =>
      refine C3 rfl ⟨t,_,0,_,rfl,rfl,IU.of D9.at_,rfl,⟨by show 2<=sizeLine;decide,λz hz=>V2 (ss:=["put_strike","take_strike"]) (.inr (IU.of A7)) ⟨_,rfl,?_⟩⟩⟩;rw[show decide (("take_name":Str)∈(["put_strike","take_strike"]:A0 Str))=false by decide +kernel];exact N9 (N9 (fin _ _ rfl (Cv.new hz)))
     | ps x y =>
      refine C3 rfl ⟨t,_,0,_,rfl,rfl,IU.of D9.at_,rfl,⟨by show 2<=sizeLine;decide,λz hz=>V2 (ss:=["put_strike","take_strike"]) (.inr (IU.of A7)) ⟨_,rfl,?_⟩⟩⟩;rw[show decide (("put_strike":Str)∈(["put_strike","take_strike"]:A0 Str))=true by decide +kernel];have u:=Cv.new (o:=.tup [.str "put_strike",.str "take_strike"]) hz;refine Y6 (C3 rfl (C3 rfl ⟨by show 2<=sizeLine;decide,λz2 hz2=>same (λn hn=>pn2.mem_iff.mp hn) _ _ _ _ u hz2 λg B=>⟨_,rfl,N9 (fin _ _ rfl (u.trans B))⟩⟩))
     | ts x y =>
      refine C3 rfl ⟨t,_,0,_,rfl,rfl,IU.of D9.at_,rfl,⟨by show 2<=sizeLine;decide,λz hz=>V2 (ss:=["put_strike","take_strike"]) (.inr (IU.of A7)) ⟨_,rfl,?_⟩⟩⟩;rw[show decide (("take_strike":Str)∈(["put_strike","take_strike"]:A0 Str))=true by decide +kernel];have u:=Cv.new (o:=.tup [.str "put_strike",.str "take_strike"]) hz;refine Y6 (C3 rfl (C3 rfl ⟨by show 2<=sizeLine;decide,λz2 hz2=>same (λn hn=>pn2.mem_iff.mp hn) _ _ _ _ u hz2 λg B=>⟨_,rfl,N9 (fin _ _ rfl (u.trans B))⟩⟩))
    .refine⟨rfl,_,rfl,N9 ?_⟩;exact hD2 _ _ ⟨_,_,_,_,_,_,_,_,_,_,_,_,rfl,s3.trans J,L3.same J,by lia,⟨kp3.same J,O3.same J,v.pn,v.pq,v.l30,v.l140⟩,by lia⟩
   .rintro σ G ⟨o,v6,v7,v8,v9,L,ss,I,ps,M,m,c,rfl,sG,_,_,KG,lm⟩;exact hD1 _ _ ⟨_,_,_,_,_,_,_,_,_,_,_,_,_,_,rfl,sG,KG.neX λz hz=>.inr (AL _ hz),by lia⟩
  .rintro i σ G ⟨o,sp,v4,v5,v6,v7,v8,v9,L,ss,I,ps,M,m,rfl,sG,KG,lm⟩;refine hN4 _ _ ?_;obtain⟨dk,_,_,_,_,_,_,_,hk,_⟩:=id KG.kp.ex;refine C3 rfl ⟨k,dk,_,rfl,hk,rfl,k,p,I,M,m,rfl,KG.kp,λy O G2 N s2 hy W=>?_⟩;refine C3 rfl ⟨[k,p],y,o,ss,I,O,ps,rfl,W,KG.own.same s2,KG.pn,(N.map _).trans KG.pq,λG3 _=>q G3⟩
end
section
variable{K:VA}{h:H_}{mg:Str->A5 A2}
theorem SD{us:A0 A2}(h:us.length=1):∃a,us = [a]:=List.length_eq_one_iff.mp h
theorem OI{us:A0 A2}(h:us.length=2):∃a b,us = [a,b]:=by
 cases us with
 | nil=>cases h
 | cons a r=>obtain⟨b,rfl⟩:=SD (Nat.succ.inj h);exact⟨a,b,rfl⟩
theorem RH{us:A0 A2}(h:us.length=3):∃a b c,us = [a,b,c]:=by
 cases us with
 | nil=>cases h
 | cons a r=>obtain⟨b,c,rfl⟩:=OI (Nat.succ.inj h);exact⟨a,b,c,rfl⟩
def IZ{x:Str}{st:IL}{ps:A0 Str}{f:A3}{n:A2}{o i:A5 A3}{j:HU (A5 A2)}{kV e m d ct:A2}(X:K.In h)(G:h.Ns mainGlobals mg)(a:PySem.W.nsIn K mainGlobals x=some (some (.ref f)))
  (l:K.lookup f=some ⟨n,o,.func (PySem.W.fnOf x x (T7 st) (S3 st) (B6 st) .none kV e m i d ct),j⟩) (c:PySem.W.codeIn K d x=true) (k:PySem.W.keepIn K (.ref f)=true)
  (p:∀(kV e m:A2) (i:A5 A3) (d ct:A2) (us:A0 A2),us.length=ps.length->bindArgs (PySem.W.fnOf x x (T7 st) (S3 st) (B6 st) .none kV e m i d ct) ⟨us,[]⟩=pure (ps.zip us):=by intro _ _ _ _ _ _ us g;first | (obtain rfl:=FO.mp g;rfl) | (obtain⟨a,rfl⟩:=Sw.SD g;rfl) | (obtain⟨a,b,rfl⟩:=Sw.OI g;rfl) | (obtain⟨a,b,c,rfl⟩:=Sw.RH g;rfl)):Fn K mg x st ps :=
 ⟨f,_,KB l c k,(KB l c k).binds p,PySem.W.mg_of X G a⟩
def KS{C:A3}{x q:Str}{st:IL}{ps:A0 Str}{f:A3}{n:A2}{o h:A5 A3}{j:HU (A5 A2)}{kV e m d ct:A2}(a:PySem.W.findIn K (.ref C) x=some (some (.ref f)))(i:PySem.W.isFn K (.ref f)=true)
  (l:K.lookup f=some ⟨n,o,.func (PySem.W.fnOf x q (T7 st) (S3 st) (B6 st) .none kV e m h d ct),j⟩) (c:PySem.W.codeIn K d q=true) (k:PySem.W.keepIn K (.ref f)=true)
  (p:∀(kV e m:A2) (h:A5 A3) (d ct:A2) (us:A0 A2),us.length=ps.length->bindArgs (PySem.W.fnOf x q (T7 st) (S3 st) (B6 st) .none kV e m h d ct) ⟨us,[]⟩=pure (ps.zip us):=by intro _ _ _ _ _ _ us g;first | (obtain rfl:=FO.mp g;rfl) | (obtain⟨a,rfl⟩:=Sw.SD g;rfl) | (obtain⟨a,b,rfl⟩:=Sw.OI g;rfl) | (obtain⟨a,b,c,rfl⟩:=Sw.RH g;rfl)):Mt K C x q st ps :=
 ⟨f,_,KB l c k,(KB l c k).binds p,⟨a,i,k⟩⟩
theorem SA{x z:Str}{v:A2}(X:K.In h)(G:h.Ns mainGlobals mg)(a:PySem.W.nsIn K mainGlobals x=some (some v))(e:∃t,v = .str z t):∃t,mg x=some (.str z t):=by
 obtain⟨t,rfl⟩:=e;exact⟨t,PySem.W.mg_of X G a⟩
theorem SE{x:Str}{z:Int}{v:A2}(X:K.In h)(G:h.Ns mainGlobals mg)(a:PySem.W.nsIn K mainGlobals x=some (some v))(e:∃t,v = .int z t):∃t,mg x=some (.int z t):=by
 obtain⟨t,rfl⟩:=e;exact⟨t,PySem.W.mg_of X G a⟩
theorem RU{C:A3}(h:PySem.W.findIn K (.ref C) "__init__" = some (some (.builtin "ValueError.__init__"))):PySem.W.findIn K (.ref C) "__init__" = some (some (.builtin "ValueError.__init__")):=h
theorem JG{C:A3}{f:Str}(h:PySem.W.findIn K (.ref C) f=some none):JI K C f:=h
end
def SG{l:PySem.W.OpenLaw}{w:HX}{K:VA}{h:H_}{g:Str->A5 A2}{n f:A3}{r:A2}{t o:A5 A3}{j:HU (A5 A2)}{kV i p d ct:A2}(X:K.In h)(G:h.Ns mainGlobals g)(m:g "law" = some (.ref n))
  (T:Tx K g) (a:PySem.W.nsIn K mainGlobals "law" = some (some (.ref f))) (lk:K.lookup f=some ⟨r,t,.func (PySem.W.fnOf "law" "law" (T7 NT) (S3 NT) (B6 NT) .none kV i p o d ct),j⟩) (c:PySem.W.codeIn K d "law" = true) (k:PySem.W.keepIn K (.ref f)=true) :
  ∃q:IT,(∀(s:A4) (v:A2),BindsTo s q ⟨[v],[]⟩ [("_law_script",v)])/\∀b:H_,K.In b->b.Ns mainGlobals g->IJ l.prog w K g b JQ 10 n q ["_law_script"] (Mh K):=by
 have e:=m.symm.trans (PySem.W.mg_of X G a);cases e;exact⟨PySem.W.fnOf "law" "law" (T7 NT) (S3 NT) (B6 NT) .none kV i p o d ct,λs v=>.of_eq rfl,λb _ _=>zCv T (KB lk c k)⟩
def walk{l:PySem.W.OpenLaw}{q:HV}{c:A0 Str}{o:(Str->A5 A2)->H_->Prop}{i:HX->H_->Prop}{d:DefRec}{K:Params->VA}(p:l.most=some 63)(g:d.params.defaults = [])
  (r:∀(w:HX) (h:H_),i w h->(K w.params).In h)
  (F:∀(w:HX) (e:Str->A5 A2) (j:A3) (h:H_),(K w.params).In h->h.Ns mainGlobals e->e d.name=some (.ref j) ->
   ∃m:IT,(∀(s:A4) (u:A2),BindsTo s m ⟨[u],[]⟩ [("_law_script",u)])/\∀b:H_,(K w.params).In b->b.Ns mainGlobals e->IJ l.prog w (K w.params) e b JQ 10 j m ["_law_script"] (Mh (K w.params))) :
  PySem.W.WalkO q c o i l.row.toRowW d [] (λf vs=>PySem.call f vs) :=
 L2.RE (n:=63) (k:=10) (x := "_law_script") (CX:=λ_=>JQ) (sp:=λw=>Mh (K w.params)) p (by decide) g ⟨rfl,by decide,by decide⟩ r F (λ_ _ a t v _ y=>⟨a,t,rfl,y,v,λ_=>rfl⟩) λ_ _ _ _ _ z=>z
end Sw
open PySem PySem.W PyProof.Rows
set_option maxRecDepth 100000 in
set_option maxHeartbeats 0 in
theorem PySem.Challenge.cw_strikeweave_k64_strikes_put_and_taken_holds : PySem.Challenge.rw_strikeweave_k64_strikes_put_and_taken.Holds := by
 w_on;o_law;k_head;(case hw=>w_witness2)
 k_fill
 refine Sw.walk (l:=PySem.Challenge.rw_strikeweave_k64_strikes_put_and_taken) rfl rfl (λw h Y=>PySem.W.kIn_of Y) ?F
 case F =>
  intro w mg fa h KX G hmg;refine' Sw.SG KX G hmg (Sw.Tx.mk (Sw.IZ KX G ?a1 ?l2 ?c3 ?k4)
   (Sw.IZ KX G ?a5 ?l6 ?c7 ?k8)
   (Sw.IZ KX G ?a9 ?l10 ?c11 ?k12)
   (Sw.IZ KX G ?a13 ?l14 ?c15 ?k16)
   (Sw.IZ KX G ?a17 ?l18 ?c19 ?k20)
   (Sw.IZ KX G ?a21 ?l22 ?c23 ?k24)
   (Sw.IZ KX G ?a25 ?l26 ?c27 ?k28)
   (Sw.IZ KX G ?a29 ?l30 ?c31 ?k32)
   (Sw.IZ KX G ?a33 ?l34 ?c35 ?k36)
   (Sw.IZ KX G ?a37 ?l38 ?c39 ?k40)
   (Sw.IZ KX G ?a41 ?l42 ?c43 ?k44)
   (Sw.IZ KX G ?a45 ?l46 ?c47 ?k48)
   (Sw.IZ KX G ?a49 ?l50 ?c51 ?k52)
   (Sw.IZ KX G ?a53 ?l54 ?c55 ?k56)
   (Sw.IZ KX G ?a57 ?l58 ?c59 ?k60)
   (Sw.IZ KX G ?a61 ?l62 ?c63 ?k64)
   (Sw.IZ KX G ?a65 ?l66 ?c67 ?k68)
   (Sw.IZ KX G ?a69 ?l70 ?c71 ?k72)
   (Sw.IZ KX G ?a73 ?l74 ?c75 ?k76)
   (Sw.IZ KX G ?a77 ?l78 ?c79 ?k80)
   (Sw.IZ KX G ?a81 ?l82 ?c83 ?k84)
   (Sw.IZ KX G ?a85 ?l86 ?c87 ?k88)
   (Sw.IZ KX G ?a89 ?l90 ?c91 ?k92)
   (Sw.IZ KX G ?a93 ?l94 ?c95 ?k96)
   (Sw.IZ KX G ?a97 ?l98 ?c99 ?k100)
   (Sw.IZ KX G ?a101 ?l102 ?c103 ?k104)
   (Sw.IZ KX G ?a105 ?l106 ?c107 ?k108)
   (Sw.IZ KX G ?a109 ?l110 ?c111 ?k112)
   (Sw.IZ KX G ?a113 ?l114 ?c115 ?k116)
   (Sw.IZ KX G ?a117 ?l118 ?c119 ?k120)
   (Sw.IZ KX G ?a121 ?l122 ?c123 ?k124)
   (Sw.IZ KX G ?a125 ?l126 ?c127 ?k128)
   (Sw.IZ KX G ?a129 ?l130 ?c131 ?k132)
   (Sw.IZ KX G ?a133 ?l134 ?c135 ?k136)
   (Sw.IZ KX G ?a137 ?l138 ?c139 ?k140)
   _
   ⟨?g142,?g143,?g144,?g145⟩
   (PySem.W.mg_of KX G ?q141)
   (Sw.JG ?n146)
   (Sw.JG ?n147)
   (Sw.JG ?n148)
   (Sw.JG ?n149)
   _
   _
   (L2.KB ?l152 ?c153 ?k154)
   (L2.PM.binds (L2.KB ?l152 ?c153 ?k154) (λ_ _ _ _ _ _ us hl=>by obtain⟨a,b,c,rfl⟩:=Sw.RH hl;rfl))
   ⟨?g155,?a150,?i151,?k156⟩
   (Sw.KS ?a157 ?i158 ?l159 ?c160 ?k161)
   (Sw.KS ?a162 ?i163 ?l164 ?c165 ?k166)
   (Sw.KS ?a167 ?i168 ?l169 ?c170 ?k171)
   (Sw.KS ?a172 ?i173 ?l174 ?c175 ?k176)
   (Sw.KS ?a177 ?i178 ?l179 ?c180 ?k181)
   _
   ⟨?g183,?g184,?g185,?g186⟩
   (PySem.W.mg_of KX G ?q182)
   (Sw.JG ?n187)
   (Sw.JG ?n188)
   (Sw.JG ?n189)
   (Sw.JG ?n190)
   _
   _
   (L2.KB ?l193 ?c194 ?k195)
   (L2.PM.binds (L2.KB ?l193 ?c194 ?k195) (λ_ _ _ _ _ _ us hl=>by obtain⟨a,b,rfl⟩:=Sw.OI hl;rfl))
   ⟨?g196,?a191,?i192,?k197⟩
   (Sw.KS ?a198 ?i199 ?l200 ?c201 ?k202)
   (Sw.KS ?a203 ?i204 ?l205 ?c206 ?k207)
   (Sw.KS ?a208 ?i209 ?l210 ?c211 ?k212)
   (Sw.KS ?a213 ?i214 ?l215 ?c216 ?k217)
   (Sw.KS ?a218 ?i219 ?l220 ?c221 ?k222)
   (Sw.KS ?a223 ?i224 ?l225 ?c226 ?k227)
   (Sw.KS ?a228 ?i229 ?l230 ?c231 ?k232)
   (Sw.KS ?a233 ?i234 ?l235 ?c236 ?k237)
   (Sw.KS ?a238 ?i239 ?l240 ?c241 ?k242)
   (Sw.KS ?a243 ?i244 ?l245 ?c246 ?k247)
   _
   _
   (L2.M_ ?l249 ?t250 ?k251 ?g252 ?g253)
   (PySem.W.mg_of KX G ?q248)
   _
   _
   (L2.M_ ?l255 ?t256 ?k257 ?g258 ?g259)
   (PySem.W.mg_of KX G ?q254)
   _
   _
   (L2.M_ ?l261 ?t262 ?k263 ?g264 ?g265)
   (PySem.W.mg_of KX G ?q260)
   _
   _
   (L2.M_ ?l267 ?t268 ?k269 ?g270 ?g271)
   (PySem.W.mg_of KX G ?q266)
   _
   _
   (L2.M_ ?l273 ?t274 ?k275 ?g276 ?g277)
   (PySem.W.mg_of KX G ?q272)
   _
   _
   (L2.M_ ?l279 ?t280 ?k281 ?g282 ?g283)
   (PySem.W.mg_of KX G ?q278)
   _
   _
   (L2.M_ ?l285 ?t286 ?k287 ?g288 ?g289)
   (PySem.W.mg_of KX G ?q284)
   _
   _
   (L2.M_ ?l291 ?t292 ?k293 ?g294 ?g295)
   (PySem.W.mg_of KX G ?q290)
   _
   _
   (L2.M_ ?l297 ?t298 ?k299 ?g300 ?g301)
   (PySem.W.mg_of KX G ?q296)
   ⟨?g302,?g303,?g304,?g305⟩
   ⟨?g306,?g307,?g308,?g309,L2.NF _ _⟩
   ?u310
   ?w311
   ?w312
   ?w313
   ?w314
   ?w315
   ?w316
   ?w317
   ?w318
   ?w319
   (Sw.JG ?n320)
   _
   _
   (L2.KB ?l323 ?c324 ?k325)
   (L2.PM.binds (L2.KB ?l323 ?c324 ?k325) (λ_ _ _ _ _ _ us hl=>by obtain⟨a,b,rfl⟩:=Sw.OI hl;rfl))
   ⟨?a321,?i322,?k325⟩
   ⟨?g326,?g327,?g328,?g329⟩
   ⟨?g330,?g331,?g332,?g333,L2.NF _ _⟩
   ?u334
   ?w335
   ?w336
   ?w337
   ?w338
   ?w339
   ?w340
   ?w341
   ?w342
   ?w343
   (Sw.JG ?n344)
   _
   _
   (L2.KB ?l347 ?c348 ?k349)
   (L2.PM.binds (L2.KB ?l347 ?c348 ?k349) (λ_ _ _ _ _ _ us hl=>by obtain⟨a,b,rfl⟩:=Sw.OI hl;rfl))
   ⟨?a345,?i346,?k349⟩
   ⟨?g350,?g351,?g352,?g353⟩
   ⟨?g354,?g355,?g356,?g357,L2.NF _ _⟩
   ?u358
   ?w359
   ?w360
   ?w361
   ?w362
   ?w363
   ?w364
   ?w365
   ?w366
   ?w367
   (Sw.RU ?g368)
   ⟨?g369,?g370,?g371,?g372⟩
   ⟨?g373,?g374,?g375,?g376,L2.NF _ _⟩
   ?u377
   ?w378
   ?w379
   ?w380
   ?w381
   ?w382
   ?w383
   ?w384
   ?w385
   ?w386
   (Sw.RU ?g387)
   (Sw.SA KX G ?v388 ?e389)
   (Sw.SE KX G ?v390 ?e391)
   (VM KX G ?z392)
   (VM KX G ?z393)
   (VM KX G ?z394)
   (VM KX G ?z395)
   (VM KX G ?z396)
   (VM KX G ?z397)
   (VM KX G ?z398)
   (VM KX G ?z399)
   (VM KX G ?z400)
   (VM KX G ?z401)
   (VM KX G ?z402)
   (VM KX G ?z403)
   (VM KX G ?z404)
   (VM KX G ?z405)
   (VM KX G ?z406)
   (VM KX G ?z407)
   (VM KX G ?z408)
   (VM KX G ?z409)
   (VM KX G ?z410)) ?aL ?lL ?cL ?kL
  case a1|l2|c3|k4|a5|l6|c7|k8|a9|l10|c11|k12|a13|l14|c15|k16|a17|l18|c19|k20|a21|l22|c23|k24|a25|l26|c27|k28|a29|l30|c31|k32|a33|l34|c35|k36|a37|l38|c39|k40|a41|l42|c43|k44|a45|l46|c47|k48|a49|l50|c51|k52|a53|l54|c55|k56|a57|l58|c59|k60|a61|l62|c63|k64|a65|l66|c67|k68|a69|l70|c71|k72|a73|l74|c75|k76|a77|l78|c79|k80|a81|l82|c83|k84|a85|l86|c87|k88|a89|l90|c91|k92|a93|l94|c95|k96|a97|l98|c99|k100|a101|l102|c103|k104|a105|l106|c107|k108|a109|l110|c111|k112|a113|l114|c115|k116|a117|l118|c119|k120|a121|l122|c123|k124|a125|l126|c127|k128|a129|l130|c131|k132|a133|l134|c135|k136|a137|l138|c139|k140|q141|g142|g143|g144|g145|n146|n147|n148|n149|a150|i151|l152|c153|k154|g155|k156|a157|i158|l159|c160|k161|a162|i163|l164|c165|k166|a167|i168|l169|c170|k171|a172|i173|l174|c175|k176|a177|i178|l179|c180|k181|q182|g183|g184|g185|g186|n187|n188|n189|n190|a191|i192|l193|c194|k195|g196|k197|a198|i199|l200|c201|k202|a203|i204|l205|c206|k207|a208|i209|l210|c211|k212|a213|i214|l215|c216|k217|a218|i219|l220|c221|k222|a223|i224|l225|c226|k227|a228|i229|l230|c231|k232|a233|i234|l235|c236|k237|a238|i239|l240|c241|k242|a243|i244|l245|c246|k247|q248|l249=>k_is
  case t250=>kernel_rfl
  case k251|g252|g253|q254|l255=>k_is
  case t256=>kernel_rfl
  case k257|g258|g259|q260|l261=>k_is
  case t262=>kernel_rfl
  case k263|g264|g265|q266|l267=>k_is
  case t268=>kernel_rfl
  case k269|g270|g271|q272|l273=>k_is
  case t274=>kernel_rfl
  case k275|g276|g277|q278|l279=>k_is
  case t280=>kernel_rfl
  case k281|g282|g283|q284|l285=>k_is
  case t286=>kernel_rfl
  case k287|g288|g289|q290|l291=>k_is
  case t292=>kernel_rfl
  case k293|g294|g295|q296|l297=>k_is
  case t298=>kernel_rfl
  case k299|g300|g301|g302|g303|g304|g305|g306|g307|g308|g309=>k_is
  case u310=>kernel_rfl
  case w311=>kit_is
  case w312=>kit_is
  case w313=>kit_is
  case w314=>kit_is
  case w315=>kit_is
  case w316=>kit_is
  case w317=>kit_is
  case w318=>kit_is
  case w319=>kit_is
  case n320|a321|i322|l323|c324|k325|g326|g327|g328|g329|g330|g331|g332|g333=>k_is
  case u334=>kernel_rfl
  case w335=>kit_is
  case w336=>kit_is
  case w337=>kit_is
  case w338=>kit_is
  case w339=>kit_is
  case w340=>kit_is
  case w341=>kit_is
  case w342=>kit_is
  case w343=>kit_is
  case n344|a345|i346|l347|c348|k349|g350|g351|g352|g353|g354|g355|g356|g357=>k_is
  case u358=>kernel_rfl
  case w359=>kit_is
  case w360=>kit_is
  case w361=>kit_is
  case w362=>kit_is
  case w363=>kit_is
  case w364=>kit_is
  case w365=>kit_is
  case w366=>kit_is
  case w367=>kit_is
  case g368|g369|g370|g371|g372|g373|g374|g375|g376=>k_is
  case u377=>kernel_rfl
  case w378=>kit_is
  case w379=>kit_is
  case w380=>kit_is
  case w381=>kit_is
  case w382=>kit_is
  case w383=>kit_is
  case w384=>kit_is
  case w385=>kit_is
  case w386=>kit_is
  case g387|v388=>k_is
  case e389=>exact⟨_,rfl⟩
  case v390=>k_is
  case e391=>exact⟨_,rfl⟩
  case z392|z393|z394|z395|z396|z397|z398|z399|z400|z401|z402|z403|z404|z405|z406|z407|z408|z409|z410|aL|lL|cL|kL=>k_is
