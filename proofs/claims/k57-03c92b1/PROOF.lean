import PyProof.Rows.All
import Wide.All
import OpenK.AllK
import Wide.FinOn
import PyProof.Rows.SortShellK
import KE.KSortTup
import Lean
import PyProof.EqAt
import PyProof.EqKinds
import PyProof.TupleCall
import PyProof.SetRoads
import PyProof.DictRoadsH
import PyProof.IsRules
import PyProof.CollectWalk
import PyProof.FactsAll.set
import PyProof.NeData
import PyProof.P3In
import PyProof.TupleOfSeq
import PyProof.ZipIter
import PyProof.Rows.ZipGen
import KE.KDictOf
import PyProof.AttrMissHeap
import PyProof.Rows.SumAny
import PyProof.DictIter
import PyProof.DictWalks
import PyProof.DictValues
import PyProof.ListRange
import PyProof.ListStr
import PyProof.DictTruth
import PySem.Challenge.RW_strikeweave_k57_strengths
namespace PySem.W.Fast
def tw7566507799600283104:=0
def tw10909663762412462992:=0
def tw13088958962452346735:=0
def tw768784297228055062:=0
def tw63224436863385368:=0
def tw11983657797005417325:=0
def tw7406473740947455131:=0
def tw3569982694167152779:=0
def tw631975485901228627:=0
def tw10364511898443586472:=0
def tw1196812490636326578:=0
def tw6339169479775018645:=0
def tw16643102449129822209:=0
def tw14936200571315876676:=0
def tw4304873050414518961:=0
def tw3550982306951814918:=0
def tw44834063449052808:=0
def tw7570052796962401764:=0
def tw2153596036242195035:=0
def tw12138320719588758875:=0
def tw2259333290230981637:=0
def tw6339161252726599570:=0
def tw13726304604896985718:=0
def tw9135735077490182742:=0
def tw12555470626001348437:=0
def tw1292262004237509518:=0
def tw49481813323944895:=0
def tw356431620692326965:=0
def tw11011000000995374397:=0
def tw6398202440264080041:=0
def tw3581626089145371426:=0
def tw11329304653857533928:=0
def tw9531724374095814879:=0
def tw2037607832514492748:=0
def tw16804191738898235948:=0
def tw9638477726584951149:=0
def tw17525203332328101872:=0
def tw12644766947054740845:=0
def tw3407478116890522365:=0
def tw13929759816520310385:=0
def tw9866884295252788197:=0
def tw7062250319611660005:=0
def tw8067013809707486611:=0
def tw7983014770094610910:=0
def tw3505484760927110977:=0
def tw11944047477969355524:=0
def tw15165782882100704393:=0
def tw18140460686732231644:=0
def tw13633590295441898851:=0
def tw16367838065411988231:=0
def tw2109451952592644245:=0
def tw3389976315708681198:=0
def tw10915504016944059280:=0
def tw8193904367626246062:=0
def tw12743710121250135640:=0
def tw7227453074452921871:=0
def tw9215329929800626154:=0
def tw2469280854458975871:=0
def tw6948868103734591693:=0
def tw12931072262403502015:=0
def tw14473215424760414996:=0
def tw13783951311305990485:=0
def tw3616913686213313668:=0
def tw1433079942617147395:=0
def tw15470723813002234935:=0
def tw2770303863620605965:=0
def tw2269291110643349295:=0
def tw11795339529416580176:=0
def tw4810743991702180932:=0
def tw16697193265900419975:=0
def tw346615934783011780:=0
def tw1951234144957047334:=0
def tw18235507399701352799:=0
def tw16461396787219407106:=0
def tw8783295064300890004:=0
def tw14606044025746502148:=0
def tw17951893825062582013:=0
def tw11867434484595884784:=0
def tw9868384789132928483:=0
def tw13326284662119772397:=0
def tw17497501978347377376:=0
def tw4362167376531970075:=0
def tw3579016462838249154:=0
def tw3759618835179712001:=0
def tw5341902115858765840:=0
def tw13000846104189322007:=0
def tw17632995614837387939:=0
def tw1038421829376931626:=0
def tw10405715356805659371:=0
def tw2054738439434101019:=0
def tw11630791737261941517:=0
def tw902903497181521781:=0
def tw4497112599777655615:=0
def tw1355669062264264854:=0
def tw1917329255612573142:=0
def tw1026374291454815985:=0
def tw9769816745168329608:=0
def tw15470741583738210626:=0
def tw7198566994502180918:=0
def tw12487866422849401358:=0
def tw7692200423130748405:=0
def tw11090526740084574433:=0
def tw9191875905621328656:=0
def tw1476300680926952749:=0
def tw17792723742478074926:=0
def tw1918104539891547963:=0
def tw10136869013784054157:=0
def tw9312885509432035536:=0
def tw4869102378851370079:=0
def tw17565545965014893037:=0
def tw13564935400327475419:=0
def tw6915199359228621404:=0
def tw9567914172666405184:=0
def tw14773589281906192914:=0
def tw9677191810680748235:=0
def tw9536076883164012585:=0
def tw12506554118401920416:=0
def tw12059559393877613147:=0
def tw5146714036239850977:=0
def tw18137521505976479384:=0
def tw7329083293662593724:=0
def tw10369889818677016674:=0
def tw15209313110924630923:=0
def tw1551660948021185357:=0
def tw9165472277208585612:=0
def tw272017177022953726:=0
def tw16267789457872567948:=0
def tw9357371803950344042:=0
def tw17904121603169668346:=0
def tw5341721502396169201:=0
def tw9828667638900126966:=0
def tw6401893886508143046:=0
def tw5802629800425225158:=0
def tw2456460843196115131:=0
def tw8434920066825206500:=0
def tw16411722299458372829:=0
def tw4532207200765242199:=0
def tw2964588379781906276:=0
def tw4708680749571375553:=0
def tw6139857585852717460:=0
def tw5667677445677364011:=0
def tw1500376338824069444:=0
def tw11332856372515135850:=0
def tw18128202299504304923:=0
def tw5488780754742426042:=0
def tw15459724973685286641:=0
def tw13691631435344264574:=0
def tw11960432600245793475:=0
def tw9699913393136865108:=0
def tw13899621038731025478:=0
def tw17865364862027700307:=0
def tw8788080260223628349:=0
def tw98315166467127003:=0
def tw2850145024421682148:=0
def tw17107212299396992001:=0
def tw2364944970411758318:=0
def tw2855184383367772008:=0
def tw10166104411947180087:=0
def tw5436283959543035293:=0
def tw770402404959087207:=0
def tw7335497733602249057:=0
def tw8296995069078779458:=0
def tw13118249824786813550:=0
def tw1247250476575408658:=0
def tw6875155599377599512:=0
def tw8233655008856394911:=0
def tw15698178871286472364:=0
def tw15873991156711799084:=0
def tw4411722074350569096:=0
def tw2164115734773278622:=0
def tw8169692724144607233:=0
def tw17344703322508720771:=0
def tw905102127027601653:=0
def tw8531218858906153114:=0
def tw22240260642778808:=0
def tw14317370946351254590:=0
def tw3477530443491675186:=0
def tw2323911451954110911:=0
def tw14286053160535859788:=0
def tw6473365743676420732:=0
def tw8543342183418663014:=0
def tw1987497314570132843:=0
def tw4107467961043148916:=0
def tw8206907204628484986:=0
def tw15061041906208492698:=0
def tw4240701412438430292:=0
def tw5719087722851005148:=0
def tw5483613312100640410:=0
def tw9217909157692989371:=0
def tw17880751479358239107:=0
def tw13871142657486535449:=0
def tw9922577180388661874:=0
def tw12484025847840425839:=0
def tw12300896861482921345:=0
def tw1959435912181437352:=0
def tw14711502164264500223:=0
def tw8604408793357789762:=0
def tw13903768263940060334:=0
def tw12143093618334111591:=0
def tw12397081209338504701:=0
def tw10565545518119970524:=0
def tw4651102640808947638:=0
def tw971023705678840265:=0
def tw9399732364877964560:=0
def tw15478205991583326559:=0
def tw17296601620400236400:=0
def tw11207356086658271296:=0
def tw1788407135141901260:=0
def tw12265316649582592076:=0
def tw1013173499134772822:=0
def tw14704017677625935504:=0
def tw17324502049412406751:=0
def tw2858548614971871841:=0
def tw13924318358515424150:=0
def tw6399591615962365104:=0
def tw14632348292108568821:=0
def tw5292601501374196097:=0
def tw14014036838337557632:=0
def tw15471350905405392741:=0
def tw8324551407706745089:=0
def tw2284519879806637256:=0
def tw17214111836309686797:=0
def tw1913542075943467247:=0
def tw6714143580728223487:=0
def tw7914102447185003021:=0
def tw9104528281913171358:=0
def tw15913249009075975932:=0
def tw15524058156727996618:=0
def tw7814953651912867724:=0
def tw10852978519475855091:=0
def tw3716429276986353291:=0
def tw5343986599976783143:=0
def tw10901260837479152148:=0
def tw1163468507984230287:=0
def tw11359728774420101128:=0
def tw2326419230867461403:=0
def tw16605363770365867168:=0
def tw11491244553505162493:=0
def tw4619552274115105244:=0
def tw10840298590132402728:=0
def tw4952838186064407055:=0
def tw10081502591391412566:=0
def tw7056877982386872674:=0
def tw14093628587435667180:=0
def tw61252635733449016:=0
def tw10611166166190824749:=0
def tw12676763433612608238:=0
def tw17104171601676341057:=0
def tw5872638048615782488:=0
def tw13339608955296475437:=0
def tw8802461674772829692:=0
def tw5735341370516411114:=0
def tw524532783919843397:=0
def tw2748901164582647272:=0
def tw2313385348523004755:=0
def tw100701172858665494:=0
def tw5842380192684322039:=0
def tw5380973259040578498:=0
def tw4327910703354695063:=0
def tw4473435384452385221:=0
def tw7927486661665865846:=0
def tw14362029877303831373:=0
def tw5423008002777167124:=0
def tw10038983068671264588:=0
def tw8114840493714844206:=0
def tw16312818151736406008:=0
def tw11240521817502499869:=0
def tw14580428879919322516:=0
def tw5896175228563792504:=0
def tw6545845672456376384:=0
def tw4288635438293031403:=0
def tw8474787274204838299:=0
def tw4254058564365262457:=0
def tw13318943069158281092:=0
def tw11672653718660675053:=0
def tw1462479555117101354:=0
def tw6670707486085748813:=0
def tw13128494794072102371:=0
def tw16334310229346411681:=0
def tw9434933616569917085:=0
def tw11333235537345866713:=0
def tw6629251010232504842:=0
def tw13116832455719460760:=0
def tw5737006884498533664:=0
def tw2477599910585363962:=0
def tw14584604125221113691:=0
def tw2928563896433294191:=0
def tw12296868178467159612:=0
def tw4712236802566310517:=0
def tw4897938150863619344:=0
def tw5617466002311429579:=0
def tw18389914138013806614:=0
def tw13072498864404558634:=0
def tw7884090544576623492:=0
def tw15007335773900111374:=0
def tw10995474442539464236:=0
def tw7488573871038348953:=0
def tw6098847925408351785:=0
def tw11427346218568951042:=0
def tw9979481778595034918:=0
def tw3669390421656837645:=0
def tw7149896023761889842:=0
def tw16979522085989382877:=0
def tw8124900814443435457:=0
def tw10807588624930594541:=0
def tw14221427208614109555:=0
def tw531994763240013267:=0
def tw13944495267371842989:=0
def tw9682247088137803214:=0
def tw10383466896652831994:=0
def tw9175910211353898997:=0
def tw1826292450009495250:=0
def tw12483356985995425348:=0
def tw14243084710480322452:=0
def tw15862647254016292513:=0
def tw912404607498690419:=0
def tw15363453977390365095:=0
def tw16668688947902138676:=0
def tw17620046906202668056:=0
def tw3976501707954209802:=0
def tw3441347509832061851:=0
def tw16761579802358632220:=0
def tw14752852224398383576:=0
def tw13209652551604148897:=0
def tw17466303809962367158:=0
def tw17861269975034802373:=0
def tw11401690831216904120:=0
def tw16640760259516686508:=0
def tw1220982540958033112:=0
def tw15184993276398100019:=0
def tw11435624999301372549:=0
def tw8933825616321307187:=0
def tw1330502618893177569:=0
def tw10135288058097940479:=0
def tw8454131345475505673:=0
def tw2918894424602207132:=0
def tw8817953660068986629:=0
def tw412654057606108949:=0
def tw3455695128920562120:=0
def tw5358507706492893569:=0
def tw5699459405183108084:=0
def tw7768002890483520754:=0
def tw1528707547206738379:=0
def tw15460453111751464116:=0
def tw8203606402097834058:=0
def tw9504909595353079460:=0
def tw18273395954740395327:=0
def tw12879693726162322408:=0
def tw9375188743674699371:=0
def tw9325771068022555947:=0
def tw14824976616216476723:=0
def tw11552763826770424926:=0
def tw1729888315939506042:=0
def tw12254356465756004256:=0
def tw7632790382293612364:=0
def tw14380990649451556592:=0
def tw7172363287049995355:=0
def tw11769007477742282486:=0
def tw11187013035860895745:=0
def tw8357062291730185317:=0
def tw7188961156740707781:=0
end PySem.W.Fast
set_option autoImplicit false
set_option genSizeOf false
set_option genSizeOfSpec false
set_option bootstrap.genMatcherCode false
set_option compiler.extract_closed false
set_option linter.all false
set_option maxRecDepth 100000
section
open PySem PySem.Spec PyProof.Rows
def AA:=@wpAny_bind
def AB:=@List.length_map
def AC:=@Heap.get?_push_of_some
def AD:=@wpAny_pure
def AE:=@List.mem_singleton
def AF:=@Heap.lt_size
def AG:=@List.length_take
def AH:=@List.getElem?_map
def AI:=@decide_eq_true
def AJ:=@List.getElem?_eq_getElem
def AK:=@List.getElem?_eq_some_iff
def AL:=@List.mem_of_getElem?
def AM:=@Bool.false_ne_true
def AN:=@List.mem_cons
def AO:=@List.size_toArray
def AQ:=@Nat.ne_of_lt
def AR:=@Option.map_eq_some_iff
def AS:=@List.map_map
def AU:=@if_neg
def AV:=@List.mem_append
def AW:=@Array.length_toList
def AX:=@List.not_mem_nil
def AY:=@List.mem_cons_of_mem
def AZ:=@Heap.get?_push_size
def A_:=@List.map_append
def BA:=@List.mem_map
def BB:=@if_pos
def BC:=@List.mem_cons_self
def BD:=@decide_eq_false
def BE:=@List.append_assoc
def BF:=@List.length_append
def BG:=@Nat.lt_of_lt_of_le
def BH:=@List.mem_of_mem_take
def BI:=@Array.toList_append
def BJ:=@Heap.get?_update_other
def BK:=@List.take_append_drop
def BL:=@Array.getElem?_toList
def BM:=@List.mem_append_right
def BN:=@Bool.false_eq_true
def BO:=@List.length_cons
def BP:=@wpAny_mono
def BQ:=@List.map_cons
def BR:=@List.length_drop
def BS:=@of_decide_eq_true
def BT:=@wpAny_holding
def BU:=@Option.some.inj
def BV:=@List.pairwise_append
def BW:=@List.perm_append_comm
def BZ:=@Nat.le_succ
def B_:=@wpAny_field
def CA:=@List.append_nil
def CB:=@List.getElem?_take_of_lt
def CC:=@Bool.and_eq_true
def CD:=@List.take_length
def CF:=@Heap.get?_update_self
def CG:=@wpAny_truthy_bool
def CH:=@Heap.size_push
def CI:=@wpAny_Call_Name_kw
def CJ:=@List.Perm.append_right
def CK:=@List.take_of_length_le
def CL:=@List.mem_of_find?_eq_some
def CM:=@wpAny_rule
def CN:=@List.take_sublist
def CO:=@Array.toList_push
def CP:=@List.Perm.append_left
def CQ:=@wpAny_seqItems
def CS:=@Nat.le_of_lt
def CT:=@List.nodup_cons
def CU:=@wpAny_ite_false
def CV:=@List.mem_of_mem_drop
def CW:=@Nat.zero_le
def CY:=@List.getElem?_append_right
def CZ:=@List.nodup_append
def C_:=@wpAny_loadPart_at
def DA:=@List.filterMap_cons
def DB:=@Nat.min_eq_left
def DC:=@codeAny_builtin
def DD:=@List.drop_eq_getElem_cons
def DE:=@List.getElem?_append_left
def DF:=@List.map_take
def DG:=@if_false
def DH:=@List.drop_zero
def DI:=@List.filter_eq_self
def DJ:=@List.drop_eq_nil_of_le
def DK:=@Nat.lt_irrefl
def DL:=@Nat.le_add_right
def DM:=@List.all_eq_true
def DN:=@List.drop_drop
def DP:=@List.extract_eq_take_drop
def DQ:=@List.drop_sublist
def DR:=@Bool.eq_false_iff
def DT:=@Array.toList_reverse
def DU:=@List.mem_append_left
def DV:=@codeAny_mono
def DW:=@wpAny_standAt
def DX:=@Option.isSome_iff_exists
def DY:=@Nat.add_le_add_left
def DZ:=@wpAny_callSpecial?_slot
def D_:=@Nat.zero_lt_succ
def EA:=@Nat.eq_zero_of_not_pos
def EB:=@List.getElem?_drop
def EC:=@wpAny_call
def ED:=@wpAny_setField_rec
def EE:=@List.mem_filter
def EF:=@List.find?_cons
def EG:=@List.getElem?_toArray
def EH:=@Nat.lt_of_succ_lt
def EI:=@wpAny_newObj_type
def EJ:=@Int.toNat_natCast
def EK:=@List.mem_iff_getElem
def EL:=@Array.toList_extract
def EM:=@List.drop_take
def EN:=@List.getD_eq_getElem?_getD
def EO:=@codeAny_call_builtin
def EQ:=@wpAny_tryCatch
def ER:=@wpAny_call_entry
def ES:=@Array.getElem?_eq_getElem
def ET:=@List.reverse_append
def EU:=@Heap.SameBut.update
def EV:=@wpAny_isSubtype_exc
def EW:=@List.any_cons
def EX:=@if_true
def EY:=@Nat.zero_lt_one
def EZ:=@wpAny_execs_nil
def E_:=@wpAny_passesOwn
def FA:=@Bool.eq_iff_iff
def FB:=@List.of_mem_zip
def FC:=@Nat.lt_of_le_of_ne
def FD:=@Int.emod_lt_of_pos
def FE:=@Nat.zero_add
def FF:=@List.ext_getElem?
def FG:=@wpAny_newTuple
def FH:=@Nat.lt_succ_of_lt
def FI:=@Bool.false_and
def FJ:=@wpAny_pyIter_list
def FK:=@List.reverse_cons
def FL:=@Nat.lt_succ_self
def FM:=@List.lookup_cons
def FN:=@wpAny_pyIter_zip
def FO:=@wpAny_attempt
def FP:=@wpAny_letGo
end
noncomputable section
namespace TS
open PySem PyProof.Rows
def kk(U:KeyKind)(p:Keyed):U.α:=(U.keyOf p.1).getD U.dflt
def Has(U:KeyKind)(p:Keyed):Prop:=∃a,U.keyOf p.1=some a
def le(U:KeyKind)(p q:Keyed):Prop:=U.kle (kk U p) (kk U q)
def Sor(U:KeyKind)(l:List Keyed):Prop:=l.Pairwise (le U)
structure Cmp(prog:Program)(w:World)(A:Around)(s:Shared)(U:KeyKind)(kd:SortKind):Prop where
 lt:∀(x y:Value) (a b:U.α) (Q:Bool->Shared->Prop) (E:Value->Shared->Prop),U.keyOf x=some a->U.keyOf y=some b->Q (U.blt a b) s->wpAny (model prog w) A (keyLt' kd x y) Q E s
section
variable{prog:Program}{w:World}{A:Around}{E:Value->Shared->Prop}{s:Shared}{U:KeyKind}{kd:SortKind}
theorem Az(C:Cmp prog w A s U kd){st:SortSt}{x y:Keyed}{Q:Option Bool->SortSt->Prop}(hk:kindOf st=kd)(hx:Has U x)(hy:Has U y)
  (h:Q (some (U.blt (kk U x) (kk U y))) st):wpS (model prog w) A E s (lt' x y) Q st:=by
 obtain⟨a,ha⟩:=hx;obtain⟨b,hb⟩:=hy;have e1:kk U x=a:=by unfold kk;rw[ha];rfl
 have e2:kk U y=b:=by unfold kk;rw[hb];rfl
 rw[e1,e2]at h;rw[lt'_eq];refine wpS_bind (wpS_get ?_);rw[hk];refine wpS_bind (wpS_lift (FO (C.lt x.1 y.1 a b _ _ ha hb ⟨rfl,?_⟩)));exact wpS_pure h
theorem C2{st:SortSt}{arr:Array Keyed}{i:Nat}{p:Keyed}{Q:Keyed->SortSt->Prop}(hi:arr[i]?=some p)(h:Q p st):wpS (model prog w) A E s (elem' arr i) Q st:=by
 rw[elem'_eq,hi];exact wpS_pure h
def K1:Bool->Keyed->Array Keyed->Nat->Nat->Nat->StateT SortSt Sem (Option Nat):=sortPriv% PySem.Builtin.gallop
def bey(left:Bool)(ky:Keyed)(ar:Array Keyed)(bs:Nat)(i:Nat):StateT SortSt Sem (Option Bool):=do
 let x <-elem' ar (bs+i)
 if left then lt' x ky else return(<-lt' ky x).map (!·)
theorem Fz(left:Bool)(ky:Keyed)(ar:Array Keyed)(bs n ht:Nat):K1 left ky ar bs n ht =(do
  let mut la:=0
  let mut of:=1
  let mut lo:=0
  let mut hi:=0
  let some ri <-bey left ky ar bs ht | return none
  if ri then
   let mx:=n-ht
   for _ in [0:n] do
    if of ≥ mx then break
    let some mo <-bey left ky ar bs (ht+of) | return none
    if !mo then break
    la:=of
    of:=2*of+1
   lo:=ht+la+1
   hi:=ht+min of mx
  else
   let mx:=ht+1
   for _ in [0:n] do
    if of ≥ mx then break
    let some fo <-bey left ky ar bs (ht-of) | return none
    if fo then break
    la:=of
    of:=2*of+1
   lo:=ht+1-min of mx
   hi:=ht-la
  for _ in [0:n] do
   if lo ≥ hi then break
   let m:=lo +(hi-lo) / 2
   let some mo <-bey left ky ar bs m | return none
   if mo then lo:=m+1 else hi:=m
  return some hi):=rfl
def PB(U:KeyKind)(left:Bool)(ky:Keyed)(p:Keyed):Bool:=if left then U.blt (kk U p) (kk U ky)else !U.blt (kk U ky) (kk U p)
theorem Om(C:Cmp prog w A s U kd){st:SortSt}{left:Bool}{ky p:Keyed}{ar:Array Keyed}{bs i:Nat}{Q:Option Bool->SortSt->Prop}(hk:kindOf st=kd)(hky:Has U ky)(hp:Has U p)(hi:ar[bs+i]?=some p)
  (h:Q (some (PB U left ky p)) st):wpS (model prog w) A E s (bey left ky ar bs i) Q st:=by
 unfold bey;refine wpS_bind (C2 hi ?_);cases left with
 | true=>exact Az C hk hp hky h
 | false =>
  simp only[BN,DG];refine wpS_bind (Az C hk hky hp ?_);exact wpS_pure h
theorem Fm(C:Cmp prog w A s U kd){st:SortSt}{left:Bool}{ky:Keyed}{ar:Array Keyed}{bs n ht:Nat}{Q:Option Nat->SortSt->Prop}(hk:kindOf st=kd)(hky:Has U ky)
  (P:Nat->Bool) (hP:∀i,i<n->∃p,ar[bs+i]?=some p/\Has U p/\PB U left ky p=P i) (mono:∀i j,i<=j->j<n->P j=true->P i=true) (hht:ht<n)
  (h:∀k,k<=n->(∀i,i<k->P i=true)->(∀i,k<=i->i<n->P i=false)->Q (some k) st):wpS (model prog w) A E s (K1 left ky ar bs n ht) Q st:=by
 have B:∀{st':SortSt} {i:Nat} {Q:Option Bool->SortSt->Prop},st'=st->i<n->Q (some (P i)) st'->wpS (model prog w) A E s (bey left ky ar bs i) Q st':=by
  intro st' i Q e hi q;subst e;obtain⟨p,h1,h2,h3⟩:=hP i hi;exact Om C hk hky h2 h1 (by rw[h3];exact q)
 have nmono:∀i j,i<=j->j<n->P i=false->P j=false:=by
  intro i j hij hj hi;cases e:P j with
  | false=>rfl
  | true=>rw[mono i j hij hj e]at hi;cases hi
 rw[Fz];dsimp only;refine wpS_bind (B rfl hht ?_);dsimp only;have S:∀{lo hi:Nat} {f:Nat->(Option (Option Nat)×Nat×Nat)->StateT SortSt Sem (ForInStep (Option (Option Nat)×Nat×Nat))},
   (∀x l h,wpS (model prog w) A E s (f x (none,l,h)) (fun r st'=>st'=st/\(if h<=l then r = .done (none,l,h)else if P (l +(h-l) / 2)=true then r = .yield (none,l +(h-l) / 2+1,h)else r = .yield (none,l,l +(h-l) / 2))) st\/¬(h<=l\/l +(h-l) / 2<n)) ->
   lo<=hi->hi<=n->(∀i,i<lo->P i=true)->(∀i,hi<=i->i<n->P i=false) ->
   wpS (model prog w) A E s (forIn [0:n] (none,lo,hi) f) (fun c st'=>st'=st/\∃k,c =(none,k,k)/\k<=n/\(∀i,i<k->P i=true)/\(∀i,k<=i->i<n->P i=false)) st:=by
  intro lo hi f hf h1 h2 h3 h4;refine wpS_forRange (I:=fun x c st'=>st'=st/\∃l r,c =(none,l,r)/\l<=r/\r<=n/\r-l<=n-x/\(∀i,i<l->P i=true)/\(∀i,r<=i->i<n->P i=false)) ?_ ?_ ⟨rfl,lo,hi,rfl,h1,h2,by omega,h3,h4⟩
  .rintro x c st' _ hx ⟨rfl,l,r,rfl,hl,hr,hm,ha,hb⟩;have hin:r<=l\/l +(r-l) / 2<n:=by omega
   rcases hf x l r with q | q
   .refine wpS_mono q fun z st2 ⟨e,q2⟩=>?_;subst e;by_cases hge:r<=l
    .rw[BB hge]at q2;subst q2;have:l=r:=by omega
     subst this;exact⟨rfl,l,rfl,hr,ha,hb⟩
    .rw[AU hge]at q2;cases hp:P (l +(r-l) / 2)with
     | true =>
      rw[BB hp]at q2;subst q2;exact⟨rfl,_,_,rfl,by omega,by omega,by omega,fun i hi=>mono i (l +(r-l) / 2) (by omega) (by omega) hp,hb⟩
     | false =>
      rw[AU (by rw[hp];exact AM)]at q2;subst q2;exact⟨rfl,_,_,rfl,by omega,by omega,by omega,ha,fun i hi1 hi2=>nmono (l +(r-l) / 2) i hi1 hi2 hp⟩
   .exact absurd hin q
  .rintro c st' ⟨rfl,l,r,rfl,hl,hr,hm,ha,hb⟩;have:l=r:=by omega
   subst this;exact⟨rfl,l,rfl,hr,ha,hb⟩
 cases hr:P ht with
 | true =>
  rw[BB rfl];refine wpS_bind (wpS_mono (wpS_forRange (I:=fun x c st'=>st'=st/\∃la of,c =(none,la,of)/\la<of/\x+1<=of/\ht+la<n/\P (ht+la)=true)
   (Q:=fun c st'=>st'=st/\∃la of,c =(none,la,of)/\la<of/\ht+la<n/\P (ht+la)=true/\(n-ht<=of\/(ht+of<n/\P (ht+of)=false))) ?st ?en ⟨rfl,0,1,rfl,by omega,by omega,by omega,hr⟩) ?po)
  case en =>
   rintro c st' ⟨rfl,la,of,rfl,a1,a2,a3,a4⟩;exact⟨rfl,la,of,rfl,a1,a3,a4,.inl (by omega)⟩
  case st =>
   rintro x c st' _ hx ⟨rfl,la,of,rfl,a1,a2,a3,a4⟩;dsimp only;by_cases hge:of ≥ n-ht
   .rw[BB hge];exact wpS_pure ⟨rfl,la,of,rfl,a1,a3,a4,.inl hge⟩
   .rw[AU hge];refine wpS_bind (B rfl (show ht+of<n by omega) ?_);cases hp:P (ht+of)with
    | true=>exact wpS_pure ⟨rfl,of,2*of+1,rfl,by omega,by omega,by omega,hp⟩
    | false=>exact wpS_pure ⟨rfl,la,of,rfl,a1,a3,a4,.inr ⟨by omega,hp⟩⟩
  case po =>
   rintro c st' ⟨rfl,la,of,rfl,a1,a3,a4,a5⟩;dsimp only;refine wpS_bind (wpS_mono (S (lo:=ht+la+1) (hi:=ht+min of (n-ht)) (fun x l h'=>by
    dsimp only;by_cases hge:h'<=l
    .refine .inl ?_;rw[BB hge];exact wpS_pure ⟨rfl,by rw[BB hge]⟩
    .by_cases hn:l +(h' - l) / 2<n
     .refine .inl ?_;rw[AU hge];refine wpS_bind (B rfl hn ?_);dsimp only;cases hp:P (l +(h' - l) / 2)with
      | true =>
       simp only[EX];exact wpS_pure ⟨rfl,by rw[AU hge]⟩
      | false =>
       simp only[BN,DG];exact wpS_pure ⟨rfl,by rw[AU hge]⟩
     .exact .inr (by omega)) (by omega) (by omega) (fun i hi=>mono i (ht+la) (by omega) a3 a4) fun i hi1 hi2=>?_) fun c st' ⟨e,k,e2,b1,b2,b3⟩=>?_)
   .rcases a5 with a5 | ⟨a5,a6⟩
    .omega
    .exact nmono (ht+of) i (by omega) hi2 a6
   .subst e e2;exact wpS_pure (h k b1 b2 b3)
 | false =>
  rw[AU AM];refine wpS_bind (wpS_mono (wpS_forRange (I:=fun x c st'=>st'=st/\∃la of,c =(none,la,of)/\la<of/\x+1<=of/\la<=ht/\P (ht-la)=false)
   (Q:=fun c st'=>st'=st/\∃la of,c =(none,la,of)/\la<of/\la<=ht/\P (ht-la)=false/\(ht+1<=of\/(of<=ht/\P (ht-of)=true))) ?st ?en ⟨rfl,0,1,rfl,by omega,by omega,by omega,hr⟩) ?po)
  case en =>
   rintro c st' ⟨rfl,la,of,rfl,a1,a2,a3,a4⟩;exact⟨rfl,la,of,rfl,a1,a3,a4,.inl (by omega)⟩
  case st =>
   rintro x c st' _ hx ⟨rfl,la,of,rfl,a1,a2,a3,a4⟩;dsimp only;by_cases hge:of ≥ ht+1
   .rw[BB hge];exact wpS_pure ⟨rfl,la,of,rfl,a1,a3,a4,.inl hge⟩
   .rw[AU hge];refine wpS_bind (B rfl (show ht-of<n by omega) ?_);cases hp:P (ht-of)with
    | false=>exact wpS_pure ⟨rfl,of,2*of+1,rfl,by omega,by omega,by omega,hp⟩
    | true=>exact wpS_pure ⟨rfl,la,of,rfl,a1,a3,a4,.inr ⟨by omega,hp⟩⟩
  case po =>
   rintro c st' ⟨rfl,la,of,rfl,a1,a3,a4,a5⟩;dsimp only;refine wpS_bind (wpS_mono (S (lo:=ht+1-min of (ht+1)) (hi:=ht-la) (fun x l h'=>by
    dsimp only;by_cases hge:h'<=l
    .refine .inl ?_;rw[BB hge];exact wpS_pure ⟨rfl,by rw[BB hge]⟩
    .by_cases hn:l +(h' - l) / 2<n
     .refine .inl ?_;rw[AU hge];refine wpS_bind (B rfl hn ?_);dsimp only;cases hp:P (l +(h' - l) / 2)with
      | true =>
       simp only[EX];exact wpS_pure ⟨rfl,by rw[AU hge]⟩
      | false =>
       simp only[BN,DG];exact wpS_pure ⟨rfl,by rw[AU hge]⟩
     .exact .inr (by omega)) (by omega) (by omega) (fun i hi=>?_) fun i hi1 hi2=>nmono (ht-la) i (by omega) hi2 a4) fun c st' ⟨e,k,e2,b1,b2,b3⟩=>?_)
   .rcases a5 with a5 | ⟨a5,a6⟩
    .omega
    .exact mono i (ht-of) (by omega) (by omega) a6
   .subst e e2;exact wpS_pure (h k b1 b2 b3)
end
section
variable{U:KeyKind}
theorem le_refl(p:Keyed):le U p p:=KeyOrd.kle_refl _
theorem le_trans{p q r:Keyed}(h1:le U p q)(h2:le U q r):le U p r:=KeyOrd.kle_trans h1 h2
structure ML(U:KeyKind)(a b:List Keyed)(o:List Keyed)(i j:Nat):Prop where
 perm:o.Perm (a.take i++b.take j)
 sor:Sor U o
 la:∀x∈o,∀y∈a.drop i,le U x y
 lb:∀x∈o,∀y∈b.drop j,le U x y
theorem ML.sym{a b o:List Keyed}{i j:Nat}(m:ML U a b o i j):ML U b a o j i:=⟨m.perm.trans BW,m.sor,m.lb,m.la⟩
theorem Bx{l:List Keyed}(k:Nat)(h:Sor U l):∀x∈l.take k,∀y∈l.drop k,le U x y:=by
 have h':Sor U (l.take k++l.drop k):=by rw[BK];exact h
 exact(BV.mp h').2.2
theorem ML.addA{a b o:List Keyed}{i j:Nat}(m:ML U a b o i j)(sa:Sor U a)(k:Nat)(hk:∀y∈(a.drop i).take k,∀z∈b.drop j,le U y z):ML U a b (o ++(a.drop i).take k) (i+k) j:=by
 have hs:Sor U (a.drop i):=sa.sublist (DQ _ _);refine⟨?_,?_,fun x hx y hy=>?_,fun x hx y hy=>?_⟩
 .rw[List.take_add];refine(CJ _ m.perm).trans ?_;rw[BE,BE];exact CP _ BW
 .refine BV.mpr ⟨m.sor,hs.sublist (CN _ _),fun x hx y hy=>m.la x hx y (BH hy)⟩
 .rw[<-DN]at hy;rcases AV.mp hx with hx | hx
  .exact m.la x hx y (CV hy)
  .exact Bx k hs x hx y hy
 .rcases AV.mp hx with hx | hx
  .exact m.lb x hx y hy
  .exact hk x hx y hy
theorem ML.addB{a b o:List Keyed}{i j:Nat}(m:ML U a b o i j)(sb:Sor U b)(k:Nat)(hk:∀y∈(b.drop j).take k,∀z∈a.drop i,le U y z):ML U a b (o ++(b.drop j).take k) i (j+k) :=
 (m.sym.addA sb k hk).sym
theorem ML.endA{a b o:List Keyed}{i j:Nat}(m:ML U a b o i j)(sa:Sor U a)(sb:Sor U b)(h:∀y∈a.drop i,∀z∈b.drop j,le U y z):Sor U (o++a.drop i++b.drop j)/\(o++a.drop i++b.drop j).Perm (a++b):=by
 refine⟨?_,?_⟩
 .refine BV.mpr ⟨BV.mpr ⟨m.sor,sa.sublist (DQ _ _),m.la⟩,sb.sublist (DQ _ _),fun x hx y hy=>?_⟩;rcases AV.mp hx with hx | hx
  .exact m.lb x hx y hy
  .exact h x hx y hy
 .have h1:(o++a.drop i++b.drop j).Perm ((a.take i++b.take j)++a.drop i++b.drop j):=CJ _ (CJ _ m.perm);refine h1.trans ?_;have h2:((a.take i++b.take j)++a.drop i++b.drop j).Perm ((a.take i++a.drop i) ++(b.take j++b.drop j)):=by
   rw[BE,BE,BE];refine CP _ ?_;rw[<-BE,<-BE];exact CJ _ BW
  rw[BK,BK]at h2;exact h2
theorem ML.endB{a b o:List Keyed}{i j:Nat}(m:ML U a b o i j)(sa:Sor U a)(sb:Sor U b)(h:∀y∈b.drop j,∀z∈a.drop i,le U y z):Sor U (o++b.drop j++a.drop i)/\(o++b.drop j++a.drop i).Perm (a++b) :=
 ⟨(m.sym.endA sb sa h).1,(m.sym.endA sb sa h).2.trans BW⟩
structure MH(U:KeyKind)(a b:List Keyed)(o:List Keyed)(i j:Nat):Prop where
 perm:o.Perm (a.drop i++b.drop j)
 sor:Sor U o
 la:∀x∈o,∀y∈a.take i,le U y x
 lb:∀x∈o,∀y∈b.take j,le U y x
theorem MH.sym{a b o:List Keyed}{i j:Nat}(m:MH U a b o i j):MH U b a o j i:=⟨m.perm.trans BW,m.sor,m.lb,m.la⟩
theorem MH.addA{a b o:List Keyed}{i j:Nat}(m:MH U a b o i j)(sa:Sor U a)(k:Nat)(hki:k<=i)(hk:∀y∈(a.take i).drop k,∀z∈b.take j,le U z y):MH U a b ((a.take i).drop k++o) k j:=by
 have hs:Sor U (a.take i):=sa.sublist (CN _ _);have e:a.drop k =(a.take i).drop k++a.drop i:=by
  conv=>lhs;rw[<-BK i a]
  rw[List.drop_append];by_cases hl:i<=a.length
  .rw[AG,DB hl,Nat.sub_eq_zero_of_le hki,DH]
  .have:a.drop i = []:=DJ (by lia);rw[this,List.drop_nil]
 have e2:(a.take i).take k=a.take k:=by rw[List.take_take,DB hki]
 refine⟨?_,?_,fun x hx y hy=>?_,fun x hx y hy=>?_⟩
 .rw[e,BE];exact CP _ m.perm
 .exact BV.mpr ⟨hs.sublist (DQ _ _),m.sor,fun x hx y hy=>m.la y hy x (CV hx)⟩
 .rw[<-e2]at hy;rcases AV.mp hx with hx | hx
  .exact Bx k hs y hy x hx
  .exact m.la x hx y (BH hy)
 .rcases AV.mp hx with hx | hx
  .exact hk x hx y hy
  .exact m.lb x hx y hy
theorem MH.addB{a b o:List Keyed}{i j:Nat}(m:MH U a b o i j)(sb:Sor U b)(k:Nat)(hkj:k<=j)(hk:∀y∈(b.take j).drop k,∀z∈a.take i,le U z y):MH U a b ((b.take j).drop k++o) i k :=
 (m.sym.addA sb k hkj hk).sym
theorem MH.endA{a b o:List Keyed}{i j:Nat}(m:MH U a b o i j)(sa:Sor U a)(sb:Sor U b)(h:∀y∈a.take i,∀z∈b.take j,le U y z):Sor U (a.take i++b.take j++o)/\(a.take i++b.take j++o).Perm (a++b):=by
 refine⟨?_,?_⟩
 .refine BV.mpr ⟨BV.mpr ⟨sa.sublist (CN _ _),sb.sublist (CN _ _),h⟩,m.sor,fun x hx y hy=>?_⟩;rcases AV.mp hx with hx | hx
  .exact m.la y hy x hx
  .exact m.lb y hy x hx
 .have h1:(a.take i++b.take j++o).Perm (a.take i++b.take j ++(a.drop i++b.drop j)):=CP _ m.perm;refine h1.trans ?_;have h2:(a.take i++b.take j ++(a.drop i++b.drop j)).Perm ((a.take i++a.drop i) ++(b.take j++b.drop j)):=by
   rw[BE,BE];refine CP _ ?_;rw[<-BE,<-BE];exact CJ _ BW
  rw[BK,BK]at h2;exact h2
theorem MH.endB{a b o:List Keyed}{i j:Nat}(m:MH U a b o i j)(sa:Sor U a)(sb:Sor U b)(h:∀y∈b.take j,∀z∈a.take i,le U y z):Sor U (b.take j++a.take i++o)/\(b.take j++a.take i++o).Perm (a++b) :=
 ⟨(m.sym.endA sb sa h).1,(m.sym.endA sb sa h).2.trans BW⟩
end
section
variable{prog:Program}{w:World}{A:Around}{E:Value->Shared->Prop}{s:Shared}{U:KeyKind}{kd:SortKind}
def X9(g:Nat):StateT SortSt Sem Unit:=modify fun s=>SortSt.mk' (kindOf s) (arrOf s) (pendingOf s) g (failedOf s)
def y0:Array Keyed->Array Keyed->StateT SortSt Sem (Array Keyed):=sortPriv% PySem.Builtin.mergeLo
theorem Ds(a b:Array Keyed):y0 a b =(do
  rule "list.sort.merge-lo"
  let tot:=a.size+b.size
  let dn (o:Array Keyed) (i j:Nat):=o++a.extract i a.size++b.extract j b.size
  let lA (o:Array Keyed) (i j:Nat):=o++b.extract j b.size++a.extract i a.size
  let mut o:Array Keyed:=#[<-elem' b 0]
  let mut i:=0
  let mut j:=1
  if j == b.size then return dn o i j
  if i+1 == a.size then return lA o i j
  let mut mg:=gallopOf (<-get)
  for _ in [0:tot] do
   let mut ac:=0
   let mut bc:=0
   for _ in [0:tot] do
    let some bw <-lt' (<-elem' b j) (<-elem' a i) | return dn o i j
    if bw then
     o:=o.push (<-elem' b j);j:=j+1;bc:=bc+1;ac:=0
     if j == b.size then return dn o i j
     if bc ≥ mg then break
    else
     o:=o.push (<-elem' a i);i:=i+1;ac:=ac+1;bc:=0
     if i+1 == a.size then return lA o i j
     if ac ≥ mg then break
   rule "list.sort.gallop"
   mg:=mg+1
   for _ in [0:tot] do
    if mg>1 then mg:=mg-1
    X9 mg
    let some k <-K1 false (<-elem' b j) a i (a.size-i) 0 | return dn o i j
    ac:=k
    if k>0 then
     o:=o++a.extract i (i+k);i:=i+k
     if i+1 == a.size then return lA o i j
     if i == a.size then return dn o i j
    o:=o.push (<-elem' b j);j:=j+1
    if j == b.size then return dn o i j
    let some k <-K1 true (<-elem' a i) b j (b.size-j) 0 | return dn o i j
    bc:=k
    if k>0 then
     o:=o++b.extract j (j+k);j:=j+k
     if j == b.size then return dn o i j
    o:=o.push (<-elem' a i);i:=i+1
    if i+1 == a.size then return lA o i j
    if ac<7&&bc<7 then break
   mg:=mg+1
   X9 mg
  unsupported "internal:list.sort.merge-bound"):=rfl
def Sm(st st':SortSt):Prop:=kindOf st'=kindOf st/\arrOf st'=arrOf st/\pendingOf st'=pendingOf st/\failedOf st'=failedOf st
theorem Sm.refl(st:SortSt):Sm st st:=⟨rfl,rfl,rfl,rfl⟩
theorem P3{st st0:SortSt}{g:Nat}{Q:Unit->SortSt->Prop}(hs:Sm st0 st)(h:∀st',Sm st0 st'->Q () st'):wpS (model prog w) A E s (X9 g) Q st :=
 wpS_modify (h _ ⟨hs.1,hs.2.1,hs.2.2.1,hs.2.2.2⟩)
theorem o8{l:List Keyed}{i k:Nat}{y:Keyed}(h:y∈(l.drop i).take k):∃t,t<k/\l[i+t]?=some y:=by
 obtain⟨t,ht,e⟩:=EK.mp h;rw[AG,BR]at ht;refine⟨t,by lia,?_⟩;rw[List.getElem_take,List.getElem_drop]at e;rw[<-e];exact AJ (by lia)
theorem Dg{l:List Keyed}{i:Nat}{y:Keyed}(h:y∈l.drop i):∃t,i+t<l.length/\l[i+t]?=some y:=by
 obtain⟨t,ht,e⟩:=EK.mp h;rw[BR]at ht;refine⟨t,by lia,?_⟩;rw[List.getElem_drop]at e;rw[<-e];exact AJ (by lia)
theorem Ge{l:List Keyed}{i:Nat}{y:Keyed}(h:y∈l.take i):∃t,t<i/\t<l.length/\l[t]?=some y:=by
 obtain⟨t,ht,e⟩:=EK.mp h;rw[AG]at ht;refine⟨t,by lia,by lia,?_⟩;rw[List.getElem_take]at e;rw[<-e];exact AJ (by lia)
theorem Mr{l:List Keyed}{i k:Nat}{y:Keyed}(h:y∈(l.take i).drop k):∃t,k<=t/\t<i/\l[t]?=some y:=by
 obtain⟨t,h1,h2⟩:=Dg h;rw[AG]at h1;rw[CB (by lia)]at h2;exact⟨k+t,by lia,by lia,h2⟩
theorem X1{l:List Keyed}(h:Sor U l){i j:Nat}{p q:Keyed}(hij:i<=j)(hp:l[i]?=some p)(hq:l[j]?=some q):le U p q:=by
 obtain⟨h1,rfl⟩:=AK.mp hp;obtain⟨h2,rfl⟩:=AK.mp hq;rcases Nat.lt_or_eq_of_le hij with z | z
 .exact List.pairwise_iff_getElem.mp h i j h1 h2 z
 .subst z;exact le_refl _
theorem Ah{l:List Keyed}(h:Sor U l){i:Nat}{p:Keyed}(hp:l[i]?=some p):∀z∈l.drop i,le U p z:=fun z hz=>by
 obtain⟨t,_,e⟩:=Dg hz;exact X1 h (DL _ _) hp e
theorem ar_get{a:Array Keyed}{i:Nat}{p:Keyed}:a[i]?=some p↔a.toList[i]?=some p:=by rw[BL]
theorem Q1{a:Array Keyed}{i:Nat}(h:i<a.size):∃p,a[i]?=some p:=⟨a[i],getElem?_pos a i h⟩
theorem Jx{l:List Keyed}{i:Nat}{p:Keyed}(h:l[i]?=some p):(l.drop i).take 1 = [p]:=by
 obtain⟨h1,rfl⟩:=AK.mp h;rw[DD h1];rfl
theorem y6(a:Array Keyed)(i k:Nat):(a.extract i (i+k)).toList =(a.toList.drop i).take k:=by
 rw[EL,DP,Nat.add_sub_cancel_left]
theorem U1(a:Array Keyed)(i:Nat):(a.extract i a.size).toList=a.toList.drop i:=by
 rw[EL,DP,CK];rw[BR,AW];exact Nat.le_refl _
theorem U8(a:Array Keyed)(i:Nat):(a.extract 0 i).toList=a.toList.take i:=by
 rw[EL,DP,DH,Nat.sub_zero]
def Rm(U:KeyKind)(a b r:Array Keyed):Prop:=Sor U r.toList/\r.toList.Perm (a.toList++b.toList)
structure Pre(U:KeyKind)(a b:Array Keyed):Prop where
 sa:Sor U a.toList
 sb:Sor U b.toList
 ka:∀(i:Nat) p,a[i]?=some p->Has U p
 kb:∀(i:Nat) p,b[i]?=some p->Has U p
 na:1<=a.size
 nb:1<=b.size
 first:∀q,b[0]?=some q->∀z∈a.toList,le U q z
 last:∀p,a[a.size-1]?=some p->∀z∈b.toList,le U z p
section
variable{a b o:Array Keyed}{i j k:Nat}{p q:Keyed}
theorem Pre.pushB(P:Pre U a b)(m:ML U a.toList b.toList o.toList i j)(hq:b[j]?=some q)(h:∀z∈a.toList.drop i,le U q z):ML U a.toList b.toList (o.push q).toList i (j+1):=by
 have h1:=m.addB P.sb 1 (by rw[Jx (ar_get.mp hq)];intro y hy;rw[AE.mp hy];exact h);rw[Jx (ar_get.mp hq)]at h1;rw[CO];exact h1
theorem Pre.pushA(P:Pre U a b)(m:ML U a.toList b.toList o.toList i j)(hp:a[i]?=some p)(h:∀z∈b.toList.drop j,le U p z):ML U a.toList b.toList (o.push p).toList (i+1) j:=by
 have h1:=m.addA P.sa 1 (by rw[Jx (ar_get.mp hp)];intro y hy;rw[AE.mp hy];exact h);rw[Jx (ar_get.mp hp)]at h1;rw[CO];exact h1
theorem Pre.extA(P:Pre U a b)(m:ML U a.toList b.toList o.toList i j)(h:∀y∈(a.toList.drop i).take k,∀z∈b.toList.drop j,le U y z):ML U a.toList b.toList (o++a.extract i (i+k)).toList (i+k) j:=by
 rw[BI,y6];exact m.addA P.sa k h
theorem Pre.extB(P:Pre U a b)(m:ML U a.toList b.toList o.toList i j)(h:∀y∈(b.toList.drop j).take k,∀z∈a.toList.drop i,le U y z):ML U a.toList b.toList (o++b.extract j (j+k)).toList i (j+k):=by
 rw[BI,y6];exact m.addB P.sb k h
theorem Pre.doneB(P:Pre U a b)(m:ML U a.toList b.toList o.toList i j)(hj:j=b.size):Rm U a b (o++a.extract i a.size++b.extract j b.size):=by
 unfold Rm;rw[BI,BI,U1,U1];refine m.endA P.sa P.sb fun y _ z hz=>?_;rw[DJ (by rw[AW];lia)]at hz;exact absurd hz (by simp)
theorem Pre.doneA(P:Pre U a b)(m:ML U a.toList b.toList o.toList i j)(hi:i=a.size):Rm U a b (o++a.extract i a.size++b.extract j b.size):=by
 unfold Rm;rw[BI,BI,U1,U1];refine m.endA P.sa P.sb fun y hy z _=>?_;rw[DJ (by rw[AW];lia)]at hy;exact absurd hy (by simp)
theorem Pre.lastA(P:Pre U a b)(m:ML U a.toList b.toList o.toList i j)(hi:i+1=a.size):Rm U a b (o++b.extract j b.size++a.extract i a.size):=by
 unfold Rm;rw[BI,BI,U1,U1];refine m.endB P.sa P.sb fun y hy z hz=>?_;obtain⟨t,h1,h2⟩:=Dg hz;rw[AW]at h1;have e:i+t=a.size-1:=by lia
 rw[e]at h2;exact P.last z (ar_get.mpr h2) y (CV hy)
end
theorem Sm.knd{st st':SortSt}(h:Sm st st'){k:SortKind}(hk:kindOf st=k):kindOf st'=k:=h.1.trans hk
theorem U2(C:Cmp prog w A s U kd){st:SortSt}{left:Bool}{ky:Keyed}{ar:Array Keyed}{bs n ht:Nat}{Q:Option Nat->SortSt->Prop}(hk:kindOf st=kd)(hky:Has U ky)
  (hsz:bs+n<=ar.size) (hh:∀(i:Nat) p,ar[i]?=some p->Has U p) (hs:∀(u v:Nat) p q,u<=v->v<n->ar[bs+u]?=some p->ar[bs+v]?=some q->le U p q) (hht:ht<n)
  (h:∀k,k<=n->(∀(t:Nat) p,t<k->ar[bs+t]?=some p->PB U left ky p=true)->(∀(t:Nat) p,k<=t->t<n->ar[bs+t]?=some p->PB U left ky p=false)->Q (some k) st) :
  wpS (model prog w) A E s (K1 left ky ar bs n ht) Q st:=by
 have key:∀t,t<n->∃p,ar[bs+t]?=some p:=fun t ht=>Q1 (by lia);refine Fm C hk hky (fun t=>match ar[bs+t]? with | some p=>PB U left ky p | none=>false) (fun i hi=>?_) (fun i j hij hj hp=>?_) hht fun k hk1 h1 h2=>?_
 .obtain⟨p,hp⟩:=key i hi;exact⟨p,hp,hh _ p hp,by rw[hp]⟩
 .obtain⟨p,e1⟩:=key i (by lia);obtain⟨q,e2⟩:=key j hj;rw[e2]at hp;rw[e1];have l:=hs i j p q hij hj e1 e2;dsimp only at hp⊢;unfold PB at hp⊢;cases left with
  | true =>
   simp only[EX]at hp⊢;exact KeyOrd.klt_of_kle_of_klt l hp
  | false =>
   simp only[BN,DG,Bool.not_eq_true']at hp⊢;exact KeyOrd.kle_trans l hp
 .refine h k hk1 (fun t p ht hp=>?_) fun t p ht1 ht2 hp=>?_
  .have:=h1 t ht;rw[hp]at this;exact this
  .have:=h2 t ht1 ht2;rw[hp]at this;exact this
theorem t0{ky p:Keyed}(h:PB U false ky p=true):le U p ky:=by
 unfold PB at h;show U.blt (kk U ky) (kk U p)=false;simpa using h
theorem Y3{ky p:Keyed}(h:PB U false ky p=false):U.klt (kk U ky) (kk U p):=by
 unfold PB at h;show U.blt (kk U ky) (kk U p)=true;simpa using h
theorem Cj{ky p:Keyed}(h:PB U true ky p=true):U.klt (kk U p) (kk U ky):=by
 unfold PB at h;show U.blt (kk U p) (kk U ky)=true;simpa using h
theorem y4{ky p:Keyed}(h:PB U true ky p=false):le U ky p:=by
 unfold PB at h;show U.blt (kk U p) (kk U ky)=false;simpa using h
section
variable{α:Type}{Q:α->SortSt->Prop}{st:SortSt}
theorem J7{c:Prop}{_:Decidable c}{t e:StateT SortSt Sem α}(h1:c->wpS (model prog w) A E s t Q st)(h2:¬c->wpS (model prog w) A E s e Q st):wpS (model prog w) A E s (if c then t else e) Q st:=by
 split
 .rename_i h;exact h1 h
 .rename_i h;exact h2 h
theorem E4{x y:Nat}{t e:StateT SortSt Sem α}(h1:x=y->wpS (model prog w) A E s t Q st)(h2:x≠y->wpS (model prog w) A E s e Q st):wpS (model prog w) A E s (if(x == y)=true then t else e) Q st :=
 J7 (fun h=>h1 (eq_of_beq h)) fun h=>h2 fun z=>h (beq_iff_eq.mpr z)
theorem Hw{c:Prop}{_:Decidable c}{t:StateT SortSt Sem α}{F:Nat->StateT SortSt Sem α}(x:Nat){y:Nat}(h:∀g,wpS (model prog w) A E s (F g) Q st)(e:t=F x):wpS (model prog w) A E s (if c then t else F y) Q st:=by
 subst e;exact J7 (fun _=>h _) fun _=>h _
theorem u8{c:Prop}{_:Decidable c}{t:StateT SortSt Sem α}{F:Array Keyed->Nat->StateT SortSt Sem α}{o:Array Keyed}{i:Nat}(R:Array Keyed->Nat->Prop)(h:∀o i,R o i->wpS (model prog w) A E s (F o i) Q st)
  (hT:(∀o i,R o i->wpS (model prog w) A E s (F o i) Q st)->c->wpS (model prog w) A E s t Q st) (hE:¬c->R o i):wpS (model prog w) A E s (if c then t else F o i) Q st:=J7 (hT h) fun z=>h _ _ (hE z)
end
theorem Ju{α β:Type}{r0:Sem Unit}{el:StateT SortSt Sem Keyed}{x0:Keyed}{c1 c2:Prop}{_:Decidable c1}{_:Decidable c2}{t1 t2:Keyed->StateT SortSt Sem α}{ini:Keyed->SortSt->β}{n:Nat}{f:Nat->β->StateT SortSt Sem (ForInStep β)}{g:β->StateT SortSt Sem α}{Q:α->SortSt->Prop}{st:SortSt}
  (hr:∀R:Unit->SortSt->Prop,R () st->wpS (model prog w) A E s (liftM r0:StateT SortSt Sem Unit) R st) (he:∀R:Keyed->SortSt->Prop,R x0 st->wpS (model prog w) A E s el R st) (h1:c1->wpS (model prog w) A E s (t1 x0) Q st) (h2:¬c1->c2->wpS (model prog w) A E s (t2 x0) Q st)
  (h3:¬c1->¬c2->wpS (model prog w) A E s (forIn [0:n] (ini x0 st) f) (fun c st'=>wpS (model prog w) A E s (g c) Q st') st) :
  wpS (model prog w) A E s ((liftM r0:StateT SortSt Sem Unit) >>= fun _=>el >>= fun x=>if c1 then t1 x else if c2 then t2 x else get >>= fun st'=>forIn [0:n] (ini x st') f >>= g) Q st :=
 wpS_bind (hr _ (wpS_bind (he _ (J7 h1 fun z1=>J7 (h2 z1) fun z2=>wpS_bind (wpS_get (wpS_bind (h3 z1 z2)))))))
def MR(U:KeyKind)(a b:Array Keyed)(st:SortSt){β:Type}(c:Option (Array Keyed)×β)(st':SortSt):Prop:=Sm st st'/\∃r,c.1=some r/\Rm U a b r
theorem MR.mk{a b r:Array Keyed}{st st':SortSt}{β:Type}{c:β}(sm:Sm st st')(h:Rm U a b r):MR U a b st (some r,c) st':=⟨sm,r,rfl,h⟩
structure LoP(U:KeyKind)(a b:Array Keyed)(n:Nat)(o:Array Keyed)(i j:Nat):Prop where
 m:ML U a.toList b.toList o.toList i j
 hi:i+1<a.size
 hj:j<b.size
 hn:n<=i+j
theorem LoP.putB{a b o o':Array Keyed}{n i j:Nat}(h:LoP U a b n o i j)(m:ML U a.toList b.toList o'.toList i (j+1))(e:j+1≠b.size):LoP U a b (n+1) o' i (j+1):=⟨m,h.hi,FC h.hj e,Nat.succ_le_succ h.hn⟩
theorem LoP.putA{a b o o':Array Keyed}{n i j:Nat}(h:LoP U a b n o i j)(m:ML U a.toList b.toList o'.toList (i+1) j)(e:i+1+1≠a.size):LoP U a b (n+1) o' (i+1) j:=⟨m,FC h.hi e,h.hj,by rw[Nat.add_right_comm];exact Nat.succ_le_succ h.hn⟩
theorem LoP.mono{a b o:Array Keyed}{n n' i j:Nat}(h:LoP U a b n o i j)(l:n'<=n):LoP U a b n' o i j:=⟨h.m,h.hi,h.hj,Nat.le_trans l h.hn⟩
def Ut(U:KeyKind)(a b:Array Keyed)(st:SortSt)(n:Nat)(c:Option (Array Keyed)×Array Keyed×Nat×Nat×Nat)(st':SortSt):Prop:=Sm st st'/\∃o i j mg,c =(none,o,i,j,mg)/\LoP U a b n o i j
def LoI2(U:KeyKind)(a b:Array Keyed)(st:SortSt)(n:Nat)(c:Option (Array Keyed)×Array Keyed×Nat×Nat×Nat×Nat)(st':SortSt):Prop:=Sm st st'/\∃o i j ac bc,c =(none,o,i,j,ac,bc)/\LoP U a b n o i j
def LoI3(U:KeyKind)(a b:Array Keyed)(st:SortSt)(n:Nat)(c:Option (Array Keyed)×Array Keyed×Nat×Nat×Nat×Nat×Nat)(st':SortSt):Prop:=Sm st st'/\∃o i j mg ac bc,c =(none,o,i,j,mg,ac,bc)/\LoP U a b n o i j
theorem LoI2.mk{a b o:Array Keyed}{st st':SortSt}{n i j ac bc:Nat}(sm:Sm st st')(h:LoP U a b n o i j):LoI2 U a b st n (none,o,i,j,ac,bc) st':=⟨sm,_,_,_,_,_,rfl,h⟩
theorem LoI3.mk{a b o:Array Keyed}{st st':SortSt}{n i j mg ac bc:Nat}(sm:Sm st st')(h:LoP U a b n o i j):LoI3 U a b st n (none,o,i,j,mg,ac,bc) st':=⟨sm,_,_,_,_,_,_,rfl,h⟩
theorem Dc(C:Cmp prog w A s U kd){st:SortSt}{a b:Array Keyed}{Q:Array Keyed->SortSt->Prop}(hk:kindOf st=kd)(P:Pre U a b)
  (h:∀r st',Sm st st'->Rm U a b r->Q r st'):wpS (model prog w) A E s (y0 a b) Q st:=by
 rw[Ds];obtain⟨b0,hb0⟩:=Q1 (a:=b) (i:=0) P.nb;have m0:ML U a.toList b.toList (#[]:Array Keyed).toList 0 0:=⟨by simp,List.Pairwise.nil,fun x hx=>absurd hx (by simp),fun x hx=>absurd hx (by simp)⟩;have m1:ML U a.toList b.toList (#[b0]:Array Keyed).toList 0 1:=by
  have:=P.pushB m0 hb0 (by rw[DH];exact P.first b0 hb0);simpa using this
 apply Ju (x0:=b0) (fun R z=>wpS_lift (CM ⟨rfl,z⟩)) (fun R z=>C2 hb0 z)
 case h1=>exact fun hb1=>wpS_pure (h _ _ (Sm.refl _) (P.doneB m1 (eq_of_beq hb1)))
 case h2=>exact fun _ ha1=>wpS_pure (h _ _ (Sm.refl _) (P.lastA m1 (eq_of_beq ha1)))
 intro hb1 ha1;have p1:LoP U a b 1 #[b0] 0 1:=⟨m1,FC P.na fun z=>ha1 (beq_iff_eq.mpr z),FC P.nb fun z=>hb1 (beq_iff_eq.mpr z),Nat.le_refl _⟩;refine wpS_mono (wpS_forRange (I:=fun x=>Ut U a b st (x+1)) (Q:=MR U a b st) ?st ?en ⟨Sm.refl _,_,_,_,_,rfl,p1⟩) ?po
 case po =>
  rintro⟨c1,c2⟩ st' ⟨sm,r,e,hr⟩;cases e;exact wpS_pure (h r st' sm hr)
 case en =>
  rintro c st' ⟨sm,o,i,j,mg,rfl,p⟩;obtain⟨_,h1,h2,h3⟩:=p;exfalso;lia
 case st =>
  rintro x c st' _ hx ⟨sm,o,i,j,mg,rfl,p⟩;refine wpS_bind (wpS_mono (wpS_forRange (I:=fun _=>LoI2 U a b st (x+1)) (Q:=fun c st'=>MR U a b st c st'\/LoI2 U a b st (x+1) c st') ?st1 ?en1 (LoI2.mk sm p)) ?po1)
  case en1=>exact fun c st2 z=>.inr z
  case st1 =>
   rintro x2 c st2 _ _ ⟨sm2,o,i',j',ac,bc,rfl,p2⟩;obtain⟨bj,hbj⟩:=Q1 (a:=b) (i:=j') p2.hj;obtain⟨ai,hai⟩:=Q1 (a:=a) (i:=i') (EH p2.hi);refine wpS_bind (C2 hbj (wpS_bind (C2 hai (wpS_bind (Az C (sm2.knd hk) (P.kb _ _ hbj) (P.ka _ _ hai) ?_)))));refine J7 (fun hlt=>wpS_bind (C2 hbj ?_)) fun hlt=>wpS_bind (C2 hai ?_)
   .have m3:=P.pushB p2.m hbj fun z hz=>le_trans (KeyOrd.kle_of_klt hlt) (Ah P.sa (ar_get.mp hai) z hz);refine E4 (fun e1=>wpS_pure (.inl (MR.mk sm2 (P.doneB m3 e1)))) fun e1=>?_;have p3:=(p2.putB m3 e1).mono (BZ _);exact J7 (fun _=>wpS_pure (.inr (LoI2.mk sm2 p3))) fun _=>wpS_pure (LoI2.mk sm2 p3)
   .have m3:=P.pushA p2.m hai fun z hz=>le_trans (show le U ai bj from DR.mpr hlt) (Ah P.sb (ar_get.mp hbj) z hz);refine E4 (fun e1=>wpS_pure (.inl (MR.mk sm2 (P.lastA m3 e1)))) fun e1=>?_;have p3:=(p2.putA m3 e1).mono (BZ _);exact J7 (fun _=>wpS_pure (.inr (LoI2.mk sm2 p3))) fun _=>wpS_pure (LoI2.mk sm2 p3)
  case po1 =>
   rintro⟨c1,c2⟩ st2 (⟨sm2,r,e,hr⟩ | ⟨sm2,o2,i2,j2,ac,bc,e,p2⟩)
   .cases e;exact wpS_pure (MR.mk sm2 hr)
   .cases e;refine wpS_bind (wpS_lift (CM ⟨rfl,?_⟩));refine wpS_bind (wpS_mono (wpS_forRange (I:=fun x3=>LoI3 U a b st (x+1+x3)) (Q:=fun c st'=>MR U a b st c st'\/LoI3 U a b st (x+1+1) c st') ?st2 ?en2 (LoI3.mk sm2 p2)) ?po2)
    case en2 =>
     rintro c st3 ⟨sm3,o',i',j',mg',ac,bc,rfl,p3⟩;refine .inr (LoI3.mk sm3 (p3.mono ?_));have:=P.na;lia
    case po2 =>
     rintro⟨c1,c2⟩ st3 (⟨sm3,r,e,hr⟩ | ⟨sm3,o',i',j',mg',ac,bc,e,p3⟩)
     .cases e;exact wpS_pure (MR.mk sm3 hr)
     .cases e;refine wpS_bind (P3 sm3 fun st4 sm4=>?_);exact wpS_pure ⟨sm4,_,_,_,_,rfl,p3⟩
    case st2 =>
     rintro x3 c st3 _ _ ⟨sm3,o3,i3,j3,mg3,ac3,bc3,rfl,p3⟩;obtain⟨bj,hbj⟩:=Q1 (a:=b) (i:=j3) p3.hj;have hi3:i3 +(a.size-i3)<=a.size:=by rw[Nat.add_sub_cancel' (CS (EH p3.hi))];exact Nat.le_refl _
     have hj3:=p3.hj;apply Hw (mg3-1) (y:=mg3)
     case e=>exact rfl
     intro g;refine wpS_bind (P3 sm3 fun st4 sm4=>?_);refine wpS_bind (C2 hbj (wpS_bind (U2 C (sm4.knd hk) (P.kb _ _ hbj) hi3 P.ka (fun u v p q huv _ e1 e2=>X1 P.sa (DY huv _) (ar_get.mp e1) (ar_get.mp e2)) (Nat.sub_pos_of_lt (EH p3.hi)) fun k hk1 k1 k2=>?_)));have m4:ML U a.toList b.toList (o3++a.extract i3 (i3+k)).toList (i3+k) j3:=P.extA p3.m fun y hy z hz=>by
      obtain⟨t,ht,e⟩:=o8 hy;exact le_trans (t0 (k1 t y ht (ar_get.mpr e))) (Ah P.sb (ar_get.mp hbj) z hz)
     have hbz:∀z∈a.toList.drop (i3+k),le U bj z:=fun z hz=>by
      obtain⟨t,ht,e⟩:=Dg hz;rw[AW]at ht;exact KeyOrd.kle_of_klt (Y3 (k2 (k+t) z (DL _ _) (by lia) (by rw[<-Nat.add_assoc];exact ar_get.mpr e)))
     apply u8 (o:=o3) (i:=i3) (fun o i=>LoP U a b (x+1+x3) o i j3/\∀z∈a.toList.drop i,le U bj z)
     .rintro o4 i4 ⟨p4,hbz⟩;refine wpS_bind (C2 hbj ?_);have m5:=P.pushB p4.m hbj hbz;refine E4 (fun e3=>wpS_pure (.inl (MR.mk sm4 (P.doneB m5 e3)))) fun e3=>?_;have p5:=p4.putB m5 e3;generalize o4.push bj=o5 at m5 p5⊢;generalize j3+1=j5 at m5 p5⊢;obtain⟨ai,hai⟩:=Q1 (a:=a) (i:=i4) (EH p5.hi);refine wpS_bind (C2 hai (wpS_bind (U2 C (sm4.knd hk) (P.ka _ _ hai) (by rw[Nat.add_sub_cancel' (CS p5.hj)];exact Nat.le_refl _) P.kb (fun u v p q huv _ e1 e2=>X1 P.sb (DY huv _) (ar_get.mp e1) (ar_get.mp e2)) (Nat.sub_pos_of_lt p5.hj) fun k' hk1' k1' k2'=>?_)));have haz:∀z∈b.toList.drop (j5+k'),le U ai z:=fun z hz=>by
       obtain⟨t,ht,e⟩:=Dg hz;rw[AW]at ht;exact y4 (k2' (k'+t) z (DL _ _) (by lia) (by rw[<-Nat.add_assoc];exact ar_get.mpr e))
      apply u8 (o:=o5) (i:=j5) (fun o j=>LoP U a b (x+1+x3+1) o i4 j/\∀z∈b.toList.drop j,le U ai z)
      .rintro o6 j6 ⟨p6,haz⟩;refine wpS_bind (C2 hai ?_);have m7:=P.pushA p6.m hai haz;refine E4 (fun e5=>wpS_pure (.inl (MR.mk sm4 (P.lastA m7 e5)))) fun e5=>?_;have p7:=p6.putA m7 e5;exact J7 (fun _=>wpS_pure (.inr (LoI3.mk sm4 (p7.mono (by lia))))) fun _=>wpS_pure (LoI3.mk sm4 (p7.mono (by lia)))
      .intro hF hk0;have m6:ML U a.toList b.toList (o5++b.extract j5 (j5+k')).toList i4 (j5+k'):=P.extB m5 fun y hy z hz=>by
        obtain⟨t,ht,e⟩:=o8 hy;exact le_trans (KeyOrd.kle_of_klt (Cj (k1' t y ht (ar_get.mpr e)))) (Ah P.sa (ar_get.mp hai) z hz)
       have hj5:=p5.hj;exact E4 (fun e4=>wpS_pure (.inl (MR.mk sm4 (P.doneB m6 e4)))) fun e4=>hF _ _ ⟨⟨m6,p5.hi,by lia,Nat.le_trans p5.hn (by lia)⟩,haz⟩
      .intro hk0;have z0:k'=0:=EA hk0;subst z0;exact⟨p5,haz⟩
     .intro hF hk0;have hi:=p3.hi;exact E4 (fun e1=>wpS_pure (.inl (MR.mk sm4 (P.lastA m4 e1)))) fun e1=>E4 (fun e2=>wpS_pure (.inl (MR.mk sm4 (P.doneA m4 e2)))) fun e2=>hF _ _ ⟨⟨m4,by lia,p3.hj,Nat.le_trans p3.hn (by lia)⟩,hbz⟩
     .intro hk0;have z0:k=0:=EA hk0;subst z0;exact⟨p3,hbz⟩
end
section
variable{prog:Program}{w:World}{A:Around}{E:Value->Shared->Prop}{s:Shared}{U:KeyKind}{kd:SortKind}
def z6:Array Keyed->Array Keyed->StateT SortSt Sem (Array Keyed):=sortPriv% PySem.Builtin.mergeHi
theorem Cw(a b:Array Keyed):z6 a b =(do
  rule "list.sort.merge-hi"
  let tot:=a.size+b.size
  let dn (o:Array Keyed) (i j:Nat):=a.extract 0 i++b.extract 0 j++o.reverse
  let fB (o:Array Keyed) (i j:Nat):=b.extract 0 j++a.extract 0 i++o.reverse
  let mut i:=a.size-1
  let mut j:=b.size
  let mut o:Array Keyed:=#[<-elem' a i]
  if i == 0 then return dn o i j
  if j == 1 then return fB o i j
  let mut mg:=gallopOf (<-get)
  for _ in [0:tot] do
   let mut ac:=0
   let mut bc:=0
   for _ in [0:tot] do
    let some aw <-lt' (<-elem' b (j-1)) (<-elem' a (i-1)) | return dn o i j
    if aw then
     i:=i-1;o:=o.push (<-elem' a i);ac:=ac+1;bc:=0
     if i == 0 then return dn o i j
     if ac ≥ mg then break
    else
     j:=j-1;o:=o.push (<-elem' b j);bc:=bc+1;ac:=0
     if j == 1 then return fB o i j
     if bc ≥ mg then break
   rule "list.sort.gallop"
   mg:=mg+1
   for _ in [0:tot] do
    if mg>1 then mg:=mg-1
    X9 mg
    let some at_ <-K1 false (<-elem' b (j-1)) a 0 i (i-1) | return dn o i j
    let k:=i-at_
    ac:=k
    if k>0 then
     o:=o ++(a.extract at_ i).reverse;i:=at_
     if i == 0 then return dn o i j
    j:=j-1;o:=o.push (<-elem' b j)
    if j == 1 then return fB o i j
    let some at_ <-K1 true (<-elem' a (i-1)) b 0 j (j-1) | return dn o i j
    let k:=j-at_
    bc:=k
    if k>0 then
     o:=o ++(b.extract at_ j).reverse;j:=at_
     if j == 1 then return fB o i j
     if j == 0 then return dn o i j
    i:=i-1;o:=o.push (<-elem' a i)
    if i == 0 then return dn o i j
    if ac<7&&bc<7 then break
   mg:=mg+1
   X9 mg
  unsupported "internal:list.sort.merge-bound"):=rfl
abbrev MHa(U:KeyKind)(a b o:Array Keyed)(i j:Nat):Prop:=MH U a.toList b.toList o.toList.reverse i j
section
variable{a b o:Array Keyed}{i j k:Nat}{p q:Keyed}
theorem td1{l:List Keyed}{i:Nat}{p:Keyed}(hi:1<=i)(h:l[i-1]?=some p):(l.take i).drop (i-1) = [p]:=by
 rw[EM,show i-(i-1)=1 by lia];exact Jx h
theorem Df(a:Array Keyed)(k i:Nat):(a.extract k i).toList =(a.toList.take i).drop k:=by
 rw[EL,DP,EM]
theorem w5{l:List Keyed}(h:Sor U l){i:Nat}{p:Keyed}(hp:l[i-1]?=some p):∀z∈l.take i,le U z p:=fun z hz=>by
 obtain⟨t,h1,_,e⟩:=Ge hz;exact X1 h (by lia) e hp
theorem Pre.hpA(P:Pre U a b)(m:MHa U a b o i j)(hi:1<=i)(hp:a[i-1]?=some p)(h:∀z∈b.toList.take j,le U z p):MHa U a b (o.push p) (i-1) j:=by
 have h1:=m.addA P.sa (i-1) (by lia) (by rw[td1 hi (ar_get.mp hp)];intro y hy;rw[AE.mp hy];exact h);rw[td1 hi (ar_get.mp hp)]at h1;unfold MHa;rw[CO,ET];exact h1
theorem Pre.hpB(P:Pre U a b)(m:MHa U a b o i j)(hj:1<=j)(hq:b[j-1]?=some q)(h:∀z∈a.toList.take i,le U z q):MHa U a b (o.push q) i (j-1):=by
 have h1:=m.addB P.sb (j-1) (by lia) (by rw[td1 hj (ar_get.mp hq)];intro y hy;rw[AE.mp hy];exact h);rw[td1 hj (ar_get.mp hq)]at h1;unfold MHa;rw[CO,ET];exact h1
theorem Pre.heA(P:Pre U a b)(m:MHa U a b o i j)(hk:k<=i)(h:∀y∈(a.toList.take i).drop k,∀z∈b.toList.take j,le U z y):MHa U a b (o ++(a.extract k i).reverse) k j:=by
 unfold MHa;rw[BI,DT,ET,List.reverse_reverse,Df];exact m.addA P.sa k hk h
theorem Pre.heB(P:Pre U a b)(m:MHa U a b o i j)(hk:k<=j)(h:∀y∈(b.toList.take j).drop k,∀z∈a.toList.take i,le U z y):MHa U a b (o ++(b.extract k j).reverse) i k:=by
 unfold MHa;rw[BI,DT,ET,List.reverse_reverse,Df];exact m.addB P.sb k hk h
theorem Pre.hdA(P:Pre U a b)(m:MHa U a b o i j)(hi:i=0):Rm U a b (a.extract 0 i++b.extract 0 j++o.reverse):=by
 unfold Rm;rw[BI,BI,DT,U8,U8];refine m.endA P.sa P.sb fun y hy z _=>?_;rw[hi,List.take_zero]at hy;exact absurd hy (by simp)
theorem Pre.hdB(P:Pre U a b)(m:MHa U a b o i j)(hj:j=0):Rm U a b (a.extract 0 i++b.extract 0 j++o.reverse):=by
 unfold Rm;rw[BI,BI,DT,U8,U8];refine m.endA P.sa P.sb fun y _ z hz=>?_;rw[hj,List.take_zero]at hz;exact absurd hz (by simp)
theorem Pre.hfB(P:Pre U a b)(m:MHa U a b o i j)(hj:j=1):Rm U a b (b.extract 0 j++a.extract 0 i++o.reverse):=by
 unfold Rm;rw[BI,BI,DT,U8,U8];refine m.endB P.sa P.sb fun y hy z hz=>?_;obtain⟨t,h1,_,e⟩:=Ge hy;have e0:t=0:=by lia
 rw[e0]at e;exact P.first y (ar_get.mpr e) z (BH hz)
end
structure HiP(U:KeyKind)(a b:Array Keyed)(n:Nat)(o:Array Keyed)(i j:Nat):Prop where
 m:MHa U a b o i j
 hi:1<=i
 hj:2<=j
 ia:i<=a.size
 jb:j<=b.size
 hn:n+i+j<=a.size+b.size
theorem HiP.putA{a b o o':Array Keyed}{n i j:Nat}(h:HiP U a b n o i j)(m:MHa U a b o' (i-1) j)(e:i-1≠0):HiP U a b (n+1) o' (i-1) j:=by
 obtain⟨_,h1,h2,h3,h4,h5⟩:=h;exact⟨m,by lia,h2,by lia,h4,by lia⟩
theorem HiP.putB{a b o o':Array Keyed}{n i j:Nat}(h:HiP U a b n o i j)(m:MHa U a b o' i (j-1))(e:j-1≠1):HiP U a b (n+1) o' i (j-1):=by
 obtain⟨_,h1,h2,h3,h4,h5⟩:=h;exact⟨m,h1,by lia,h3,by lia,by lia⟩
theorem HiP.mono{a b o:Array Keyed}{n n' i j:Nat}(h:HiP U a b n o i j)(l:n'<=n):HiP U a b n' o i j:=⟨h.m,h.hi,h.hj,h.ia,h.jb,Nat.le_trans (Nat.add_le_add_right (Nat.add_le_add_right l _) _) h.hn⟩
theorem HiP.la{a b o:Array Keyed}{n i j:Nat}(h:HiP U a b n o i j):i-1<a.size:=BG (Nat.sub_lt h.hi (EY)) h.ia
theorem HiP.lb{a b o:Array Keyed}{n i j:Nat}(h:HiP U a b n o i j):j-1<b.size:=BG (Nat.sub_lt (EH h.hj) (EY)) h.jb
theorem HiP.hj1{a b o:Array Keyed}{n i j:Nat}(h:HiP U a b n o i j):1<=j:=Nat.le_of_succ_le h.hj
def Ux(U:KeyKind)(a b:Array Keyed)(st:SortSt)(n:Nat)(c:Option (Array Keyed)×Nat×Nat×Array Keyed×Nat)(st':SortSt):Prop:=Sm st st'/\∃i j o mg,c =(none,i,j,o,mg)/\HiP U a b n o i j
def HiI2(U:KeyKind)(a b:Array Keyed)(st:SortSt)(n:Nat)(c:Option (Array Keyed)×Nat×Nat×Array Keyed×Nat×Nat)(st':SortSt):Prop:=Sm st st'/\∃i j o ac bc,c =(none,i,j,o,ac,bc)/\HiP U a b n o i j
def HiI3(U:KeyKind)(a b:Array Keyed)(st:SortSt)(n:Nat)(c:Option (Array Keyed)×Nat×Nat×Array Keyed×Nat×Nat×Nat)(st':SortSt):Prop:=Sm st st'/\∃i j o mg ac bc,c =(none,i,j,o,mg,ac,bc)/\HiP U a b n o i j
theorem HiI2.mk{a b o:Array Keyed}{st st':SortSt}{n i j ac bc:Nat}(sm:Sm st st')(h:HiP U a b n o i j):HiI2 U a b st n (none,i,j,o,ac,bc) st':=⟨sm,_,_,_,_,_,rfl,h⟩
theorem HiI3.mk{a b o:Array Keyed}{st st':SortSt}{n i j mg ac bc:Nat}(sm:Sm st st')(h:HiP U a b n o i j):HiI3 U a b st n (none,i,j,o,mg,ac,bc) st':=⟨sm,_,_,_,_,_,_,rfl,h⟩
theorem Cz(C:Cmp prog w A s U kd){st:SortSt}{a b:Array Keyed}{Q:Array Keyed->SortSt->Prop}(hk:kindOf st=kd)(P:Pre U a b)
  (h:∀r st',Sm st st'->Rm U a b r->Q r st'):wpS (model prog w) A E s (z6 a b) Q st:=by
 rw[Cw];have hna:=P.na;have hnb:=P.nb;obtain⟨b0,hb0⟩:=Q1 (a:=a) (i:=a.size-1) (Nat.sub_lt hna EY);have m0:MHa U a b (#[]:Array Keyed) a.size b.size:=⟨by simp,List.Pairwise.nil,fun x hx=>absurd hx (by simp),fun x hx=>absurd hx (by simp)⟩;have m1:MHa U a b (#[b0]:Array Keyed) (a.size-1) b.size:=by
  have:=P.hpA m0 hna hb0 (fun z hz=>P.last b0 hb0 z (BH hz));simpa using this
 apply Ju (x0:=b0) (fun R z=>wpS_lift (CM ⟨rfl,z⟩)) (fun R z=>C2 hb0 z)
 case h1=>exact fun ha1=>wpS_pure (h _ _ (Sm.refl _) (P.hdA m1 (eq_of_beq ha1)))
 case h2=>exact fun _ hb1=>wpS_pure (h _ _ (Sm.refl _) (P.hfB m1 (eq_of_beq hb1)))
 intro ha1 hb1;have ha1:¬a.size-1=0:=fun z=>ha1 (beq_iff_eq.mpr z);have hb1:¬b.size=1:=fun z=>hb1 (beq_iff_eq.mpr z);have p1:HiP U a b 1 #[b0] (a.size-1) b.size:=⟨m1,by lia,by lia,by lia,by lia,by lia⟩;refine wpS_mono (wpS_forRange (I:=fun x=>Ux U a b st (x+1)) (Q:=MR U a b st) ?st ?en ⟨Sm.refl _,_,_,_,_,rfl,p1⟩) ?po
 case po =>
  rintro⟨c1,c2⟩ st' ⟨sm,r,e,hr⟩;cases e;exact wpS_pure (h r st' sm hr)
 case en =>
  rintro c st' ⟨sm,i,j,o,mg,rfl,p⟩;obtain⟨_,h1,h2,_,_,h3⟩:=p;exfalso;lia
 case st =>
  rintro x c st' _ hx ⟨sm,i,j,o,mg,rfl,p⟩;refine wpS_bind (wpS_mono (wpS_forRange (I:=fun _=>HiI2 U a b st (x+1)) (Q:=fun c st'=>MR U a b st c st'\/HiI2 U a b st (x+1) c st') ?st1 ?en1 (HiI2.mk sm p)) ?po1)
  case en1=>exact fun c st2 z=>.inr z
  case st1 =>
   rintro x2 c st2 _ _ ⟨sm2,i',j',o,ac,bc,rfl,p2⟩;obtain⟨bj,hbj⟩:=Q1 (a:=b) (i:=j' - 1) p2.lb;obtain⟨ai,hai⟩:=Q1 (a:=a) (i:=i' - 1) p2.la;refine wpS_bind (C2 hbj (wpS_bind (C2 hai (wpS_bind (Az C (sm2.knd hk) (P.kb _ _ hbj) (P.ka _ _ hai) ?_)))));refine J7 (fun hlt=>wpS_bind (C2 hai ?_)) fun hlt=>wpS_bind (C2 hbj ?_)
   .have m3:=P.hpA p2.m p2.hi hai fun z hz=>le_trans (w5 P.sb (ar_get.mp hbj) z hz) (KeyOrd.kle_of_klt hlt);refine E4 (fun e1=>wpS_pure (.inl (MR.mk sm2 (P.hdA m3 e1)))) fun e1=>?_;have p3:=(p2.putA m3 e1).mono (BZ _);exact J7 (fun _=>wpS_pure (.inr (HiI2.mk sm2 p3))) fun _=>wpS_pure (HiI2.mk sm2 p3)
   .have m3:=P.hpB p2.m p2.hj1 hbj fun z hz=>le_trans (w5 P.sa (ar_get.mp hai) z hz) (show le U ai bj from DR.mpr hlt);refine E4 (fun e1=>wpS_pure (.inl (MR.mk sm2 (P.hfB m3 e1)))) fun e1=>?_;have p3:=(p2.putB m3 e1).mono (BZ _);exact J7 (fun _=>wpS_pure (.inr (HiI2.mk sm2 p3))) fun _=>wpS_pure (HiI2.mk sm2 p3)
  case po1 =>
   rintro⟨c1,c2⟩ st2 (⟨sm2,r,e,hr⟩ | ⟨sm2,i2,j2,o2,ac,bc,e,p2⟩)
   .cases e;exact wpS_pure (MR.mk sm2 hr)
   .cases e;refine wpS_bind (wpS_lift (CM ⟨rfl,?_⟩));refine wpS_bind (wpS_mono (wpS_forRange (I:=fun x3=>HiI3 U a b st (x+1+x3)) (Q:=fun c st'=>MR U a b st c st'\/HiI3 U a b st (x+1+1) c st') ?st2 ?en2 (HiI3.mk sm2 p2)) ?po2)
    case en2 =>
     rintro c st3 ⟨sm3,i',j',o',mg',ac,bc,rfl,p3⟩;exact .inr (HiI3.mk sm3 (p3.mono (by lia)))
    case po2 =>
     rintro⟨c1,c2⟩ st3 (⟨sm3,r,e,hr⟩ | ⟨sm3,i',j',o',mg',ac,bc,e,p3⟩)
     .cases e;exact wpS_pure (MR.mk sm3 hr)
     .cases e;refine wpS_bind (P3 sm3 fun st4 sm4=>?_);exact wpS_pure ⟨sm4,_,_,_,_,rfl,p3⟩
    case st2 =>
     rintro x3 c st3 _ _ ⟨sm3,i3,j3,o3,mg3,ac3,bc3,rfl,p3⟩;obtain⟨bj,hbj⟩:=Q1 (a:=b) (i:=j3-1) p3.lb;apply Hw (mg3-1) (y:=mg3)
     case e=>exact rfl
     intro g;refine wpS_bind (P3 sm3 fun st4 sm4=>?_);refine wpS_bind (C2 hbj (wpS_bind (U2 C (sm4.knd hk) (P.kb _ _ hbj) (by rw[FE];exact p3.ia) P.ka (fun u v p q huv _ e1 e2=>X1 P.sa (DY huv _) (ar_get.mp e1) (ar_get.mp e2)) (Nat.sub_lt p3.hi EY) fun k hk1 k1 k2=>?_)));dsimp only;have m4:MHa U a b (o3 ++(a.extract k i3).reverse) k j3:=P.heA p3.m hk1 fun y hy z hz=>by
      obtain⟨t,ht1,ht2,e⟩:=Mr hy;exact le_trans (w5 P.sb (ar_get.mp hbj) z hz) (KeyOrd.kle_of_klt (Y3 (k2 t y ht1 ht2 (by rw[FE];exact ar_get.mpr e))))
     have hbz:∀z∈a.toList.take k,le U z bj:=fun z hz=>by
      obtain⟨t,ht,_,e⟩:=Ge hz;exact t0 (k1 t z ht (by rw[FE];exact ar_get.mpr e))
     generalize hd:i3-k=d;apply u8 (o:=o3) (i:=i3) (fun o i=>HiP U a b (x+1+x3) o i j3/\∀z∈a.toList.take i,le U z bj)
     .rintro o4 i4 ⟨p4,hbz⟩;refine wpS_bind (C2 hbj ?_);have m5:=P.hpB p4.m p4.hj1 hbj hbz;refine E4 (fun e3=>wpS_pure (.inl (MR.mk sm4 (P.hfB m5 e3)))) fun e3=>?_;have p5:=p4.putB m5 e3;generalize o4.push bj=o5 at m5 p5⊢;generalize j3-1=j5 at m5 p5⊢;obtain⟨ai,hai⟩:=Q1 (a:=a) (i:=i4-1) p5.la;refine wpS_bind (C2 hai (wpS_bind (U2 C (sm4.knd hk) (P.ka _ _ hai) (by rw[FE];exact p5.jb) P.kb (fun u v p q huv _ e1 e2=>X1 P.sb (DY huv _) (ar_get.mp e1) (ar_get.mp e2)) (Nat.sub_lt p5.hj1 EY) fun k' hk1' k1' k2'=>?_)));dsimp only;have haz:∀z∈b.toList.take k',le U z ai:=fun z hz=>by
       obtain⟨t,ht,_,e⟩:=Ge hz;exact KeyOrd.kle_of_klt (Cj (k1' t z ht (by rw[FE];exact ar_get.mpr e)))
      generalize hd':j5-k'=d';apply u8 (o:=o5) (i:=j5) (fun o j=>HiP U a b (x+1+x3+1) o i4 j/\∀z∈b.toList.take j,le U z ai)
      .rintro o6 j6 ⟨p6,haz⟩;refine wpS_bind (C2 hai ?_);have m7:=P.hpA p6.m p6.hi hai haz;refine E4 (fun e5=>wpS_pure (.inl (MR.mk sm4 (P.hdA m7 e5)))) fun e5=>?_;have p7:=p6.putA m7 e5;exact J7 (fun _=>wpS_pure (.inr (HiI3.mk sm4 (p7.mono (by lia))))) fun _=>wpS_pure (HiI3.mk sm4 (p7.mono (by lia)))
      .intro hF hk0;have m6:MHa U a b (o5 ++(b.extract k' j5).reverse) i4 k':=P.heB m5 hk1' fun y hy z hz=>by
        obtain⟨t,ht1,ht2,e⟩:=Mr hy;exact le_trans (w5 P.sa (ar_get.mp hai) z hz) (y4 (k2' t y ht1 ht2 (by rw[FE];exact ar_get.mpr e)))
       obtain⟨_,h1,h2,h3,h4,h5⟩:=p5;exact E4 (fun e4=>wpS_pure (.inl (MR.mk sm4 (P.hfB m6 e4)))) fun e4=>E4 (fun e5=>wpS_pure (.inl (MR.mk sm4 (P.hdB m6 e5)))) fun e5=>hF _ _ ⟨⟨m6,h1,by lia,h3,Nat.le_trans hk1' h4,by lia⟩,haz⟩
      .intro hk0;have z0:k'=j5:=Nat.le_antisymm hk1' (Nat.le_of_sub_eq_zero (hd'.trans (EA hk0)));subst z0;exact⟨p5,haz⟩
     .intro hF hk0;obtain⟨_,h1,h2,h3,h4,h5⟩:=p3;exact E4 (fun e1=>wpS_pure (.inl (MR.mk sm4 (P.hdA m4 e1)))) fun e1=>hF _ _ ⟨⟨m4,by lia,h2,Nat.le_trans hk1 h3,h4,by lia⟩,hbz⟩
     .intro hk0;have z0:k=i3:=Nat.le_antisymm hk1 (Nat.le_of_sub_eq_zero (hd.trans (EA hk0)));subst z0;exact⟨p3,hbz⟩
end
section
variable{prog:Program}{w:World}{A:Around}{E:Value->Shared->Prop}{s:Shared}{U:KeyKind}{kd:SortKind}
def seg(l:List Keyed)(lo n:Nat):List Keyed:=(l.drop lo).take n
theorem Hv(m:List Keyed)(lo:Nat):∀(n:Nat) (a:Array Keyed),lo+n+m.length<=a.size ->
  ((m.zipIdx n).foldl (fun a (x:Keyed×Nat)=>a.setIfInBounds (lo+x.2) x.1) a).size=a.size /\
  ∀t:Nat,((m.zipIdx n).foldl (fun a (x:Keyed×Nat)=>a.setIfInBounds (lo+x.2) x.1) a)[t]?=if lo+n<=t/\t<lo+n+m.length then m[t-(lo+n)]? else a[t]?:=by
 induction m with
 | nil =>
  intro n a h;refine⟨rfl,fun t=>?_⟩;rw[AU (by simp only[List.length_nil];omega)];rfl
 | cons p m ih =>
  intro n a h;rw[BO]at h;rw[List.zipIdx_cons,List.foldl_cons];obtain⟨i1,i2⟩:=ih (n+1) (a.setIfInBounds (lo+n) p) (by rw[Array.size_setIfInBounds];omega);refine⟨i1.trans Array.size_setIfInBounds,fun t=>?_⟩;rw[i2 t,BO];by_cases h1:lo+n=t
  .subst h1;rw[AU (by omega),BB (by omega),Array.getElem?_setIfInBounds_self_of_lt (by omega),Nat.sub_self];rfl
  .by_cases h2:lo +(n+1)<=t/\t<lo +(n+1)+m.length
   .rw[BB h2,BB (by omega),show t-(lo+n) =(t-(lo +(n+1)))+1 by omega,List.getElem?_cons_succ]
   .rw[AU h2,AU (by omega),Array.getElem?_setIfInBounds_ne h1]
theorem g8(m:List Keyed)(lo:Nat)(a:Array Keyed)(h:lo+m.length<=a.size) :
  (m.zipIdx.foldl (fun a (x:Keyed×Nat)=>a.setIfInBounds (lo+x.2) x.1) a).toList=a.toList.take lo++m++a.toList.drop (lo+m.length):=by
 obtain⟨h1,h2⟩:=Hv m lo 0 a (by omega);refine FF fun t=>?_;rw[BL,h2 t];have hl:(a.toList.take lo).length=lo:=by rw[AG,AW];omega
 by_cases c1:t<lo
 .rw[AU (by omega),BE,DE (by omega),CB c1,BL]
 .by_cases c2:t<lo+m.length
  .rw[BB (by omega),DE (by rw[BF];omega),CY (by omega),hl];rfl
  .rw[AU (by omega),CY (by rw[BF];omega),BF,hl,EB,BL];congr 1;omega
theorem Hz(l:List Keyed)(lo n:Nat):l=l.take lo++seg l lo n++l.drop (lo+n):=by
 unfold seg;rw[BE,<-DN,BK,BK]
theorem Db(l:List Keyed)(lo n m:Nat):seg l lo (n+m)=seg l lo n++seg l (lo+n) m:=by
 unfold seg;rw[List.take_add,DN]
structure Part(U:KeyKind)(l l':List Keyed)(lo n:Nat):Prop where
 perm:l'.Perm l
 front:l'.take lo=l.take lo
 back:l'.drop (lo+n)=l.drop (lo+n)
theorem Part.refl(l:List Keyed)(lo n:Nat):Part U l l lo n:=⟨List.Perm.refl _,rfl,rfl⟩
theorem Part.seg_front{l l':List Keyed}{lo n:Nat}(h:Part U l l' lo n){u m:Nat}(hu:u+m<=lo):seg l' u m=seg l u m:=by
 have:∀x:List Keyed,seg x u m =((x.take lo).drop u).take m:=fun x=>by
  unfold seg;rw[EM,List.take_take,DB (by omega)]
 rw[this,this,h.front]
theorem Part.seg_back{l l':List Keyed}{lo n:Nat}(h:Part U l l' lo n){u m:Nat}(hu:lo+n<=u):seg l' u m=seg l u m:=by
 have:∀x:List Keyed,seg x u m =((x.drop (lo+n)).drop (u-(lo+n))).take m:=fun x=>by
  unfold seg;rw[DN,show lo+n +(u-(lo+n))=u by omega]
 rw[this,this,h.back]
theorem Part.of{l z:List Keyed}{lo n:Nat}(hz:z.Perm (seg l lo n))(hl:lo+n<=l.length):Part U l (l.take lo++z++l.drop (lo+n)) lo n/\seg (l.take lo++z++l.drop (lo+n)) lo n=z:=by
 have h1:(l.take lo).length=lo:=by rw[AG];omega
 have h2:z.length=n:=by
  rw[hz.length_eq];unfold seg;rw[AG,BR];omega
 refine⟨⟨?_,?_,?_⟩,?_⟩
 .conv=>rhs;rw[Hz l lo n]
  exact CJ _ (CP _ hz)
 .rw[BE,List.take_append_of_le_length (by omega),CK (by omega)]
 .rw[List.drop_append,DJ (by rw[BF];omega),List.nil_append,BF,h1,h2,Nat.sub_self,DH]
 .unfold seg;rw[BE,List.drop_append,DJ (by omega),List.nil_append,h1,Nat.sub_self,DH,List.take_append_of_le_length (by omega),CK (by omega)]
structure St(U:KeyKind)(kd:SortKind)(a₀:Array Keyed)(st:SortSt):Prop where
 perm:(arrOf st).toList.Perm a₀.toList
 kind:kindOf st=kd
 failed:failedOf st=none
theorem St.size{a₀:Array Keyed}{st:SortSt}(h:St U kd a₀ st):(arrOf st).size=a₀.size:=by
 have:=h.perm.length_eq;simpa using this
theorem St.has{a₀:Array Keyed}{st:SortSt}(h:St U kd a₀ st)(h0:KeysOf U a₀)(i:Nat)(p:Keyed)(e:(arrOf st)[i]?=some p):Has U p :=
 h0 p (h.perm.mem_iff.mp (AL (ar_get.mp e)))
theorem F5{l:List Keyed}{lo n t:Nat}(ht:t<n):(seg l lo n)[t]?=l[lo+t]?:=by
 unfold seg;rw[CB ht,EB]
theorem Dk(i:Nat):mergeAt' i =(do
  let u <-get
  let(some (sa,na,pw),some (sb,nb,_)):=((pendingOf u)[i]?,(pendingOf u)[i+1]?) | unsupported "internal:list.sort.pending"
  set (setPending u (((pendingOf u).setIfInBounds i (sa,na+nb,pw)).eraseIdxIfInBounds (i+1)))
  let some k <-K1 false (<-elem' (arrOf u) sb) (arrOf u) sa na 0 | return false
  let(sa,na):=(sa+k,na-k)
  if na == 0 then return true
  let some nb <-K1 true (<-elem' (arrOf u) (sa+na-1)) (arrOf u) sb nb (nb-1) | return false
  if nb == 0 then return true
  let x:=(arrOf u).extract sa sb
  let y:=(arrOf u).extract sb (sb+nb)
  let mm <-if na<=nb then y0 x y else z6 x y
  modify fun v=>setArr v (mm.toList.zipIdx.foldl (fun a (z:Keyed×Nat)=>a.setIfInBounds (sa+z.2) z.1) (arrOf v))
  return(failedOf (<-get)).isNone):=rfl
theorem Nl{st st2:SortSt}{Q:PUnit->SortSt->Prop}(h:Q ⟨⟩ st2):wpS (model prog w) A E s (set st2:StateT SortSt Sem PUnit) Q st:=by
 unfold wpS;rw[StateT.run_set];exact AD ⟨rfl,h⟩
theorem De(C:Cmp prog w A s U kd){a₀:Array Keyed}(h0:KeysOf U a₀){st:SortSt}{i sa na pw sb nb pw2:Nat}{Q:Bool->SortSt->Prop}(hS:St U kd a₀ st)
  (hi:(pendingOf st)[i]?=some (sa,na,pw)) (hj:(pendingOf st)[i+1]?=some (sb,nb,pw2)) (hsb:sb=sa+na) (hsz:sb+nb<=a₀.size) (hna:1<=na) (hnb:1<=nb)
  (sx:Sor U (seg (arrOf st).toList sa na)) (sy:Sor U (seg (arrOf st).toList sb nb))
  (h:∀st',St U kd a₀ st'->Part U (arrOf st).toList (arrOf st').toList sa (na+nb)->Sor U (seg (arrOf st').toList sa (na+nb)) ->
   pendingOf st' =((pendingOf st).setIfInBounds i (sa,na+nb,pw)).eraseIdxIfInBounds (i+1)->Q true st'):wpS (model prog w) A E s (mergeAt' i) Q st:=by
 subst hsb;have hL:(arrOf st).toList.length=a₀.size:=by rw[AW];exact hS.size
 have hsz':=hS.size;rw[Dk];refine wpS_bind (wpS_get ?_);rw[hi,hj];dsimp only;refine wpS_bind (Nl ?_);obtain⟨b0,hb0⟩:=Q1 (a:=arrOf st) (i:=sa+na) (by omega);have sxl:∀u v p q,u<=v->v<na->(arrOf st)[sa+u]?=some p->(arrOf st)[sa+v]?=some q->le U p q:=fun u v p q huv hv e1 e2 =>
  X1 sx huv (by rw[F5 (by omega)];exact ar_get.mp e1) (by rw[F5 hv];exact ar_get.mp e2)
 have syl:∀u v p q,u<=v->v<nb->(arrOf st)[sa+na+u]?=some p->(arrOf st)[sa+na+v]?=some q->le U p q:=fun u v p q huv hv e1 e2 =>
  X1 sy huv (by rw[F5 (by omega)];exact ar_get.mp e1) (by rw[F5 hv];exact ar_get.mp e2)
 refine wpS_bind (C2 hb0 (wpS_bind (U2 C hS.kind (hS.has h0 _ _ hb0) (by omega) (hS.has h0) sxl (by omega) fun k hk1 k1 k2=>?_)));dsimp only;have b0y:∀z∈seg (arrOf st).toList (sa+na) nb,le U b0 z:=fun z hz=>by
  obtain⟨t,ht,e⟩:=o8 hz;exact syl 0 t b0 z (by omega) ht hb0 (ar_get.mpr e)
 have xk:∀x∈(seg (arrOf st).toList sa na).take k,le U x b0:=fun x hx=>by
  obtain⟨t,ht,ht2,e⟩:=Ge hx;unfold seg at ht2;rw[AG]at ht2;rw[F5 (by omega)]at e;exact t0 (k1 t x ht (ar_get.mpr e))
 have kx:∀x∈(seg (arrOf st).toList sa na).drop k,le U b0 x:=fun x hx=>by
  obtain⟨t,ht,e⟩:=Dg hx;unfold seg at ht;rw[AG]at ht;rw[F5 (by omega)]at e;exact KeyOrd.kle_of_klt (Y3 (k2 (k+t) x (by omega) (by omega) (ar_get.mpr e)))
 have S1:St U kd a₀ (setPending st (((pendingOf st).setIfInBounds i (sa,na+nb,pw)).eraseIdxIfInBounds (i+1))):=⟨hS.perm,hS.kind,hS.failed⟩;by_cases hk0:na-k=0
 .rw[BB (by simpa using hk0)];have hkk:k=na:=by omega
  refine wpS_pure (h _ S1 (Part.refl _ _ _) ?_ rfl);show Sor U (seg (arrOf st).toList sa (na+nb));rw[Db];refine BV.mpr ⟨sx,sy,fun x hx y hy=>le_trans (xk x ?_) (b0y y hy)⟩;rw[CK (by unfold seg;rw[AG];omega)];exact hx
 rw[AU (by simpa using hk0)];obtain⟨al,hal⟩:=Q1 (a:=arrOf st) (i:=sa+k +(na-k)-1) (by omega);refine wpS_bind (C2 hal (wpS_bind (U2 C S1.kind (hS.has h0 _ _ hal) (by omega) (hS.has h0) syl (by omega) fun k' hk1' k1' k2'=>?_)));dsimp only;have hal':(arrOf st)[sa +(na-1)]?=some al:=by rw[show sa +(na-1)=sa+k +(na-k)-1 by omega];exact hal
 have xal:∀x∈seg (arrOf st).toList sa na,le U x al:=fun x hx=>by
  obtain⟨t,ht,e⟩:=o8 hx;exact sxl t (na-1) x al (by omega) (by omega) (ar_get.mpr e) hal'
 have yk:∀y∈(seg (arrOf st).toList (sa+na) nb).take k',le U y al:=fun y hy=>by
  obtain⟨t,ht,ht2,e⟩:=Ge hy;unfold seg at ht2;rw[AG]at ht2;rw[F5 (by omega)]at e;exact KeyOrd.kle_of_klt (Cj (k1' t y ht (ar_get.mpr e)))
 have ky:∀y∈(seg (arrOf st).toList (sa+na) nb).drop k',le U al y:=fun y hy=>by
  obtain⟨t,ht,e⟩:=Dg hy;unfold seg at ht;rw[AG]at ht;rw[F5 (by omega)]at e;exact y4 (k2' (k'+t) y (by omega) (by omega) (ar_get.mpr e))
 by_cases hk0':k'=0
 .rw[BB (by simpa using hk0')];refine wpS_pure (h _ S1 (Part.refl _ _ _) ?_ rfl);show Sor U (seg (arrOf st).toList sa (na+nb));rw[Db];refine BV.mpr ⟨sx,sy,fun x hx y hy=>le_trans (xal x hx) (ky y ?_)⟩;rw[hk0',DH];exact hy
 rw[AU (by simpa using hk0')];have ex:((arrOf st).extract (sa+k) (sa+na)).toList =(seg (arrOf st).toList sa na).drop k:=by
  rw[Df];unfold seg;rw[EM,EM,DN];congr 1;omega
 have ey:((arrOf st).extract (sa+na) (sa+na+k')).toList =(seg (arrOf st).toList (sa+na) nb).take k':=by
  rw[y6];unfold seg;rw[List.take_take,DB hk1']
 have P:Pre U ((arrOf st).extract (sa+k) (sa+na)) ((arrOf st).extract (sa+na) (sa+na+k')):=by
  refine⟨by rw[ex];exact sx.sublist (DQ _ _),by rw[ey];exact sy.sublist (CN _ _),fun t p e=>?_,fun t p e=>?_,?_,?_,fun q e z hz=>?_,fun p e z hz=>?_⟩
  .have m:=AL (ar_get.mp e);rw[ex]at m;obtain⟨u,_,e2⟩:=o8 (CV m);exact hS.has h0 _ p (ar_get.mpr e2)
  .have m:=AL (ar_get.mp e);rw[ey]at m;obtain⟨u,_,e2⟩:=o8 (BH m);exact hS.has h0 _ p (ar_get.mpr e2)
  .rw[Array.size_extract];omega
  .rw[Array.size_extract];omega
  .have m:=ar_get.mp e;rw[ey,CB (by omega),F5 (by omega)]at m;have:q=b0:=by
    have:=ar_get.mp hb0;rw[Nat.add_zero,this]at m;exact(BU m).symm
   subst this;rw[ex]at hz;exact kx z hz
  .have m:=ar_get.mp e;rw[ex,Array.size_extract,EB,F5 (by omega)]at m;have:p=al:=by
    have q:=ar_get.mp hal';rw[show k +(min (sa+na) (arrOf st).size-(sa+k)-1)=na-1 by omega,q]at m;exact(BU m).symm
   subst this;rw[ey]at hz;exact yk z hz
 have fin:∀(r:Array Keyed) (st2:SortSt),Sm (setPending st (((pendingOf st).setIfInBounds i (sa,na+nb,pw)).eraseIdxIfInBounds (i+1))) st2->Rm U ((arrOf st).extract (sa+k) (sa+na)) ((arrOf st).extract (sa+na) (sa+na+k')) r ->
   Q (failedOf (setArr st2 (r.toList.zipIdx.foldl (fun a (z:Keyed×Nat)=>a.setIfInBounds (sa+k+z.2) z.1) (arrOf st2)))).isNone (setArr st2 (r.toList.zipIdx.foldl (fun a (z:Keyed×Nat)=>a.setIfInBounds (sa+k+z.2) z.1) (arrOf st2))):=by
  rintro r st2 ⟨q1,q2,q3,q4⟩ ⟨r1,r2⟩;rw[ex,ey]at r2;have hrl:r.toList.length =(na-k)+k':=by
   rw[r2.length_eq,BF];unfold seg;rw[BR,AG,AG,BR,AG,BR];omega
  have q2':arrOf st2=arrOf st:=q2;have ef:failedOf (setArr st2 (r.toList.zipIdx.foldl (fun a (z:Keyed×Nat)=>a.setIfInBounds (sa+k+z.2) z.1) (arrOf st2)))=none:=q4.trans hS.failed;rw[ef];have el:=g8 r.toList (sa+k) (arrOf st2) (by rw[q2'];omega);have eq:(r.toList.zipIdx.foldl (fun a (z:Keyed×Nat)=>a.setIfInBounds (sa+k+z.2) z.1) (arrOf st2)).toList =(arrOf st).toList.take sa ++((seg (arrOf st).toList sa na).take k++r.toList ++(seg (arrOf st).toList (sa+na) nb).drop k') ++(arrOf st).toList.drop (sa +(na+nb)):=by
   rw[el,q2',hrl];have e1:(arrOf st).toList.take (sa+k) =(arrOf st).toList.take sa ++(seg (arrOf st).toList sa na).take k:=by
    unfold seg;rw[List.take_add,List.take_take,DB hk1]
   have e2:(arrOf st).toList.drop (sa+k +(na-k+k')) =(seg (arrOf st).toList (sa+na) nb).drop k' ++(arrOf st).toList.drop (sa +(na+nb)):=by
    unfold seg;rw[EM,DN,show sa+k +(na-k+k')=sa+na+k' by omega]
    conv=>lhs;rw[<-BK (nb-k') ((arrOf st).toList.drop (sa+na+k'))]
    rw[DN,show sa+na+k' +(nb-k')=sa +(na+nb) by omega]
   rw[e1,e2];simp only[BE]
  have hp:((seg (arrOf st).toList sa na).take k++r.toList ++(seg (arrOf st).toList (sa+na) nb).drop k').Perm (seg (arrOf st).toList sa (na+nb)):=by
   rw[Db];have a1:((seg (arrOf st).toList sa na).take k++r.toList ++(seg (arrOf st).toList (sa+na) nb).drop k').Perm ((seg (arrOf st).toList sa na).take k ++((seg (arrOf st).toList sa na).drop k ++(seg (arrOf st).toList (sa+na) nb).take k') ++(seg (arrOf st).toList (sa+na) nb).drop k') :=
    CJ _ (CP _ r2)
   refine a1.trans (List.Perm.of_eq ?_);rw[<-BE,BK,BE,BK]
  obtain⟨pa,ps⟩:=Part.of (U:=U) hp (by rw[hL];omega);have hs:Sor U ((seg (arrOf st).toList sa na).take k++r.toList ++(seg (arrOf st).toList (sa+na) nb).drop k'):=by
   refine BV.mpr ⟨BV.mpr ⟨sx.sublist (CN _ _),r1,fun x hx y hy=>?_⟩,sy.sublist (DQ _ _),fun x hx y hy=>?_⟩
   .rcases AV.mp (r2.mem_iff.mp hy)with hy | hy
    .exact le_trans (xk x hx) (kx y hy)
    .exact le_trans (xk x hx) (b0y y (BH hy))
   .rcases AV.mp hx with hx | hx
    .exact le_trans (xal x (BH hx)) (ky y hy)
    .rcases AV.mp (r2.mem_iff.mp hx)with hx | hx
     .exact le_trans (xal x (CV hx)) (ky y hy)
     .exact le_trans (yk x hx) (ky y hy)
  refine h _ ⟨?_,q1.trans hS.kind,q4.trans hS.failed⟩ ?_ ?_ q3
  .show(r.toList.zipIdx.foldl (fun a (z:Keyed×Nat)=>a.setIfInBounds (sa+k+z.2) z.1) (arrOf st2)).toList.Perm a₀.toList;rw[eq];exact pa.perm.trans hS.perm
  .show Part U (arrOf st).toList (r.toList.zipIdx.foldl (fun a (z:Keyed×Nat)=>a.setIfInBounds (sa+k+z.2) z.1) (arrOf st2)).toList sa (na+nb);rw[eq];exact pa
  .show Sor U (seg (r.toList.zipIdx.foldl (fun a (z:Keyed×Nat)=>a.setIfInBounds (sa+k+z.2) z.1) (arrOf st2)).toList sa (na+nb));rw[eq,ps];exact hs
 by_cases hab:na-k<=k'
 .rw[BB hab];refine wpS_bind (Dc C S1.kind P fun r st2 q r1=>?_);exact wpS_bind (wpS_modify (wpS_bind (wpS_get (wpS_pure (fin r st2 q r1)))))
 .rw[AU hab];refine wpS_bind (Cz C S1.kind P fun r st2 q r1=>?_);exact wpS_bind (wpS_modify (wpS_bind (wpS_get (wpS_pure (fin r st2 q r1)))))
end
section
variable{prog:Program}{w:World}{A:Around}{E:Value->Shared->Prop}{s:Shared}{U:KeyKind}{kd:SortKind}{a₀:Array Keyed}
theorem Kt{xs:Array Keyed}{i:Nat}{p:Keyed}(h:xs[i]?=some p):KK U xs i=kk U p:=by unfold KK kk;rw[h]
def SI(U:KeyKind)(xs:Array Keyed)(lo m:Nat):Prop:=∀i j,i<=j->j<m->U.kle (KK U xs (lo+i)) (KK U xs (lo+j))
def NI(U:KeyKind)(xs:Array Keyed)(lo m:Nat):Prop:=∀i j,i<=j->j<m->U.kle (KK U xs (lo+j)) (KK U xs (lo+i))
theorem SI.sor{xs:Array Keyed}{lo m:Nat}(h:SI U xs lo m):Sor U (seg xs.toList lo m):=by
 refine List.pairwise_iff_getElem.mpr fun i j hi hj hij=>?_;unfold seg at hi hj;rw[AG]at hi hj;have e1:xs[lo+i]?=some (seg xs.toList lo m)[i]:=by
  rw[ar_get,<-F5 (n:=m) (by omega)];exact AJ _
 have e2:xs[lo+j]?=some (seg xs.toList lo m)[j]:=by
  rw[ar_get,<-F5 (n:=m) (by omega)];exact AJ _
 have:=h i j (by omega) (by omega);rw[Kt e1,Kt e2]at this;exact this
structure Lo(U:KeyKind)(kd:SortKind)(a₀:Array Keyed)(st0:SortSt)(lo n:Nat)(st:SortSt):Prop where
 S:St U kd a₀ st
 pend:pendingOf st=pendingOf st0
 out:∀t,t<lo\/lo+n<=t->(arrOf st)[t]? =(arrOf st0)[t]?
theorem Lo.part{st0 st:SortSt}{lo n:Nat}(h:Lo U kd a₀ st0 lo n st)(h0:St U kd a₀ st0):Part U (arrOf st0).toList (arrOf st).toList lo n:=by
 refine⟨h.S.perm.trans h0.perm.symm,FF fun t=>?_,FF fun t=>?_⟩
 .by_cases ht:t<lo
  .rw[CB ht,CB ht,BL,BL];exact h.out t (.inl ht)
  .rw[List.getElem?_eq_none (by rw[AG];omega),List.getElem?_eq_none (by rw[AG];omega)]
 .rw[EB,EB,BL,BL];exact h.out _ (.inr (by omega))
theorem Lo.mirror{st0 st:SortSt}{lo n i j:Nat}(h:Lo U kd a₀ st0 lo n st)(hi:lo<=i)(hj:j<=lo+n)(hn:lo+n<=a₀.size):Lo U kd a₀ st0 lo n (setArr st (mirror (arrOf st) i j ((j-i) / 2))):=by
 refine⟨⟨(Array.perm_iff_toList_perm.mp (mirror_perm _ _ _ _)).trans h.S.perm,h.S.kind,h.S.failed⟩,h.pend,fun t ht=>?_⟩;show(PyProof.Rows.mirror (arrOf st) i j ((j-i) / 2))[t]?=_;have:=h.S.size;rw[getElem?_mirror_all (by omega),AU (by omega)];exact h.out t ht
theorem F8(C:Cmp prog w A s U kd)(h0:KeysOf U a₀){st:SortSt}(hS:St U kd a₀ st){i j:Nat}{Q:Option Bool->SortSt->Prop}(hi:i<a₀.size)(hj:j<a₀.size)
  (h:Q (some (U.blt (KK U (arrOf st) i) (KK U (arrOf st) j))) st):wpS (model prog w) A E s (ltAt' i j) Q st:=by
 have:=hS.size;obtain⟨p,hp⟩:=Q1 (a:=arrOf st) (i:=i) (by omega);obtain⟨q,hq⟩:=Q1 (a:=arrOf st) (i:=j) (by omega);rw[ltAt'_eq];refine wpS_bind (wpS_get ?_);refine wpS_bind (C2 hp (wpS_bind (C2 hq (Az C hS.kind (hS.has h0 _ _ hp) (hS.has h0 _ _ hq) ?_))));rw[Kt hp,Kt hq]at h;exact h
theorem Qo{st:SortSt}{lo a nrem:Nat}{f:Nat->(Option (Option Nat)×Nat)->StateT SortSt Sem (ForInStep (Option (Option Nat)×Nat))}{Q:(Option (Option Nat)×Nat)->SortSt->Prop}
  (hf:∀x n,1<=n->n<nrem->wpS (model prog w) A E s (f x (none,n)) (fun r st'=>st'=st/\r=if U.blt (KK U (arrOf st) (lo+n)) (KK U (arrOf st) (lo+n-1))=true then .done (none,n)else .yield (none,n+1)) st)
  (ha:1<=a) (han:a<=nrem) (hs:SI U (arrOf st) lo a)
  (h:∀n,a<=n->n<=nrem->SI U (arrOf st) lo n->(n=nrem\/U.klt (KK U (arrOf st) (lo+n)) (KK U (arrOf st) (lo+n-1)))->Q (none,n) st):wpS (model prog w) A E s (forIn [a:nrem] (none,a) f) Q st:=by
 refine wpS_forRange (I:=fun x c st'=>st'=st/\c =(none,x)/\SI U (arrOf st) lo x) ?_ ?_ ⟨rfl,rfl,hs⟩
 .rintro x c st' hax hxn ⟨rfl,rfl,hs'⟩;refine wpS_mono (hf x x (by omega) hxn) fun r st2 ⟨e,er⟩=>?_;subst e;cases hless:U.blt (KK U (arrOf st2) (lo+x)) (KK U (arrOf st2) (lo+x-1))
  .rw[hless,AU AM]at er;subst er;refine⟨rfl,rfl,fun i j hij hj=>?_⟩;by_cases hjx:j<x
   .exact hs' i j hij hjx
   .have hj':j=x:=by omega
    subst hj';by_cases hi':i=j
    .subst hi';exact KeyOrd.kle_refl _
    .have:=hs' i (j-1) (by omega) (by omega);rw[show lo +(j-1)=lo+j-1 by omega]at this;exact KeyOrd.kle_trans this hless
  .rw[hless,BB rfl]at er;subst er;exact h x hax (by omega) hs' (.inr hless)
 .rintro c st' ⟨rfl,rfl,hs'⟩;rw[show max a nrem=nrem by omega]at hs'⊢;exact h nrem han (Nat.le_refl _) hs' (.inl rfl)
theorem NI.step{xs ys:Array Keyed}{lo x:Nat}(hx:1<=x)(hk:∀k,KK U ys k=KK U xs k)(hs:NI U xs lo x)(hl:U.kle (KK U xs (lo+x)) (KK U xs (lo+x-1))):NI U ys lo (x+1):=by
 intro i j hij hj;rw[hk,hk];by_cases hjx:j<x
 .exact hs i j hij hjx
 .have hj':j=x:=by omega
  subst hj';by_cases hi':i=j
  .subst hi';exact KeyOrd.kle_refl _
  .have:=hs i (j-1) (by omega) (by omega);rw[show lo +(j-1)=lo+j-1 by omega]at this;exact KeyOrd.kle_trans hl this
abbrev DS:=Option (Option Nat)×Nat×Nat
theorem Qb{st0 st:SortSt}{lo n nrem:Nat}(hsz:lo+nrem<=a₀.size){f:Nat->DS->StateT SortSt Sem (ForInStep DS)}{Q:DS->SortSt->Prop}
  (hf:∀x n q st',1<=n->n<nrem->Lo U kd a₀ st0 lo nrem st'->wpS (model prog w) A E s (f x (none,n,q)) (fun r st2 =>
   if U.blt (KK U (arrOf st') (lo+n)) (KK U (arrOf st') (lo+n-1))=true then(st2=if q>0 then setArr st' (mirror (arrOf st') (lo+n-(q+1)) (lo+n) ((lo+n-(lo+n-(q+1))) / 2))else st')/\r = .yield (none,n+1,0)
   else st2=st'/\r=if U.blt (KK U (arrOf st') (lo+n-1)) (KK U (arrOf st') (lo+n))=true then .done (none,n,q)else .yield (none,n+1,q+1)) st')
  (h1:1<=n) (hnn:n<=nrem) (hB:Lo U kd a₀ st0 lo nrem st) (hs:NI U (arrOf st) lo n)
  (h:∀m q st',Lo U kd a₀ st0 lo nrem st'->n<=m->m<=nrem->NI U (arrOf st') lo m->q+1<=m->(∀i,m-(q+1)<=i->i<m->KK U (arrOf st') (lo+i)=KK U (arrOf st') (lo+m-1))->Q (none,m,q) st') :
  wpS (model prog w) A E s (forIn [n:nrem] (none,n,0) f) Q st:=by
 refine wpS_forRange (I:=fun x c st'=>∃q,c =(none,x,q)/\Lo U kd a₀ st0 lo nrem st'/\NI U (arrOf st') lo x/\q+1<=x /\
   (∀i,x-(q+1)<=i->i<x->KK U (arrOf st') (lo+i)=KK U (arrOf st') (lo+x-1))) ?_ ?_ ⟨0,rfl,hB,hs,by omega,fun i h1 h2=>by congr 1;omega⟩
 .rintro x c st' hax hxn ⟨q,rfl,hB',hs',hq,he⟩;have hs0:=hB'.S.size;refine wpS_mono (hf x x q st' (by omega) hxn hB') fun r st2 hr=>?_;cases hless:U.blt (KK U (arrOf st') (lo+x)) (KK U (arrOf st') (lo+x-1))
  .rw[hless,AU AM]at hr;obtain⟨e,er⟩:=hr;subst e;cases hl:U.blt (KK U (arrOf st2) (lo+x-1)) (KK U (arrOf st2) (lo+x))
   .rw[hl,AU AM]at er;subst er;have heqx:KK U (arrOf st2) (lo+x)=KK U (arrOf st2) (lo+x-1):=KeyOrd.kle_antisymm hl hless;refine⟨q+1,rfl,hB',NI.step (by omega) (fun _=>rfl) hs' hl,by omega,fun i g1 g2=>?_⟩;rw[show lo +(x+1)-1=lo+x by omega];by_cases hix:i=x
    .subst hix;rfl
    .rw[heqx];exact he i (by omega) (by omega)
   .rw[hl,BB rfl]at er;subst er;exact h x q st2 hB' hax (by omega) hs' hq he
  .rw[hless,BB rfl]at hr;obtain⟨e,er⟩:=hr;subst er;have hl:U.kle (KK U (arrOf st') (lo+x)) (KK U (arrOf st') (lo+x-1)):=KeyOrd.kle_of_klt hless;by_cases hq0:q>0
   .rw[BB hq0]at e;subst e;refine⟨0,rfl,hB'.mirror (by omega) (by omega) hsz,NI.step (by omega) (KK_mirror_equal (by omega) fun k g1 g2=>?_) hs' hl,by omega,fun i g1 g2=>by congr 1;omega⟩;have:=he (k-lo) (by omega) (by omega);rw[show lo +(k-lo)=k by omega]at this;exact this
   .rw[AU hq0]at e;subst e;exact⟨0,rfl,hB',NI.step (by omega) (fun _=>rfl) hs' hl,by omega,fun i g1 g2=>by congr 1;omega⟩
 .rintro c st' ⟨q,rfl,hB',hs',hq,he⟩;rw[show max n nrem=nrem by omega]at hs' hq he⊢;exact h nrem q st' hB' hnn (Nat.le_refl _) hs' hq he
theorem NI.turn{xs:Array Keyed}{lo n:Nat}(hn:lo+n<=xs.size)(h:NI U xs lo n):SI U (mirror xs lo (lo+n) ((lo+n-lo) / 2)) lo n:=by
 intro i j hij hj;rw[KK_mirror hn,KK_mirror hn,BB (by omega),BB (by omega)];have:=h (n-1-j) (n-1-i) (by omega) (by omega);rw[show lo +(n-1-i)=lo +(lo+n)-1-(lo+i) by omega,show lo +(n-1-j)=lo +(lo+n)-1-(lo+j) by omega]at this;exact this
theorem Ch(C:Cmp prog w A s U kd)(h0:KeysOf U a₀){st:SortSt}{lo nrem:Nat}{Q:Option Nat->SortSt->Prop}(hS:St U kd a₀ st)(hsz:lo+nrem<=a₀.size)(h1:1<=nrem)
  (h:∀m st',Lo U kd a₀ st lo nrem st'->1<=m->m<=nrem->SI U (arrOf st') lo m->Q (some m) st'):wpS (model prog w) A E s (countRun' lo nrem) Q st:=by
 have L0:Lo U kd a₀ st lo nrem st:=⟨hS,rfl,fun _ _=>rfl⟩;rw[countRun'_eq];dsimp only;refine wpS_bind (Qo (U:=U) (lo:=lo) (fun x n g1 g2=>?_) (Nat.le_refl 1) h1 (fun i j hij hj=>by have:i=j:=(by omega);subst this;exact KeyOrd.kle_refl _) fun n hn1 hn2 hsn hor=>?_)
 .dsimp only;refine wpS_bind (F8 C h0 hS (by omega) (by omega) ?_);dsimp only;cases U.blt (KK U (arrOf st) (lo+n)) (KK U (arrOf st) (lo+n-1))
  .exact wpS_pure ⟨rfl,rfl⟩
  .exact wpS_pure ⟨rfl,rfl⟩
 dsimp only;by_cases hnn:n=nrem
 .rw[BB (by simpa using hnn)];exact wpS_pure (h n st L0 hn1 hn2 hsn)
 rw[AU (by simpa using hnn)];have hlt:U.klt (KK U (arrOf st) (lo+n)) (KK U (arrOf st) (lo+n-1)):=hor.resolve_left hnn;have hz:=hS.size;by_cases hgt:n>1
 .rw[BB hgt];refine wpS_bind (F8 C h0 hS (by omega) (by omega) ?_);dsimp only;cases hrose:U.blt (KK U (arrOf st) lo) (KK U (arrOf st) (lo+n-1))with
  | true =>
   simp only[EX];exact wpS_pure (h n st L0 hn1 hn2 hsn)
  | false =>
   simp only[BN,DG];have hall:∀k,lo<=k->k<lo+n->KK U (arrOf st) k=KK U (arrOf st) (lo+n-1):=by
    intro k hk1 hk2;have a1:=hsn 0 (k-lo) (by omega) (by omega);have a2:=hsn (k-lo) (n-1) (by omega) (by omega);rw[Nat.add_zero,show lo +(k-lo)=k by omega]at a1;rw[show lo +(k-lo)=k by omega,show lo +(n-1)=lo+n-1 by omega]at a2;exact KeyOrd.kle_antisymm a2 (KeyOrd.kle_trans hrose a1)
   have hk:=KK_mirror_equal (κ:=U) (xs:=arrOf st) (i:=lo) (j:=lo+n) (by omega) hall;refine wpS_bind (wpS_reverse ?_);have hB2:=L0.mirror (i:=lo) (j:=lo+n) (by omega) (by omega) hsz;have hN:NI U (mirror (arrOf st) lo (lo+n) ((lo+n-lo) / 2)) lo (n+1):=by
    refine NI.step (by omega) hk (fun i j hij hj=>?_) (KeyOrd.kle_of_klt hlt);rw[hall (lo+i) (by omega) (by omega),hall (lo+j) (by omega) (by omega)];exact KeyOrd.kle_refl _
   refine wpS_bind (wpS_lift (CM ⟨rfl,?_⟩));refine wpS_bind (Qb (U:=U) (kd:=kd) (a₀:=a₀) (st0:=st) (lo:=lo) hsz (fun x n' q st' g1 g2 hB'=>?_) (by omega) (by omega) hB2 hN fun m q st' hB3 hm1 hm2 hs3 hq he=>?_)
   .dsimp only;refine wpS_bind (F8 C h0 hB'.S (by omega) (by omega) ?_);dsimp only;cases U.blt (KK U (arrOf st') (lo+n')) (KK U (arrOf st') (lo+n' - 1))
    .simp only[BN,DG];refine wpS_bind (F8 C h0 hB'.S (by omega) (by omega) ?_);dsimp only;cases U.blt (KK U (arrOf st') (lo+n' - 1)) (KK U (arrOf st') (lo+n'))
     .exact wpS_pure ⟨rfl,rfl⟩
     .exact wpS_pure ⟨rfl,rfl⟩
    .simp only[EX];by_cases hq:q>0
     .rw[BB hq,BB hq];exact wpS_bind (wpS_reverse (wpS_pure ⟨rfl,rfl⟩))
     .rw[AU hq,AU hq];exact wpS_pure ⟨rfl,rfl⟩
   .dsimp only;have hz3:=hB3.S.size;by_cases hq0:q>0
    .rw[BB hq0];refine wpS_bind (wpS_reverse (wpS_bind (wpS_reverse ?_)));have hB4':=hB3.mirror (i:=lo+m-(q+1)) (j:=lo+m) (by omega) (by omega) hsz;have hB4:=hB4'.mirror (i:=lo) (j:=lo+m) (by omega) (by omega) hsz;have hz4:=hB4'.S.size;have hN4:NI U (mirror (arrOf st') (lo+m-(q+1)) (lo+m) ((lo+m-(lo+m-(q+1))) / 2)) lo m:=by
      have hk:=KK_mirror_equal (κ:=U) (xs:=arrOf st') (i:=lo+m-(q+1)) (j:=lo+m) (by omega) (fun k g1 g2=>by
       have:=he (k-lo) (by omega) (by omega);rw[show lo +(k-lo)=k by omega]at this;exact this)
      intro i j hij hj;rw[hk,hk];exact hs3 i j hij hj
     have hT:=hN4.turn (U:=U) (lo:=lo) (n:=m) (by rw[mirror_size];omega);refine wpS_bind (Qo (U:=U) (lo:=lo) (fun x n' g1 g2=>?_) (by omega) hm2 hT fun m' hm1' hm2' hsm _=>wpS_pure (h m' _ hB4 (by omega) hm2' hsm));dsimp only;refine wpS_bind (F8 C h0 hB4.S (by omega) (by omega) ?_);dsimp only;cases U.blt (KK U _ (lo+n')) (KK U _ (lo+n' - 1))
     .exact wpS_pure ⟨rfl,rfl⟩
     .exact wpS_pure ⟨rfl,rfl⟩
    .rw[AU hq0];refine wpS_bind (wpS_reverse ?_);have hB4:=hB3.mirror (i:=lo) (j:=lo+m) (by omega) (by omega) hsz;have hT:=hs3.turn (U:=U) (lo:=lo) (n:=m) (by omega);refine wpS_bind (Qo (U:=U) (lo:=lo) (fun x n' g1 g2=>?_) (by omega) hm2 hT fun m' hm1' hm2' hsm _=>wpS_pure (h m' _ hB4 (by omega) hm2' hsm));dsimp only;refine wpS_bind (F8 C h0 hB4.S (by omega) (by omega) ?_);dsimp only;cases U.blt (KK U _ (lo+n')) (KK U _ (lo+n' - 1))
     .exact wpS_pure ⟨rfl,rfl⟩
     .exact wpS_pure ⟨rfl,rfl⟩
 .rw[AU hgt];have hn1':n=1:=by omega
  have hB2:=L0;have hN:NI U (arrOf st) lo (n+1):=by
   refine NI.step (by omega) (fun _=>rfl) (fun i j hij hj=>?_) (KeyOrd.kle_of_klt hlt);have:i=j:=by omega
   subst this;exact KeyOrd.kle_refl _
  refine wpS_bind (wpS_lift (CM ⟨rfl,?_⟩));refine wpS_bind (Qb (U:=U) (kd:=kd) (a₀:=a₀) (st0:=st) (lo:=lo) hsz (fun x n' q st' g1 g2 hB'=>?_) (by omega) (by omega) hB2 hN fun m q st' hB3 hm1 hm2 hs3 hq he=>?_)
  .dsimp only;refine wpS_bind (F8 C h0 hB'.S (by omega) (by omega) ?_);dsimp only;cases U.blt (KK U (arrOf st') (lo+n')) (KK U (arrOf st') (lo+n' - 1))
   .simp only[BN,DG];refine wpS_bind (F8 C h0 hB'.S (by omega) (by omega) ?_);dsimp only;cases U.blt (KK U (arrOf st') (lo+n' - 1)) (KK U (arrOf st') (lo+n'))
    .exact wpS_pure ⟨rfl,rfl⟩
    .exact wpS_pure ⟨rfl,rfl⟩
   .simp only[EX];by_cases hq:q>0
    .rw[BB hq,BB hq];exact wpS_bind (wpS_reverse (wpS_pure ⟨rfl,rfl⟩))
    .rw[AU hq,AU hq];exact wpS_pure ⟨rfl,rfl⟩
  .dsimp only;have hz3:=hB3.S.size;by_cases hq0:q>0
   .rw[BB hq0];refine wpS_bind (wpS_reverse (wpS_bind (wpS_reverse ?_)));have hB4':=hB3.mirror (i:=lo+m-(q+1)) (j:=lo+m) (by omega) (by omega) hsz;have hB4:=hB4'.mirror (i:=lo) (j:=lo+m) (by omega) (by omega) hsz;have hz4:=hB4'.S.size;have hN4:NI U (mirror (arrOf st') (lo+m-(q+1)) (lo+m) ((lo+m-(lo+m-(q+1))) / 2)) lo m:=by
     have hk:=KK_mirror_equal (κ:=U) (xs:=arrOf st') (i:=lo+m-(q+1)) (j:=lo+m) (by omega) (fun k g1 g2=>by
      have:=he (k-lo) (by omega) (by omega);rw[show lo +(k-lo)=k by omega]at this;exact this)
     intro i j hij hj;rw[hk,hk];exact hs3 i j hij hj
    have hT:=hN4.turn (U:=U) (lo:=lo) (n:=m) (by rw[mirror_size];omega);refine wpS_bind (Qo (U:=U) (lo:=lo) (fun x n' g1 g2=>?_) (by omega) hm2 hT fun m' hm1' hm2' hsm _=>wpS_pure (h m' _ hB4 (by omega) hm2' hsm));dsimp only;refine wpS_bind (F8 C h0 hB4.S (by omega) (by omega) ?_);dsimp only;cases U.blt (KK U _ (lo+n')) (KK U _ (lo+n' - 1))
    .exact wpS_pure ⟨rfl,rfl⟩
    .exact wpS_pure ⟨rfl,rfl⟩
   .rw[AU hq0];refine wpS_bind (wpS_reverse ?_);have hB4:=hB3.mirror (i:=lo) (j:=lo+m) (by omega) (by omega) hsz;have hT:=hs3.turn (U:=U) (lo:=lo) (n:=m) (by omega);refine wpS_bind (Qo (U:=U) (lo:=lo) (fun x n' g1 g2=>?_) (by omega) hm2 hT fun m' hm1' hm2' hsm _=>wpS_pure (h m' _ hB4 (by omega) hm2' hsm));dsimp only;refine wpS_bind (F8 C h0 hB4.S (by omega) (by omega) ?_);dsimp only;cases U.blt (KK U _ (lo+n')) (KK U _ (lo+n' - 1))
    .exact wpS_pure ⟨rfl,rfl⟩
    .exact wpS_pure ⟨rfl,rfl⟩
theorem Lo.bubble{st0 st:SortSt}{lo n src d:Nat}(h:Lo U kd a₀ st0 lo n st)(h1:lo+d<=src)(h2:src<lo+n)(hn:lo+n<=a₀.size):Lo U kd a₀ st0 lo n (setArr st (bubble (arrOf st) src d)):=by
 refine⟨⟨(Array.perm_iff_toList_perm.mp (bubble_perm _ _ _)).trans h.S.perm,h.S.kind,h.S.failed⟩,h.pend,fun t ht=>?_⟩;show(PyProof.Rows.bubble (arrOf st) src d)[t]?=_;have:=h.S.size;rw[getElem?_bubble (by omega) d (by omega),AU (by omega),AU (by omega)];exact h.out t ht
theorem i7(C:Cmp prog w A s U kd)(h0:KeysOf U a₀){st0 st:SortSt}{lo nrem n ok:Nat}{Q:Bool->SortSt->Prop}(hB:Lo U kd a₀ st0 lo nrem st)(hsz:lo+nrem<=a₀.size)(hn:n<=nrem)(hok:ok<=n)(hs:SI U (arrOf st) lo ok)
  (h:∀st',Lo U kd a₀ st0 lo nrem st'->SI U (arrOf st') lo n->Q true st'):wpS (model prog w) A E s (binarySort' lo n ok) Q st:=by
 rw[binarySort'_eq];refine wpS_bind (wpS_mono (wpS_forRange (I:=fun k c st'=>c =(none,())/\Lo U kd a₀ st0 lo nrem st'/\SI U (arrOf st') lo (min k n))
  (Q:=fun c st'=>c =(none,())/\Lo U kd a₀ st0 lo nrem st'/\SI U (arrOf st') lo n) ?step ?fin ?init) ?post)
 case post =>
  rintro c st' ⟨rfl,hB',hs'⟩;exact wpS_pure (h st' hB' hs')
 case init =>
  refine⟨rfl,hB,fun i j hij hj=>?_⟩;by_cases h1:ok=0
  .have:i=j:=by omega
   subst this;exact KeyOrd.kle_refl _
  .exact hs i j hij (by omega)
 case fin =>
  rintro c st' ⟨hc,hB',hs'⟩;refine⟨hc,hB',?_⟩
  rwa [show min (max (max ok 1) n) n=n by omega]at hs'
 case step =>
  rintro k c st' hak hkn ⟨rfl,hB',hs'⟩;rw[show min k n=k by omega]at hs';dsimp only;refine wpS_bind (wpS_mono (wpS_forRange (I:=fun x c st''=>st''=st'/\∃l r,c =(none,l,r)/\l<=r/\r<=k/\r-l<=k-x /\
    (∀i,i<l->U.kle (KK U (arrOf st') (lo+i)) (KK U (arrOf st') (lo+k)))/\(∀i,r<=i->i<k->U.klt (KK U (arrOf st') (lo+k)) (KK U (arrOf st') (lo+i))))
   (Q:=fun c st''=>st''=st'/\∃l r,c =(none,l,r)/\l<=k /\
    (∀i,i<l->U.kle (KK U (arrOf st') (lo+i)) (KK U (arrOf st') (lo+k)))/\(∀i,l<=i->i<k->U.klt (KK U (arrOf st') (lo+k)) (KK U (arrOf st') (lo+i)))) ?istep ?ifin ?iinit) ?ipost)
  case iinit=>exact⟨rfl,0,k,rfl,by omega,by omega,by omega,fun i hi=>by omega,fun i h1 h2=>by omega⟩
  case ifin =>
   rintro c st'' ⟨rfl,l,r,rfl,hlr,hrk,hm,hlo,hhi⟩;have:l=r:=by omega
   subst this;exact⟨rfl,l,l,rfl,hrk,hlo,hhi⟩
  case istep =>
   rintro x c st'' _ hxk ⟨rfl,l,r,rfl,hlr,hrk,hm,hlo,hhi⟩;dsimp only;by_cases hge:l ≥ r
   .rw[BB hge];have:l=r:=by omega
    subst this;exact wpS_pure ⟨rfl,l,l,rfl,hrk,hlo,hhi⟩
   .rw[AU hge];refine wpS_bind (F8 C h0 hB'.S (by omega) (by omega) ?_);dsimp only;cases hless:U.blt (KK U (arrOf st'') (lo+k)) (KK U (arrOf st'') (lo +(l+r) / 2))
    case true =>
     simp only[EX];refine wpS_pure ⟨rfl,l,(l+r) / 2,rfl,by omega,by omega,by omega,hlo,fun i h1 h2=>?_⟩;exact KeyOrd.klt_of_klt_of_kle hless (hs' _ _ h1 h2)
    case false =>
     simp only[BN,DG];refine wpS_pure ⟨rfl,(l+r) / 2+1,r,rfl,by omega,by omega,by omega,fun i h1=>?_,hhi⟩;exact KeyOrd.kle_trans (hs' i ((l+r) / 2) (by omega) (by omega)) (show U.kle _ _ from hless)
  case ipost =>
   rintro c st'' ⟨rfl,l,r,rfl,hlk,hlo,hhi⟩;have hz:=hB'.S.size;show wpS _ _ _ _ (do moveDown' (lo+k) (lo+l);pure (ForInStep.yield (none,()))) _ _;rw[moveDown'_eq];refine wpS_bind (wpS_modify (wpS_pure ⟨rfl,hB'.bubble (by omega) (by omega) hsz,?_⟩));rw[show min (k+1) n=k+1 by omega];intro i j hij hj;show U.kle (KK U (bubble (arrOf st'') (lo+k) (lo+k-(lo+l))) (lo+i)) (KK U (bubble (arrOf st'') (lo+k) (lo+k-(lo+l))) (lo+j));rw[KK_bubble (by omega) (by omega),KK_bubble (by omega) (by omega),show lo+k-(lo+k-(lo+l))=lo+l by omega];have shift:∀z,1<=z->lo+z-1=lo +(z-1):=fun z _=>by omega
   repeat' split
   all_goals first
    | (exfalso;omega)
    | exact KeyOrd.kle_refl _
    | exact hlo _ (by omega)
    | exact KeyOrd.kle_of_klt (hhi _ (by omega) (by omega))
    | exact hs' _ _ (by omega) (by omega)
    | (rw[shift j (by omega)];exact KeyOrd.kle_of_klt (hhi _ (by omega) (by omega)))
    | (rw[shift i (by omega)];exact hlo _ (by omega))
    | (rw[shift j (by omega)];exact hs' _ _ (by omega) (by omega))
    | (rw[shift i (by omega),shift j (by omega)];exact hs' _ _ (by omega) (by omega))
    | (rw[shift i (by omega)];exact hs' _ _ (by omega) (by omega))
end
abbrev Run:=Nat×Nat×Nat
def Cov:List Run->Nat->Nat->Prop
 | [],a,b=>a=b
 | x::r,a,b=>x.1=a/\1<=x.2.1/\Cov r (a+x.2.1) b
theorem Cov.app:∀{l1 l2:List Run} {a b:Nat},Cov (l1++l2) a b↔∃c,Cov l1 a c/\Cov l2 c b
 | [],l2,a,b=>⟨fun h=>⟨a,rfl,h⟩,fun⟨c,h1,h2⟩=>by have:a=c:=h1;subst this;exact h2⟩
 | x::r,l2,a,b=>by
  constructor
  .rintro⟨h1,h2,h3⟩;obtain⟨c,h4,h5⟩:=Cov.app.mp h3;exact⟨c,⟨h1,h2,h4⟩,h5⟩
  .rintro⟨c,⟨h1,h2,h4⟩,h5⟩;exact⟨h1,h2,Cov.app.mpr ⟨c,h4,h5⟩⟩
theorem Cov.le:∀{l:List Run} {a b:Nat},Cov l a b->a+l.length<=b
 | [],a,b,h=>by have:a=b:=h;subst this;simp
 | x::r,a,b,⟨h1,h2,h3⟩=>by have:=Cov.le h3;rw[BO];omega
theorem Cov.mem:∀{l:List Run} {a b:Nat} {x:Run},Cov l a b->x∈l->a<=x.1/\x.1+x.2.1<=b
 | [],_,_,_,_,hx=>absurd hx (by simp)
 | y::r,a,b,x,⟨h1,h2,h3⟩,hx=>by
  have hl:=Cov.le h3;rcases AN.mp hx with e | hx
  .subst e;omega
  .have:=Cov.mem h3 hx;omega
theorem Uf{l:List Run}{i:Nat}{x y:Run}(hx:l[i]?=some x)(hy:l[i+1]?=some y):l=l.take i++x::y::l.drop (i+2):=by
 obtain⟨h1,rfl⟩:=AK.mp hx;obtain⟨h2,rfl⟩:=AK.mp hy
 conv=>lhs;rw[<-BK i l]
 rw[DD h1,DD h2]
theorem Td{l:List Run}{i:Nat}{x y:Run}(z:Run)(hx:l[i]?=some x)(hy:l[i+1]?=some y):(l.set i z).eraseIdx (i+1)=l.take i++z::l.drop (i+2):=by
 obtain⟨h1,_⟩:=AK.mp hx;obtain⟨h2,_⟩:=AK.mp hy;have e:=Uf hx hy;have hl:(l.take i).length=i:=by rw[AG];omega
 generalize l.take i=p at *;generalize l.drop (i+2)=q at *;subst e;rw[List.set_append_right _ _ (by omega),hl,Nat.sub_self,List.eraseIdx_append_of_length_le (by omega),hl,show i+1-i=1 by omega];rfl
section
variable{prog:Program}{w:World}{A:Around}{E:Value->Shared->Prop}{s:Shared}{U:KeyKind}{kd:SortKind}{a₀:Array Keyed}
structure RI(U:KeyKind)(kd:SortKind)(a₀:Array Keyed)(lo:Nat)(st:SortSt):Prop where
 S:St U kd a₀ st
 cov:Cov (pendingOf st).toList 0 lo
 sor:∀x∈(pendingOf st).toList,Sor U (seg (arrOf st).toList x.1 x.2.1)
theorem Cu(C:Cmp prog w A s U kd)(h0:KeysOf U a₀){st:SortSt}{lo i:Nat}{Q:Bool->SortSt->Prop}(R:RI U kd a₀ lo st)(hlo:lo<=a₀.size)(hi:i+1 <(pendingOf st).size)
  (h:∀st',RI U kd a₀ lo st'->(pendingOf st').size+1 =(pendingOf st).size->Part U (arrOf st).toList (arrOf st').toList 0 lo->Q true st'):wpS (model prog w) A E s (mergeAt' i) Q st:=by
 obtain⟨⟨sa,na,pw⟩,hx⟩:∃x,(pendingOf st)[i]?=some x:=⟨_,getElem?_pos _ i (by omega)⟩;obtain⟨⟨sb,nb,pw2⟩,hy⟩:∃x,(pendingOf st)[i+1]?=some x:=⟨_,getElem?_pos _ (i+1) hi⟩;have hx':(pendingOf st).toList[i]?=some (sa,na,pw):=by rw[BL];exact hx
 have hy':(pendingOf st).toList[i+1]?=some (sb,nb,pw2):=by rw[BL];exact hy
 have e:=Uf hx' hy';have c:=R.cov;rw[e]at c;obtain⟨c0,c1,c2⟩:=Cov.app.mp c;obtain⟨d1,d2,d3,d4,d5⟩:=c2;dsimp only at d1 d2 d3 d4 d5;have hl5:=Cov.le d5;refine De C h0 R.S hx hy (by omega) (by omega) d2 d4 (R.sor _ (AL hx')) (R.sor _ (AL hy')) fun st' S' P' s' p'=>?_;have ep:(pendingOf st').toList =(pendingOf st).toList.take i ++(sa,na+nb,pw) ::(pendingOf st).toList.drop (i+2):=by
  rw[p',<-Td (sa,na+nb,pw) hx' hy'];simp
 refine h st' ⟨S',?_,fun x hxm=>?_⟩ ?_ ?_
 .rw[ep];exact Cov.app.mpr ⟨c0,c1,d1,(by show 1<=na+nb;omega),(by show Cov _ (c0 +(na+nb)) lo;rw[<-Nat.add_assoc];exact d5)⟩
 .rw[ep]at hxm;have old:∀y∈(pendingOf st).toList,(y.1+y.2.1<=sa\/sa +(na+nb)<=y.1)->Sor U (seg (arrOf st').toList y.1 y.2.1):=fun y hy ho=>by
   have:=R.sor y hy;rcases ho with ho | ho
   .rw[P'.seg_front ho];exact this
   .rw[P'.seg_back ho];exact this
  rcases AV.mp hxm with hm | hm
  .have:=Cov.mem c1 hm;exact old x (BH hm) (.inl (by omega))
  .rcases AN.mp hm with hm | hm
   .subst hm;exact s'
   .have:=Cov.mem d5 hm;exact old x (CV hm) (.inr (by omega))
 .have:=congrArg List.length ep;rw[AW,BF,BO,AG,BR,AW]at this;omega
 .have hb:∀z:List Keyed,z.drop (0+lo) =(z.drop (sa +(na+nb))).drop (lo-(sa +(na+nb))):=fun z=>by
   rw[DN];congr 1;omega
  exact⟨P'.perm,rfl,by rw[hb,hb,P'.back]⟩
theorem a8{l:Array Run}{pw:Nat}:(l.modify (l.size-1) fun x=>(x.1,x.2.1,pw)).toList.map (fun x:Run=>(x.1,x.2.1))=l.toList.map fun x:Run=>(x.1,x.2.1):=by
 refine FF fun t=>?_;rw[AH,AH,BL,BL,Array.getElem?_modify];split
 .cases l[t]?<;>rfl
 .rfl
theorem Cov.congr:∀{l l':List Run} {a b:Nat},l'.map (fun x:Run=>(x.1,x.2.1))=l.map (fun x:Run=>(x.1,x.2.1))->Cov l a b->Cov l' a b
 | [],[],_,_,_,h=>h
 | [],_::_,_,_,e,_=>by simp at e
 | _::_,[],_,_,e,_=>by simp at e
 | x::r,y::r',a,b,e,⟨h1,h2,h3⟩=>by
  rw[BQ,BQ]at e;obtain⟨e1,e2⟩:=List.cons.inj e;obtain⟨e3,e4⟩:=Prod.mk.inj e1;exact⟨e3.trans h1,by rw[e4];exact h2,by rw[e4];exact Cov.congr e2 h3⟩
theorem RI.congr{lo:Nat}{st:SortSt}(R:RI U kd a₀ lo st){p:Array Run}(e:p.toList.map (fun x:Run=>(x.1,x.2.1)) =(pendingOf st).toList.map fun x:Run=>(x.1,x.2.1)):RI U kd a₀ lo (setPending st p):=by
 refine⟨⟨R.S.perm,R.S.kind,R.S.failed⟩,Cov.congr e R.cov,fun x hx=>?_⟩;have:(x.1,x.2.1)∈(pendingOf st).toList.map fun x:Run=>(x.1,x.2.1):=by
  rw[<-e];exact BA.mpr ⟨x,hx,rfl⟩
 obtain⟨y,hy,ey⟩:=BA.mp this;obtain⟨e1,e2⟩:=Prod.mk.inj ey;have:=R.sor y hy;rw[e1,e2]at this;exact this
theorem r8(C:Cmp prog w A s U kd)(h0:KeysOf U a₀){st:SortSt}{Q:Unit->SortSt->Prop}(hS:St U kd a₀ st)(hp:pendingOf st = #[])
  (h:∀st',St U kd a₀ st'->Sor U (arrOf st').toList->Q () st'):wpS (model prog w) A E s sortRuns' Q st:=by
 rw[sortRuns'_eq];refine wpS_bind (wpS_get ?_);dsimp only;have hz:=hS.size;rw[hz];generalize minRun' a₀.size a₀.size 0=mr;refine wpS_bind (wpS_mono (wpS_forRange (I:=fun x c st'=>∃lo,c =(none,lo)/\RI U kd a₀ lo st'/\lo<=a₀.size/\min x a₀.size<=lo)
  (Q:=fun c st'=>∃lo,c =(none,lo)/\RI U kd a₀ lo st'/\lo=a₀.size) ?st ?en ⟨0,rfl,⟨hS,by rw[hp];rfl,fun x hx=>by rw[hp]at hx;exact absurd hx (by simp)⟩,CW _,by omega⟩) ?po)
 case en =>
  rintro c st' ⟨lo,rfl,R,h1,h2⟩;exact⟨lo,rfl,R,by omega⟩
 case po =>
  rintro c st' ⟨lo,rfl,R,rfl⟩;dsimp only;refine wpS_bind (wpS_mono (wpS_forRange (I:=fun x c st'=>c =(none,())/\RI U kd a₀ a₀.size st'/\(pendingOf st').size+x<=a₀.size+1)
   (Q:=fun c st'=>c =(none,())/\RI U kd a₀ a₀.size st'/\(pendingOf st').size<=1) ?st3 ?en3 ⟨rfl,R,?in3⟩) ?po3)
  case in3 =>
   have:=Cov.le R.cov;rw[AW]at this;omega
  case en3 =>
   rintro c st2 ⟨rfl,R2,g⟩;exact⟨rfl,R2,by omega⟩
  case po3 =>
   rintro c st2 ⟨rfl,R2,g⟩;refine wpS_pure (h st2 R2.S ?_);have c:=R2.cov;have so:=R2.sor;have hz2:=R2.S.size;have hl:(pendingOf st2).toList.length<=1:=by rw[AW];exact g
   generalize (pendingOf st2).toList=l at c so hl
   match l,c,so,hl with
   | [],c,_,_ =>
    have c':0=a₀.size:=c;have:(arrOf st2).toList = []:=List.eq_nil_of_length_eq_zero (by rw[AW];omega);rw[this];exact List.Pairwise.nil
   | [x],⟨c1,c2,c3⟩,so,_ =>
    have c3':0+x.2.1=a₀.size:=c3;have:=so x (AE.mpr rfl);unfold seg at this;rw[c1,DH,CK (by rw[AW];omega)]at this;exact this
   | _::_::_,_,_,hl=>exact absurd hl (by simp)
  case st3 =>
   rintro x c st2 _ hx ⟨rfl,R2,g⟩
   try dsimp only
   refine wpS_bind (wpS_get ?_);by_cases hle:(pendingOf st2).size<=1
   .rw[BB hle];exact wpS_pure ⟨rfl,R2,hle⟩
   rw[AU hle];refine wpS_bind (Cu C h0 R2 (Nat.le_refl _) ?_ fun st3 R3 e3 _=>?_)
   .have hi2:∀{c:Prop} [Decidable c] {n:Nat},(if c then n-1 else n)+1<=n+1:=by intro c _ n;split<;>omega
    exact Nat.lt_of_le_of_lt hi2 (by omega)
   .simp only[Bool.not_true,BN,DG];exact wpS_pure ⟨rfl,R3,by omega⟩
 case st =>
  rintro x c st' _ hx ⟨lo,rfl,R,h1,h2⟩;dsimp only;by_cases hge:lo ≥ a₀.size
  .rw[BB hge];exact wpS_pure ⟨lo,rfl,R,by omega⟩
  rw[AU hge];refine wpS_bind (Ch C h0 R.S (by omega) (by omega) fun m st2 L2 hm1 hm2 hs2=>?_);dsimp only;by_cases hmr:m<mr
  .rw[BB hmr];refine wpS_bind (wpS_lift (CM ⟨rfl,?_⟩));refine wpS_bind (i7 C h0 L2 (by omega) (show min (a₀.size-lo) mr<=a₀.size-lo by omega) (by omega) hs2 fun st5 L5 s5=>?_);simp only[Bool.not_true,BN,DG];have hN:1<=min (a₀.size-lo) mr/\min (a₀.size-lo) mr<=a₀.size-lo:=by omega
   generalize min (a₀.size-lo) mr=N at hN s5⊢;have R5:RI U kd a₀ lo st5:=by
    refine⟨L5.S,by rw[L5.pend];exact R.cov,fun y hy=>?_⟩;rw[L5.pend]at hy;have hc:=Cov.mem R.cov hy;rw[(L5.part R.S).seg_front (by omega)];exact R.sor y hy
   refine wpS_bind (wpS_get ?_);have push:∀(st6:SortSt),RI U kd a₀ lo st6->Sor U (seg (arrOf st6).toList lo N)->RI U kd a₀ (lo+N) (setPending st6 ((pendingOf st6).push (lo,N,0))):=fun st6 R6 s6=>by
    refine⟨⟨R6.S.perm,R6.S.kind,R6.S.failed⟩,?_,fun y hy=>?_⟩
    .show Cov ((pendingOf st6).push (lo,N,0)).toList 0 (lo+N);rw[CO];exact Cov.app.mpr ⟨lo,R6.cov,rfl,(by show 1<=N;omega),rfl⟩
    .have hy':y∈((pendingOf st6).push (lo,N,0)).toList:=hy;rw[CO]at hy';rcases AV.mp hy' with hy' | hy'
     .exact R6.sor y hy'
     .rw[AE.mp hy'];exact s6
   cases hbk:(pendingOf st5).back? with
   | none =>
    dsimp only;refine wpS_bind (wpS_modify (wpS_pure ⟨_,rfl,push _ R5 s5.sor,by omega,by omega⟩))
   | some bk =>
    obtain⟨s1,n1,pb⟩:=bk;dsimp only;generalize power' a₀.size (2*s1+n1) (2*s1+n1+n1+N) a₀.size=pw;refine wpS_bind (wpS_mono (wpS_forRange (I:=fun x c st6=>c =(none,())/\RI U kd a₀ lo st6/\Part U (arrOf st5).toList (arrOf st6).toList 0 lo)
     (Q:=fun c st6=>c =(none,())/\RI U kd a₀ lo st6/\Part U (arrOf st5).toList (arrOf st6).toList 0 lo) ?stc1 (fun _ _ z=>z) ⟨rfl,R5,Part.refl _ _ _⟩) ?poc1)
    case stc1 =>
     rintro x' c st6 _ _ ⟨rfl,R6,P6⟩
     try dsimp only
     refine wpS_bind (wpS_get ?_);by_cases hp1:(pendingOf st6).size>1
     .rw[BB hp1];obtain⟨⟨u1,u2,ol⟩,hu⟩:∃y,(pendingOf st6)[(pendingOf st6).size-2]?=some y:=⟨_,getElem?_pos _ _ (by omega)⟩;rw[hu];dsimp only;by_cases hol:ol<=pw
      .rw[BB hol];exact wpS_pure ⟨rfl,R6,P6⟩
      rw[AU hol];refine wpS_bind (Cu C h0 R6 h1 (by omega) fun st7 R7 _ P7=>?_);simp only[Bool.not_true,BN,DG];exact wpS_pure ⟨rfl,R7,⟨P7.perm.trans P6.perm,rfl,P7.back.trans P6.back⟩⟩
     .rw[AU hp1];exact wpS_pure ⟨rfl,R6,P6⟩
    case poc1 =>
     rintro c st6 ⟨rfl,R6,P6⟩;dsimp only;refine wpS_bind (wpS_modify (wpS_bind (wpS_modify (wpS_pure ⟨_,rfl,push _ (R6.congr a8) ?_,by omega,by omega⟩))));show Sor U (seg (arrOf st6).toList lo N);rw[P6.seg_back (by omega)];exact s5.sor
  .rw[AU hmr];have R5:RI U kd a₀ lo st2:=by
    refine⟨L2.S,by rw[L2.pend];exact R.cov,fun y hy=>?_⟩;rw[L2.pend]at hy;have hc:=Cov.mem R.cov hy;rw[(L2.part R.S).seg_front (by omega)];exact R.sor y hy
   refine wpS_bind (wpS_get ?_);have push:∀(st6:SortSt),RI U kd a₀ lo st6->Sor U (seg (arrOf st6).toList lo m)->RI U kd a₀ (lo+m) (setPending st6 ((pendingOf st6).push (lo,m,0))):=fun st6 R6 s6=>by
    refine⟨⟨R6.S.perm,R6.S.kind,R6.S.failed⟩,?_,fun y hy=>?_⟩
    .show Cov ((pendingOf st6).push (lo,m,0)).toList 0 (lo+m);rw[CO];exact Cov.app.mpr ⟨lo,R6.cov,rfl,(by show 1<=m;omega),rfl⟩
    .have hy':y∈((pendingOf st6).push (lo,m,0)).toList:=hy;rw[CO]at hy';rcases AV.mp hy' with hy' | hy'
     .exact R6.sor y hy'
     .rw[AE.mp hy'];exact s6
   cases hbk:(pendingOf st2).back? with
   | none =>
    dsimp only;refine wpS_bind (wpS_modify (wpS_pure ⟨_,rfl,push _ R5 hs2.sor,by omega,by omega⟩))
   | some bk =>
    obtain⟨s1,n1,pb⟩:=bk;dsimp only;generalize power' a₀.size (2*s1+n1) (2*s1+n1+n1+m) a₀.size=pw;refine wpS_bind (wpS_mono (wpS_forRange (I:=fun x c st6=>c =(none,())/\RI U kd a₀ lo st6/\Part U (arrOf st2).toList (arrOf st6).toList 0 lo)
     (Q:=fun c st6=>c =(none,())/\RI U kd a₀ lo st6/\Part U (arrOf st2).toList (arrOf st6).toList 0 lo) ?stc2 (fun _ _ z=>z) ⟨rfl,R5,Part.refl _ _ _⟩) ?poc2)
    case stc2 =>
     rintro x' c st6 _ _ ⟨rfl,R6,P6⟩
     try dsimp only
     refine wpS_bind (wpS_get ?_);by_cases hp1:(pendingOf st6).size>1
     .rw[BB hp1];obtain⟨⟨u1,u2,ol⟩,hu⟩:∃y,(pendingOf st6)[(pendingOf st6).size-2]?=some y:=⟨_,getElem?_pos _ _ (by omega)⟩;rw[hu];dsimp only;by_cases hol:ol<=pw
      .rw[BB hol];exact wpS_pure ⟨rfl,R6,P6⟩
      rw[AU hol];refine wpS_bind (Cu C h0 R6 h1 (by omega) fun st7 R7 _ P7=>?_);simp only[Bool.not_true,BN,DG];exact wpS_pure ⟨rfl,R7,⟨P7.perm.trans P6.perm,rfl,P7.back.trans P6.back⟩⟩
     .rw[AU hp1];exact wpS_pure ⟨rfl,R6,P6⟩
    case poc2 =>
     rintro c st6 ⟨rfl,R6,P6⟩;dsimp only;refine wpS_bind (wpS_modify (wpS_bind (wpS_modify (wpS_pure ⟨_,rfl,push _ (R6.congr a8) ?_,by omega,by omega⟩))));show Sor U (seg (arrOf st6).toList lo m);rw[P6.seg_back (by omega)];exact hs2.sor
end
def kd1(U:KeyKind)(v:Value):U.α:=(U.keyOf v).getD U.dflt
section
variable{prog:Program}{w:World}{A:Around}{E:Value->Shared->Prop}{s:Shared}{U:KeyKind}{kd:SortKind}
def Ext(a:Addr)(s s':Shared):Prop:=∀b o,b≠a->s.heap.get? b=some o->s'.heap.get? b=some o
structure Keys(prog:Program)(w:World)(a:Addr)(s:Shared)(U:KeyKind)(kd:SortKind)(vs:List Value):Prop where
 cmp:∀(A:Around) (s':Shared),Ext a s s'->Cmp prog w A s' U kd
 key:∀v∈vs,∃k,U.keyOf v=some k
 kind:2<=vs.length->∀(A:Around) (E:Value->Shared->Prop) (s':Shared) (Q:SortKind->Shared->Prop),Ext a s s'->Q kd s'->wpAny (model prog w) A (keyKind' vs.toArray) Q E s'
def Out(U:KeyKind)(vs:List Value)(out:Array Value):Prop:=out.toList.Perm vs/\out.toList.Pairwise fun u v=>U.kle (kd1 U u) (kd1 U v)
theorem Mo{vs:List Value}{xs:Array Keyed}(hp:xs.toList.Perm (pairsOf vs).toList)(hs:Sor U xs.toList):Out U vs (xs.map (·.2)):=by
 rw[pairsOf_toList]at hp;have hm:∀p∈xs.toList,p.1=p.2:=fun p h=>(mem_zip_self (hp.mem_iff.mp h)).1;have e:(xs.map (·.2)).toList=xs.toList.map (·.1):=by
  rw[Array.toList_map];exact List.map_congr_left fun p h=>(hm p h).symm
 refine⟨?_,?_⟩
 .rw[e];have:=hp.map Prod.fst
  rwa [List.map_fst_zip (Nat.le_refl _)]at this
 .rw[e,List.pairwise_map];exact hs
theorem Af{a:Addr}{vs:List Value}{n:Nat}{P:Fin->Shared->Prop}(ho:s.heap.get? a=some (seqObj "list" vs.toArray n))(hz:vs.length<=sizeLine)(K:Keys prog w a s U kd vs)
  (h:∀out:Array Value,Out U vs out->P (.done (.ret .none)) { s with heap:=sortedHeap s.heap a vs out }) :
  wpAny (model prog w) A (Builtin.«list.sort» ⟨[.ref a],[]⟩) P E s:=by
 rw[list_sort_plain];have ha:a<s.heap.objs.size:=AF ho;have hsz:vs.toArray.size=vs.length:=by simp
 refine AA (listItems_at ho rfl ?_);refine AA (listUpdate_at ho rfl ?_ (by rw[hsz];exact hz) (by simp));obtain⟨e1,ho1⟩:∃e1,(s.heap.update a (Obj.mapSeq fun _=>#[])).get? a=some (seqObj "list" #[] e1):=⟨_,get?_update_seq ho (fun _=>#[])⟩;refine AA (seqEpoch_at ho1 rfl ?_);refine AA (FG ?_ (by simpa using hz));refine AA (wpAny_newList ?_);refine BT ?_;have ho6:(((s.heap.update a (Obj.mapSeq fun _=>#[])).push (seqObj "tuple" vs.toArray 0)).push (seqObj "list" #[] 0)).get? a=some (seqObj "list" #[] e1):=by
  rw[Heap.get?_push_ne _ _ _ (by rw[size_push',Heap.size_update];exact AQ (FH ha)),Heap.get?_push_ne _ _ _ (by rw[Heap.size_update];exact AQ ha)];exact ho1
 show wpAny (model prog w) A _ P E { s with heap:=((s.heap.update a (Obj.mapSeq fun _=>#[])).push (seqObj "tuple" vs.toArray 0)).push (seqObj "list" #[] 0) };dsimp only;have hE:Ext a s { s with heap:=((s.heap.update a (Obj.mapSeq fun _=>#[])).push (seqObj "tuple" vs.toArray 0)).push (seqObj "list" #[] 0) }:=fun b o hb e =>
  AC _ (AC _ ((BJ s.heap _ (Ne.symm hb)).trans e))
 by_cases h2:vs.toArray.size<2
 .rw[BB h2,BB h2];refine AA (AD ?_);rw[StateT.run_pure];refine AA (AD ?_);dsimp only;refine AA (seqEpoch_at ho6 rfl ?_);refine AA (listUpdate_at ho6 rfl ?_ (by simp) (by rw[Array.size_map];show(pairsOf vs).size<=_;rw[pairsOf_size];omega));simp only[bne_self_eq_false,BN,DG];refine AD (h _ (Mo (U:=U) (xs:=pairsOf vs) (List.Perm.refl _) ?_));rw[pairsOf_toList];rw[hsz]at h2
  match vs,h2 with
  | [],_=>exact List.Pairwise.nil
  | [v],_=>exact List.pairwise_singleton _ _
  | _::_::_,h2=>simp at h2;omega
 .rw[AU h2,AU h2];refine AA (K.kind (by omega) A E _ _ hE ?_);refine AA (BP (r8 (K.cmp A _ hE) (a₀:=pairsOf vs) (st:=SortSt.mk' kd (vs.toArray.zip vs.toArray) #[] 7 none)
   (Q:=fun _ st'=>St U kd (pairsOf vs) st'/\Sor U (arrOf st').toList)
   (fun p hp=>?_) ⟨List.Perm.refl _,rfl,rfl⟩ rfl fun st' a1 a2=>⟨a1,a2⟩) ?_ fun _ _ e=>e)
  .rw[pairsOf_toList]at hp;exact K.key _ (mem_zip_self hp).2
  rintro⟨⟨⟩,st'⟩ s' ⟨rfl,hp,hs⟩;dsimp only;refine AA (seqEpoch_at ho6 rfl ?_);refine AA (listUpdate_at ho6 rfl ?_ (by simp) (by rw[Array.size_map];show(arrOf st').size<=_;rw[hp.size,pairsOf_size];omega));rw[show failedOf st'=none from hp.failed];simp only[bne_self_eq_false,BN,DG];exact AD (h _ (Mo hp.perm hs))
theorem sorted_gen{x:Value}{Q:Value->Shared->Prop}
  (hc:wpAny (model prog w) A.in1 (collect x) (fun vs s1=>s1.os=s.os/\vs.length<=sizeLine/\(∃(U:KeyKind) (kd:SortKind),(∀s2:Shared,Ext s1.heap.objs.size s1 s2->Keys prog w s1.heap.objs.size s2 U kd vs) /\
   ∀(out:Array Value) (h':Heap) (e:Nat),Out U vs out->(∀b o,s1.heap.get? b=some o->h'.get? b=some o)->h'.get? s1.heap.objs.size=some (seqObj "list" out e)->Q (.ref s1.heap.objs.size) { s1 with heap:=h' })) E s) :
  wpAny (model prog w) A (call (.builtin "sorted") [x]) Q E s:=by
 refine Calls.call_function_entry kind_sorted plain_sorted entry_sorted (args_sorted1 _) ?_;unfold Builtin.«sorted»;refine AA (m:=checkCount "sorted" 1 1 _) (AD ?_);refine AA (BP hc (fun vs s1 ⟨eos,hz,U,kd,K,q⟩=>?_) fun _ _ z=>z);refine AA (wpAny_newList ?_);have hoL:(s1.heap.push (seqObj "list" vs.toArray 0)).get? s1.heap.objs.size=some (seqObj "list" vs.toArray 0):=AZ _ rfl;show wpAny _ _ _ _ _ { s1 with heap:=s1.heap.push (seqObj "list" vs.toArray 0) };have hE:Ext s1.heap.objs.size s1 { s1 with heap:=s1.heap.push (seqObj "list" vs.toArray 0) }:=fun b o _ e=>AC _ e;refine AA (BT (ER slot_list_sort ⟨_,hoL,rfl⟩ entry_list_sort (Af (s:={ s1 with heap:=s1.heap.push (seqObj "list" vs.toArray 0) }) hoL hz (K _ hE) fun out ho=>⟨_,rfl,?_⟩) (args_list_sort _)));obtain⟨e,he⟩:=sortedHeap_at (h:=s1.heap.push (seqObj "list" vs.toArray 0)) (out:=out) hoL;refine AD ⟨_,rfl,q out _ e ho (fun b o eb=>?_) he⟩;have hlt:=AF eb;rw[sortedHeap_old (AQ hlt) (by rw[size_push'];exact FH hlt)];exact AC _ eb
theorem keys_strs{a:Addr}{vs:List Value}{ss:List Str}(hS:StrsAre vs ss):Keys prog w a s strKind oneType' vs:=by
 refine⟨fun A s' _=>⟨fun x y k l Q E hx hy q=>?_⟩,fun v hv=>?_,fun h2 A E s' Q _ q=>?_⟩
 .rw[keyLt'_oneType];exact strKind_oneLt prog w A E s' x y k l hx hy q
 .obtain⟨x,t,rfl⟩:=hS.all v hv;exact⟨_,rfl⟩
 .match vs,h2,hS with
  | v1::v2::r,_,hS =>
   rw[keyKind_strs hS];exact AD q
end
end TS
set_option Elab.async false
namespace L2
open PySem PySem.Spec PyProof.Rows
abbrev Key:=Sum Int Str
def Ct:Key->Value->Bool
 | .inl k,v=>Value.isInt k v
 | .inr x,v=>Value.isStrOf x v
def Uy(w:World):Key->Int
 | .inl k=>hashInt k
 | .inr x=>hashStr w x
theorem D3:∀{k:Key} {v:Value},Ct k v=true->(∃i t,k=Sum.inl i/\v=Value.int i t)\/(∃x t,k=Sum.inr x/\v=Value.str x t)
 | .inl i,v,h=>by
  obtain⟨t,e⟩:=Value.isInt_shape (k:=i) (v:=v) h;exact .inl ⟨i,t,rfl,e⟩
 | .inr x,v,h=>by
  obtain⟨t,e⟩:=Value.isStrOf_shape (x:=x) (v:=v) h;exact .inr ⟨x,t,rfl,e⟩
theorem Je(i:Int)(t:Tok):Ct (.inl i) (.int i t)=true:=by simp[Ct,Value.isInt]
theorem S3(x:Str)(t:Tok):Ct (.inr x) (.str x t)=true:=by simp[Ct,Value.isStrOf]
theorem Sq(a b:Int):decide ((Sum.inl a:Key)=Sum.inl b) =(a == b):=by
 by_cases e:a=b
 .subst e;simp
 .have h:¬(Sum.inl a:Key)=Sum.inl b:=fun q=>e (Sum.inl.inj q);rw[BD h];exact(beq_eq_false_iff_ne.mpr e).symm
theorem Re(a b:Str):decide ((Sum.inr a:Key)=Sum.inr b)=decide (a=b):=by
 by_cases e:a=b
 .subst e;simp
 .have h:¬(Sum.inr a:Key)=Sum.inr b:=fun q=>e (Sum.inr.inj q);rw[BD h,BD e]
theorem Rt(a:Int)(b:Str):decide ((Sum.inl a:Key)=Sum.inr b)=false:=BD (fun q=>nomatch q)
theorem Rg(a:Str)(b:Int):decide ((Sum.inr a:Key)=Sum.inl b)=false:=BD (fun q=>nomatch q)
def C9(prog:Program)(w:World):PySem.KeyKind prog w Key where
 is:=Ct
 hash:=Uy w
 inj:=fun v a b ha hb=>by
  rcases D3 ha with⟨i,t,rfl,rfl⟩ | ⟨x,t,rfl,rfl⟩
  .rcases D3 hb with⟨j,u,rfl,e⟩ | ⟨y,u,rfl,e⟩
   .injection e with e1 _;rw[e1]
   .exact nomatch e
  .rcases D3 hb with⟨j,u,rfl,e⟩ | ⟨y,u,rfl,e⟩
   .exact nomatch e
   .injection e with e1 _;rw[e1]
 byValue:=fun k v h=>by
  rcases D3 h with⟨i,t,rfl,rfl⟩ | ⟨x,t,rfl,rfl⟩<;>rfl
 pyHash:=fun hv h=>by
  rcases D3 hv with⟨i,t,rfl,rfl⟩ | ⟨x,t,rfl,rfl⟩
  .exact wpAny_pyHash_int h
  .exact wpAny_pyHash_str h
 eqBool:=fun hu hv h=>by
  rcases D3 hu with⟨i,t,rfl,rfl⟩ | ⟨x,t,rfl,rfl⟩
  .rcases D3 hv with⟨j,u,rfl,rfl⟩ | ⟨y,u,rfl,rfl⟩
   .rw[Sq]at h;exact wpAny_eqBool_int h
   .rw[Rt]at h;exact SeqAt.EqAt.int_str i t y u _ _ _ _ h
  .rcases D3 hv with⟨j,u,rfl,rfl⟩ | ⟨y,u,rfl,rfl⟩
   .rw[Rg]at h;exact SeqAt.EqAt.str_int x t j u _ _ _ _ h
   .rw[Re]at h;exact wpAny_eqBool_str h
 «strs»:=fun k x t v h=>by
  rcases D3 h with⟨i,u,rfl,e⟩ | ⟨y,u,rfl,e⟩
  .exact nomatch e
  .injection e with e1 _;subst e1;cases v<;>rfl
theorem Cp(prog:Program)(w:World)(i:Int)(t:Tok):(C9 prog w).is (.inl i) (.int i t)=true:=Je i t
theorem Cs(prog:Program)(w:World)(x:Str)(t:Tok):(C9 prog w).is (.inr x) (.str x t)=true:=S3 x t
inductive V where
 | non | bl (b:Bool) | int (i:Int) | str (x:Str) | byt (b:Array UInt8) | flt (b:UInt64) | ref (a:Addr) | ty (n:String)
 deriving DecidableEq
def RelV:V->Value->Prop
 | .non,u=>u=Value.none
 | .bl b,u=>u=Value.bool b
 | .int i,u=>∃t,u=Value.int i t
 | .str x,u=>∃t,u=Value.str x t
 | .byt b,u=>∃t,u=Value.bytes b t
 | .flt b,u=>∃t,u=Value.float b t
 | .ref a,u=>u=Value.ref a
 | .ty n,u=>u=Value.type n
abbrev Vals:List V->List Value->Prop:=Paired RelV
theorem Vals.length{xs:List V}{us:List Value}(r:Vals xs us):xs.length=us.length:=Paired.length r
theorem Vals.get:∀{xs:List V} {us:List Value} {i:Nat} {x:V},Vals xs us->xs[i]?=some x->∃u,us[i]?=some u/\RelV x u
 | _,_,_,_,.nil,e=>by simp at e
 | _,_,0,_,.cons r _,e=>by simp at e;subst e;exact⟨_,rfl,r⟩
 | _,_,i+1,x,.cons _ t,e=>by
  obtain⟨u,h1,h2⟩:=Vals.get (i:=i) (x:=x) t (by simpa using e);exact⟨u,by simpa using h1,h2⟩
theorem Vals.set{x:V}{u:Value}(r:RelV x u):∀{xs:List V} {us:List Value} (i:Nat),Vals xs us->Vals (xs.set i x) (us.set i u)
 | _,_,_,.nil=>.nil
 | _,_,0,.cons _ t=>.cons r t
 | _,_,i+1,.cons q t=>.cons q (Vals.set r i t)
theorem Vals.append:∀{xs ys:List V} {us ws:List Value},Vals xs us->Vals ys ws->Vals (xs++ys) (us++ws)
 | _,_,_,_,.nil,s=>s
 | _,_,_,_,.cons r t,s=>.cons r (Vals.append t s)
theorem Vals.take:∀{xs:List V} {us:List Value} (n:Nat),Vals xs us->Vals (xs.take n) (us.take n)
 | _,_,0,_=>.nil
 | _,_,_+1,.nil=>.nil
 | _,_,n+1,.cons r t=>.cons r (Vals.take n t)
theorem Vals.drop:∀{xs:List V} {us:List Value} (n:Nat),Vals xs us->Vals (xs.drop n) (us.drop n)
 | _,_,0,r=>r
 | _,_,_+1,.nil=>.nil
 | _,_,n+1,.cons _ t=>Vals.drop n t
theorem Vals.none_of:∀{xs:List V} {us:List Value} {i:Nat},Vals xs us->xs[i]?=none->us[i]?=none:=fun{xs us i} r e=>by
 have h1:=r.length;have h2:xs.length<=i:=List.getElem?_eq_none_iff.mp e;exact List.getElem?_eq_none_iff.mpr (by omega)
def RelO:Option V->Option Value->Prop
 | some v,some u=>RelV v u
 | none,none=>True
 | _,_=>False
def KV{U:Type}:List (U×V)->List (U×Value)->Prop:=Paired fun(p:U×V) (q:U×Value)=>p.1=q.1/\RelV p.2 q.2
def kV:Key->V
 | .inl i=>.int i
 | .inr x=>.str x
inductive HO where
 | lst (xs:List V)
 | tup (xs:List V)
 | dK (kvs:List (Key×V)) | dT (kvs:List (List Key×V))
 | set (S:Int->Bool) (n:Nat)
 | ins (C dx:Addr) (fs:List (Str×V))
 | own (x:Addr)
 | xd (fs:List (Str×V))
 | met (f x:Addr)
 | rng (lo hi:Int)
 | frz (o:Obj) (u:HO)
 | tbl (ps:Array Value)
 | ext (φ:Heap->Prop)
set_option genInjectivity false
abbrev Hp:=Addr->Option HO
def upd(H:Hp)(a:Addr)(o:HO):Hp:=fun b=>if b=a then some o else H b
theorem A7{H:Hp}{a:Addr}{o:HO}:upd H a o a=some o:=by unfold upd;rw[BB rfl]
theorem B4{H:Hp}{a b:Addr}{o:HO}(h:b≠a):upd H a o b=H b:=by unfold upd;rw[AU h]
theorem Pi{H:Hp}{a:Addr}{o u:HO}:upd (upd H a o) a u=upd H a u:=by
 funext b;unfold upd;split<;>rfl
theorem X3{H:Hp}{a b:Addr}{o u:HO}(h:H a=some o)(h':H b=some u)(d:o≠u):a≠b:=by
 intro e;subst e;rw[h]at h';exact d (BU h')
theorem B1{H:Hp}{a b:Addr}{o:HO}(h:H a=some o)(h':H b=none):a≠b:=by
 intro e;subst e;rw[h]at h';cases h'
section
variable(P:Program)(w:World)
def ObjOk(H:Hp)(h:Heap)(a:Addr):HO->Prop
 | .lst xs=>xs.length<=sizeLine/\∃(its:List Value) (n:Nat),Vals xs its/\h.get? a=some { cls:=.type "list",data:=.seq its.toArray n }
 | .tup xs=>xs.length<=sizeLine/\∃its:List Value,Vals xs its/\IsTup h a its.toArray
 | .dK kvs=>kvs.length<=sizeLine/\(a == sysModules)=false/\∃vs,KV kvs vs/\h.DictOf (C9 P w) a vs
 | .dT kvs=>kvs.length<=sizeLine/\(a == sysModules)=false/\∃xs:List (List Key×Addr×Value),
   Paired (fun(p:List Key×V) (q:List Key×Addr×Value)=>p.1=q.1/\H q.2.1=some (.tup (p.1.map kV))/\RelV p.2 q.2.2) kvs xs /\
   ∃o es ep,h.get? a=some o/\o.ExactDict/\o.data = .dict es ep/\es.toList=xs.map (entryOfKey (tupleKind (C9 P w)))/\(xs.map (·.1)).Nodup
 | .set S n=>h.SetOf (intKind P w) a S n
 | .ins C dx fs=>H dx=some (.own a)/\fs.length<=1000/\dx≠a/\h.get? a=some (PySem.W.instObj C dx) /\
   ∃mA,h.Ns1 dx mA/\(∀f,RelO (fs.lookup f) (mA f))/\PySem.Within mA (fs.map (·.1))
 | .own _=>∃o,h.get? a=some o
 | .xd fs=>∃mA,h.Ns1 a mA/\∀f,RelO (fs.lookup f) (mA f)
 | .rng lo hi=>∃t u v,h.get? a=some { cls:=.type "range",data:=.fields #[.int lo t,.int hi u,.int 1 v] }
 | .frz o u=>h.get? a=some o/\ObjOk H h a u
 | .tbl ps=>h.get? a=some { cls:=.none,data:=.fields ps }
 | .met f x=>h.get? a=some (PySem.W.methodObj (.ref f) (.ref x))
 | .ext φ=>φ h/\(∃o,h.get? a=some o)/\∀h1 h2:Heap,φ h1->(∀o,h1.get? a=some o->h2.get? a=some o)->φ h2
def HOk(H:Hp)(h:Heap):Prop:=∀a o,H a=some o->ObjOk P w H h a o
end
section
variable{P:Program}{w:World}{H H':Hp}{h h':Heap}{a:Addr}{o:HO}
theorem ObjOk.lt(x:ObjOk P w H h a o):a<h.objs.size:=by
 cases o with
 | lst xs=>obtain⟨_,_,_,_,e⟩:=x;exact AF e
 | tup xs=>obtain⟨_,_,_,p⟩:=x;exact p.lt
 | dK kvs=>obtain⟨_,_,_,_,o,_,_,e,_⟩:=x;exact AF e
 | dT kvs=>obtain⟨_,_,_,_,o,_,_,e,_⟩:=x;exact AF e
 | set S n=>obtain⟨o,_,_,_,e,_⟩:=x;exact AF e
 | ins C dx fs=>obtain⟨_,_,_,e,_⟩:=x;exact AF e
 | own y=>obtain⟨_,e⟩:=x;exact AF e
 | xd fs=>obtain⟨_,⟨_,_,_,e,_⟩,_⟩:=x;exact AF e
 | rng lo hi=>obtain⟨_,_,_,e⟩:=x;exact AF e
 | frz ob u=>obtain⟨e,_⟩:=x;exact AF e
 | tbl ps=>exact AF (show h.get? a=some _ from x)
 | met f y=>exact AF (show h.get? a=some _ from x)
 | ext φ=>obtain⟨_,⟨_,e⟩,_⟩:=x;exact AF e
theorem Paired.mapP{α β:Type}{F G:α->β->Prop}:∀{l₁:List α} {l₂:List β},Paired F l₁ l₂->(∀a b,F a b->G a b)->Paired G l₁ l₂
 | _,_,.nil,_=>.nil
 | _,_,.cons r t,f=>.cons (f _ _ r) (Paired.mapP t f)
theorem ObjOk.stay(x:ObjOk P w H h a o)(k:∀b u,(b=a\/H b=some (.own a))->h.get? b=some u->h'.get? b=some u)
  (ho:∀b,H b=some (.own a)->H' b=some (.own a)) (ht:∀b xs,H b=some (.tup xs)->H' b=some (.tup xs)):ObjOk P w H' h' a o:=by
 induction o with
 | lst xs=>obtain⟨z,its,n,r,e⟩:=x;exact⟨z,its,n,r,k _ _ (.inl rfl) e⟩
 | tup xs=>obtain⟨z,its,r,ob,e,c⟩:=x;exact⟨z,its,r,ob,k _ _ (.inl rfl) e,c⟩
 | dK kvs=>obtain⟨z,y,vs,r,ob,es,ep,e,c⟩:=x;exact⟨z,y,vs,r,ob,es,ep,k _ _ (.inl rfl) e,c⟩
 | dT kvs =>
  obtain⟨z,y,xs,r,ob,es,ep,e,c⟩:=x;exact⟨z,y,xs,Paired.mapP r fun p q z=>⟨z.1,ht _ _ z.2.1,z.2.2⟩,ob,es,ep,k _ _ (.inl rfl) e,c⟩
 | set S n=>obtain⟨ob,es,ep,t,e,c⟩:=x;exact⟨ob,es,ep,t,k _ _ (.inl rfl) e,c⟩
 | ins C dx fs =>
  obtain⟨d,z,ne,e,mA,⟨od,es,ep,e2,c⟩,r⟩:=x;exact⟨ho _ d,z,ne,k _ _ (.inl rfl) e,mA,⟨od,es,ep,k _ _ (.inr d) e2,c⟩,r⟩
 | own y=>obtain⟨ob,e⟩:=x;exact⟨ob,k _ _ (.inl rfl) e⟩
 | xd fs=>obtain⟨mA,⟨od,es,ep,e,c⟩,r⟩:=x;exact⟨mA,⟨od,es,ep,k _ _ (.inl rfl) e,c⟩,r⟩
 | rng lo hi=>obtain⟨t,u,v,e⟩:=x;exact⟨t,u,v,k _ _ (.inl rfl) e⟩
 | frz ob u ih=>obtain⟨e,q⟩:=x;exact⟨k _ _ (.inl rfl) e,ih q⟩
 | tbl ps =>
  have e:h.get? a=some { cls:=.none,data:=.fields ps }:=x;show h'.get? a=some { cls:=.none,data:=.fields ps };exact k a _ (.inl rfl) e
 | met f y =>
  have e:h.get? a=some (PySem.W.methodObj (.ref f) (.ref y)):=x;show h'.get? a=some (PySem.W.methodObj (.ref f) (.ref y));exact k a _ (.inl rfl) e
 | ext φ=>obtain⟨p,⟨o,e⟩,st⟩:=x;exact⟨st _ _ p fun o q=>k _ _ (.inl rfl) q,⟨o,k _ _ (.inl rfl) e⟩,st⟩
theorem HOk.lt(x:HOk P w H h)(e:H a=some o):a<h.objs.size:=(x a o e).lt
theorem HOk.fresh(x:HOk P w H h)(e:h.objs.size<=a):H a=none:=by
 cases q:H a with
 | none=>rfl
 | some u=>exact absurd (BG (x.lt q) e) (DK _)
theorem HOk.kept(x:HOk P w H h)(k:∀b u,h.get? b=some u->h'.get? b=some u):HOk P w H h':=fun a o e =>
 (x a o e).stay (fun b u _ q=>k b u q) (fun _ q=>q) fun _ _ q=>q
theorem HOk.laid(x:HOk P w H h)(k:∀b u,h.get? b=some u->h'.get? b=some u)(hp:h.objs.size<=a)(new:ObjOk P w (upd H a o) h' a o):HOk P w (upd H a o) h':=fun b u e=>by
 have hn:=x.fresh hp;by_cases hb:b=a
 .subst hb;rw[A7]at e;cases e;exact new
 .rw[B4 hb]at e;exact(x b u e).stay (fun c v _ q=>k c v q) (fun c q=>by rw[B4 (B1 q hn)];exact q) fun c xs q=>by rw[B4 (B1 q hn)];exact q
end
def Rd(H:Hp)(a:Addr)(u:HO):Prop:=H a=some u\/∃o,H a=some (.frz o u)
theorem Rd.ok{P:Program}{w:World}{H:Hp}{h:Heap}{a:Addr}{u:HO}(r:Rd H a u)(x:HOk P w H h):ObjOk P w H h a u:=by
 rcases r with r | ⟨o,r⟩
 .exact x a u r
 .obtain⟨_,q⟩:=x a _ r;exact q
def Mut:Option HO->Prop
 | some (.lst _)=>True
 | some (.dK _)=>True
 | some (.dT _)=>True
 | some (.set _ _)=>True
 | some (.ins _ _ _)=>True
 | some (.ext _)=>True
 | _=>False
section
variable{P:Program}{w:World}{H:Hp}{h h':Heap}{x e:Addr}{o':HO}
theorem HOk.write(ok:HOk P w H h)(mu:Mut (H x))(he:e=x\/H e=some (.own x))(k:∀b u,b≠e->h.get? b=some u->h'.get? b=some u)(heo:∃u,h'.get? e=some u)
  (new:ObjOk P w (upd H x o') h' x o'):HOk P w (upd H x o') h':=fun b u q=>by
 have nown:∀c y,H c=some (.own y)->c≠x:=fun c y r z=>by subst z;rw[r]at mu;exact mu
 have ntup:∀c xs,H c=some (.tup xs)->c≠x:=fun c xs r z=>by subst z;rw[r]at mu;exact mu
 by_cases hb:b=x
 .subst hb;rw[A7]at q;cases q;exact new
 .rw[B4 hb]at q;by_cases hbe:b=e
  .have q':H b=some (.own x):=by
    rcases he with z | z
    .exact absurd (hbe.trans z) hb
    .rw[hbe];exact z
   rw[q]at q';cases q';obtain⟨v,hv⟩:=heo;exact⟨v,by rw[hbe];exact hv⟩
  .refine(ok b u q).stay (fun c v hc r=>k c v ?_ r) (fun c r=>by rw[B4 (nown c b r)];exact r) fun c xs r=>by rw[B4 (ntup c xs r)];exact r
   rcases hc with rfl | hc
   .exact hbe
   .rintro rfl;rcases he with z | z
    .exact nown c b hc z
    .rw[hc]at z;cases z;exact hb rfl
end
structure Un(fs ex:List Addr)(H H':Hp)(h h':Heap):Prop where
 keep:∀b o,h.get? b=some o->H b=none->b∉fs->b∉ex->h'.get? b=some o
 slot:∀b o,h.get? b=some o->H b=none->b∈fs->b∉ex->∃sl,h'.get? b=some { o with slots:=sl }
 free:∀b o,h.get? b=some o->H b=none->b∉ex->H' b=none
 there:∀b o,h.get? b=some o->b∉ex->∃o',h'.get? b=some o'
 tups:∀b xs,H b=some (.tup xs)->H' b=some (.tup xs)
 frzs:∀b o u,H b=some (.frz o u)->H' b=some (.frz o u)
 tbls:∀b ps,H b=some (.tbl ps)->∃more,H' b=some (.tbl (ps++more))
section
variable{fs fs' ex ex':List Addr}{H H1 H2:Hp}{h h1 h2 h':Heap}{a x e:Addr}{o:HO}
theorem Un.any(u:Un fs ex H H1 h h1){b:Addr}{ob:Obj}(q:h.get? b=some ob)(n:H b=none)(hx:b∉ex):∃sl,h1.get? b=some { ob with slots:=sl }:=by
 by_cases hb:b∈fs
 .exact u.slot b ob q n hb hx
 .exact⟨ob.slots,u.keep b ob q n hb hx⟩
theorem Un.kept(k:∀b u,h.get? b=some u->h'.get? b=some u):Un fs ex H H h h' :=
 ⟨fun b ob q _ _ _=>k b ob q,fun b ob q _ _ _=>⟨ob.slots,k b ob q⟩,fun _ _ _ n _=>n,fun b ob q _=>⟨ob,k b ob q⟩,fun _ _ q=>q,fun _ _ _ q=>q,fun _ ps q=>⟨#[],by rw[q];simp⟩⟩
theorem Un.refl:Un fs ex H H h h:=Un.kept fun _ _ q=>q
theorem Un.laid(k:∀b u,h.get? b=some u->h'.get? b=some u)(hp:h.objs.size<=a)(hn:H a=none):Un fs ex H (upd H a o) h h' where
 keep:=fun b u q _ _ _=>k b u q
 slot:=fun b u q _ _ _=>⟨u.slots,k b u q⟩
 free:=fun b u q n _=>by rw[B4 (AQ (BG (AF q) hp))];exact n
 there:=fun b u q _=>⟨u,k b u q⟩
 tups:=fun b xs q=>by rw[B4 (B1 q hn)];exact q
 frzs:=fun b u xs q=>by rw[B4 (B1 q hn)];exact q
 tbls:=fun b ps q=>⟨#[],by rw[B4 (B1 q hn),q];simp⟩
theorem Un.write(mu:Mut (H x))(he:e=x\/H e=some (.own x))(k:∀b u,b≠e->h.get? b=some u->h'.get? b=some u)(heo:∃u,h'.get? e=some u):Un fs ex H (upd H x o) h h':=by
 have hx:∀b,H b=none->b≠x:=fun b n z=>by subst z;rw[n]at mu;exact mu
 have hb:∀b,H b=none->b≠e:=fun b n z=>by
  subst z;rcases he with r | r
  .exact hx b n r
  .rw[n]at r;cases r
 have hm:∀b u,H b=some u->¬Mut (some u)->b≠x:=fun b u q nm z=>by subst z;rw[q]at mu;exact nm mu
 refine⟨fun b u q n _ _=>k b u (hb b n) q,fun b u q n _ _=>⟨u.slots,k b u (hb b n) q⟩,fun b u q n _=>by rw[B4 (hx b n)];exact n,fun b u q _=>?_,
  fun b xs q=>by rw[B4 (hm b _ q fun z=>z)];exact q,fun b u xs q=>by rw[B4 (hm b _ q fun z=>z)];exact q,fun b ps q=>⟨#[],by rw[B4 (hm b _ q fun z=>z),q];simp⟩⟩
 by_cases hbe:b=e
 .subst hbe;exact heo
 .exact⟨u,k b u hbe q⟩
end
def trk(h:Heap)(H:Hp):List Addr:=(List.range h.objs.size).filter fun a=>(H a).isSome
def Kf(h:Heap)(H:Hp):Heap:=PySem.W.hideAll h (trk h H)
theorem Bl(h:Heap)(H:Hp):(Kf h H).objs.size=h.objs.size:=PySem.W.hideAll_size _ _
theorem X6{h:Heap}{H:Hp}{b:Addr}{o:Obj}(e:h.get? b=some o)(n:H b=none):(Kf h H).get? b=some o :=
 PySem.W.hideAll_get _ e fun hm=>by
  have q:(H b).isSome=true:=(EE.mp hm).2;rw[n]at q;simp at q
theorem Hn{h:Heap}{H:Hp}{b:Addr}{o:Obj}(e:(Kf h H).get? b=some o):h.get? b=some o/\H b=none:=by
 have e':h.get? b=some o:=PySem.W.of_hideAll (trk h H) e;refine⟨e',?_⟩;cases q:H b with
 | none=>rfl
 | some x =>
  have hm:b∈trk h H:=EE.mpr ⟨List.mem_range.mpr (AF e'),by simp[q]⟩;have z:(Kf h H).get? b=none:=PySem.W.hideAll_none (trk h H) hm;rw[z]at e;cases e
structure Mod(K:PySem.W.Frag)(mg:Str->Option Value)(base:Heap):Prop where
 kin:K.In base
 glob:base.Ns mainGlobals mg
 blt:∃mb,base.Ns builtinsNs mb/\∀x:Str,x≠ "__name__"->mb x=bootBuiltins x
 nolimit:base.NoLimit
structure Cx where
 prog:Program
 w:World
 K:PySem.W.Frag
 mg:Str->Option Value
 base:Heap
 A:Around
 N:List Str
 s₀:Shared
 H₀:Hp
 env:Env
 outer:List Env
 stack:List Env
 ex:List Addr
 fn:Str->Bool
 calm:Bool
 pn:List (Addr×Obj)
 xe:Value->Shared->Prop
def frs(l:List Env):List Addr:=l.filterMap (·.frame)
abbrev Cx.fs(X:Cx):List Addr:=frs X.outer
def Vis(sc:Scope)(x:Str):Prop:=sc.names.lookup x=some .local\/sc.names.lookup x=some .cell\/sc.names.lookup x=some .free
def Loc(sc:Scope)(x:Str):Prop:=sc.names.lookup x=some .local\/sc.names.lookup x=some .cell
def Ve(env:Env)(h:Heap)(m:Str->Option Value)(x:Str)(u:Value):Prop :=
 (env.kindOf x=some .local/\m x=some u)\/((env.kindOf x=some .cell\/env.kindOf x=some .free)/\∃c,env.cells.lookup x=some c/\h.IsCell c (some u))
structure Cx.Ok(X:Cx):Prop where
 mod:Mod X.K X.mg X.base
 kind:X.env.scope.kind = .function
 glob:X.env.globals=mainGlobals
 blt:X.env.builtins=builtinsNs
 above:X.s₀.heap.objs.size<=X.env.locals
 inj:∀x y c,X.env.cells.lookup x=some c->X.env.cells.lookup y=some c->x=y
 has:∀x,(X.env.kindOf x=some .cell\/X.env.kindOf x=some .free)->∃c,X.env.cells.lookup x=some c
 cab:∀x c,X.fn x=true->X.env.cells.lookup x=some c->X.s₀.heap.objs.size<=c
 hd:X.calm=true->X.A.handled=none
 frames:X.A.frames=some X.stack
 stk:X.stack=X.outer\/(X.stack=X.env::X.outer/\X.env.frame=some X.env.locals)
 exf:∀b∈X.ex,b≠X.env.locals/\∀x c,X.env.cells.lookup x=some c->c≠b
 bs:∀b o,X.base.get? b=some o->X.s₀.heap.get? b=some o/\X.H₀ b=none
 bsz:X.base.objs.size<=X.s₀.heap.objs.size
 noex:∀b o,X.base.get? b=some o->b∉X.ex
 exfs:∀b∈X.ex,b∉X.fs
 funs:X.s₀.heap.FunFrames X.base X.outer
 frf:∀b∈X.fs,X.H₀ b=none
structure Inv(X:Cx)(pins:List (Addr×Obj))(σ:List (Option V))(H:Hp)(s:Shared):Prop where
 ok:X.Ok
 os:s.os=X.s₀.os
 bare:AllBare s.gens
 base:Un X.fs X.ex X.H₀ H X.s₀.heap s.heap
 loc:∃m,s.heap.Ns X.env.locals m/\∀(i:Nat) (x:Str) (v:V),X.N[i]?=some x->σ[i]?=some (some v)->Vis X.env.scope x->∃u,RelV v u/\Ve X.env s.heap m x u
 cell:∀x c,X.env.cells.lookup x=some c->∃v,s.heap.IsCell c v
 free:H X.env.locals=none
 freeC:∀x c,X.env.cells.lookup x=some c->H c=none
 pin:∀p∈X.pn++pins,s.heap.get? p.1=some p.2/\H p.1=none/\p.1≠X.env.locals/\p.1∉X.fs/\∀v,p.2.data≠ .cell v
 hok:HOk X.prog X.w H s.heap
 len:σ.length=X.N.length
section
variable{X:Cx}{pins:List (Addr×Obj)}{σ:List (Option V)}{H H':Hp}{s:Shared}{h':Heap}
theorem Cx.Ok.nofr(ok:X.Ok){b:Addr}{o:Obj}(e:X.base.get? b=some o):b∉X.fs:=fun hb=>by
 have:=(ok.funs.mem hb).1;rw[e]at this;cases this
theorem Inv.bs(I:Inv X pins σ H s):∀b o,X.base.get? b=some o->s.heap.get? b=some o/\H b=none:=fun b o e =>
 ⟨I.base.keep b o (I.ok.bs b o e).1 (I.ok.bs b o e).2 (I.ok.nofr e) (I.ok.noex b o e),I.base.free b o (I.ok.bs b o e).1 (I.ok.bs b o e).2 (I.ok.noex b o e)⟩
theorem Inv.bk(I:Inv X pins σ H s):∀b o,X.base.get? b=some o->s.heap.get? b=some o:=fun b o e=>(I.bs b o e).1
theorem Inv.mod(I:Inv X pins σ H s):Mod X.K X.mg X.base:=I.ok.mod
theorem Inv.kIn(I:Inv X pins σ H s):X.K.In s.heap:=I.ok.mod.kin.keeps I.bk
theorem Inv.lt(I:Inv X pins σ H s):X.env.locals<s.heap.objs.size:=let⟨_,hn,_⟩:=I.loc;hn.lt
theorem Inv.sz(I:Inv X pins σ H s):X.s₀.heap.objs.size<=s.heap.objs.size:=Nat.le_trans I.ok.above (CS I.lt)
theorem Inv.nofs(I:Inv X pins σ H s){a:Addr}(h:s.heap.objs.size<=a):a∉X.fs:=fun hb=>by
 obtain⟨_,o,ho,_⟩:=I.ok.funs.mem hb;exact absurd (BG (AF ho) (Nat.le_trans I.sz h)) (DK _)
theorem Inv.cne(I:Inv X pins σ H s):∀x c,X.env.cells.lookup x=some c->c≠X.env.locals:=fun x c e z=>by
 obtain⟨v,o,ho,hd⟩:=I.cell x c e;obtain⟨m,⟨o',es,ep,ho',hd',_⟩,_⟩:=I.loc;rw[z,ho']at ho;cases ho;rw[hd']at hd;cases hd
theorem Inv.funs(I:Inv X pins σ H s):s.heap.FunFrames X.base X.outer:=by
 have all:∀(l:List Env),(∀b∈frs l,b∈X.fs)->X.s₀.heap.FunFrames X.base l->s.heap.FunFrames X.base l:=by
  intro l
  induction l with
  | nil=>intro _ _;trivial
  | cons env r ih =>
   intro hs hl;obtain⟨hk,⟨L,o,hf,hn,ho,hd⟩,hr⟩:=hl;have hL:L∈X.fs:=hs L (by unfold frs;rw[DA,hf];exact BC);obtain⟨sl,e⟩:=I.base.slot L o ho (I.ok.frf L hL) hL fun z=>I.ok.exfs L z hL;exact⟨hk,⟨L,_,hf,hn,e,hd⟩,ih (fun b hb=>hs b (by unfold frs;rw[DA,hf];exact AY _ hb)) hr⟩
 exact all X.outer (fun _ hb=>hb) I.ok.funs
theorem Inv.stack(I:Inv X pins σ H s):s.heap.FunFrames X.base X.stack:=by
 rcases I.ok.stk with e | ⟨e,hf⟩
 .rw[e];exact I.funs
 .rw[e];obtain⟨m,hn,_⟩:=I.loc;refine .cons (by rw[I.ok.kind];decide) hf hn ?_ I.funs;exact Heap.get?_none_of_le (Nat.le_trans I.ok.bsz I.ok.above)
theorem Inv.stkSub(I:Inv X pins σ H s):∀b∈frs X.stack,b∈X.env.locals::X.fs:=fun b hb=>by
 rcases I.ok.stk with e | ⟨e,hf⟩
 .rw[e]at hb;exact AY _ hb
 .rw[e]at hb;unfold frs at hb;rw[DA,hf]at hb;exact hb
theorem Inv.stkFree(I:Inv X pins σ H s):∀b∈frs X.stack,H b=none:=fun b hb=>by
 rcases AN.mp (I.stkSub b hb)with e | hb
 .rw[e];exact I.free
 .obtain⟨_,o,ho,_⟩:=I.ok.funs.mem hb;exact I.base.free b o ho (I.ok.frf b hb) fun z=>I.ok.exfs b z hb
theorem Inv.step{g':Array GenState}{t':Nat}{d':Drawn}{ch:List Addr}(I:Inv X pins σ H s)
  (hch:∀b∈ch,(b∈X.ex\/X.s₀.heap.objs.size<=b)/\b≠X.env.locals/\(∀x c,X.env.cells.lookup x=some c->c≠b)/\∀p∈X.pn++pins,p.1≠b)
  (keep:∀b o,b≠X.env.locals->b∉X.fs->b∉ch->s.heap.get? b=some o->H b=none->h'.get? b=some o)
  (slot:∀b o,b≠X.env.locals->b∈X.fs->b∉ch->s.heap.get? b=some o->H b=none->∃sl,h'.get? b=some { o with slots:=sl }) (free:∀b o,b∉ch->s.heap.get? b=some o->H b=none->H' b=none)
  (there:∀b o,b∉ch->s.heap.get? b=some o->∃o',h'.get? b=some o')
  (tups:∀b xs,H b=some (.tup xs)->H' b=some (.tup xs)) (frzs:∀b o u,H b=some (.frz o u)->H' b=some (.frz o u)) (tbls:∀b ps,H b=some (.tbl ps)->∃more,H' b=some (.tbl (ps++more)))
  (ns:∀m,s.heap.Ns X.env.locals m->h'.Ns X.env.locals m) (hok:HOk X.prog X.w H' h') (hg:AllBare g') :
  Inv X pins σ H' { s with heap:=h',gens:=g',drawn:=d',toks:=t' }:=by
 have neL:∀b o,X.s₀.heap.get? b=some o->b≠X.env.locals:=fun b o e=>AQ (BG (AF e) I.ok.above);have neC:∀b o,X.s₀.heap.get? b=some o->b∉X.ex->b∉ch:=fun b o e hx hb=>by
  rcases(hch b hb).1 with z | z
  .exact hx z
  .exact absurd (BG (AF e) z) (DK _)
 have cellK:∀x c,X.env.cells.lookup x=some c->∀v,s.heap.IsCell c v->h'.IsCell c v:=fun x c e v ⟨o,ho,hd⟩=>by
  have nch:c∉ch:=fun z=>(hch c z).2.2.1 x c e rfl;by_cases hc:c∈X.fs
  .obtain⟨sl,q⟩:=slot c o (I.cne x c e) hc nch ho (I.freeC x c e);exact⟨_,q,hd⟩
  .exact⟨o,keep c o (I.cne x c e) hc nch ho (I.freeC x c e),hd⟩
 refine⟨I.ok,I.os,hg,⟨fun b o e n hb hx=>?_,fun b o e n hb hx=>?_,fun b o e n hx=>?_,fun b o e hx=>?_,fun b xs e=>tups b xs (I.base.tups b xs e),fun b o xs e=>frzs b o xs (I.base.frzs b o xs e),fun b ps e=>?_⟩,?_,fun x c e=>?_,?_,fun x c e=>?_,fun p hp=>?_,hok,I.len⟩
 .exact keep b o (neL b o e) hb (neC b o e hx) (I.base.keep b o e n hb hx) (I.base.free b o e n hx)
 .obtain⟨sl,e1⟩:=I.base.slot b o e n hb hx;obtain⟨sl',e2⟩:=slot b _ (neL b o e) hb (neC b o e hx) e1 (I.base.free b o e n hx);exact⟨sl',e2⟩
 .obtain⟨o',e1⟩:=I.base.there b o e hx;exact free b o' (neC b o e hx) e1 (I.base.free b o e n hx)
 .obtain⟨o',e1⟩:=I.base.there b o e hx;exact there b o' (neC b o e hx) e1
 .obtain⟨m1,e1⟩:=I.base.tbls b ps e;obtain⟨m2,e2⟩:=tbls b _ e1;exact⟨m1++m2,by rw[e2,Array.append_assoc]⟩
 .obtain⟨m,hn,hl⟩:=I.loc;refine⟨m,ns m hn,fun i x v e1 e2 e3=>?_⟩;obtain⟨u,r,l⟩:=hl i x v e1 e2 e3;refine⟨u,r,?_⟩;rcases l with l | ⟨k,c,e,z⟩
  .exact .inl l
  .exact .inr ⟨k,c,e,cellK x c e _ z⟩
 .obtain⟨v,z⟩:=I.cell x c e;exact⟨v,cellK x c e v z⟩
 .obtain⟨m,⟨o,_,_,ho,_⟩,_⟩:=I.loc;exact free _ o (fun z=>(hch _ z).2.1 rfl) ho I.free
 .obtain⟨v,o,ho,hd⟩:=I.cell x c e;exact free c o (fun z=>(hch c z).2.2.1 x c e rfl) ho (I.freeC x c e)
 .obtain⟨e,n,ne,nf,d⟩:=I.pin p hp;have nch:p.1∉ch:=fun z=>(hch p.1 z).2.2.2 p hp rfl;exact⟨keep p.1 p.2 ne nf nch e n,free p.1 p.2 nch e n,ne,nf,d⟩
theorem Inv.un{t':Nat}(I:Inv X pins σ H s)(u:Un X.fs [] H H' s.heap h')(hok:HOk X.prog X.w H' h'):Inv X pins σ H' { s with heap:=h',toks:=t' }:=by
 obtain⟨m,⟨o,es,ep,ho,r⟩,_⟩:=id I.loc;obtain⟨sl,hL⟩:=u.any ho I.free (by simp);exact I.step (g':=s.gens) (d':=s.drawn) (ch:=[]) (fun _ z=>nomatch z) (fun b o _ hb _ e n=>u.keep b o e n hb (by simp)) (fun b o _ hb _ e n=>u.slot b o e n hb (by simp)) (fun b o _ e n=>u.free b o e n (by simp)) (fun b o _ e=>u.there b o e (by simp)) u.tups u.frzs u.tbls (fun m' hm=>by
  obtain⟨o',es',ep',ho',r'⟩:=hm;rw[ho]at ho';cases ho';exact⟨_,es',ep',hL,r'⟩) hok I.bare
theorem Inv.call{g':Array GenState}{t':Nat}{d':Drawn}{ch:List Addr}(I:Inv X pins σ H s)(u:Un (frs X.stack) ch H H' s.heap h')(hok:HOk X.prog X.w H' h')(hg:AllBare g')
  (hch:∀b∈ch,(b∈X.ex\/X.s₀.heap.objs.size<=b)/\b≠X.env.locals/\(∀x c,X.env.cells.lookup x=some c->c≠b)/\∀p∈X.pn++pins,p.1≠b) :
  Inv X pins σ H' { s with heap:=h',gens:=g',drawn:=d',toks:=t' }:=by
 obtain⟨m,⟨o,es,ep,ho,r⟩,_⟩:=id I.loc;obtain⟨sl,hL⟩:=u.any ho I.free fun z=>(hch _ z).2.1 rfl;exact I.step (ch:=ch) hch (fun b o hL hb hc e n=>u.keep b o e n (fun z=>(AN.mp (I.stkSub b z)).elim hL hb) hc) (fun b o _ _ hc e n=>u.any e n hc) (fun b o hc e n=>u.free b o e n hc) (fun b o hc e=>u.there b o e hc) u.tups u.frzs u.tbls (fun m' hm=>by
  obtain⟨o',es',ep',ho',r'⟩:=hm;rw[ho]at ho';cases ho';exact⟨_,es',ep',hL,r'⟩) hok hg
theorem Inv.turned{t':Nat}{it:Addr}(I:Inv X pins σ H s)(k:∀b o,b≠it->s.heap.get? b=some o->h'.get? b=some o)(hn:H it=none)(hL:it≠X.env.locals)
  (h1:it∈X.ex\/X.s₀.heap.objs.size<=it) (h2:∀x c,X.env.cells.lookup x=some c->c≠it) (h3:∀p∈X.pn++pins,p.1≠it):Inv X pins σ H { s with heap:=h',toks:=t' }:=by
 have nit:∀b u,H b=some u->b≠it:=fun b u e z=>by rw[z,hn]at e;cases e
 refine I.step (g':=s.gens) (d':=s.drawn) (ch:=[it]) (fun b hb=>?_) (fun b o _ _ hc e _=>k b o (fun z=>hc (by simp[z])) e) (fun b o _ _ hc e _=>⟨o.slots,k b o (fun z=>hc (by simp[z])) e⟩) (fun _ _ _ _ n=>n)
  (fun b o hc e=>⟨o,k b o (fun z=>hc (by simp[z])) e⟩) (fun _ _ e=>e) (fun _ _ _ e=>e) (fun b ps e=>⟨#[],by rw[e];simp⟩) (fun m hm=>?_) (fun b u e=>?_) I.bare
 .have e:b=it:=by simpa using hb
  subst e;exact⟨h1,hL,h2,h3⟩
 .obtain⟨o,es,ep,ho,r⟩:=hm;exact⟨o,es,ep,k _ o (Ne.symm hL) ho,r⟩
 .refine(I.hok b u e).stay (fun c v hc q=>k c v ?_ q) (fun _ q=>q) fun _ _ q=>q;rcases hc with z | z
  .rw[z];exact nit b u e
  .exact nit c _ z
theorem Inv.tok(I:Inv X pins σ H s)(t:Nat):Inv X pins σ H { s with toks:=t }:=I.un (h':=s.heap) (t':=t) Un.refl I.hok
theorem Inv.kept{t':Nat}(I:Inv X pins σ H s)(k:∀b u,s.heap.get? b=some u->h'.get? b=some u):Inv X pins σ H { s with heap:=h',toks:=t' }:=I.un (Un.kept k) (I.hok.kept k)
theorem Inv.laid{a:Addr}{o:HO}{t':Nat}(I:Inv X pins σ H s)(k:∀b u,s.heap.get? b=some u->h'.get? b=some u)(hp:s.heap.objs.size<=a)(new:ObjOk X.prog X.w (upd H a o) h' a o) :
  Inv X pins σ (upd H a o) { s with heap:=h',toks:=t' }:=I.un (Un.laid k hp (I.hok.fresh hp)) (I.hok.laid k hp new)
theorem Inv.write{x e:Addr}{o:HO}{t':Nat}(I:Inv X pins σ H s)(mu:Mut (H x))(he:e=x\/H e=some (.own x))(k:∀b u,b≠e->s.heap.get? b=some u->h'.get? b=some u)(heo:∃u,h'.get? e=some u)
  (new:ObjOk X.prog X.w (upd H x o) h' x o):Inv X pins σ (upd H x o) { s with heap:=h',toks:=t' }:=I.un (Un.write mu he k heo) (I.hok.write mu he k heo new)
theorem Inv.pins_of{pins':List (Addr×Obj)}(I:Inv X pins σ H s)(h:∀p∈pins',s.heap.get? p.1=some p.2/\H p.1=none/\p.1≠X.env.locals/\p.1∉X.fs/\∀v,p.2.data≠ .cell v):Inv X pins' σ H s :=
 ⟨I.ok,I.os,I.bare,I.base,I.loc,I.cell,I.free,I.freeC,fun p hp=>(AV.mp hp).elim (fun z=>I.pin p (DU _ z)) (h p),I.hok,I.len⟩
theorem Aj{N:List Str}(hN:N.Nodup){i j:Nat}{x:Str}(a:N[i]?=some x)(b:N[j]?=some x):i=j:=by
 obtain⟨h1,e1⟩:=AK.mp a;obtain⟨h2,e2⟩:=AK.mp b;exact(List.getElem_inj hN).mp (e1.trans e2.symm)
theorem Bq{M:Model}{A:Around}{E:Value->Shared->Prop}{i:Nat}{x:Str}{v:V}{u:Value}{Q:Unit->Shared->Prop}(I:Inv X pins σ H s)(hN:X.N.Nodup)(hi:X.N[i]?=some x)(hx:Loc X.env.scope x)(r:RelV v u)
  (h:∀s',Inv X pins (σ.set i (some v)) H s'->(∃a,Heap.SameBut a s.heap s'.heap/\(a=X.env.locals\/X.env.cells.lookup x=some a))->Q () s') (hf:X.fn x=true\/X.env.scope.names.lookup x=some .local:=by first | exact .inl rfl | exact .inr rfl | assumption):wpAny M A (storeName X.env x u) Q E s:=by
 obtain⟨m,hn,hl⟩:=id I.loc;have hcls:(X.env.scope.kind == .class||(X.env.scope.kind == .module&&X.env.locals != X.env.globals))=false:=by rw[I.ok.kind];rfl
 have hiσ:i<σ.length:=by rw[I.len];exact(AK.mp hi).1
 have cne:=I.cne;have tracked:∀{a:Addr} {h':Heap},(∃o,s.heap.get? a=some o/\H a=none)->Heap.SameBut a s.heap h'->HOk X.prog X.w H h':=fun{a h'} ha hs b ob e=>by
  obtain⟨_,_,hfree⟩:=ha;refine(I.hok b ob e).stay (fun c w' hc q=>(hs.2 c ?_).trans q) (fun _ q=>q) fun _ _ q=>q;rintro rfl;rcases hc with rfl | hc
  .rw[hfree]at e;cases e
  .rw[hfree]at hc;cases hc
 rcases hx with hk | hk
 .refine wpAny_storeName_local hk hn (fun h' hn' hs=>?_) hcls;obtain⟨oL,_,_,hoL,_⟩:=id hn;refine h _ ⟨I.ok,I.os,I.bare,⟨fun b o e n hb hx=>?_,fun b o e n hb hx=>?_,I.base.free,fun b o e hx=>?_,I.base.tups,I.base.frzs,I.base.tbls⟩,⟨_,hn',fun j y v' e1 e2 e3=>?_⟩,fun y c e=>?_,I.free,I.freeC,fun p hp=>?_,tracked ⟨oL,hoL,I.free⟩ hs,by simpa using I.len⟩ ⟨_,hs,.inl rfl⟩
  .exact(hs.2 b (AQ (BG (AF e) I.ok.above))).trans (I.base.keep b o e n hb hx)
  .obtain⟨sl,e1⟩:=I.base.slot b o e n hb hx;exact⟨sl,(hs.2 b (AQ (BG (AF e) I.ok.above))).trans e1⟩
  .obtain⟨o',e1⟩:=I.base.there b o e hx;exact⟨o',(hs.2 b (AQ (BG (AF e) I.ok.above))).trans e1⟩
  .by_cases hj:j=i
   .subst hj;rw[hi]at e1;cases e1;rw[List.getElem?_set_self hiσ]at e2;cases e2;exact⟨u,r,.inl ⟨hk,by simp⟩⟩
   .rw[List.getElem?_set_ne (Ne.symm hj)]at e2;obtain⟨u',r',q⟩:=hl j y v' e1 e2 e3;refine⟨u',r',?_⟩;rcases q with⟨k,e⟩ | ⟨k,c,e,z⟩
    .refine .inl ⟨k,?_⟩;have:y≠x:=fun e=>hj (Aj hN e1 (e▸hi));simp[this,e]
    .exact .inr ⟨k,c,e,z.sameBut hs (cne y c e)⟩
  .obtain⟨w',z⟩:=I.cell y c e;exact⟨w',z.sameBut hs (cne y c e)⟩
  .obtain⟨e,n,ne,nf,d⟩:=I.pin p hp;exact⟨(hs.2 p.1 ne).trans e,n,ne,nf,d⟩
 .have hfn:X.fn x=true:=by
   rcases hf with z | z
   .exact z
   .rw[z]at hk;cases hk
  obtain⟨c,hc⟩:=I.ok.has x (.inl hk);obtain⟨w',z⟩:=I.cell x c hc;refine wpAny_storeName_cell I.ok.kind hk hc z (fun h' hc' hs=>?_);obtain⟨oc,hoc,hocd⟩:=id z;refine h { s with heap:=h' } ⟨I.ok,I.os,I.bare,⟨fun b o e n hb hx=>?_,fun b o e n hb hx=>?_,I.base.free,fun b o e hx=>?_,I.base.tups,I.base.frzs,I.base.tbls⟩,⟨m,hn.sameBut hs (Ne.symm (cne x c hc)),fun j y v' e1 e2 e3=>?_⟩,fun y c' e=>?_,I.free,I.freeC,fun p hp=>?_,tracked ⟨oc,hoc,I.freeC x c hc⟩ hs,by simpa using I.len⟩ ⟨c,hs,.inr hc⟩
  .exact(hs.2 b (AQ (BG (AF e) (I.ok.cab x c hfn hc)))).trans (I.base.keep b o e n hb hx)
  .obtain⟨sl,e1⟩:=I.base.slot b o e n hb hx;exact⟨sl,(hs.2 b (AQ (BG (AF e) (I.ok.cab x c hfn hc)))).trans e1⟩
  .obtain⟨o',e1⟩:=I.base.there b o e hx;exact⟨o',(hs.2 b (AQ (BG (AF e) (I.ok.cab x c hfn hc)))).trans e1⟩
  .by_cases hj:j=i
   .subst hj;rw[hi]at e1;cases e1;rw[List.getElem?_set_self hiσ]at e2;cases e2;exact⟨u,r,.inr ⟨.inl hk,c,hc,hc'⟩⟩
   .rw[List.getElem?_set_ne (Ne.symm hj)]at e2;obtain⟨u',r',q⟩:=hl j y v' e1 e2 e3;refine⟨u',r',?_⟩;rcases q with q | ⟨k,c',e,z'⟩
    .exact .inl q
    .refine .inr ⟨k,c',e,z'.sameBut hs ?_⟩;rintro rfl;exact hj (Aj hN e1 (I.ok.inj _ _ _ e hc▸hi))
  .by_cases hcc:c'=c
   .subst hcc;exact⟨_,hc'⟩
   .obtain⟨w2,z2⟩:=I.cell y c' e;exact⟨w2,z2.sameBut hs hcc⟩
  .obtain⟨e,n,ne,nf,d⟩:=I.pin p hp;refine⟨(hs.2 p.1 ?_).trans e,n,ne,nf,d⟩;intro q;rw[q,hoc]at e;have q':oc=p.2:=BU e;exact d w' (by rw[<-q'];exact hocd)
theorem O8{M:Model}{A:Around}{E:Value->Shared->Prop}{i:Nat}{x:Str}{v:V}{u:Value}{Q:Unit->Shared->Prop}(I:Inv X pins σ H s)(hN:X.N.Nodup)(hi:X.N[i]?=some x)(hx:Loc X.env.scope x)(r:RelV v u)
  (h:∀s',Inv X pins (σ.set i (some v)) H s'->Q () s') (hf:X.fn x=true\/X.env.scope.names.lookup x=some .local:=by first | exact .inl rfl | exact .inr rfl | assumption):wpAny M A (storeName X.env x u) Q E s :=
 Bq I hN hi hx r (fun s' I' _=>h s' I') hf
theorem Inv.call'{s':Shared}{ch:List Addr}(I:Inv X pins σ H s)(ho:s'.os=s.os)(u:Un (frs X.stack) ch H H' s.heap s'.heap)(hok:HOk X.prog X.w H' s'.heap)(hg:AllBare s'.gens)
  (hch:∀b∈ch,(b∈X.ex\/X.s₀.heap.objs.size<=b)/\b≠X.env.locals/\(∀x c,X.env.cells.lookup x=some c->c≠b)/\∀p∈X.pn++pins,p.1≠b):Inv X pins σ H' s':=by
 obtain⟨h',g',d',t',o'⟩:=s';have e:o'=s.os:=ho;subst e;exact I.call (g':=g') (t':=t') (d':=d') u hok hg hch
end
abbrev XK:=Value->Option Addr->Hp->Prop
abbrev St:=List (Option V)
abbrev VK:=V->Hp->Prop
abbrev TE:=St->Hp->VK->Prop
abbrev TT:=St->Hp->(Bool->Hp->Prop)->Prop
abbrev TA:=St->Hp->(List V->Hp->Prop)->Prop
structure Ends where
 nx:St->Hp->Prop
 rt:VK
 bk:St->Hp->Prop:=fun _ _=>False
 ct:St->Hp->Prop:=fun _ _=>False
abbrev TS:=Ends->St->Hp->Prop
def EP(X:Cx)(pins:List (Addr×Obj))(σ:St)(Q:VK)(u:Value)(s':Shared):Prop:=∃v H',Inv X pins σ H' s'/\RelV v u/\Q v H'
def TP(X:Cx)(pins:List (Addr×Obj))(σ:St)(Q:Bool->Hp->Prop)(b:Bool)(s':Shared):Prop:=∃H',Inv X pins σ H' s'/\Q b H'
def AP(X:Cx)(pins:List (Addr×Obj))(σ:St)(Q:List V->Hp->Prop)(us:List Value)(s':Shared):Prop:=∃vs H',Inv X pins σ H' s'/\Vals vs us/\Q vs H'
def SP(X:Cx)(pins:List (Addr×Obj))(D:Ends)(f:Flow)(s':Shared):Prop :=
 match f with
 | .next=>∃σ' H',Inv X pins σ' H' s'/\D.nx σ' H'
 | .brk=>∃σ' H',Inv X pins σ' H' s'/\D.bk σ' H'
 | .cont=>∃σ' H',Inv X pins σ' H' s'/\D.ct σ' H'
 | .ret u=>∃v σ' H',Inv X pins σ' H' s'/\RelV v u/\D.rt v H'
def PE(X:Cx)(e:Expr)(t:TE):Prop :=
 ∀(pins:List (Addr×Obj)) (s:Shared) (σ:St) (H:Hp) (Q:VK),Inv X pins σ H s->t σ H Q->wpAny (model X.prog X.w) X.A (eval e X.env) (EP X pins σ Q) X.xe s
def PT(X:Cx)(e:Expr)(t:TT):Prop :=
 ∀(pins:List (Addr×Obj)) (s:Shared) (σ:St) (H:Hp) (Q:Bool->Hp->Prop),Inv X pins σ H s->t σ H Q->wpAny (model X.prog X.w) X.A (isTrue e X.env (eval e X.env)) (TP X pins σ Q) X.xe s
def PW(X:Cx)(e:Expr)(t:TT):Prop :=
 ∀(whole:Sem Value) (pins:List (Addr×Obj)) (s:Shared) (σ:St) (H:Hp) (Q:Bool->Hp->Prop),Inv X pins σ H s->t σ H Q->wpAny (model X.prog X.w) X.A (isTrue e X.env whole) (TP X pins σ Q) X.xe s
theorem PW.pt{X:Cx}{e:Expr}{t:TT}(h:PW X e t):PT X e t:=h _
def PA(X:Cx)(es:List Expr)(t:TA):Prop :=
 ∀(pos:Pos) (pins:List (Addr×Obj)) (s:Shared) (σ:St) (H:Hp) (Q:List V->Hp->Prop),Inv X pins σ H s->t σ H Q->wpAny (model X.prog X.w) X.A (spliced (backTo pos (starEach es X.env))) (AP X pins σ Q) X.xe s
def PS(X:Cx)(st:Stmt)(t:TS):Prop :=
 ∀(pins:List (Addr×Obj)) (s:Shared) (σ:St) (H:Hp) (D:Ends),Inv X pins σ H s->t D σ H->wpAny (model X.prog X.w) X.A (exec st X.env) (SP X pins D) X.xe s
def PSs(X:Cx)(st:List Stmt)(t:TS):Prop :=
 ∀(pins:List (Addr×Obj)) (s:Shared) (σ:St) (H:Hp) (D:Ends),Inv X pins σ H s->t D σ H->wpAny (model X.prog X.w) X.A (execs st X.env) (SP X pins D) X.xe s
theorem thn{α:Type}{t:Sem α}{Q Q':α->Shared->Prop}{M:Model}{A:Around}{E:Value->Shared->Prop}{s:Shared}(h:wpAny M A t Q E s)(hQ:∀a s,Q a s->Q' a s):wpAny M A t Q' E s:=BP h hQ fun _ _ x=>x
section
variable{X:Cx}
def Uh(i:Nat):TE:=fun σ H Q=>∃v,σ[i]?=some (some v)/\Q v H
def tC(v:V):TE:=fun _ H Q=>Q v H
theorem Gv{i:Nat}{x:Str}{pos:Pos}(hN:X.N[i]?=some x)(hv:Vis X.env.scope x)(hd:(x ==("__debug__":Str))=false:=by decide)(hcd:(x ==("__classdict__":Str))=false:=by decide):PE X (.Name x pos) (Uh i):=by
 intro pins s σ H Q I h;obtain⟨v,e,h⟩:=h;obtain⟨m,hn,hl⟩:=I.loc;obtain⟨u,r,l⟩:=hl i x v hN e hv;have fin:EP X pins σ Q u s:=⟨v,H,I,r,h⟩;rcases l with⟨hk,hm⟩ | ⟨hk,c,hc,hcell⟩
 .exact wpAny_Name (wpAny_loadName_local I.ok.kind hk hn hm fin) hd
 .rcases hk with hk | hk
  .exact wpAny_Name (wpAny_loadName_cell I.ok.kind hk hc hcell fin) hd
  .exact wpAny_Name (wpAny_loadName_free I.ok.kind hk hc hcell fin hcd) hd
theorem A9{i j pos}:PE X (.Constant (.int i) j pos) (tC (.int i)):=fun _ _ _ H _ I h=>wpAny_Constant_int ⟨.int i,H,I.tok _,⟨_,rfl⟩,h⟩
theorem Ad{b j pos}:PE X (.Constant (.bool b) j pos) (tC (.bl b)):=fun _ _ _ H _ I h=>Constant_bool ⟨.bl b,H,I,rfl,h⟩
theorem X2{j pos}:PE X (.Constant .none j pos) (tC .non):=fun _ _ _ H _ I h=>Constant_none ⟨.non,H,I,rfl,h⟩
theorem D4{x j pos}:PE X (.Constant (.str x) j pos) (tC (.str x)):=fun _ _ _ H _ I h=>Calls.Constant_str ⟨.str x,H,I.tok _,⟨_,rfl⟩,h⟩
def Gl(X:Cx)(x:Str):Prop:=X.env.kindOf x=some .globalImplicit
theorem T0{E:Value->Shared->Prop}{pins:List (Addr×Obj)}{s:Shared}{σ:St}{H:Hp}{x:Str}{u:Value}{pos:Pos}{Q:Value->Shared->Prop}(I:Inv X pins σ H s)(hg:Gl X x)(hm:X.mg x=some u)(h:Q u s)
  (hd:(x ==("__debug__":Str))=false:=by decide):wpAny (model X.prog X.w) X.A (eval (.Name x pos) X.env) Q E s :=
 Calls.Name_function_global I.ok.kind hg (Calls.loadGlobal_global (by rw[I.ok.glob];exact I.mod.glob.keeps I.bk) hm h) hd
theorem X8{E:Value->Shared->Prop}{pins:List (Addr×Obj)}{s:Shared}{σ:St}{H:Hp}{x:Str}{u:Value}{pos:Pos}{Q:Value->Shared->Prop}(I:Inv X pins σ H s)(hg:Gl X x)(hm:X.mg x=none)(hv:bootBuiltins x=some u)(h:Q u s)
  (hn:x≠ "__name__":=by decide) (hd:(x ==("__debug__":Str))=false:=by decide):wpAny (model X.prog X.w) X.A (eval (.Name x pos) X.env) Q E s:=by
 obtain⟨mb,h1,h2⟩:=I.mod.blt;exact Calls.Name_function_global I.ok.kind hg (Calls.loadGlobal_builtin (by rw[I.ok.glob];exact I.mod.glob.keeps I.bk) hm (by rw[I.ok.blt];exact h1.keeps I.bk) ((h2 x hn).trans hv) h) hd
theorem Dm{x:Str}{v:V}{u:Value}{pos:Pos}(hg:Gl X x)(hm:X.mg x=some u)(r:RelV v u)(hd:(x ==("__debug__":Str))=false:=by decide):PE X (.Name x pos) (tC v) :=
 fun _ _ _ H _ I h=>T0 I hg hm ⟨v,H,I,r,h⟩ hd
theorem Nz{x:Str}{v:V}{u:Value}{pos:Pos}(hg:Gl X x)(hm:X.mg x=none)(hv:bootBuiltins x=some u)(r:RelV v u)(hn:x≠ "__name__":=by decide)(hd:(x ==("__debug__":Str))=false:=by decide):PE X (.Name x pos) (tC v) :=
 fun _ _ _ H _ I h=>X8 I hg hm hv ⟨v,H,I,r,h⟩ hn hd
variable{a b:Expr}{ta tb:TE}{pos:Pos}
def tB(t:TE):TT:=fun σ H Q=>t σ H fun x H1=>∃c,x = .bl c/\Q c H1
theorem F6{e:Expr}{t:TE}(h:PE X e t)(he:∀whole,isTrue e X.env whole =(do let v <-whole;standAt e.pos;holding [v] (truthy v)):=by intro _;rfl):PT X e (tB t):=by
 intro pins s σ H Q I hw;refine isTrue_plain (thn (h pins s σ H _ I hw) fun v s1 ⟨x,H1,I1,r1,q1⟩=>?_) (he _);obtain⟨d,rfl,q⟩:=q1;cases r1;exact CG ⟨H1,I1,q⟩
variable{tA tB':TT}{rest:List Expr}
def Uz(t u:TT):TT:=fun σ H Q=>t σ H fun c H1=>if c=true then u σ H1 Q else Q false H1
def tOr(t u:TT):TT:=fun σ H Q=>t σ H fun c H1=>if c=true then Q true H1 else u σ H1 Q
def Vm(t:TT):TT:=fun σ H Q=>t σ H fun c H1=>Q (!c) H1
theorem Ck(ha:PT X a tA):PW X (.BoolOp .And [a] pos) tA:=by
 intro wh pins s σ H Q I h;refine isTrue_and (thn (ha pins s σ H Q I h) fun c s1 e=>?_);cases c with
 | true=>exact isTrue_and_nil e
 | false=>exact e
theorem a7(ha:PT X a tA):PW X (.BoolOp .Or [a] pos) tA:=by
 intro wh pins s σ H Q I h;refine isTrue_or (thn (ha pins s σ H Q I h) fun c s1 e=>?_);cases c with
 | false=>exact isTrue_or_nil e
 | true=>exact e
theorem Ij(ha:PT X a tA)(hb:PW X (.BoolOp .And (b::rest) pos) tB'):PW X (.BoolOp .And (a::b::rest) pos) (Uz tA tB'):=by
 intro wh pins s σ H Q I h;refine isTrue_and (thn (ha pins s σ H _ I h) fun c s1 ⟨H1,I1,q1⟩=>?_);cases c with
 | true=>exact hb wh pins s1 σ H1 Q I1 q1
 | false=>exact⟨H1,I1,q1⟩
theorem Bf(ha:PT X a tA)(hb:PW X (.BoolOp .Or (b::rest) pos) tB'):PW X (.BoolOp .Or (a::b::rest) pos) (tOr tA tB'):=by
 intro wh pins s σ H Q I h;refine isTrue_or (thn (ha pins s σ H _ I h) fun c s1 ⟨H1,I1,q1⟩=>?_);cases c with
 | true=>exact⟨H1,I1,q1⟩
 | false=>exact hb wh pins s1 σ H1 Q I1 q1
theorem K7(ha:PT X a tA):PT X (.UnaryOp .Not a pos) (Vm tA):=by
 intro pins s σ H Q I h;exact isTrue_not (ha pins s σ H (fun c H1=>Q (!c) H1) I h)
def Ub(ta tb:TE):TE:=fun σ H Q=>ta σ H fun x H1=>∃c,x = .bl c/\if c=true then tb σ H1 Q else Q (.bl false) H1
def Vd(ta tb:TE):TE:=fun σ H Q=>ta σ H fun x H1=>∃c,x = .bl c/\if c=true then Q (.bl true) H1 else tb σ H1 Q
def Th(ta:TE):TE:=fun σ H Q=>ta σ H fun x H1=>∃c,x = .bl c/\Q (.bl (!c)) H1
theorem J0{op}{t:TE}(h:PE X a t):PE X (.BoolOp op [a] pos) t:=fun pins s σ H Q I hw=>BoolOp_one (h pins s σ H Q I hw)
theorem F4(ha:PE X a ta)(hb:PE X (.BoolOp .And (b::rest) pos) tb):PE X (.BoolOp .And (a::b::rest) pos) (Ub ta tb):=by
 intro pins s σ H Q I h;refine BoolOp_and (thn (ha pins s σ H _ I h) fun v s1 ⟨x,H1,I1,r1,q1⟩=>?_);obtain⟨c,rfl,q1⟩:=q1;cases r1;refine CG ?_;cases c with
 | true=>exact hb pins s1 σ H1 Q I1 q1
 | false=>exact⟨.bl false,H1,I1,rfl,q1⟩
theorem Tl(ha:PE X a ta)(hb:PE X (.BoolOp .Or (b::rest) pos) tb):PE X (.BoolOp .Or (a::b::rest) pos) (Vd ta tb):=by
 intro pins s σ H Q I h;refine BoolOp_or (thn (ha pins s σ H _ I h) fun v s1 ⟨x,H1,I1,r1,q1⟩=>?_);obtain⟨c,rfl,q1⟩:=q1;cases r1;refine CG ?_;cases c with
 | false=>exact hb pins s1 σ H1 Q I1 q1
 | true=>exact⟨.bl true,H1,I1,rfl,q1⟩
theorem Mh(ha:PE X a ta):PE X (.UnaryOp .Not a pos) (Th ta):=by
 intro pins s σ H Q I h;refine UnaryOp_ (thn (ha pins s σ H _ I h) fun v s1 ⟨x,H1,I1,r1,q1⟩=>?_);obtain⟨c,rfl,q1⟩:=q1;cases r1;exact not_of (CG ⟨.bl (!c),H1,I1,rfl,q1⟩)
def tIf(t:TT)(ta tb:TE):TE:=fun σ H Q=>t σ H fun c H1=>if c=true then ta σ H1 Q else tb σ H1 Q
theorem Fe{c:Expr}(hc:PT X c tA)(ha:PE X a ta)(hb:PE X b tb):PE X (.IfExp c a b pos) (tIf tA ta tb):=by
 intro pins s σ H Q I h;refine wpAny_IfExp (thn (hc pins s σ H _ I h) fun d s1 ⟨H1,I1,q1⟩=>?_);cases d with
 | true=>exact ha pins s1 σ H1 Q I1 q1
 | false=>exact hb pins s1 σ H1 Q I1 q1
end
def SqL(K:PySem.W.Frag)(H:Hp)(a:Addr)(xs:List V):Prop :=
 Rd H a (.lst xs) \/
  ∃(o:Obj) (its:Array Value) (n:Nat),K.lookup a=some o/\o.cls = .type "list"/\o.dict=none/\o.data = .seq its n/\its.size<=sizeLine/\Vals xs its.toList
def SqT(K:PySem.W.Frag)(H:Hp)(a:Addr)(xs:List V):Prop :=
 Rd H a (.tup xs) \/
  ∃(o:Obj) (its:Array Value) (n:Nat),K.lookup a=some o/\o.cls = .type "tuple"/\o.data = .seq its n/\its.size<=sizeLine/\Vals xs its.toList
def Us:Value->Option V
 | .none=>some .non
 | .bool b=>some (.bl b)
 | .int i _=>some (.int i)
 | .str x _=>some (.str x)
 | .bytes b _=>some (.byt b)
 | .float b _=>some (.flt b)
 | .ref a=>some (.ref a)
 | .type n=>some (.ty n)
 | _=>none
theorem RelV.abs{x:V}{u:Value}(r:RelV x u):Us u=some x:=by
 cases x with
 | non=>cases r;rfl
 | bl _=>cases r;rfl
 | int _=>obtain⟨t,rfl⟩:=r;rfl
 | str _=>obtain⟨t,rfl⟩:=r;rfl
 | byt _=>obtain⟨t,rfl⟩:=r;rfl
 | flt _=>obtain⟨t,rfl⟩:=r;rfl
 | ref _=>cases r;rfl
 | ty _=>cases r;rfl
theorem RelV.inj{x y:V}{u:Value}(r:RelV x u)(q:RelV y u):x=y:=BU (r.abs.symm.trans q.abs)
theorem Vals.inj:∀{xs ys:List V} {us:List Value},Vals xs us->Vals ys us->xs=ys
 | _,_,_,.nil,.nil=>rfl
 | _,_,_,.cons r t,.cons r' t'=>by rw[r.inj r',Vals.inj t t']
section
variable{X:Cx}{pins:List (Addr×Obj)}{σ:St}{H:Hp}{s:Shared}{a:Addr}{xs ys:List V}
theorem SqL.of{K:PySem.W.Frag}(h:H a=some (.lst xs)):SqL K H a xs:=.inl (.inl h)
theorem SqT.of{K:PySem.W.Frag}(h:H a=some (.tup xs)):SqT K H a xs:=.inl (.inl h)
theorem Inv.list(I:Inv X pins σ H s)(h:SqL X.K H a xs):∃its:List Value,Vals xs its/\PlainL s.heap a its.toArray/\xs.length<=sizeLine:=by
 rcases h with h | ⟨o,its,n,hk,hc,hd,hs,hz,r⟩
 .obtain⟨z,its,n,r,e⟩:=h.ok I.hok;exact⟨its,r,⟨_,n,e,rfl,rfl,rfl⟩,z⟩
 .refine⟨its.toList,r,⟨o,n,I.kIn a o hk,hc,hd,by simpa using hs⟩,?_⟩;have e:=r.length;simp only[AW]at e;omega
theorem Inv.tuple(I:Inv X pins σ H s)(h:SqT X.K H a xs):∃its:List Value,Vals xs its/\IsTup s.heap a its.toArray/\xs.length<=sizeLine:=by
 rcases h with h | ⟨o,its,n,hk,hc,hs,hz,r⟩
 .obtain⟨z,its,r,p⟩:=h.ok I.hok;exact⟨its,r,p,z⟩
 .refine⟨its.toList,r,⟨o,I.kIn a o hk,hc,n,by simpa using hs⟩,?_⟩;have e:=r.length;simp only[AW]at e;omega
theorem Inv.list_inj(I:Inv X pins σ H s)(h:SqL X.K H a xs)(h':SqL X.K H a ys):xs=ys:=by
 obtain⟨its,r,⟨o,n,e,_,_,d⟩,_⟩:=I.list h;obtain⟨its',r',⟨o',n',e',_,_,d'⟩,_⟩:=I.list h';rw[e]at e';cases e';rw[d]at d';injection d' with d1 _;have:its=its':=by simpa using congrArg Array.toList d1
 subst this;exact r.inj r'
theorem Inv.tuple_inj(I:Inv X pins σ H s)(h:SqT X.K H a xs)(h':SqT X.K H a ys):xs=ys:=by
 obtain⟨its,r,⟨o,e,_,n,d⟩,_⟩:=I.tuple h;obtain⟨its',r',⟨o',e',_,n',d'⟩,_⟩:=I.tuple h';rw[e]at e';cases e';rw[d]at d';injection d' with d1 _;have:its=its':=by simpa using congrArg Array.toList d1
 subst this;exact r.inj r'
end
abbrev Cx.wish(X:Cx)(E:Value->Shared->Prop):Cx:={ X with xe:=E }
abbrev Cx.nox(X:Cx):Cx:=X.wish fun _ _=>False
theorem Cx.Ok.wish{X:Cx}(ok:X.Ok)(E:Value->Shared->Prop):(X.wish E).Ok :=
 ⟨ok.mod,ok.kind,ok.glob,ok.blt,ok.above,ok.inj,ok.has,ok.cab,ok.hd,ok.frames,ok.stk,ok.exf,ok.bs,ok.bsz,ok.noex,ok.exfs,ok.funs,ok.frf⟩
theorem Cx.Ok.unwish{X:Cx}{E:Value->Shared->Prop}(ok:(X.wish E).Ok):X.Ok :=
 ⟨ok.mod,ok.kind,ok.glob,ok.blt,ok.above,ok.inj,ok.has,ok.cab,ok.hd,ok.frames,ok.stk,ok.exf,ok.bs,ok.bsz,ok.noex,ok.exfs,ok.funs,ok.frf⟩
section
variable{X:Cx}{pins:List (Addr×Obj)}{σ:St}{H:Hp}{s:Shared}{E:Value->Shared->Prop}
theorem Inv.wish(I:Inv X pins σ H s)(E:Value->Shared->Prop):Inv (X.wish E) pins σ H s:=⟨I.ok.wish E,I.os,I.bare,I.base,I.loc,I.cell,I.free,I.freeC,I.pin,I.hok,I.len⟩
theorem Inv.unwish(I:Inv (X.wish E) pins σ H s):Inv X pins σ H s:=⟨I.ok.unwish,I.os,I.bare,I.base,I.loc,I.cell,I.free,I.freeC,I.pin,I.hok,I.len⟩
theorem SP.unwish{D:Ends}{f:Flow}{s':Shared}(h:SP (X.wish E) pins D f s'):SP X pins D f s':=by
 cases f with
 | next=>obtain⟨σ',H',I,q⟩:=h;exact⟨σ',H',I.unwish,q⟩
 | brk=>obtain⟨σ',H',I,q⟩:=h;exact⟨σ',H',I.unwish,q⟩
 | cont=>obtain⟨σ',H',I,q⟩:=h;exact⟨σ',H',I.unwish,q⟩
 | ret u=>obtain⟨v,σ',H',I,r,q⟩:=h;exact⟨v,σ',H',I.unwish,r,q⟩
theorem PSs.nox{st:List Stmt}{t:TS}(h:PSs X.nox st t):PSs X st t:=fun pins s σ H D I hw =>
 BP (h pins s σ H D (I.wish _) hw) (fun _ _ q=>q.unwish) fun _ _ z=>False.elim z
end
section
variable{X:Cx}{st:Stmt}{rest:List Stmt}{t u:TS}{e:Expr}{te:TE}{pos:Pos}
def Tv:TS:=fun D σ H=>D.nx σ H
def Sx(t u:TS):TS:=fun D σ H=>t { D with nx:=u D } σ H
theorem C5:PSs X [] Tv:=fun _ _ σ H _ I h=>EZ ⟨σ,H,I,h⟩
theorem B0(h1:PS X st t)(h2:PSs X rest u):PSs X (st::rest) (Sx t u):=by
 intro pins s σ H D I h;refine wpAny_execs_cons (thn (h1 pins s σ H { D with nx:=u D } I h) fun f s1 q=>?_);cases f with
 | next =>
  obtain⟨σ',H',I',q⟩:=q;exact h2 pins s1 σ' H' D I' q
 | ret v=>exact q
 | brk=>exact q
 | cont=>exact q
theorem B2(h1:PS X st t):PSs X [st] t:=by
 intro pins s σ H D I h;refine wpAny_execs_cons (thn (h1 pins s σ H D I h) fun f s1 q=>?_);cases f with
 | next=>exact EZ q
 | ret v=>exact q
 | brk=>exact q
 | cont=>exact q
theorem Inv.quiet{pins:List (Addr×Obj)}{σ:St}{H:Hp}{s:Shared}(I:Inv X pins σ H s):interactive X.env=false:=by simp[interactive,I.ok.kind]
def To(te:TE):TS:=fun D σ H=>te σ H fun _ H1=>D.nx σ H1
theorem K4(he:PE X e te)(hs:swapsWith e none pos.line X.env=pure false:=by rfl):PS X (.Expr e pos) (To te):=by
 intro pins s σ H D I h;exact wpAny_Expr_any (thn (he pins s σ H _ I h) fun v s1 ⟨x,H1,I1,r1,q1⟩=>⟨σ,H1,I1,q1⟩) I.quiet hs
def Vl(te:TE):TS:=fun D σ H=>te σ H D.rt
theorem B9(he:PE X e te):PS X (.Return (some e) pos) (Vl te):=by
 intro pins s σ H D I h;exact wpAny_Return_some (thn (he pins s σ H _ I h) fun v s1 ⟨x,H1,I1,r1,q1⟩=>⟨x,σ,H1,I1,r1,q1⟩)
def Vf(c:TT)(t u:TS):TS:=fun D σ H=>c σ H fun b H1=>if b=true then t D σ H1 else u D σ H1
theorem E7{c:Expr}{a b:List Stmt}{tc:TT}(hc:PT X c tc)(ha:PSs X a t)(hb:PSs X b u):PS X (.If c a b pos) (Vf tc t u):=by
 intro pins s σ H D I h;refine wpAny_If (thn (hc pins s σ H _ I h) fun d s1 ⟨H1,I1,q1⟩=>?_);cases d with
 | true=>exact ha pins s1 σ H1 D I1 q1
 | false=>exact hb pins s1 σ H1 D I1 q1
def Qu:TS:=fun _ _ _=>False
theorem Ef:PS X st Qu:=fun _ _ _ _ _ _ h=>h.elim
end
abbrev TG:=V->St->Hp->(St->Hp->Prop)->Prop
abbrev TGs:=List V->St->Hp->(St->Hp->Prop)->Prop
def PG(X:Cx)(target:Expr)(t:TG):Prop :=
 ∀(pins:List (Addr×Obj)) (s:Shared) (σ:St) (H:Hp) (v:V) (u:Value) (Q:St->Hp->Prop),Inv X pins σ H s->RelV v u->t v σ H Q ->
  wpAny (model X.prog X.w) X.A (assign target X.env u) (fun _ s'=>∃σ' H',Inv X pins σ' H' s'/\Q σ' H') X.xe s
def PGs(X:Cx)(ts:List Expr)(t:TGs):Prop :=
 ∀(pins:List (Addr×Obj)) (s:Shared) (σ:St) (H:Hp) (vs:List V) (us:List Value) (Q:St->Hp->Prop),Inv X pins σ H s->Vals vs us->t vs σ H Q ->
  wpAny (model X.prog X.w) X.A (assignInOrder ((assignEach ts X.env).map (·.2)) us) (fun _ s'=>∃σ' H',Inv X pins σ' H' s'/\Q σ' H') X.xe s
abbrev TSet:=V->V->V->Hp->(Hp->Prop)->Prop
def Ud(X:Cx)(t:TSet):Prop :=
 ∀(pins:List (Addr×Obj)) (s:Shared) (σ:St) (H:Hp) (o i v:V) (ov iv u:Value) (Q:Hp->Prop),Inv X pins σ H s->RelV o ov->RelV i iv->RelV v u->t o i v H Q ->
  wpAny (model X.prog X.w) X.A (setItem ov iv u) (fun _ s'=>∃H',Inv X pins σ H' s'/\Q H') X.xe s
section
variable{X:Cx}{pos:Pos}
def w6(i:Nat):TG:=fun v σ H Q=>Q (σ.set i (some v)) H
theorem D7{i:Nat}{x:Str}(hN:X.N.Nodup)(hi:X.N[i]?=some x)(hx:Loc X.env.scope x)(hf:X.fn x=true\/X.env.scope.names.lookup x=some .local:=by first | exact .inl rfl | exact .inr rfl | assumption):PG X (.Name x pos) (w6 i):=by
 intro pins s σ H v u Q I r h;exact wpAny_assign_Name (O8 I hN hi hx r (fun s' I'=>⟨_,H,I',h⟩) hf)
def Vn:TGs:=fun vs σ H Q=>vs = []/\Q σ H
def Ti(t:TG)(u:TGs):TGs:=fun vs σ H Q=>∃v r,vs=v::r/\t v σ H fun σ' H'=>u r σ' H' Q
theorem P9:PGs X [] Vn:=by
 intro pins s σ H vs us Q I r h;obtain⟨e,h⟩:=h;subst e;cases r;exact assignInOrder_nil ⟨σ,H,I,h⟩
theorem C8{e:Expr}{es:List Expr}{t:TG}{u:TGs}(h1:PG X e t)(h2:PGs X es u)
  (hs:(assignEach (e::es) X.env).map (·.2)=assign e X.env ::(assignEach es X.env).map (·.2):=by rfl):PGs X (e::es) (Ti t u):=by
 intro pins s σ H vs us Q I r h;obtain⟨v,vr,e1,h⟩:=h;subst e1;cases r with
 | cons r rr =>
  rw[hs];refine assignInOrder_cons (thn (h1 pins s σ H _ _ _ I r h) fun _ s1 ⟨σ1,H1,I1,q1⟩=>?_);exact h2 pins s1 σ1 H1 _ _ Q I1 rr q1
def Uj(K:PySem.W.Frag)(n:Nat)(t:TGs):TG:=fun v σ H Q=>∃a xs,v = .ref a/\SqT K H a xs/\xs.length=n/\t xs σ H Q
theorem Rj{es:List Expr}{k:Nat}{t:TGs}{n:Nat}(hc:X.calm=true)(h:PGs X es t)
  (hn:(assignEach es X.env).length=n:=by rfl) (hst:(assignEach es X.env).findIdx? (·.1)=none:=by rfl):PG X (.Tuple es k pos) (Uj X.K n t):=by
 intro pins s σ H v u Q I r hw;obtain⟨a,xs,e1,hq,hl,hw⟩:=hw;subst e1;cases r;obtain⟨its,rv,ht,hz⟩:=I.tuple hq;refine assign_Tuple_tuple (I.ok.hd hc) ht (by simp[hn,<-hl,rv.length]) hst fun h' hx=>?_;have I1:Inv X pins σ H { s with heap:=h' }:=I.kept (t':=s.toks) fun b o e=>hx b o (AQ (AF e)) e;exact h pins _ σ H xs _ Q I1 (by simpa using rv) hw
def Vh(to ti:TE)(t:TSet):TG:=fun v σ H Q=>to σ H fun o H1=>ti σ H1 fun i H2=>t o i v H2 fun H3=>Q σ H3
theorem Ji{o i:Expr}{to ti:TE}{t:TSet}(ho:PE X o to)(hi:PE X i ti)(hs:Ud X t)
  (ha:∀v,assign (.Subscript o i pos) X.env v =(do
   let ov <-holding [v] (eval o X.env)
   let iv <-holding [v,ov] (eval i X.env)
   standAt pos
   holding [v,ov,iv] (setItem ov iv v)
   release [v,ov,iv] []):=by intro _;rfl):PG X (.Subscript o i pos) (Vh to ti t):=by
 intro pins s σ H v u Q I r h;rw[ha];refine AA (BT (thn (ho pins s σ H _ I h) fun ov s1 ⟨x,H1,I1,r1,q1⟩=>?_));refine AA (BT (thn (hi pins s1 σ H1 _ I1 q1) fun iv s2 ⟨y,H2,I2,r2,q2⟩=>?_));refine AA (DW (AA (BT (thn (hs pins s2 σ H2 x y v ov iv u _ I2 r1 r2 r q2) fun _ s3 ⟨H3,I3,q3⟩=>?_))));exact wpAny_release ⟨σ,H3,I3,q3⟩
def Sv(te:TE)(g:TG):TS:=fun D σ H=>te σ H fun x H1=>g x σ H1 D.nx
theorem Fc{tg e:Expr}{te:TE}{g:TG}(he:PE X e te)(hg:PG X tg g)(hs:swapsWithSole [tg] e pos.line X.env=pure false:=by rfl)(hw:swappedStores [tg] e X.env=pure none:=by rfl)
  (h1:(assignEach [tg] X.env).map (·.2) = [assign tg X.env]:=by rfl):PS X (.Assign [tg] e pos) (Sv te g):=by
 intro pins s σ H D I h;refine wpAny_Assign_stores (thn (he pins s σ H _ I h) fun v s1 ⟨x,H1,I1,r1,q1⟩=>?_) hs hw;rw[h1];exact thn (hg pins s1 σ H1 x v _ I1 r1 q1) fun _ s2 q=>q
theorem C3{i:Nat}{x:Str}{e:Expr}{te:TE}{pos':Pos}(hN:X.N.Nodup)(hi:X.N[i]?=some x)(hx:Loc X.env.scope x)(he:PE X e te)(hs:swapsWith e (some (.Name x pos')) pos.line X.env=pure false:=by rfl)(hf:X.fn x=true\/X.env.scope.names.lookup x=some .local:=by first | exact .inl rfl | exact .inr rfl | assumption) :
  PS X (.Assign [.Name x pos'] e pos) (Sv te (w6 i)):=by
 intro pins s σ H D I h;refine wpAny_Assign_Name (thn (he pins s σ H _ I h) fun v s1 ⟨y,H1,I1,r1,q1⟩=>?_) hs;exact O8 I1 hN hi hx r1 (fun s2 I2=>⟨_,H1,I2,q1⟩) hf
def Uu(i j:Nat)(ta:TA):TS:=fun D σ H=>ta σ H fun vs H1=>∃v w,vs = [v,w]/\D.nx ((σ.set i (some v)).set j (some w)) H1
theorem Se{i j:Nat}{x y:Str}{a b:Expr}{ta:TA}{px py pt:Pos}{kt k2 pt2}(hc:X.calm=true)(hN:X.N.Nodup)(hi:X.N[i]?=some x)(hj:X.N[j]?=some y)(hij:i≠j)
  (hx:X.env.scope.names.lookup x=some .local) (hy:X.env.scope.names.lookup y=some .local) (ha:PA X [a,b] ta)
  (hw:swappedStores [.Tuple [.Name x px,.Name y py] kt pt] (.Tuple [a,b] k2 pt2) X.env=pure (some [x,y]))
  (hs:swapsWithSole [.Tuple [.Name x px,.Name y py] kt pt] (.Tuple [a,b] k2 pt2) pos.line X.env=pure false:=by rfl) :
  PS X (.Assign [.Tuple [.Name x px,.Name y py] kt pt] (.Tuple [a,b] k2 pt2) pos) (Uu i j ta):=by
 intro pins s σ H D I h;rw[exec_Assign_arm];refine AA (DW ?_);rw[hs];refine AA (AD ?_);rw[AU (by decide)];refine AA (Tuple_ (thn (ha _ pins s σ H _ I h) fun us s1 ⟨vs,H1,I1,r1,q1⟩=>?_));obtain⟨v,w,e1,q1⟩:=q1;subst e1;obtain⟨u1,u2,rfl,rv,rw'⟩:∃u1 u2,us = [u1,u2]/\RelV v u1/\RelV w u2:=by
  cases r1 with
  | cons p q =>
   cases q with
   | cons p' q' =>
    cases q';exact⟨_,_,rfl,p,p'⟩
 refine EI ?_ (by show 2<=sizeLine;decide);have I2:Inv X pins σ H1 { s1 with heap:=s1.heap.push { cls:=.type "tuple",data:=.seq [u1,u2].toArray } }:=I1.kept (t':=s1.toks) fun b o e=>AC _ e;rw[hw];refine AA (AD ?_);show wpAny (model X.prog X.w) X.A (do rule "assign.swapped-stores";let items <-unpackItems (.ref s1.heap.objs.size) 2 none;assignInOrder [fun v=>bindName X.env y v,fun v=>bindName X.env x v] items.reverse;pure Flow.next) _ _ _;refine AA (CM (AA (unpackItems_tuple (items:=#[u1,u2]) (I.ok.hd hc) (IsTup.new s1.heap _) fun h' hx'=>?_)));have I3:=I2.kept (h':=h') (t':=s1.toks) fun b o e=>hx' b o (AQ (AF e)) e;show wpAny _ _ (assignInOrder [fun v=>bindName X.env y v,fun v=>bindName X.env x v] [u2,u1] >>= fun _=>pure Flow.next) _ _ _;refine AA (assignInOrder_cons (wpAny_bindName (O8 I3 hN hj (.inl hy) rw' (fun s2 I4=>?_) (.inr hy))));refine assignInOrder_cons (wpAny_bindName (O8 I4 hN hi (.inl hx) rv (fun s3 I5=>assignInOrder_nil (AD ?_)) (.inr hx)));rw[List.set_comm _ _ (Ne.symm hij)]at I5;exact⟨_,H1,I5,q1⟩
end
structure It where
 go:Nat->Hp->Prop
 yld:Nat->Hp->V->Hp->Prop
 stop:Nat->Hp->Prop
def Al(X:Cx)(pins:List (Addr×Obj))(H:Hp)(b:Addr):Prop :=
 H b=none/\b≠X.env.locals/\b∉X.fs/\(b∈X.ex\/X.s₀.heap.objs.size<=b)/\(∀x c,X.env.cells.lookup x=some c->c≠b)/\∀p∈X.pn++pins,p.1≠b
theorem Inv.fpOk{X:Cx}{pins:List (Addr×Obj)}{σ:St}{H H':Hp}{s:Shared}{b:Addr}(I:Inv X pins σ H s)(hb:s.heap.objs.size<=b)(hn:H' b=none):Al X pins H' b:=by
 refine⟨hn,Nat.ne_of_gt (BG I.lt hb),I.nofs hb,.inr (Nat.le_trans I.sz hb),fun x c e z=>?_,fun p hp z=>?_⟩
 .obtain⟨v,q⟩:=I.cell x c e;exact absurd (BG q.lt (by rw[z];exact hb)) (DK _)
 .exact absurd (BG (AF (I.pin p hp).1) (by rw[z];exact hb)) (DK _)
structure Turn(P:Program)(w:World)(K:PySem.W.Frag)(tg:Expr)(J:It)(fp:List Addr)(it:Addr)(tn:Nat->Heap->Prop):Prop where
 mem:it∈fp
 obj:∀i h,tn i h->∀b∈fp,∃o,h.get? b=some o/\∀v,o.data≠ .cell v
 keep:∀i h h',tn i h->(∀b∈fp,∀o,h.get? b=some o->h'.get? b=some o)->tn i h'
 item:∀(X:Cx),X.prog=P->X.w=w->X.K=K->X.calm=true->∀(i:Nat) (pins:List (Addr×Obj)) (s:Shared) (σ:St) (H:Hp) (E:Value->Shared->Prop),Inv X pins σ H s->(∀b∈fp,Al X pins H b)->tn i s.heap->J.go i H ->
  wpAny (model P w) X.A (pyNext (.ref it)) (fun r s1=>∃u,r=some u /\
   wpAny (model P w) X.A (letOwnedTupleGo tg (.ref it) u) (fun _ s2=>∃x H',Inv X pins σ H' s2/\RelV x u/\J.yld i H x H'/\tn (i+1) s2.heap/\∀b∈fp,H' b=none) E s1) E s
 done:∀(X:Cx),X.prog=P->X.w=w->X.K=K->X.calm=true->∀(i:Nat) (pins:List (Addr×Obj)) (s:Shared) (σ:St) (H:Hp) (E:Value->Shared->Prop),Inv X pins σ H s->(∀b∈fp,Al X pins H b)->tn i s.heap->J.stop i H ->
  wpAny (model P w) X.A (pyNext (.ref it)) (fun r s1=>r=none/\Inv X pins σ H s1) E s
 self:∀(A:Around) (i:Nat) (s:Shared) (Q:Value->Shared->Prop) (E:Value->Shared->Prop),tn i s.heap->Q (.ref it) s->wpAny (model P w) A (pyIter (.ref it)) Q E s
abbrev TI:=St->Hp->(It->Hp->Prop)->Prop
def PIE(X:Cx)(pins:List (Addr×Obj))(σ:St)(tg:Expr)(R:It->Hp->Prop)(itv:Value)(s2:Shared):Prop :=
 ∃(it:Addr) (fp:List Addr) (tn:Nat->Heap->Prop) (J:It) (H':Hp),itv = .ref it/\Inv X pins σ H' s2/\Turn X.prog X.w X.K tg J fp it tn/\tn 0 s2.heap/\(∀b∈fp,Al X pins H' b)/\R J H'
def PI(X:Cx)(tg iter:Expr)(wi:TI):Prop :=
 ∀(pins:List (Addr×Obj)) (s:Shared) (σ:St) (H:Hp) (R:It->Hp->Prop),Inv X pins σ H s->wi σ H R ->
  wpAny (model X.prog X.w) X.A (eval iter X.env) (fun v s1=>wpAny (model X.prog X.w) X.A (pyIter v) (PIE X pins σ tg R) X.xe s1) X.xe s
theorem Oz{M:Model}{A:Around}{E:Value->Shared->Prop}{s:Shared}{tg:Expr}{it:Addr}{u:Value}{o:Obj}{n:String}{vs:Array Value}{Q:Unit->Shared->Prop}(ho:s.heap.get? it=some o)(hc:o.cls = .type n)(hd:o.data = .fields vs)
    (hn:["enumerate", "zip", "dict_itemiterator", "dict_reverseitemiterator", "odict_iterator", "itertools.zip_longest", "itertools.pairwise"].contains n=false) (hQ:Q () s):wpAny M A (letOwnedTupleGo tg (.ref it) u) Q E s:=by
  unfold letOwnedTupleGo;cases tg<;>first
    | exact AD hQ
    | (cases u<;>first
        | exact AD hQ
        | (refine AA (wpAny_load ho ?_)
           rw[hc,hd];show wpAny M A (if(["enumerate", "zip", "dict_itemiterator", "dict_reverseitemiterator", "odict_iterator", "itertools.zip_longest", "itertools.pairwise"].contains n&&vs[0]? == some (rawInt _))=true then _ else _) Q E s;rw[AU (by intro h;rw[hn,FI]at h;cases h)];exact AD hQ))
def Itl(K:PySem.W.Frag)(a:Addr):It :=
 ⟨fun i H=>∃xs x,SqL K H a xs/\xs[i]?=some x,fun i H x H'=>H'=H/\∀xs,SqL K H a xs->xs[i]?=some x,fun i H=>∃xs,SqL K H a xs/\xs.length<=i⟩
def Itr(lo:Int)(n:Nat):It:=⟨fun i _=>i<n,fun i H x H'=>H'=H/\x = .int (lo+i),fun i _=>n<=i⟩
theorem Gs{P:Program}{w:World}{K:PySem.W.Frag}{tg:Expr}(a it:Addr):Turn P w K tg (Itl K a) [it] it (fun i h=>h.IsListIter it a i) where
 mem:=by simp
 obj:=fun i h st b hb=>by
  have e:b=it:=by simpa using hb
  subst e;obtain⟨o,e,c,d⟩:=st;exact⟨o,e,fun v z=>by rw[d]at z;cases z⟩
 keep:=fun i h h' st k=>st.at fun o e=>k it (by simp) o e
 item:=by
  intro X hP hw hK hc i pins s σ H E I hf st hg;subst hP hw hK;obtain⟨xs,x,hq,hx⟩:=hg;obtain⟨its,rv,p,hz⟩:=I.list hq;obtain⟨u,hu,ru⟩:=rv.get hx;obtain⟨f0,f1,f2,f3,f4,f5⟩:=hf it (by simp);refine wpAny_pyNext_list_item st p.isList (x:=u) (by simpa using hu) fun h' st' sb=>?_;have I1:Inv X pins σ H { s with heap:=h' }:=I.turned (t':=s.toks) (fun b o hb e=>(sb.2 b hb).trans e) f0 f1 f3 f4 f5;obtain⟨o,e,c,d⟩:=id st';exact⟨u,rfl,Oz (s:={ s with heap:=h' }) e c d (by decide) ⟨x,H,I1,ru,⟨rfl,fun ys hy=>by rw[I.list_inj hy hq];exact hx⟩,st',fun b hb=>(hf b hb).1⟩⟩
 done:=by
  intro X hP hw hK hc i pins s σ H E I hf st hg;subst hP hw hK;obtain⟨xs,hq,hx⟩:=hg;obtain⟨its,rv,p,hz⟩:=I.list hq;obtain⟨f0,f1,f2,f3,f4,f5⟩:=hf it (by simp);have hl:=rv.length;exact wpAny_pyNext_list_end (I.ok.hd hc) st p.isList (by simp;omega) fun h' eb=>⟨rfl,I.turned (t':=s.toks) (fun b o hb e=>eb b o hb e) f0 f1 f3 f4 f5⟩
 self:=fun _ _ _ _ _ st h=>wpAny_pyIter_listiter st h
theorem Fx{P:Program}{w:World}{K:PySem.W.Frag}{tg:Expr}(it:Addr)(lo:Int)(n:Nat):Turn P w K tg (Itr lo n) [it] it (fun i h=>IsRangeIter h it (lo +(i:Nat)*1) ((n:Int)-(i:Nat)) 1) where
 mem:=by simp
 obj:=fun i h st b hb=>by
  have e:b=it:=by simpa using hb
  subst e;exact⟨_,st,fun v z=>by
   have z':Data.fields _=Data.cell v:=z;cases z'⟩
 keep:=fun i h h' st k=>k it (by simp) _ st
 item:=by
  intro X hP hw hK hc i pins s σ H E I hf st hg;subst hP hw hK;obtain⟨f0,f1,f2,f3,f4,f5⟩:=hf it (by simp);have W:=Walks.range (prog:=X.prog) (w:=X.w) (I.ok.hd hc) it lo 1 n;refine W.item i s _ _ hg st fun v h' tk hv st' kk=>?_;obtain⟨t,rfl⟩:=hv;have I1:Inv X pins σ H { s with heap:=h',toks:=tk }:=I.turned (fun b o hb e=>kk b o (by simpa using hb) e) f0 f1 f3 f4 f5;refine⟨_,rfl,Oz (s:={ s with heap:=h',toks:=tk }) (n := "range_iterator") st' rfl rfl (by decide) ⟨.int (lo+i),H,I1,⟨t,?_⟩,⟨rfl,rfl⟩,st',fun b hb=>(hf b hb).1⟩⟩;rw[Int.mul_one]
 done:=by
  intro X hP hw hK hc i pins s σ H E I hf st hg;subst hP hw hK;obtain⟨f0,f1,f2,f3,f4,f5⟩:=hf it (by simp);exact wpAny_pyNext_range_end (I.ok.hd hc) st (by have:n<=i:=hg;omega) fun h' eb=>⟨rfl,I.turned (t':=s.toks) (fun b o hb e=>eb b o hb e) f0 f1 f3 f4 f5⟩
 self:=fun _ _ _ _ _ st h=>wpAny_pyIter_rangeiter st h
section
variable{X:Cx}{tg:Expr}
def Ro(K:PySem.W.Frag)(tl:TE):TI:=fun σ H R=>tl σ H fun x H1=>∃a,x = .ref a/\(∃xs,SqL K H1 a xs)/\R (Itl K a) H1
theorem Pa{l:Expr}{tl:TE}(hl:PE X l tl):PI X tg l (Ro X.K tl):=by
 intro pins s σ H R I h;refine thn (hl pins s σ H _ I h) fun v s1 ⟨x,H1,I1,r1,q1⟩=>?_;obtain⟨a,e,⟨xs,hq⟩,q⟩:=q1;subst e;cases r1;obtain⟨its,rv,p,hz⟩:=I1.list hq;refine FJ p.isList ?_;refine⟨s1.heap.objs.size,[s1.heap.objs.size],_,_,H1,rfl,I1.kept (t':=s1.toks) fun b o e=>AC _ e,Gs a _,⟨_,AZ _ rfl,rfl,rfl⟩,fun b hb=>?_,q⟩;have e:b=s1.heap.objs.size:=by simpa using hb
 subst e;exact I1.fpOk (Nat.le_refl _) (I1.hok.fresh (Nat.le_refl _))
theorem Lz{pins:List (Addr×Obj)}{σ:St}{H:Hp}{s:Shared}{R:It->Hp->Prop}{E:Value->Shared->Prop}{lo hi:Int}{t u v:Tok}{tk:Nat}(I:Inv X pins σ H s)(h1:-(2^62)<=lo)(h2:lo<2^62)(h3:-(2^62)<=hi)(h4:hi<2^62)
  (q:R (Itr lo (hi-lo).toNat) H):wpAny (model X.prog X.w) X.A (pyIter (.ref s.heap.objs.size)) (PIE X pins σ tg R) E { s with heap:=s.heap.push { cls:=.type "range",data:=.fields #[.int lo t,.int hi u,.int 1 v] },toks:=tk }:=by
 refine wpAny_pyIter_range (IsRange.new ..) (small_one h1 h2 h3 h4) ?_;have I1:Inv X pins σ H { s with heap:=s.heap.push { cls:=.type "range",data:=.fields #[.int lo t,.int hi u,.int 1 v] },toks:=tk }:=I.kept fun b o e=>AC _ e;refine⟨(s.heap.push { cls:=.type "range",data:=.fields #[.int lo t,.int hi u,.int 1 v] }).objs.size,[(s.heap.push { cls:=.type "range",data:=.fields #[.int lo t,.int hi u,.int 1 v] }).objs.size],_,_,H,rfl,
  I1.kept (t':=tk) fun b o e=>AC _ e,Fx _ lo (hi-lo).toNat,?_,fun b hb=>?_,q⟩
 .have e1:lo +((0:Nat):Int)*1=lo:=by simp
  have e2:(((hi-lo).toNat:Nat):Int)-((0:Nat):Int)=Builtin.Range.rangeSize lo hi 1:=by rw[rangeSize_one];split<;>omega
  show IsRangeIter _ _ (lo +((0:Nat):Int)*1) ((((hi-lo).toNat:Nat):Int)-((0:Nat):Int)) 1;rw[e1,e2];exact AZ _ rfl
 .have e:b =(s.heap.push { cls:=.type "range",data:=.fields #[.int lo t,.int hi u,.int 1 v] }).objs.size:=by simpa using hb
  subst e;exact I1.fpOk (Nat.le_refl _) (I1.hok.fresh (Nat.le_refl _))
def Ru(ta:TA):TI:=fun σ H R=>ta σ H fun vs H1=>∃j:Int,vs = [.int j]/\-(2^62)<=j/\j<2^62/\R (Itr 0 j.toNat) H1
theorem Ho{a:Expr}{ta:TA}{p pos:Pos}(hg:Gl X "range")(hm:X.mg "range" = none)(ha:PA X [a] ta)(hs:starEach [a] X.env = [(false,eval a X.env)]:=by rfl):PI X tg (.Call (.Name "range" p) [a] [] pos) (Ru ta):=by
 intro pins s σ H R I h;refine Call_ (X8 I hg hm boot_range (PyProof.Rows.callWith_type1 (thn (ha pos pins s σ H _ I h) fun us s1 ⟨vs,H1,I1,r1,q1⟩=>?_) hs rfl));obtain⟨j,e,q1,q2,q⟩:=q1;subst e;cases r1 with
 | cons r rr =>
  cases rr;obtain⟨t,rfl⟩:=r;exact call_range_1 (Lz I1 (by omega) (by omega) q1 q2 (by simpa using q))
def Vq(wi:TI)(g:TG)(tb:TS):TS:=fun D σ H=>wi σ H fun J H1=>∃W:Nat->Nat->St->Hp->Prop,(∃m,W 0 m σ H1)/\∀i m σ H,W i m σ H ->
 (J.stop i H/\D.nx σ H)\/(J.go i H/\∃N:St->Hp->Prop,(∀σ' H',N σ' H'->∃m',m' < m/\W (i+1) m' σ' H')/\∀x H',J.yld i H x H'->g x σ H' fun σ2 H2=>tb { D with nx:=N,ct:=N,bk:=D.nx } σ2 H2)
def Bz(fp:List Addr)(h:Heap):List (Addr×Obj):=fp.filterMap fun b=>(h.get? b).map fun o=>(b,o)
theorem P1{fp:List Addr}{h:Heap}{b:Addr}{o:Obj}(hb:b∈fp)(e:h.get? b=some o):(b,o)∈Bz fp h:=List.mem_filterMap.mpr ⟨b,hb,by rw[e];rfl⟩
theorem Iz{fp:List Addr}{h:Heap}{p:Addr×Obj}(hp:p∈Bz fp h):p.1∈fp/\h.get? p.1=some p.2:=by
 obtain⟨b,hb,e⟩:=List.mem_filterMap.mp hp;cases q:h.get? b with
 | none=>rw[q]at e;cases e
 | some o =>
  rw[q]at e;have e':(b,o)=p:=BU e;subst e';exact⟨hb,q⟩
theorem Inv.pinned{pins:List (Addr×Obj)}{σ:St}{H:Hp}{s:Shared}{fp:List Addr}(I:Inv X pins σ H s)(hf:∀b∈fp,Al X pins H b)(ho:∀b∈fp,∃o,s.heap.get? b=some o/\∀v,o.data≠ .cell v):Inv X (pins++Bz fp s.heap) σ H s :=
 I.pins_of fun p hp=>(AV.mp hp).elim (fun z=>I.pin p (BM _ z)) fun z=>by
  obtain⟨hb,e⟩:=Iz z;obtain⟨f0,f1,f2,_⟩:=hf p.1 hb;obtain⟨o,e',d⟩:=ho p.1 hb;rw[e]at e';cases e';exact⟨e,f0,f1,f2,d⟩
theorem Inv.unpinned{pins pl:List (Addr×Obj)}{σ:St}{H:Hp}{s:Shared}(I:Inv X (pins++pl) σ H s):Inv X pins σ H s:=I.pins_of fun p hp=>I.pin p (BM _ (DU _ hp))
theorem P4{iter:Expr}{body:List Stmt}{wi:TI}{g:TG}{tb:TS}{pos:Pos}(hp:PassesOwn (model X.prog X.w) X.A X.env X.xe)(hc:X.calm=true)(hi:PI X tg iter wi)(hg:PG X tg g)(hb:PSs X body tb)
  (hs:∀x,foldedSetIterable iter X.env x=pure x:=by intro _;rfl):PS X (.For tg iter body [] pos) (Vq wi g tb):=by
 intro pins s σ H D I h;refine wpAny_For (thn (hi pins s σ H _ I h) fun v s1 h1=>thn h1 fun itv s2 h2=>?_) hs;obtain⟨it,fp,tn,J,H2,e,I2,T,st2,f2,W,⟨m0,w0⟩,turn⟩:=h2;subst e;have stat:∀{H':Hp},(∀b∈fp,H' b=none)->∀b∈fp,Al X pins H' b:=fun hn b hb=>⟨hn b hb,(f2 b hb).2⟩;refine codeAny_forLoop_any (fun n s'=>∃i σ' H',Inv X pins σ' H' s'/\tn i s'.heap/\(∀b∈fp,H' b=none)/\W i n σ' H') ?_ m0 ⟨0,σ,H2,I2,st2,fun b hb=>(f2 b hb).1,w0⟩;rintro n s3 ⟨i,σ3,H3,I3,st3,fr3,w3⟩;rcases turn i n σ3 H3 w3 with⟨stop,qn⟩ | ⟨go,N,hN,step⟩
 .refine E_ hp (thn (T.done X rfl rfl rfl hc i pins s3 σ3 H3 X.xe I3 (stat fr3) st3 stop) fun r s4 ⟨hr,I4⟩=>?_);subst hr;exact EZ ⟨σ3,H3,I4,qn⟩
 .refine E_ hp (thn (T.item X rfl rfl rfl hc i pins s3 σ3 H3 X.xe I3 (stat fr3) st3 go) fun r s4 ⟨u,hr,h4⟩=>?_);subst hr;refine E_ hp (thn h4 fun _ s5 ⟨x,H5,I5,r5,y5,st5,fr5⟩=>?_);have I5':=I5.pinned (stat fr5) (T.obj _ _ st5);refine E_ hp (thn (hg _ s5 σ3 H5 x u _ I5' r5 (step x H5 y5)) fun _ s6 ⟨σ6,H6,I6,q6⟩=>?_);refine E_ hp (thn (hb _ s6 σ6 H6 _ I6 q6) fun f s7 q7=>?_);have again:∀{σ7:St} {H7:Hp},Inv X (pins++Bz fp s5.heap) σ7 H7 s7->N σ7 H7->∃m,m<n/\∃i σ' H',Inv X pins σ' H' s7/\tn i s7.heap/\(∀b∈fp,H' b=none)/\W i m σ' H':=fun{σ7 H7} I7 n7=>by
   obtain⟨m',hm,w7⟩:=hN σ7 H7 n7;refine⟨m',hm,i+1,σ7,H7,I7.unpinned,T.keep _ _ _ st5 fun b hb o e=>(I7.pin (b,o) (BM _ (BM _ (P1 hb e)))).1,fun b hb=>?_,w7⟩;obtain⟨o,e,d⟩:=T.obj _ _ st5 b hb;exact(I7.pin (b,o) (BM _ (BM _ (P1 hb e)))).2.1
  cases f with
  | next=>obtain⟨σ7,H7,I7,n7⟩:=q7;exact again I7 n7
  | cont=>obtain⟨σ7,H7,I7,n7⟩:=q7;exact again I7 n7
  | brk=>obtain⟨σ7,H7,I7,q7⟩:=q7;exact⟨σ7,H7,I7.unpinned,q7⟩
  | ret v=>obtain⟨x7,σ7,H7,I7,r7,q7⟩:=q7;exact⟨x7,σ7,H7,I7.unpinned,r7,q7⟩
end
theorem Im{lo:Int}{n:Nat}{g:TG}{tb:TS}{D:Ends}{σ:St}{H:Hp}(Pv:Nat->St->Hp->Prop)(h0:Pv 0 σ H)
  (hs:∀i σ H,i<n->Pv i σ H->g (.int (lo+i)) σ H fun σ2 H2=>tb { D with nx:=Pv (i+1),ct:=Pv (i+1),bk:=D.nx } σ2 H2) (hd:∀σ H,Pv n σ H->D.nx σ H) :
  ∃W:Nat->Nat->St->Hp->Prop,(∃m,W 0 m σ H)/\∀i m σ H,W i m σ H ->
   ((Itr lo n).stop i H/\D.nx σ H)\/((Itr lo n).go i H/\∃N:St->Hp->Prop,(∀σ' H',N σ' H'->∃m',m' < m/\W (i+1) m' σ' H')/\∀x H',(Itr lo n).yld i H x H'->g x σ H' fun σ2 H2=>tb { D with nx:=N,ct:=N,bk:=D.nx } σ2 H2):=by
 refine⟨fun i m σ H=>m=n-i/\i<=n/\Pv i σ H,⟨n,by simp,CW _,h0⟩,?_⟩;rintro i m σ H ⟨rfl,hi,p⟩;by_cases hlt:i<n
 .refine .inr ⟨hlt,Pv (i+1),fun σ' H' p'=>⟨n-(i+1),by omega,rfl,hlt,p'⟩,fun x H' y=>?_⟩;obtain⟨e,y⟩:=y;subst e y;exact hs i σ _ hlt p
 .have e:i=n:=by omega
  subst e;exact .inl ⟨Nat.le_refl _,hd σ H p⟩
abbrev R2:=V->V->Hp->VK->Prop
def OpR(X:Cx)(f:Value->Value->Sem Value)(r:R2):Prop :=
 ∀(pins:List (Addr×Obj)) (s:Shared) (σ:St) (H:Hp) (x y:V) (v u:Value) (Q:VK),Inv X pins σ H s->RelV x v->RelV y u->r x y H Q ->
  wpAny (model X.prog X.w) X.A (f v u) (EP X pins σ Q) X.xe s
def E3(X:Cx)(f:Value)(r:List V->Hp->VK->Prop):Prop :=
 ∀(pins:List (Addr×Obj)) (s:Shared) (σ:St) (H:Hp) (xs:List V) (us:List Value) (Q:VK),Inv X pins σ H s->Vals xs us->r xs H Q ->
  wpAny (model X.prog X.w) X.A (call f us) (EP X pins σ Q) X.xe s
def tOp(r:R2)(ta tb:TE):TE:=fun σ H Q=>ta σ H fun x H1=>tb σ H1 fun y H2=>r x y H2 Q
def rI(C:Int->Int->Prop)(g:Int->Int->V):R2:=fun x y H Q=>∃i j,x = .int i/\y = .int j/\C i j/\Q (g i j) H
def rI0(g:Int->Int->V):R2:=fun x y H Q=>∃i j,x = .int i/\y = .int j/\Q (g i j) H
section
variable{X:Cx}{a b c:Expr}{ta tb tc:TE}{pos:Pos}
theorem Tq(ha:PE X a ta)(hb:PE X b tb){pins:List (Addr×Obj)}{s:Shared}{σ:St}{H:Hp}{R:V->V->Hp->Prop}(I:Inv X pins σ H s)
  (h:ta σ H fun x H1=>tb σ H1 fun y H2=>R x y H2) {Q:Value->Shared->Prop} {f:Value->Value->Sem Value}
  (hf:∀v u s2 x y H2,Inv X pins σ H2 s2->RelV x v->RelV y u->R x y H2->wpAny (model X.prog X.w) X.A (f v u) Q X.xe s2) :
  wpAny (model X.prog X.w) X.A (eval a X.env) (fun v s₁=>wpAny (model X.prog X.w) X.A (eval b X.env) (fun u s₂=>wpAny (model X.prog X.w) X.A (f v u) Q X.xe s₂) X.xe s₁) X.xe s:=by
 refine thn (ha pins s σ H _ I h) fun v s1 ⟨x,H1,I1,r1,q1⟩=>?_;refine thn (hb pins s1 σ H1 _ I1 q1) fun u s2 ⟨y,H2,I2,r2,q2⟩=>?_;exact hf v u s2 x y H2 I2 r1 r2 q2
theorem D6{op:Operator}{r:R2}(ho:OpR X (binaryOp op) r)(ha:PE X a ta)(hb:PE X b tb):PE X (.BinOp a op b pos) (tOp r ta tb):=by
 intro pins s σ H Q I h;exact wpAny_BinOp (Tq ha hb I h fun v u s2 x y H2 I2 rx ry q=>ho pins s2 σ H2 x y v u Q I2 rx ry q)
theorem opI{f:Value->Value->Sem Value}{C:Int->Int->Prop}{g:Int->Int->Int}
  (rule:∀(i j:Int) (t u:Tok) (s:Shared) (Q:Value->Shared->Prop) (E:Value->Shared->Prop),C i j->Q (.int (g i j) s.toks) { s with toks:=s.toks+1 }->wpAny (model X.prog X.w) X.A (f (.int i t) (.int j u)) Q E s) :
  OpR X f (rI C fun i j=>.int (g i j)):=by
 intro pins s σ H x y v u Q I rx ry h;obtain⟨i,j,rfl,rfl,hc,q⟩:=h;obtain⟨t,rfl⟩:=rx;obtain⟨t',rfl⟩:=ry;exact rule i j t t' s _ _ hc ⟨.int (g i j),H,I.tok _,⟨_,rfl⟩,q⟩
theorem Ug{f:Value->Value->Sem Value}{g:Int->Int->Int}
  (rule:∀(i j:Int) (t u:Tok) (s:Shared) (Q:Value->Shared->Prop) (E:Value->Shared->Prop),Q (.int (g i j) s.toks) { s with toks:=s.toks+1 }->wpAny (model X.prog X.w) X.A (f (.int i t) (.int j u)) Q E s) :
  OpR X f (rI0 fun i j=>.int (g i j)):=by
 intro pins s σ H x y v u Q I rx ry h;obtain⟨i,j,rfl,rfl,q⟩:=h;obtain⟨t,rfl⟩:=rx;obtain⟨t',rfl⟩:=ry;exact rule i j t t' s _ _ ⟨.int (g i j),H,I.tok _,⟨_,rfl⟩,q⟩
theorem Sy{f:Value->Value->Sem Value}{g:Int->Int->Bool}
  (rule:∀(i j:Int) (t u:Tok) (s:Shared) (Q:Value->Shared->Prop) (E:Value->Shared->Prop),Q (.bool (g i j)) s->wpAny (model X.prog X.w) X.A (f (.int i t) (.int j u)) Q E s) :
  OpR X f (rI0 fun i j=>.bl (g i j)):=by
 intro pins s σ H x y v u Q I rx ry h;obtain⟨i,j,rfl,rfl,q⟩:=h;obtain⟨t,rfl⟩:=rx;obtain⟨t',rfl⟩:=ry;exact rule i j t t' s _ _ ⟨.bl (g i j),H,I,rfl,q⟩
def Vg(i j:Int):Prop:=0<j/\j<1073741824
def Uv(i j:Int):Prop:=0<=j/\j<=1000000/\i.natAbs<2^64
def CMul(i j:Int):Prop:=(-(2^64)<i/\i<2^64)\/(-(2^64)<j/\j<2^64)
theorem CMul.ok{i j:Int}(h:CMul i j):IntMulOk i j:=by
 rcases h with⟨h1,h2⟩ | ⟨h1,h2⟩
 .exact .of_left (intBits_le_64 h1 h2)
 .exact .of_right (intBits_le_64 h1 h2)
theorem M9:OpR X (binaryOp .Add) (rI0 fun i j=>.int (i+j)):=Ug fun _ _ _ _ _ _ _ q=>add_int q
theorem Ia:OpR X (binaryOp .Sub) (rI0 fun i j=>.int (i-j)):=Ug fun _ _ _ _ _ _ _ q=>sub_int q
theorem b7:OpR X (binaryOp .Mult) (rI CMul fun i j=>.int (i*j)):=opI fun _ _ _ _ _ _ _ hc q=>mul_int q hc.ok
theorem Hy:OpR X (binaryOp .FloorDiv) (rI Vg fun i j=>.int (i / j)):=opI fun i j _ _ _ _ _ hc q=>by
 have h1:(0:Int)<j:=hc.1;have h2:j<1073741824:=hc.2;exact floordiv_int (by omega) (by rw[Int.fdiv_eq_ediv_of_nonneg i (by omega)];exact q) (.inl (PyProof.noPylong_small (by omega)))
theorem By:OpR X (binaryOp .Mod) (rI (fun _ j=>0<j) fun i j=>.int (i % j)):=opI fun i j _ _ _ _ _ hc q=>by
 have h1:(0:Int)<j:=hc;exact mod_int' (by omega) (by rw[Int.fmod_eq_emod_of_nonneg i (by omega)];exact q)
theorem Qm:OpR X (binaryOp .Pow) (rI Uv fun i j=>.int (i^j.toNat)):=opI fun _ _ _ _ _ _ _ hc q=>pow_int_small hc.1 hc.2.1 hc.2.2 q
end
def Up:V->V->Bool
 | .non,.non=>true | .non,.int _=>true | .int _,.non=>true | .non,.bl _=>true | .bl _,.non=>true | .non,.str _=>true | .str _,.non=>true
 | .int _,.int _=>true | .bl _,.bl _=>true | .str _,.str _=>true | .byt _,.byt _=>true
 | .int _,.str _=>true | .str _,.int _=>true | .bl _,.str _=>true | .str _,.bl _=>true
 | _,_=>false
def rEq:R2:=fun x y H Q=>Up x y=true/\Q (.bl (decide (x=y))) H
def rNe:R2:=fun x y H Q=>Up x y=true/\Q (.bl (!decide (x=y))) H
theorem Il{i j:Int}:decide (V.int i=V.int j) =(i == j):=by
 rw[FA];simp
theorem Md{i j:Bool}:decide (V.bl i=V.bl j) =(i == j):=by
 rw[FA];simp
theorem Hk{i j:Str}:decide (V.str i=V.str j) =(i == j):=by
 rw[FA];simp
theorem Jf{i j:Array UInt8}:decide (V.byt i=V.byt j) =(i.toList == j.toList):=by
 rw[FA];cases i;cases j;simp
section
variable{X:Cx}{a b c:Expr}{ta tb tc:TE}{pos:Pos}
theorem C6{pins:List (Addr×Obj)}{σ:St}{H:Hp}{s:Shared}{Q:VK}{k k':Bool}(I:Inv X pins σ H s)(q:Q (.bl k) H)(e:k=k'):EP X pins σ Q (.bool k') s:=by
 subst e;exact⟨.bl k,H,I,rfl,q⟩
theorem Y8:OpR X (compareOp .Eq) rEq:=by
 intro pins s σ H x y v u Q I rx ry h;obtain⟨hs,q⟩:=h;cases x with
 | non =>
  cases rx;cases y with
  | non=>cases ry;exact PySem.EqNone.eq_none_none (C6 I q (by simp))
  | bl j=>cases ry;exact PySem.EqNone.eq_none_bool (C6 I q (by simp))
  | int j=>obtain⟨t',rfl⟩:=ry;exact PySem.EqNone.eq_none_int (C6 I q (by simp))
  | str j=>obtain⟨t',rfl⟩:=ry;exact PySem.EqNone.eq_none_str (C6 I q (by simp))
  | _=>exact absurd (show false=true from hs) AM
 | bl i =>
  cases rx;cases y with
  | non=>cases ry;exact PySem.EqNone.eq_bool_none (C6 I q (by simp))
  | bl j=>cases ry;exact eq_bool (C6 I q Md)
  | str j=>obtain⟨t',rfl⟩:=ry;exact PySem.EqMixed.eq_bool_str (C6 I q (by simp))
  | _=>exact absurd (show false=true from hs) AM
 | int i =>
  obtain⟨t,rfl⟩:=rx;cases y with
  | non=>cases ry;exact PySem.EqNone.eq_int_none (C6 I q (by simp))
  | int j=>obtain⟨t',rfl⟩:=ry;exact eq_int (C6 I q Il)
  | str j=>obtain⟨t',rfl⟩:=ry;exact PySem.EqMixed.eq_int_str (C6 I q (by simp))
  | _=>exact absurd (show false=true from hs) AM
 | str i =>
  obtain⟨t,rfl⟩:=rx;cases y with
  | non=>cases ry;exact PySem.EqNone.eq_str_none (C6 I q (by simp))
  | bl j=>cases ry;exact PySem.EqMixed.eq_str_bool (C6 I q (by simp))
  | int j=>obtain⟨t',rfl⟩:=ry;exact PySem.EqMixed.eq_str_int (C6 I q (by simp))
  | str j=>obtain⟨t',rfl⟩:=ry;exact eq_str (C6 I q Hk)
  | _=>exact absurd (show false=true from hs) AM
 | byt i =>
  obtain⟨t,rfl⟩:=rx;cases y with
  | byt j=>obtain⟨t',rfl⟩:=ry;exact PySem.W.eq_bytes (C6 I q Jf)
  | _=>exact absurd (show false=true from hs) AM
 | _=>cases y<;>exact absurd (show false=true from hs) AM
theorem Ls:OpR X (compareOp .NotEq) rNe:=by
 intro pins s σ H x y v u Q I rx ry h;obtain⟨hs,q⟩:=h;cases x with
 | non =>
  cases rx;cases y with
  | non=>cases ry;exact PySem.EqNone.ne_none_none (C6 I q (by simp))
  | bl j=>cases ry;exact PySem.EqNone.ne_none_bool (C6 I q (by simp))
  | int j=>obtain⟨t',rfl⟩:=ry;exact PySem.EqNone.ne_none_int (C6 I q (by simp))
  | str j=>obtain⟨t',rfl⟩:=ry;exact PySem.EqNone.ne_none_str (C6 I q (by simp))
  | _=>exact absurd (show false=true from hs) AM
 | bl i =>
  cases rx;cases y with
  | non=>cases ry;exact PySem.EqNone.ne_bool_none (C6 I q (by simp))
  | bl j=>cases ry;exact ne_bool (C6 I q (congrArg not Md))
  | str j=>obtain⟨t',rfl⟩:=ry;exact PySem.EqMixed.ne_bool_str (C6 I q (by simp))
  | _=>exact absurd (show false=true from hs) AM
 | int i =>
  obtain⟨t,rfl⟩:=rx;cases y with
  | non=>cases ry;exact PySem.EqNone.ne_int_none (C6 I q (by simp))
  | int j=>obtain⟨t',rfl⟩:=ry;exact ne_int (C6 I q (congrArg not Il))
  | str j=>obtain⟨t',rfl⟩:=ry;exact PySem.EqMixed.ne_int_str (C6 I q (by simp))
  | _=>exact absurd (show false=true from hs) AM
 | str i =>
  obtain⟨t,rfl⟩:=rx;cases y with
  | non=>cases ry;exact PySem.EqNone.ne_str_none (C6 I q (by simp))
  | bl j=>cases ry;exact PySem.EqMixed.ne_str_bool (C6 I q (by simp))
  | int j=>obtain⟨t',rfl⟩:=ry;exact PySem.EqMixed.ne_str_int (C6 I q (by simp))
  | str j=>obtain⟨t',rfl⟩:=ry;exact ne_str (C6 I q (congrArg not Hk))
  | _=>exact absurd (show false=true from hs) AM
 | byt i =>
  obtain⟨t,rfl⟩:=rx;cases y with
  | byt j=>obtain⟨t',rfl⟩:=ry;exact PySem.W.ne_bytes (C6 I q (congrArg not Jf))
  | _=>exact absurd (show false=true from hs) AM
 | _=>cases y<;>exact absurd (show false=true from hs) AM
theorem Tf:OpR X (compareOp .Lt) (rI0 fun i j=>.bl (decide (i<j))):=Sy fun _ _ _ _ _ _ _ q=>lt_int q
theorem Lu:OpR X (compareOp .LtE) (rI0 fun i j=>.bl (decide (i<=j))):=Sy fun _ _ _ _ _ _ _ q=>le_int q
theorem Nh:OpR X (compareOp .Gt) (rI0 fun i j=>.bl (decide (j<i))):=Sy fun _ _ _ _ _ _ _ q=>gt_int q
theorem Pj:OpR X (compareOp .GtE) (rI0 fun i j=>.bl (decide (j<=i))):=Sy fun _ _ _ _ _ _ _ q=>ge_int q
theorem Jy:OpR X (compareOp .In) (fun x y H Q=>∃i j,x = .str i/\y = .str j/\Q (.bl (!(Builtin.Str.occurrences j i 0 j.length 1).isEmpty)) H):=by
 intro pins s σ H x y v u Q I rx ry h;obtain⟨i,j,rfl,rfl,q⟩:=h;obtain⟨t,rfl⟩:=rx;obtain⟨t',rfl⟩:=ry;exact in_str (C6 I q rfl)
theorem Dw:OpR X (compareOp .Is) (fun x y H Q=>y = .non/\Q (.bl (decide (x = .non))) H):=by
 intro pins s σ H x y v u Q I rx ry h;obtain⟨rfl,q⟩:=h;cases ry;refine is_none_gen (C6 I q ?_);cases x<;>first
  | (cases rx;rfl)
  | (obtain⟨t,rfl⟩:=rx;rfl)
theorem Jo:OpR X (compareOp .IsNot) (fun x y H Q=>y = .non/\Q (.bl (!decide (x = .non))) H):=by
 intro pins s σ H x y v u Q I rx ry h;obtain⟨rfl,q⟩:=h;cases ry;refine isnot_none_gen (C6 I q ?_);cases x<;>first
  | (cases rx;rfl)
  | (obtain⟨t,rfl⟩:=rx;rfl)
theorem C7(b:Expr){op:CmpOp}(h:op≠ .In:=by decide)(h2:op≠ .NotIn:=by decide):behindInMarks op b=false:=by
 have e1:(op == CmpOp.In)=false:=by cases op<;>first | rfl | exact absurd rfl h
 have e2:(op == CmpOp.NotIn)=false:=by cases op<;>first | rfl | exact absurd rfl h2
 cases b<;>simp[behindInMarks,e1,e2]
theorem D5{op:CmpOp}{r:R2}(ho:OpR X (compareOp op) r)(ha:PE X a ta)(hb:PE X b tb)(hm:behindInMarks op b=false):PE X (.Compare a [op] [b] pos) (tOp r ta tb):=by
 intro pins s σ H Q I h;exact wpAny_Compare1 (Tq ha hb I h fun v u s2 x y H2 I2 rx ry q=>ho pins s2 σ H2 x y v u Q I2 rx ry q) hm
def Qt(t:TE):TT:=fun σ H Q=>t σ H fun x H'=>∃k,x = .bl k/\Q k H'
theorem C4{op:CmpOp}{r:R2}(ho:OpR X (compareOp op) r)(ha:PE X a ta)(hb:PE X b tb)(hm:behindInMarks op b=false):PT X (.Compare a [op] [b] pos) (Qt (tOp r ta tb)):=by
 intro pins s σ H Q I h;refine wpAny_isTrue_Compare1 (thn (ha pins s σ H _ I h) fun v s1 ⟨x,H1,I1,r1,q1⟩=>thn (hb pins s1 σ H1 _ I1 q1) fun u s2 ⟨y,H2,I2,r2,q2⟩ =>
  thn (ho pins s2 σ H2 x y v u _ I2 r1 r2 q2) fun c s3 ⟨z,H3,I3,r3,k,e,q3⟩=>?_) hm
 subst e;cases r3;exact CG ⟨H3,I3,q3⟩
def Mp(r r':R2)(ta tb tc:TE):TE:=fun σ H Q=>ta σ H fun x H1=>tb σ H1 fun y H2=>r x y H2 fun z H3=>∃k,z = .bl k /\
 (if k=true then tc σ H3 fun w' H4=>r' y w' H4 Q else Q (.bl false) H3)
theorem Kx{op op':CmpOp}{r r':R2}(ho:OpR X (compareOp op) r)(ho':OpR X (compareOp op') r')(ha:PE X a ta)(hb:PE X b tb)(hc:PE X c tc)
  (hm:lastMarks [op,op'] [b,c]=false:=by with_unfolding_all rfl):PE X (.Compare a [op,op'] [b,c] pos) (Mp r r' ta tb tc):=by
 intro pins s σ H Q I h;refine Compare_chain (thn (ha pins s σ H _ I h) fun v s1 ⟨x,H1,I1,r1,q1⟩=>chain_link (thn (hb pins s1 σ H1 _ I1 q1) fun u s2 ⟨y,H2,I2,r2,q2⟩ =>
  thn (ho pins s2 σ H2 x y v u _ I2 r1 r2 q2) fun d s3 ⟨z,H3,I3,r3,k,e,q3⟩=>?_)) hm
 subst e;cases r3;refine CG ?_;cases k with
 | false=>exact ite_ff ⟨.bl false,H3,I3,rfl,q3⟩
 | true=>exact ite_tt (chain_last (thn (hc pins s3 σ H3 _ I3 q3) fun w' s4 ⟨z',H4,I4,r4,q4⟩=>ho' pins s4 σ H4 y z' u w' Q I4 r2 r4 q4))
theorem Mb{op op':CmpOp}{r r':R2}(ho:OpR X (compareOp op) r)(ho':OpR X (compareOp op') r')(ha:PE X a ta)(hb:PE X b tb)(hc:PE X c tc)
  (hm:lastMarks [op,op'] [b,c]=false:=by with_unfolding_all rfl):PT X (.Compare a [op,op'] [b,c] pos) (Qt (Mp r r' ta tb tc)):=by
 intro pins s σ H Q I h;refine isTrue_chain (thn (ha pins s σ H _ I h) fun v s1 ⟨x,H1,I1,r1,q1⟩=>test_link (thn (hb pins s1 σ H1 _ I1 q1) fun u s2 ⟨y,H2,I2,r2,q2⟩ =>
  thn (ho pins s2 σ H2 x y v u _ I2 r1 r2 q2) fun d s3 ⟨z,H3,I3,r3,k,e,q3⟩=>?_)) hm
 subst e;cases r3;refine CG ?_;cases k with
 | false =>
  obtain⟨k',e',q'⟩:=q3;cases e';exact ite_ff ⟨H3,I3,q'⟩
 | true =>
  refine ite_tt (test_last (thn (hc pins s3 σ H3 _ I3 q3) fun w' s4 ⟨z',H4,I4,r4,q4⟩=>thn (ho' pins s4 σ H4 y z' u w' _ I4 r2 r4 q4) fun d' s5 ⟨z2,H5,I5,r5,k2,e2,q5⟩=>?_));subst e2;cases r5;exact CG ⟨H5,I5,q5⟩
theorem Ar:(sizeLine:Nat)<2^63:=by rw[sizeLine_eq];decide
theorem Q6{x:V}{us:List Value}(r:Vals [x] us):∃u,us = [u]/\RelV x u:=by
 cases r with
 | cons r1 r2=>cases r2;exact⟨_,rfl,r1⟩
theorem Ry{x y:V}{us:List Value}(r:Vals [x,y] us):∃u w',us = [u,w']/\RelV x u/\RelV y w':=by
 cases r with
 | cons r1 r2 =>
  cases r2 with
  | cons r3 r4=>cases r4;exact⟨_,_,rfl,r1,r3⟩
theorem Ei:E3 X (.builtin "abs") (fun xs H Q=>∃i,xs = [.int i]/\Q (.int (if i<0 then -i else i)) H):=by
 intro pins s σ H xs us Q I r h;obtain⟨i,rfl,q⟩:=h;obtain⟨u,rfl,t,rfl⟩:=Q6 r;exact call_abs_int fun u tk=>⟨.int (if i<0 then -i else i),H,I.tok _,⟨_,rfl⟩,q⟩
theorem Gu(hc:X.calm=true):E3 X (.builtin "max") (fun xs H Q=>∃i j,xs = [.int i,.int j]/\Q (.int (if j>i then j else i)) H):=by
 intro pins s σ H xs us Q I r h;obtain⟨i,j,rfl,q⟩:=h;obtain⟨u,w',rfl,⟨t,rfl⟩,⟨t',rfl⟩⟩:=Ry r;refine max_two_ints (I.ok.hd hc) fun h' tk k=>⟨_,H,I.kept k,?_,q⟩;by_cases hj:j>i
 .rw[BB hj,BB hj];exact⟨_,rfl⟩
 .rw[AU hj,AU hj];exact⟨_,rfl⟩
theorem Jp(hc:X.calm=true):E3 X (.builtin "min") (fun xs H Q=>∃i j,xs = [.int i,.int j]/\Q (.int (if j<i then j else i)) H):=by
 intro pins s σ H xs us Q I r h;obtain⟨i,j,rfl,q⟩:=h;obtain⟨u,w',rfl,⟨t,rfl⟩,⟨t',rfl⟩⟩:=Ry r;refine min_two_ints (I.ok.hd hc) fun h' tk k=>⟨_,H,I.kept k,?_,q⟩;by_cases hj:j<i
 .rw[BB hj,BB hj];exact⟨_,rfl⟩
 .rw[AU hj,AU hj];exact⟨_,rfl⟩
theorem Bo:E3 X (.type "int") (fun xs H Q=>(∃i,xs = [.int i]/\Q (.int i) H)\/∃k,xs = [.bl k]/\Q (.int (if k then 1 else 0)) H):=by
 intro pins s σ H xs us Q I r h;rcases h with⟨i,rfl,q⟩ | ⟨k,rfl,q⟩
 .obtain⟨u,rfl,t,rfl⟩:=Q6 r;exact call_int_int ⟨.int i,H,I,⟨_,rfl⟩,q⟩
 .obtain⟨u,rfl,r1⟩:=Q6 r;cases r1;exact call_int_bool ⟨.int (if k then 1 else 0),H,I.tok _,⟨_,rfl⟩,q⟩
end
structure ObjM(h:Heap)(x dx C:Addr)(mA:Str->Option Value):Prop where
 obj:h.get? x=some (PySem.W.instObj C dx)
 ns:h.Ns1 dx mA
 ne:dx≠x
theorem Gq{h:Heap}{dx:Addr}{mA:Str->Option Value}(n:h.Ns1 dx mA):∃od,h.get? dx=some od/\∀name,PySem.W.lookIn name od=some (mA name):=by
 obtain⟨o,es,ep,ho,hd,hk,_,hm⟩:=n;refine⟨o,ho,fun name=>?_⟩;have e:=hm name;unfold nsFind findBy at e;rw[<-Array.find?_toList]at e;unfold PySem.W.lookIn;rw[hd];dsimp only;split
 .rename_i y q;rw[q]at e;exact congrArg some e
 .rename_i q;rw[q]at e;have a:es.toList.any (·.refKey)=false:=by
   rw[List.any_eq_false];intro y hy;obtain⟨z,t,hkey⟩:=hk y (Array.mem_toList_iff.mp hy);simp[DictEntry.refKey,hkey]
  have a':¬es.toList.any (·.refKey)=true:=by rw[a];exact AM
  rw[AU a'];exact congrArg some e
theorem ObjM.look{h:Heap}{x dx C:Addr}{mA:Str->Option Value}(I:ObjM h x dx C mA):∃od,PySem.W.InstAt h x (PySem.W.instObj C dx) C (some od)/\∀name,PySem.W.lookIn name od=some (mA name) :=
 let⟨od,ho,hl⟩:=Gq I.ns
 ⟨od,⟨I.obj,rfl,rfl,ho⟩,hl⟩
section
variable{prog:Program}{w:World}{A:Around}{E:Value->Shared->Prop}{s:Shared}{K:PySem.W.Frag}{x dx C f:Addr}{mA:Str->Option Value}{name:Str}{v:Value}
theorem Of{expr:Bool}{Q:Value->Shared->Prop}(X:K.In s.heap)(I:ObjM s.heap x dx C mA)(hg:PySem.W.plainGet K C name=true)(hh:PySem.W.hasDictIn K C=true)
  (ha:PySem.W.findIn K (.ref C) name=some none) (hv:mA name=some v) (hv':PySem.W.handedIn v=true) (h:Q v { s with toks:=s.toks+1 }) :
  wpAny (model prog w) A (getAttr (.ref x) name expr) Q E s:=by
 obtain⟨od,J,hl⟩:=I.look;exact PySem.W.get_value X J (PySem.W.plainGet_of hg).1 (PySem.W.findObj_own hh ha rfl (by rw[hl,hv])) hv' h
theorem Nf{ns:List Str}{Q:Unit->Shared->Prop}(X:K.In s.heap)(I:ObjM s.heap x dx C mA)
  (hs:PySem.W.findIn K (.ref C) "__setattr__" = some (some (.builtin "object.__setattr__"))) (hp:PySem.W.plainOver K C=true) (ht:PySem.W.takerIn K C name=some none) (hh:PySem.W.hasDictIn K C=true)
  (hw:PySem.Within mA ns) (hsz:ns.length<=sizeLine)
  (h:∀h',ObjM h' x dx C (fun y=>if y=name then some v else mA y)->Heap.SameBut dx s.heap h'->Q () { s with heap:=h',toks:=s.toks+2 }) :
  wpAny (model prog w) A (setAttr (.ref x) name v) Q E s:=by
 obtain⟨od,J,hl⟩:=I.look;refine PySem.W.set_plain X J hs (PySem.W.osa_open (s:={ s with toks:=s.toks+1 }) (r:=none) X J hp ht fun b=>?_);obtain⟨cd,hc,hd'⟩:=PySem.W.any_some hh;have hx:s.heap.get? x=some ⟨.ref C,some dx,.plain,#[]⟩:=I.obj;refine AA (AD (AA (AA (wpAny_loadPart hx (AA (PySem.W.Looks.here (s:={ s with toks:=s.toks+1 }) (PySem.W.looks_clsIn X hc) ?_))))));rw[hd'];refine AD (a:=some dx) (AA (AD (AA ?_)));refine wpAny_nsSet1 (s:={ s with toks:=s.toks+1 }) I.ns fun h' hn2 hs2=>?_;obtain⟨oD,esD,epD,hoD,hdD,hcD⟩:=hn2.count (PySem.Within.cons name v hw);refine AA (wpAny_lookBehind hoD (by rw[hdD];exact pastItsLine_dict (Nat.le_trans hcD (by rw[BO];omega))) ?_);exact AD (h _ ⟨(hs2.2 _ (Ne.symm I.ne)).trans I.obj,hn2,I.ne⟩ hs2)
theorem Lv{R:Result->Shared->Prop}{vs:List Value}{kw:List (Str×Value)}(X:K.In s.heap)(hm:PySem.W.makesIn K C=true)
  (hi:PySem.W.findIn K (.ref C) "__init__" = some (some (.ref f))) (hf:PySem.W.typeIn K (.ref f)=some (.type "function"))
  (h:codeAny (model prog w) (A.under (.builtin "type.__call__" ⟨.ref C::vs,kw⟩)) (.call (.ref f) ⟨.ref (s.heap.objs.size+1)::vs,kw⟩) (PySem.W.InitBack (s.heap.objs.size+1) R)
   { s with heap:=(s.heap.push PySem.W.emptyDict).push (PySem.W.instObj C s.heap.objs.size) }) :
  codeAny (model prog w) A (.call (.ref C) ⟨vs,kw⟩) R s:=by
 obtain⟨hh,g,d,t,os⟩:=s;exact PySem.W.make_core (PySem.W.makes_of X hm) (PySem.W.looks_findIn X hi) (fun self=>PySem.W.bind_fn X self hf) (.inl rfl) h
end
def K5(f:Str)(v:V):List (Str×V)->List (Str×V)
 | []=>[(f,v)]
 | (g,x)::r=>if g=f then(g,v)::r else(g,x)::K5 f v r
theorem d9(f g:Str)(v:V):∀fs:List (Str×V),(K5 f v fs).lookup g=if g=f then some v else fs.lookup g
 | []=>by
  show List.lookup g [(f,v)]=_;by_cases h:g=f
  .have hb:(g == f)=true:=beq_iff_eq.mpr h;simp only[List.lookup,hb,BB h]
  .have hb:(g == f)=false:=beq_eq_false_iff_ne.mpr h;simp only[List.lookup,hb,AU h]
 | (k,x)::r=>by
  have ih:=d9 f g v r;rw[show K5 f v ((k,x)::r) =(if k=f then(k,v)::r else(k,x)::K5 f v r)from rfl];by_cases hk:k=f
  .rw[BB hk];by_cases h:g=k
   .have hb:(g == k)=true:=beq_iff_eq.mpr h;simp only[List.lookup,hb,BB (h.trans hk)]
   .have hb:(g == k)=false:=beq_eq_false_iff_ne.mpr h;simp only[List.lookup,hb,AU (fun e:g=f=>h (e.trans hk.symm))]
  .rw[AU hk];by_cases h:g=k
   .have hb:(g == k)=true:=beq_iff_eq.mpr h;simp only[List.lookup,hb,AU (fun e:g=f=>hk (h.symm.trans e))]
   .have hb:(g == k)=false:=beq_eq_false_iff_ne.mpr h;simp only[List.lookup,hb];exact ih
theorem b8(f:Str)(v:V):∀fs:List (Str×V),f∈(K5 f v fs).map (·.1)/\∀g,g∈fs.map (·.1)->g∈(K5 f v fs).map (·.1)
 | []=>⟨by simp[K5],fun g h=>by simp at h⟩
 | (k,x)::r=>by
  obtain⟨i1,i2⟩:=b8 f v r;rw[show K5 f v ((k,x)::r) =(if k=f then(k,v)::r else(k,x)::K5 f v r)from rfl];by_cases hk:k=f
  .rw[BB hk];subst hk;exact⟨by simp,fun g h=>by simpa using h⟩
  .rw[AU hk];refine⟨?_,fun g h=>?_⟩
   .rw[BQ];exact AY _ i1
   .rw[BQ]at h⊢;rcases AN.mp h with e | e
    .exact AN.mpr (.inl e)
    .exact AY _ (i2 g e)
theorem Z7(f:Str)(v:V):∀fs:List (Str×V),(K5 f v fs).length<=fs.length+1
 | []=>by simp[K5]
 | (k,x)::r=>by
  have ih:=Z7 f v r;rw[show K5 f v ((k,x)::r) =(if k=f then(k,v)::r else(k,x)::K5 f v r)from rfl];by_cases hk:k=f
  .rw[BB hk,BO,BO];omega
  .rw[AU hk,BO,BO];omega
theorem RelO.some_of{v:V}{o:Option Value}(r:RelO (some v) o):∃u,o=some u/\RelV v u:=by
 cases o with
 | none=>exact(show False from r).elim
 | some u=>exact⟨u,rfl,r⟩
theorem Hd{v:V}{u:Value}(r:RelV v u):PySem.W.handedIn u=true:=by
 cases v with
 | non=>cases(show u=Value.none from r);rfl
 | bl b=>cases(show u=Value.bool b from r);rfl
 | int i=>obtain⟨t,e⟩:=(show ∃t,u=Value.int i t from r);cases e;rfl
 | str x=>obtain⟨t,e⟩:=(show ∃t,u=Value.str x t from r);cases e;rfl
 | byt b=>obtain⟨t,e⟩:=(show ∃t,u=Value.bytes b t from r);cases e;rfl
 | flt b=>obtain⟨t,e⟩:=(show ∃t,u=Value.float b t from r);cases e;rfl
 | ref a=>cases(show u=Value.ref a from r);rfl
 | ty n=>cases(show u=Value.type n from r);rfl
section
variable{P:Program}{w:World}{H H':Hp}{h h':Heap}{a C dx:Addr}{fs fs':List (Str×V)}
theorem Dp(hok:HOk P w H h)(e:H a=some (.ins C dx fs)):∃mA,ObjM h a dx C mA/\(∀f,RelO (fs.lookup f) (mA f))/\PySem.Within mA (fs.map (·.1))/\fs.length<=1000/\H dx=some (.own a):=by
 obtain⟨d,z,ne,ob,mA,n,r,q⟩:=(show ObjOk P w H h a (.ins C dx fs)from hok a _ e);exact⟨mA,⟨ob,n,ne⟩,r,q,z,d⟩
end
structure Cls(K:PySem.W.Frag)(C:Addr):Prop where
 pg:PySem.W.plainGet K C Str.empty=true
 hd:PySem.W.hasDictIn K C=true
 po:PySem.W.plainOver K C=true
 sa:PySem.W.findIn K (.ref C) "__setattr__" = some (some (.builtin "object.__setattr__"))
theorem Cls.get{K:PySem.W.Frag}{C:Addr}(c:Cls K C)(f:Str):PySem.W.plainGet K C f=true:=c.pg
def NoAttr(K:PySem.W.Frag)(C:Addr)(f:Str):Prop:=PySem.W.findIn K (.ref C) f=some none
theorem NoAttr.taker{K:PySem.W.Frag}{C:Addr}{f:Str}(n:NoAttr K C f):PySem.W.takerIn K C f=some none:=by
 unfold PySem.W.takerIn;rw[show PySem.W.findIn K (.ref C) f=some none from n];rfl
structure Meth(K:PySem.W.Frag)(C:Addr)(m:Str)(f:Addr):Prop where
 at_:PySem.W.findIn K (.ref C) m=some (some (.ref f))
 fn:PySem.W.isFn K (.ref f)=true
 kp:PySem.W.keepIn K (.ref f)=true
section
variable{X:Cx}{pins:List (Addr×Obj)}{σ:St}{H:Hp}{s:Shared}{a C dx:Addr}{fs:List (Str×V)}{f:Str}{v:V}{A:Around}{E:Value->Shared->Prop}
theorem Fs{b:Bool}{Q:Value->Shared->Prop}(I:Inv X pins σ H s)(e:H a=some (.ins C dx fs))(c:Cls X.K C)(n:NoAttr X.K C f)(l:fs.lookup f=some v)
  (h:∀u s',Inv X pins σ H s'->RelV v u->Q u s'):wpAny (model X.prog X.w) A (getAttr (.ref a) f b) Q E s:=by
 obtain⟨mA,O,r,_,_,_⟩:=Dp I.hok e;obtain⟨u,hu,ru⟩:=RelO.some_of (v:=v) (o:=mA f) (by rw[<-l];exact r f);exact Of I.kIn O (c.get f) c.hd n hu (Hd ru) (h u _ (I.tok _) ru)
theorem Fg{y:V}{u:Value}{Q:Unit->Shared->Prop}(I:Inv X pins σ H s)(e:H a=some (.ins C dx fs))(c:Cls X.K C)(n:NoAttr X.K C f)(hl:fs.length<1000)(ry:RelV y u)
  (h:∀s',Inv X pins σ (upd H a (.ins C dx (K5 f y fs))) s'->Q () s'):wpAny (model X.prog X.w) A (setAttr (.ref a) f u) Q E s:=by
 obtain⟨mA,O,r,wi,_,ho⟩:=Dp I.hok e;have hz:(fs.map (·.1)).length<=sizeLine:=by rw[AB,sizeLine_eq];omega
 refine Nf I.kIn O c.sa c.po n.taker c.hd wi hz fun h' O' sb=>h _ ?_;have hd:∃o,h'.get? dx=some o:=let⟨o,_,_,e',_⟩:=O'.ns;⟨o,e'⟩;refine I.write (x:=a) (e:=dx) (by rw[e];exact True.intro) (.inr ho) (fun b q hb z=>(sb.2 b hb).trans z) hd ?_;refine⟨by rw[B4 O.ne];exact ho,?_,O.ne,O'.obj,_,O'.ns,fun g=>?_,fun g hg=>?_⟩
 .have:=Z7 f y fs;omega
 .show RelO ((K5 f y fs).lookup g) (if g=f then some u else mA g);rw[d9];by_cases q:g=f
  .rw[BB q,BB q];exact ry
  .rw[AU q,AU q];exact r g
 .by_cases q:g=f
  .rw[q];exact(b8 f y fs).1
  .refine(b8 f y fs).2 g (wi g fun z=>hg ?_);show(if g=f then some u else mA g)=none;rw[AU q];exact z
theorem Inv.made(I:Inv X pins σ H s):Inv X pins σ (upd (upd H s.heap.objs.size (.own (s.heap.objs.size+1))) (s.heap.objs.size+1) (.ins C s.heap.objs.size []))
  { s with heap:=(s.heap.push PySem.W.emptyDict).push (PySem.W.instObj C s.heap.objs.size) }:=by
 have e1:(s.heap.push PySem.W.emptyDict).get? s.heap.objs.size=some PySem.W.emptyDict:=AZ s.heap rfl;have e2:((s.heap.push PySem.W.emptyDict).push (PySem.W.instObj C s.heap.objs.size)).get? (s.heap.objs.size+1)=some (PySem.W.instObj C s.heap.objs.size):=by
  have:=AZ (s.heap.push PySem.W.emptyDict) (o:=PySem.W.instObj C s.heap.objs.size) rfl
  rwa [CH]at this
 have e3:(s.heap.push PySem.W.emptyDict).Ns s.heap.objs.size (fun _=>none):=⟨PySem.W.emptyDict,#[],_,e1,rfl,(fun e he=>absurd he (by simp)),fun _=>rfl⟩;have I1:=I.laid (a:=s.heap.objs.size) (o:=.own (s.heap.objs.size+1)) (h':=s.heap.push PySem.W.emptyDict) (t':=s.toks) (fun b u q=>AC _ q) (Nat.le_refl _) ⟨_,e1⟩;refine I1.laid (a:=s.heap.objs.size+1) (o:=.ins C s.heap.objs.size []) (t':=s.toks) (fun b u q=>AC _ q) (Nat.le_of_eq (CH _ _)) ?_;have ne:s.heap.objs.size≠s.heap.objs.size+1:=AQ (FL _);refine⟨by rw[B4 ne,A7],CW _,ne,e2,fun _=>none,(Heap.Ns1.of_empty e3).at fun o q=>AC _ q,fun _=>True.intro,fun y hy=>absurd rfl hy⟩
theorem Pd{prog:Program}{w:World}{env:Env}{e:Expr}{f:Str}{pos:Pos}{s:Shared}{Q:Value->Shared->Prop}(hb:attributeBase e f env (eval e env)=eval e env)
  (h:wpAny (model prog w) A (eval e env) (fun o s₁=>wpAny (model prog w) A (getAttr o f true) Q E s₁) E s):wpAny (model prog w) A (eval (.Attribute e f pos) env) Q E s :=
 Attribute_any_ h (by rw[arm_eval_Attribute,hb])
end
def Uc(K:PySem.W.Frag)(ta:TE)(f:Str):TE:=fun σ H Q=>ta σ H fun x H1=>∃a C dx fs v,x = .ref a/\H1 a=some (.ins C dx fs)/\Cls K C/\NoAttr K C f/\fs.lookup f=some v/\Q v H1
def Ty(K:PySem.W.Frag)(ta tv:TE)(f:Str):TS:=fun D σ H=>tv σ H fun y H1=>ta σ H1 fun x H2=>∃a C dx fs,x = .ref a/\H2 a=some (.ins C dx fs)/\Cls K C/\NoAttr K C f/\fs.length<1000 /\
 D.nx σ (upd H2 a (.ins C dx (K5 f y fs)))
section
variable{X:Cx}{o e value:Expr}{f:Str}{pos pos' tpos:Pos}{ta tv:TE}
theorem Sh(he:PE X e ta)(hb:attributeBase e f X.env (eval e X.env)=eval e X.env):PE X (.Attribute e f pos) (Uc X.K ta f):=by
 intro pins s σ H Q I h;refine Pd hb (thn (he pins s σ H _ I h) fun u s1 ⟨x,H1,I1,rx,a,C,dx,fs,v,ex,ea,c,n,l,q⟩=>?_);subst ex;obtain rfl:u=Value.ref a:=rx;exact Fs I1 ea c n l fun u' s2 I2 ru=>⟨v,H1,I2,ru,q⟩
theorem Qf(ha:PE X o ta)(hv:PE X value tv)(hs:swapsWith value (some (.Attribute o f pos')) pos.line X.env=pure false):PS X (.Assign [.Attribute o f pos'] value pos) (Ty X.K ta tv f):=by
 intro pins s σ H D I h;refine plainObj_wpAny_Assign_Attribute (thn (hv pins s σ H _ I h) fun u s1 ⟨y,H1,I1,ry,q⟩=>thn (ha pins s1 σ H1 _ I1 q) fun ov s2 ⟨x,H2,I2,rx,a,C,dx,fs,ex,ea,c,n,l,q2⟩=>?_) hs;subst ex;obtain rfl:ov=Value.ref a:=rx;exact Fg I2 ea c n l ry fun s3 I3=>⟨σ,_,I3,q2⟩
end
section
variable{X:Cx}{pins:List (Addr×Obj)}{σ:St}{H:Hp}{s:Shared}{A:Around}{E:Value->Shared->Prop}{Q:Value->Shared->Prop}{c:Value}{b:Bool}
inductive TyOf(K:PySem.W.Frag)(H:Hp):V->Value->Prop where
 | non:TyOf K H .non (.type "NoneType")
 | bl (x:Bool):TyOf K H (.bl x) (.type "bool")
 | int (i:Int):TyOf K H (.int i) (.type "int")
 | str (x:Str):TyOf K H (.str x) (.type "str")
 | flt (x:UInt64):TyOf K H (.flt x) (.type "float")
 | lst {a:Addr} {xs:List V} (e:H a=some (.lst xs)):TyOf K H (.ref a) (.type "list")
 | frz {a:Addr} {o:Obj} {xs:List V} (e:H a=some (.frz o (.lst xs))):TyOf K H (.ref a) (.type "list")
 | tup {a:Addr} {xs:List V} (e:H a=some (.tup xs)):TyOf K H (.ref a) (.type "tuple")
 | dK {a:Addr} {kvs:List (Key×V)} (e:H a=some (.dK kvs)):TyOf K H (.ref a) (.type "dict")
 | dT {a:Addr} {kvs:List (List Key×V)} (e:H a=some (.dT kvs)):TyOf K H (.ref a) (.type "dict")
 | ins {a C dx:Addr} {fs:List (Str×V)} (e:H a=some (.ins C dx fs)) (cl:Cls K C) (ha:PySem.W.findIn K (.ref C) "__class__" = some (some (.builtin "object.__class__")))
   (hn:PySem.W.specialIn K (.builtin "object.__class__") "__get__" = some (some (.builtin "getset_descriptor.__get__"))) (htk:PySem.W.takesIn K (.builtin "object.__class__")=some true)
   (hm:PySem.W.mroIn K C (.type "object")=some true):TyOf K H (.ref a) (.ref C)
theorem Hs{x:V}{u t:Value}(I:Inv X pins σ H s)(rx:RelV x u)(ty:TyOf X.K H x t)(e:PySem.W.kitOne X.K t c=some b)(h:∀tk,Q (.bool b) { s with toks:=tk }) :
  wpAny (model X.prog X.w) A (call (.builtin "isinstance") [u,c]) Q E s:=by
 cases ty with
 | non=>cases(show u=Value.none from rx);exact PySem.W.kia_one PySem.W.kitx_none I.kIn True.intro e (fun z=>nomatch z) h
 | bl y=>cases(show u=Value.bool y from rx);exact PySem.W.kia_one PySem.W.kitx_bool I.kIn True.intro e (fun z=>nomatch z) h
 | int i=>obtain⟨t,q⟩:=(show ∃t,u=Value.int i t from rx);cases q;exact PySem.W.kia_one PySem.W.kitx_int I.kIn True.intro e (fun z=>nomatch z) h
 | str y=>obtain⟨t,q⟩:=(show ∃t,u=Value.str y t from rx);cases q;exact PySem.W.kia_one PySem.W.kitx_str I.kIn True.intro e (fun z=>nomatch z) h
 | flt y=>obtain⟨t,q⟩:=(show ∃t,u=Value.float y t from rx);cases q;exact PySem.W.kia_one PySem.W.kitx_float I.kIn True.intro e (fun z=>nomatch z) h
 | @lst a xs ea =>
  cases(show u=Value.ref a from rx);obtain⟨_,_,n,_,h1⟩:=(show ObjOk X.prog X.w H s.heap a (.lst xs)from I.hok a _ ea);exact PySem.W.kia_one PySem.W.kitx_list I.kIn ⟨_,h1,rfl⟩ e (fun z=>nomatch z) h
 | @frz a ob xs ea =>
  cases(show u=Value.ref a from rx);obtain⟨_,_,_,n,_,h1⟩:=(show ObjOk X.prog X.w H s.heap a (.frz ob (.lst xs))from I.hok a _ ea);exact PySem.W.kia_one PySem.W.kitx_list I.kIn ⟨_,h1,rfl⟩ e (fun z=>nomatch z) h
 | @tup a xs ea =>
  cases(show u=Value.ref a from rx);obtain⟨_,_,_,p⟩:=(show ObjOk X.prog X.w H s.heap a (.tup xs)from I.hok a _ ea);obtain⟨o,h1,h2,_⟩:=p;exact PySem.W.kia_one PySem.W.kitx_tuple I.kIn ⟨o,h1,h2⟩ e (fun z=>nomatch z) h
 | @dK a kvs ea =>
  cases(show u=Value.ref a from rx);obtain⟨_,_,vs,_,p⟩:=(show ObjOk X.prog X.w H s.heap a (.dK kvs)from I.hok a _ ea);obtain⟨o,es,ep,h1,h2,_⟩:=p;exact PySem.W.kia_one PySem.W.kitx_dict I.kIn ⟨o,h1,h2.1⟩ e (fun z=>nomatch z) h
 | @dT a kvs ea =>
  cases(show u=Value.ref a from rx);obtain⟨_,_,xs,_,o,es,ep,h1,h2,_⟩:=(show ObjOk X.prog X.w H s.heap a (.dT kvs)from I.hok a _ ea);exact PySem.W.kia_one PySem.W.kitx_dict I.kIn ⟨o,h1,h2.1⟩ e (fun z=>nomatch z) h
 | @ins a C dx fs ea cl ha hn htk hm =>
  cases(show u=Value.ref a from rx);obtain⟨mA,O,_⟩:=Dp I.hok ea;obtain⟨od,J,_⟩:=O.look;exact PySem.W.kia_one (PySem.W.kitx_own (cl.get _) cl.hd ha hn htk hm) I.kIn J e (fun z=>nomatch z) h
end
structure Room(k:Nat)(A:Around):Prop where
 hd:A.handled=none
 dp:A.depth+3*k+5<recursionLimit
 un:A.units+16*k+200<cLine
theorem Room.mono{j k:Nat}{A:Around}(r:Room k A)(h:j<=k):Room j A:=⟨r.hd,by have:=r.dp;omega,by have:=r.un;omega⟩
theorem Room.deeper{k:Nat}{A:Around}(r:Room (k+1) A)(env:Env):Room k (A.deeper env) :=
 ⟨r.hd,by have:=r.dp;show A.depth+1+3*k+5<_;omega,by have:=r.un;show A.units+3+16*k+200<_;omega⟩
theorem Gn{A:Around}{C:Addr}{us:List Value}{kw:List (Str×Value)}:(A.under (.builtin "type.__call__" ⟨.ref C::us,kw⟩)).depth=A.depth+1:=by
 first | rfl | simp[Around.under,Code.weight,Code.isCreation,Code.isGuard,Code.isCaller,Code.frames,Code.isFrame,guardIds]
theorem Fo{A:Around}{C:Addr}{us:List Value}{kw:List (Str×Value)}:(A.under (.builtin "type.__call__" ⟨.ref C::us,kw⟩)).units=A.units+1:=by
 first | rfl | simp[Around.under,Code.cUnits,Code.frames,Code.isFrame]
theorem Room.make{k:Nat}{A:Around}(r:Room (k+1) A)(C:Addr)(us:List Value)(kw:List (Str×Value)):Room k (A.under (.builtin "type.__call__" ⟨.ref C::us,kw⟩)) :=
 ⟨r.hd,by have:=r.dp;rw[Gn];omega,by have:=r.un;rw[Fo];omega⟩
theorem Room.depth{k:Nat}{A:Around}(r:Room k A):A.depth<recursionLimit:=by have:=r.dp;omega
theorem Room.units{k:Nat}{A:Around}(r:Room k A):A.units+64<cLine:=by have:=r.un;omega
def Tc:TA:=fun _ H Q=>Q [] H
def Kw(ta:TE)(tr:TA):TA:=fun σ H Q=>ta σ H fun x H1=>tr σ H1 fun xs H2=>Q (x::xs) H2
section
variable{X:Cx}{e:Expr}{es:List Expr}{te:TE}{t:TA}{pos:Pos}
theorem A8:PA X [] Tc:=fun _ _ _ _ H Q I h=>Calls.spliced_nil ⟨[],H,I,.nil,h⟩
theorem A6(ha:PE X e te)(hr:PA X es t)(hs:starEach (e::es) X.env =(false,eval e X.env)::starEach es X.env:=by rfl):PA X (e::es) (Kw te t):=by
 intro pos pins s σ H Q I h;rw[hs];show wpAny _ _ (spliced ((false,eval e X.env)::backTo pos (starEach es X.env))) _ _ s;refine Calls.spliced_cons (thn (ha pins s σ H _ I h) fun u s1 ⟨x,H1,I1,r1,q1⟩=>?_);exact thn (hr pos pins s1 σ H1 _ I1 q1) fun us s2 ⟨xs,H2,I2,r2,q2⟩=>⟨x::xs,H2,I2,.cons r1 r2,q2⟩
def Uw(t:TA):TE:=fun σ H Q=>t σ H fun xs H1=>xs.length<=sizeLine/\∀p,H1 p=none->Q (.ref p) (upd H1 p (.tup xs))
def Vo(t:TA):TE:=fun σ H Q=>t σ H fun xs H1=>xs.length<=sizeLine/\∀p,H1 p=none->Q (.ref p) (upd H1 p (.lst xs))
theorem J9{x1}(h:PA X es t):PE X (.Tuple es x1 pos) (Uw t):=by
 intro pins s σ H Q I hq;refine wpAny_Tuple_spliced (thn (h pos pins s σ H _ I hq) fun us s1 ⟨xs,H1,I1,r,z,q⟩=>⟨by rw[<-r.length];exact z,?_⟩);have hf:H1 s1.heap.objs.size=none:=I1.hok.fresh (Nat.le_refl _);refine⟨.ref s1.heap.objs.size,upd H1 s1.heap.objs.size (.tup xs),I1.laid (t':=s1.toks) (fun b u e=>AC _ e) (Nat.le_refl _) ?_,rfl,q _ hf⟩;exact⟨z,us,r,⟨_,AZ _ rfl,rfl,_,rfl⟩⟩
theorem D9(h:PA X es t):PE X (.List es pos) (Vo t):=by
 intro pins s σ H Q I hq;refine wpAny_List_spliced (thn (h pos pins s σ H _ I hq) fun us s1 ⟨xs,H1,I1,r,z,q⟩=>⟨by rw[<-r.length];exact z,?_⟩);have hf:H1 s1.heap.objs.size=none:=I1.hok.fresh (Nat.le_refl _);refine⟨.ref s1.heap.objs.size,upd H1 s1.heap.objs.size (.lst xs),I1.laid (t':=s1.toks) (fun b u e=>AC _ e) (Nat.le_refl _) ?_,rfl,q _ hf⟩;exact⟨z,us,0,r,AZ _ rfl⟩
end
abbrev Sp:=List V->Hp->VK->XK->Prop
abbrev CXT:=List Env->Hp->Shared->XK->Value->Shared->Prop
structure Env0(P:Program)(w:World)(K:PySem.W.Frag)(mg:Str->Option Value)(base:Heap)(A:Around)(outer:List Env)(s:Shared)(H:Hp):Prop where
 frames:A.frames=some outer
 mod:Mod K mg base
 bs:∀b o,base.get? b=some o->s.heap.get? b=some o/\H b=none
 bsz:base.objs.size<=s.heap.objs.size
 funs:s.heap.FunFrames base outer
 frf:∀b∈frs outer,H b=none
 hok:HOk P w H s.heap
 bare:AllBare s.gens
def CE(outer:List Env)(P:Program)(w:World)(H:Hp)(s:Shared)(Q:VK)(u:Value)(s':Shared):Prop :=
 ∃v H',s'.os=s.os/\AllBare s'.gens/\Un (frs outer) [] H H' s.heap s'.heap/\HOk P w H' s'.heap/\RelV v u/\Q v H'
def CR(CX:CXT)(outer:List Env)(P:Program)(w:World)(H:Hp)(s:Shared)(Q:VK)(E:XK)(r:Result)(s':Shared):Prop :=
 match r with
 | .ok (.ret u)=>CE outer P w H s Q u s'
 | .ok _=>False
 | .error e=>CX outer H s E e s'
structure FnOk(P:Program)(w:World)(K:PySem.W.Frag)(mg:Str->Option Value)(base:Heap)(CX:CXT)(k:Nat)(f:Addr)(fd:FuncData)(ps:List Str)(sp:Sp):Prop where
 len:∀vs H Q E,sp vs H Q E->vs.length=ps.length
 run:∀(A:Around) (outer:List Env) (s:Shared) (H:Hp) (args:Args) (us:List Value) (vs:List V) (Q:VK) (E:XK),Room k A->Env0 P w K mg base A outer s H->BindsTo s fd args (ps.zip us)->Vals vs us->sp vs H Q E ->
  codeAny (model P w) A (.call (.ref f) args) (CR CX outer P w H s Q E) s
theorem FnOk.mono{P:Program}{w:World}{K:PySem.W.Frag}{mg:Str->Option Value}{base:Heap}{CX:CXT}{j k:Nat}{f:Addr}{fd:FuncData}{ps:List Str}{sp:Sp}(F:FnOk P w K mg base CX j f fd ps sp)(h:j<=k) :
  FnOk P w K mg base CX k f fd ps sp:=⟨F.len,fun A outer s H args us vs Q E hr=>F.run A outer s H args us vs Q E (hr.mono h)⟩
theorem Env0.make{P:Program}{w:World}{K:PySem.W.Frag}{mg:Str->Option Value}{base:Heap}{A:Around}{outer:List Env}{s:Shared}{H:Hp}(e:Env0 P w K mg base A outer s H)(C:Addr)(us:List Value)(kw:List (Str×Value)) :
  Env0 P w K mg base (A.under (.builtin "type.__call__" ⟨.ref C::us,kw⟩)) outer s H:=⟨by first | exact e.frames | (simpa [Around.under,Code.envs,Code.isFrame,pushEnvs] using e.frames),e.mod,e.bs,e.bsz,e.funs,e.frf,e.hok,e.bare⟩
section
variable{X:Cx}{pins:List (Addr×Obj)}{σ:St}{H:Hp}{s s':Shared}
theorem Inv.env0(I:Inv X pins σ H s):Env0 X.prog X.w X.K X.mg X.base X.A X.stack s H :=
 ⟨I.ok.frames,I.ok.mod,I.bs,Nat.le_trans I.ok.bsz I.sz,I.stack,I.stkFree,I.hok,I.bare⟩
theorem Inv.after{Q:VK}{u:Value}(I:Inv X pins σ H s)(h:CE X.stack X.prog X.w H s Q u s'):EP X pins σ Q u s':=by
 obtain⟨v,H',os,bare,un,hok,r,q⟩:=h;obtain⟨hh,g,d,t,os'⟩:=s';obtain rfl:os'=s.os:=os;exact⟨v,H',I.call (h':=hh) (g':=g) (d':=d) (t':=t) (ch:=[]) un hok bare (fun b z=>absurd z (by simp)),r,q⟩
end
def Kv(sp:Sp)(dvs:List V)(E:XK)(t:TA):TE:=fun σ H Q=>t σ H fun vs H1=>sp (vs++dvs) H1 Q E
def Te(C:Addr)(sp:Sp)(dvs:List V)(E:XK)(t:TA):TE:=fun σ H Q=>t σ H fun vs H1=>∀x dx,H1 x=none->H1 dx=none->dx≠x ->
 sp (.ref x ::(vs++dvs)) (upd (upd H1 dx (.own x)) x (.ins C dx [])) (fun v H2=>v = .non/\Q (.ref x) H2) E
def Binds(K:PySem.W.Frag)(fd:FuncData)(ps:List Str)(ds:List Value):Prop :=
 ∀(s:Shared) (us:List Value),K.In s.heap->(us++ds).length=ps.length->BindsTo s fd ⟨us,[]⟩ (ps.zip (us++ds))
theorem Binds.all{K:PySem.W.Frag}{fd:FuncData}{ps:List Str}(h:∀us:List Value,us.length=ps.length->bindArgs fd ⟨us,[]⟩=pure (ps.zip us)):Binds K fd ps []:=fun s us _ hl=>by
 rw[CA]at hl⊢;exact .of_eq (h us hl)
def m8(CX:CXT)(X:Cx)(E:XK):Prop:=∀(pins:List (Addr×Obj)) (σ:St) (H:Hp) (s:Shared) (e:Value) (s':Shared),Inv X pins σ H s->CX X.stack H s E e s'->X.xe e s'
section
variable{X:Cx}{CX:CXT}{k:Nat}{f C:Addr}{fd:FuncData}{ps:List Str}{sp:Sp}{dvs:List V}{ds:List Value}{E:XK}{x m:Str}{p pos apos:Pos}{e o:Expr}{es:List Expr}{ta:TE}{t:TA}
theorem Mg{pins:List (Addr×Obj)}{σ:St}{H:Hp}{s:Shared}{Q:VK}{us:List Value}{vs:List V}(F:FnOk X.prog X.w X.K X.mg X.base CX k f fd ps sp)(hr:Room k X.A)(hb:Binds X.K fd ps ds)(hd:Vals dvs ds)(hx:m8 CX X E)
  (I:Inv X pins σ H s) (r:Vals vs us) (h:sp (vs++dvs) H Q E):wpAny (model X.prog X.w) X.A (call (.ref f) us) (EP X pins σ Q) X.xe s:=by
 have r2:Vals (vs++dvs) (us++ds):=r.append hd;have hl:(us++ds).length=ps.length:=by rw[<-r2.length];exact F.len _ _ _ _ h
 refine EC (DV (F.run X.A X.stack s H ⟨us,[]⟩ (us++ds) (vs++dvs) Q E hr I.env0 (hb s us I.kIn hl) r2 h) fun r s' hq=>?_);cases r with
 | error e=>exact hx pins σ H s e s' I hq
 | ok fl =>
  cases fl with
  | ret u=>exact I.after hq
  | next=>exact False.elim hq
  | brk=>exact False.elim hq
  | cont=>exact False.elim hq
theorem Hq(F:FnOk X.prog X.w X.K X.mg X.base CX k f fd ps sp)(hr:Room k X.A)(hg:Gl X x)(hm:X.mg x=some (.ref f))(hk:PySem.W.keepIn X.K (.ref f)=true)(hb:Binds X.K fd ps ds)(hd:Vals dvs ds)(hx:m8 CX X E)
  (ha:PA X (e::es) t) (hdb:(x ==("__debug__":Str))=false:=by decide) (he:starEach (e::es) X.env =(false,eval e X.env)::starEach es X.env:=by rfl) (hpl:(backTo pos (starEach es X.env)).any (·.1)=false:=by rfl) :
  PE X (.Call (.Name x p) (e::es) [] pos) (Kv sp dvs E t):=by
 intro pins s σ H Q I h;refine CI (T0 I hg hm ?_ hdb);refine PySem.W.callWith_K (h₀:=X.base) I.ok.mod.kin hk (thn (ha pos pins s σ H _ I h) fun us s1 ⟨vs,H1,I1,r,q⟩=>⟨I1.kIn,?_⟩) he hpl;exact Mg F hr hb hd hx I1 r q
structure Mk(K:PySem.W.Frag)(C f:Addr):Prop where
 makes:PySem.W.makesIn K C=true
 init:PySem.W.findIn K (.ref C) "__init__" = some (some (.ref f))
 fn:PySem.W.isFn K (.ref f)=true
 kp:PySem.W.keepIn K (.ref C)=true
theorem Kk{pins:List (Addr×Obj)}{σ:St}{H:Hp}{s:Shared}{Q:VK}{us:List Value}{vs:List V}(M:Mk X.K C f)(F:FnOk X.prog X.w X.K X.mg X.base CX k f fd ps sp)(hr:Room (k+1) X.A)(hb:Binds X.K fd ps ds)(hd:Vals dvs ds)
  (hx:m8 CX X E) (I:Inv X pins σ H s) (r:Vals vs us)
  (h:∀x dx,H x=none->H dx=none->dx≠x->sp (.ref x ::(vs++dvs)) (upd (upd H dx (.own x)) x (.ins C dx [])) (fun v H2=>v = .non/\Q (.ref x) H2) E) :
  wpAny (model X.prog X.w) X.A (call (.ref C) us) (EP X pins σ Q) X.xe s:=by
 have hq:=h (s.heap.objs.size+1) s.heap.objs.size (I.hok.fresh (BZ _)) (I.hok.fresh (Nat.le_refl _)) (AQ (FL _));have I2:=Inv.made (C:=C) I;have r2:Vals (V.ref (s.heap.objs.size+1) ::(vs++dvs)) (Value.ref (s.heap.objs.size+1) ::(us++ds)):=.cons rfl (r.append hd);have hl:(Value.ref (s.heap.objs.size+1)::us++ds).length=ps.length:=by
  have e:=r2.length;rw[F.len _ _ _ _ hq]at e;exact e.symm
 refine EC (Lv (f:=f) I.kIn M.makes M.init (beq_iff_eq.mp M.fn) (DV (F.run _ X.stack _ _ ⟨Value.ref (s.heap.objs.size+1)::us,[]⟩ (Value.ref (s.heap.objs.size+1) ::(us++ds)) _ _ E (hr.make C us [])
  (I2.env0.make C us []) (hb _ (Value.ref (s.heap.objs.size+1)::us) I2.kIn hl) r2 hq) fun r s' hq'=>?_))
 cases r with
 | error e=>exact hx pins σ _ _ e s' I2 hq'
 | ok fl =>
  cases fl with
  | ret u =>
   obtain⟨v,H',I3,rv,ev,q3⟩:=I2.after hq';subst ev;exact⟨rv,⟨V.ref (s.heap.objs.size+1),H',I3,rfl,q3⟩⟩
  | next=>exact False.elim hq'
  | brk=>exact False.elim hq'
  | cont=>exact False.elim hq'
theorem Ov(M:Mk X.K C f)(F:FnOk X.prog X.w X.K X.mg X.base CX k f fd ps sp)(hr:Room (k+1) X.A)(hg:Gl X x)(hm:X.mg x=some (.ref C))(hb:Binds X.K fd ps ds)(hd:Vals dvs ds)(hx:m8 CX X E)
  (ha:PA X (e::es) t) (hdb:(x ==("__debug__":Str))=false:=by decide) (he:starEach (e::es) X.env =(false,eval e X.env)::starEach es X.env:=by rfl) (hpl:(backTo pos (starEach es X.env)).any (·.1)=false:=by rfl) :
  PE X (.Call (.Name x p) (e::es) [] pos) (Te C sp dvs E t):=by
 intro pins s σ H Q I h;refine CI (T0 I hg hm ?_ hdb);refine PySem.W.callWith_K (h₀:=X.base) I.ok.mod.kin M.kp (thn (ha pos pins s σ H _ I h) fun us s1 ⟨vs,H1,I1,r,q⟩=>⟨I1.kIn,?_⟩) he hpl;exact Kk M F hr hb hd hx I1 r q
end
structure FnScope(N P:List Str)(sc:Scope):Prop where
 kind:sc.kind = .function
 co:sc.isCoroutine=false
 gen:sc.isGenerator=false
 nd:N.Nodup
 pre:N.take P.length=P
 par:∀x∈P,sc.names.lookup x=some .local\/sc.names.lookup x=some .cell
 nofree:∀y∈sc.names,y.2≠ .free
theorem Br{kindOf:Str->Option NameKind}{x:Str}:∀{binds:List (Str×Value)} {m:Str->Option Value},(∀v,(x,v)∉binds)->bindL kindOf binds m x=m x
 | [],_,_=>rfl
 | (n,v)::r,m,h=>by
  unfold bindL;rw[Br fun w hw=>h w (AY _ hw)];split
  .have:x≠n:=by rintro rfl;exact h v BC
   simp[this]
  .rfl
theorem Bj{kindOf:Str->Option NameKind}{x:Str}:∀{binds:List (Str×Value)} {m:Str->Option Value},(∀v,(x,v)∉binds)->bindC kindOf binds m x=m x
 | [],_,_=>rfl
 | (n,v)::r,m,h=>by
  unfold bindC;rw[Bj fun w hw=>h w (AY _ hw)];split
  .rfl
  .have:x≠n:=by rintro rfl;exact h v BC
   simp[this]
theorem Ap{kindOf:Str->Option NameKind}{x:Str}{v:Value}:∀{P:List Str} {vs:List Value} {i:Nat} {m:Str->Option Value},P.Nodup->P[i]?=some x->vs[i]?=some v->kindOf x=some .local ->
  bindL kindOf (P.zip vs) m x=some v
 | [],_,_,_,_,h,_,_=>by simp at h
 | _::_,[],_,_,_,_,h,_=>by simp at h
 | p::P,w::vs,0,m,nd,h1,h2,hk=>by
  simp at h1 h2;subst h1;subst h2;show bindL kindOf ((p,w)::P.zip vs) m p=_;unfold bindL;rw[Br fun v hv=>(CT.mp nd).1 (FB hv).1,BB hk];simp
 | p::P,w::vs,i+1,m,nd,h1,h2,hk=>by
  show bindL kindOf ((p,w)::P.zip vs) m x=_;unfold bindL;exact Ap (i:=i) (CT.mp nd).2 (by simpa using h1) (by simpa using h2) hk
theorem Cb{kindOf:Str->Option NameKind}{x:Str}{v:Value}:∀{P:List Str} {vs:List Value} {i:Nat} {m:Str->Option Value},P.Nodup->P[i]?=some x->vs[i]?=some v->kindOf x≠some .local ->
  bindC kindOf (P.zip vs) m x=some v
 | [],_,_,_,_,h,_,_=>by simp at h
 | _::_,[],_,_,_,_,h,_=>by simp at h
 | p::P,w::vs,0,m,nd,h1,h2,hk=>by
  simp at h1 h2;subst h1;subst h2;show bindC kindOf ((p,w)::P.zip vs) m p=_;unfold bindC;rw[Bj fun v hv=>(CT.mp nd).1 (FB hv).1,AU hk];simp
 | p::P,w::vs,i+1,m,nd,h1,h2,hk=>by
  show bindC kindOf ((p,w)::P.zip vs) m x=_;unfold bindC;exact Cb (i:=i) (CT.mp nd).2 (by simpa using h1) (by simpa using h2) hk
def i0(N:List Str)(vs:List V):St:=vs.map some++List.replicate (N.length-vs.length) none
def Lj(CX:CXT)(P:Program)(w:World)(K:PySem.W.Frag)(mg:Str->Option Value)(base:Heap)(N:List Str)(qual:Str)(scope:Scope)(f:Addr)(cd:Value)(A:Around)(outer:List Env)(s:Shared)(H:Hp)(E:XK):Cx where
 prog:=P
 w:=w
 K:=K
 mg:=mg
 base:=base
 A:=A.deeper (envOfC qual scope s.heap.objs.size f cd)
 N:=N
 s₀:=s
 H₀:=H
 env:=envOfC qual scope s.heap.objs.size f cd
 outer:=outer
 stack:=envOfC qual scope s.heap.objs.size f cd::outer
 ex:=[]
 calm:=true
 fn:=fun _=>true
 pn:=[]
 xe:=fun e s'=>wpAny (model P w) (A.deeper (envOfC qual scope s.heap.objs.size f cd)) (leaving (envOfC qual scope s.heap.objs.size f cd) e) (fun _ s''=>CX outer H s E e s'') (fun e' s''=>CX outer H s E e' s'') s'
theorem Dz{sc:Scope}{n:Nat}{x:Str}(h:sc.names.lookup x=some .cell):∃c,(cellsFrom n sc.names []).lookup x=some c:=by
 have q:=PySem.W.cellsFrom_some sc.names n [] (.inl h);exact DX.mp q
theorem Gy{CX:CXT}{P:Program}{w:World}{K:PySem.W.Frag}{mg:Str->Option Value}{base:Heap}{N ps:List Str}{qual:Str}{scope:Scope}{f:Addr}{cd:Value}{A:Around}{outer:List Env}{s s1:Shared}{H:Hp}{E:XK}{us:List Value}{vs:List V}
  (S:FnScope N ps scope) (hd:A.handled=none) (e0:Env0 P w K mg base A outer s H) (hl:vs.length=ps.length) (r:Vals vs us)
  (x:InCallC s s.heap.objs.size (bindL (envOfC qual scope s.heap.objs.size f cd).kindOf (ps.zip us) fun _=>none) (cellsFrom (s.heap.objs.size+1) scope.names []) (bindC (envOfC qual scope s.heap.objs.size f cd).kindOf (ps.zip us) fun _=>none) s1) :
  Inv (Lj CX P w K mg base N qual scope f cd A outer s H E) [] (i0 N vs) H s1:=by
 have hpl:ps.length<=N.length:=by have:=congrArg List.length S.pre;rw[AG]at this;omega
 obtain⟨h1,tk,rfl,hk⟩:=x.done;have noA:∀b:Addr,b∉(Lj CX P w K mg base N qual scope f cd A outer s H E).ex:=fun b z=>absurd (show b∈([]:List Addr)from z) (by simp);refine⟨⟨e0.mod,S.kind,rfl,rfl,Nat.le_refl _,fun y z c h1 h2=>?_,fun y hy=>?_,fun y c _ h=>?_,fun _=>hd,Around.frames_deeper e0.frames,.inr ⟨rfl,rfl⟩,fun b z=>absurd z (noA b),e0.bs,e0.bsz,fun b _ _=>noA b,fun b z=>absurd z (noA b),e0.funs,e0.frf⟩,
  rfl,e0.bare,Un.kept hk,⟨_,x.toInCall.ns,fun i y v h1 h2 h3=>?_⟩,fun y c h=>⟨_,x.cell y c h⟩,e0.hok.fresh (Nat.le_refl _),fun y c h=>?_,fun p hp=>absurd (show p∈([]:List (Addr×Obj))from hp) (by simp),e0.hok.kept hk,?_⟩
 .exact name_of_addr x.apart (PySem.mem_of_lookup h1) (PySem.mem_of_lookup h2)
 .have hy:scope.names.lookup y=some .cell\/scope.names.lookup y=some .free:=hy;rcases hy with hy | hy
  .exact Dz hy
  .exact absurd rfl (S.nofree _ (PySem.mem_of_lookup hy))
 .exact CS (x.above y c (PySem.mem_of_lookup h))
 .have hi:i<vs.length:=by
   unfold i0 at h2;by_cases hi:i<vs.length
   .exact hi
   .rw[CY (by simpa using hi)]at h2;rw[List.getElem?_replicate]at h2;split at h2<;>cases h2
  have ha:vs[i]?=some v:=by
   unfold i0 at h2;rw[DE (by simpa using hi),AH]at h2;cases e:vs[i]? with
   | none=>rw[e]at h2;cases h2
   | some a=>rw[e]at h2;cases h2;rfl
  obtain⟨u,hu,rv⟩:=r.get ha;have hp:ps[i]?=some y:=by
   rw[<-S.pre,CB (by omega)];exact h1
  have ndP:ps.Nodup:=by rw[<-S.pre];exact S.nd.sublist (CN _ _)
  refine⟨u,rv,?_⟩;rcases S.par y (AL hp)with k | k
  .exact .inl ⟨k,Ap ndP hp hu k⟩
  .obtain⟨c,e⟩:=Dz (n:=s.heap.objs.size+1) k;refine .inr ⟨.inl k,c,e,?_⟩;have q:=x.cell y c e;rw[Cb ndP hp hu (by show scope.names.lookup y≠_;rw[k];decide)]at q;exact q
 .exact e0.hok.fresh (CS (x.above y c (PySem.mem_of_lookup h)))
 .unfold i0;show _=N.length;rw[BF,AB,List.length_replicate];omega
theorem Ol{CX:CXT}{P:Program}{w:World}{K:PySem.W.Frag}{mg:Str->Option Value}{base:Heap}{k:Nat}{f:Addr}{name qual:Str}{params:Arguments}{body:List Stmt}{scope:Scope}{dV kV doc pm cdv ct oc:Value}{an od:Option Addr}
  {osl:Array (Option Value)} {N ps:List Str} {sp:Sp} (lk:K.lookup f=some ⟨oc,od,.func (PySem.W.fnOf name qual params body scope dV kV doc pm an cdv ct),osl⟩) (hcd:PySem.W.codeIn K cdv qual=true) (S:FnScope N ps scope)
  (len:∀vs H Q E,sp vs H Q E->vs.length=ps.length)
  (hbody:∀(A:Around) (outer:List Env) (s:Shared) (H:Hp) (vs:List V) (Q:VK) (E:XK),Room k (A.deeper (envOfC qual scope s.heap.objs.size f cdv))->sp vs H Q E ->
   ∃t,PSs (Lj CX P w K mg base N qual scope f cdv A outer s H E) body t/\t { nx:=fun _ H'=>Q .non H',rt:=Q } (i0 N vs) H) :
  FnOk P w K mg base CX (k+1) f (PySem.W.fnOf name qual params body scope dV kV doc pm an cdv ct) ps sp:=by
 refine⟨len,fun A outer s H args us vs Q E hr e0 hb r hsp=>?_⟩;have hl:=len _ _ _ _ hsp;have KX:K.In s.heap:=e0.mod.kin.keeps fun b o e=>(e0.bs b o e).1;have lim:s.heap.NoLimit:=e0.mod.nolimit.keeps fun b o e=>(e0.bs b o e).1;have hkind:∀y∈ps.zip us,scope.names.lookup y.1=some .local\/(scope.names.lookup y.1=some .cell/\((cellsFrom (s.heap.objs.size+1) scope.names []).lookup y.1).isSome=true):=fun⟨n,v⟩ hy=>by
  rcases S.par n (FB hy).1 with q | q
  .exact .inl q
  .exact .inr ⟨q,PySem.W.cellsFrom_some _ _ _ (.inl q)⟩
 refine codeAny_call_function hr.depth (KX _ _ lk) rfl S.co S.gen rfl (PySem.W.codeRec_of KX hcd) (hb _ _ _ _ ?_);refine wpAny_newFunctionEnv_cells S.kind hkind fun env he s1 x=>?_;subst he;refine⟨lim.keeps x.toInCall.keep,codeAny_func ?_⟩;obtain⟨t,ht,hq⟩:=hbody A outer s H vs Q E (hr.deeper _) hsp;have I:Inv (Lj CX P w K mg base N qual scope f cdv A outer s H E) [] (i0 N vs) H s1:=Gy S hr.hd e0 hl r x;refine BP (ht [] s1 (i0 N vs) H _ I hq) (fun fl s' hs=>?_) fun e s' hs=>hs;have fin:∀{σ':St} {H':Hp} {v:V} {u:Value},Inv (Lj CX P w K mg base N qual scope f cdv A outer s H E) [] σ' H' s'->RelV v u->Q v H'->CE outer P w H s Q u s' :=
  fun{σ' H' v u} J rv q=>⟨v,H',J.os,J.bare,J.base,J.hok,rv,q⟩
 cases fl with
 | ret u =>
  obtain⟨v,σ',H',J,rv,q⟩:=hs;exact fin J rv q
 | next =>
  obtain⟨σ',H',J,q⟩:=hs;exact fin (v:=V.non) (u:=Value.none) J rfl q
 | brk =>
  obtain⟨_,_,_,q⟩:=hs;exact False.elim q
 | cont =>
  obtain⟨_,_,_,q⟩:=hs;exact False.elim q
section
variable{X:Cx}{x:Str}{p pos:Pos}{e:Expr}{es:List Expr}{t:TA}{id T:String}{r:List V->Hp->VK->Prop}
def tCB(r:List V->Hp->VK->Prop)(t:TA):TE:=fun σ H Q=>t σ H fun vs H1=>r vs H1 Q
theorem Mc(hc:E3 X (.builtin id) r)(hg:Gl X x)(hm:X.mg x=none)(hv:bootBuiltins x=some (.builtin id))(ha:PA X (e::es) t)(hn:x≠ "__name__":=by decide)(hdb:(x ==("__debug__":Str))=false:=by decide)
  (he:starEach (e::es) X.env =(false,eval e X.env)::starEach es X.env:=by rfl) (hpl:(backTo pos (starEach es X.env)).any (·.1)=false:=by rfl):PE X (.Call (.Name x p) (e::es) [] pos) (tCB r t):=by
 intro pins s σ H Q I h;refine CI (X8 I hg hm hv ?_ hn hdb);exact PyProof.Rows.callWith_builtin1 (thn (ha pos pins s σ H _ I h) fun us s1 ⟨vs,H1,I1,r1,q1⟩=>hc pins s1 σ H1 vs us Q I1 r1 q1) he hpl
theorem Jg(hc:E3 X (.type T) r)(hg:Gl X x)(hm:X.mg x=none)(hv:bootBuiltins x=some (.type T))(ha:PA X (e::es) t)(hn:x≠ "__name__":=by decide)(hdb:(x ==("__debug__":Str))=false:=by decide)
  (he:starEach (e::es) X.env =(false,eval e X.env)::starEach es X.env:=by rfl) (hpl:(backTo pos (starEach es X.env)).any (·.1)=false:=by rfl):PE X (.Call (.Name x p) (e::es) [] pos) (tCB r t):=by
 intro pins s σ H Q I h;refine CI (X8 I hg hm hv ?_ hn hdb);exact PyProof.Rows.callWith_type1 (thn (ha pos pins s σ H _ I h) fun us s1 ⟨vs,H1,I1,r1,q1⟩=>hc pins s1 σ H1 vs us Q I1 r1 q1) he hpl
end
end L2
namespace HT
open PySem PyProof.Rows
section
variable{prog:Program}{w:World}{A:Around}{E:Value->Shared->Prop}{s:Shared}
def sIx(n d:Nat):Option Int->Nat
 | none=>d
 | some v=>if v<0 then(v +(n:Int)).toNat else min v.toNat n
theorem sIx_none(n d:Nat):sIx n d none=d:=rfl
theorem sIx_nat(n d k:Nat):sIx n d (some (k:Int))=min k n:=by
 show(if(k:Int)<0 then((k:Int) +(n:Int)).toNat else min (k:Int).toNat n)=min k n;rw[AU (by omega),EJ]
end
end HT
namespace L2
open PySem PySem.Spec PyProof.Rows
abbrev TO:=St->Hp->(Option Int->Hp->Prop)->Prop
def PO(X:Cx)(e:Option Expr)(t:TO):Prop :=
 ∀(pins:List (Addr×Obj)) (s:Shared) (σ:St) (H:Hp) (Q:Option Int->Hp->Prop),Inv X pins σ H s->t σ H Q ->
  wpAny (model X.prog X.w) X.A (evalPart e X.env) (fun u s'=>∃o H',Inv X pins σ H' s'/\IsPart u o/\Q o H') X.xe s
def Nx:TO:=fun _ H Q=>Q none H
def Tr(t:TE):TO:=fun σ H Q=>t σ H fun x H1=>∃i,x = .int i/\Q (some i) H1
theorem n8{ns:List Int}:∀{us:List Value},Vals (ns.map V.int) us->IntsAre us ns:=by
 induction ns with
 | nil=>intro us r;rw[List.map_nil]at r;cases r;exact .nil
 | cons n ns ih =>
  intro us r;rw[BQ]at r;cases r with
  | cons r1 r2 =>
   obtain⟨t,e⟩:=r1;subst e;exact .cons n t (ih r2)
section
variable{X:Cx}{e:Expr}{te:TE}{lo hi:Option Expr}{tl th:TO}{pos p2:Pos}
theorem U0:PO X none Nx:=by
 intro pins s σ H Q I h;rw[evalPart_none];exact AD ⟨none,H,I,.none,h⟩
theorem U4(h:PE X e te):PO X (some e) (Tr te):=by
 intro pins s σ H Q I hw;rw[evalPart_some];refine thn (h pins s σ H _ I hw) fun u s1 ⟨x,H1,I1,r1,q1⟩=>?_;obtain⟨i,rfl,q⟩:=q1;obtain⟨t,rfl⟩:=r1;exact⟨some i,H1,I1,.int i t,q⟩
def SlR(X:Cx)(r:V->Option Int->Option Int->Hp->VK->Prop):Prop :=
 ∀(pins:List (Addr×Obj)) (s:Shared) (σ:St) (H:Hp) (x:V) (v vl vu:Value) (lo hi:Option Int) (sl:Addr) (Q:VK),Inv X pins σ H s->RelV x v->s.heap.IsSliceOf sl vl vu .none->IsPart vl lo->IsPart vu hi->r x lo hi H Q ->
  ∃T id,typeLookup (.type T) "__getitem__" = pure (some (.builtin id))/\s.TypeIs v T/\wpAny (model X.prog X.w) X.A (getItem v (.ref sl)) (EP X pins σ Q) X.xe s
def tSl(r:V->Option Int->Option Int->Hp->VK->Prop)(te:TE)(tl th:TO):TE:=fun σ H Q=>te σ H fun x H1=>tl σ H1 fun l H2=>th σ H2 fun u H3=>r x l u H3 Q
theorem P2{r:V->Option Int->Option Int->Hp->VK->Prop}(hr:SlR X r)(he:PE X e te)(hl:PO X lo tl)(hu:PO X hi th):PE X (.Subscript e (.Slice lo hi none p2) pos) (tSl r te tl th):=by
 intro pins s σ H Q I h;refine Subscript_ (thn (he pins s σ H _ I h) fun v s1 ⟨x,H1,I1,r1,q1⟩=>?_);refine wpAny_Slice (thn (hl pins s1 σ H1 _ I1 q1) fun vl s2 ⟨l,H2,I2,pl,q2⟩=>thn (hu pins s2 σ H2 _ I2 q2) fun vu s3 ⟨u,H3,I3,pu,q3⟩=>?_);rw[evalPart_none];refine AD ?_;have I4:Inv X pins σ H3 { s3 with heap:=s3.heap.push { cls:=.type "slice",data:=.fields #[vl,vu,.none] } }:=I3.kept (t':=s3.toks) fun b ob q=>AC _ q;obtain⟨T,id,hT,ht,hg⟩:=hr pins { s3 with heap:=s3.heap.push { cls:=.type "slice",data:=.fields #[vl,vu,.none] } } σ H3 x v vl vu l u s3.heap.objs.size Q I4 r1 (Heap.IsSliceOf.new ..) pl pu q3;show wpAny (model X.prog X.w) X.A (subscriptTail e (.Slice lo hi none p2) v (.ref s3.heap.objs.size)) (EP X pins σ Q) X.xe { s3 with heap:=s3.heap.push { cls:=.type "slice",data:=.fields #[vl,vu,.none] } };exact tail_any (ops:=[.ref s3.heap.objs.size,v]) ht hT hg (by with_unfolding_all rfl)
def S5(xs:List V)(lo hi:Option Int):List V:=(xs.drop (HT.sIx xs.length 0 lo)).take (HT.sIx xs.length xs.length hi-HT.sIx xs.length 0 lo)
theorem Di(xs:List V)(lo hi:Option Int):(S5 xs lo hi).length<=xs.length:=by
 unfold S5;rw[AG,BR];omega
end
def ixN(n:Nat)(i:Int):Option Nat:=if 0<=i then(if i<n then some i.toNat else none)else if -(n:Int)<=i then some (i+n).toNat else none
def atI{α:Type}(xs:List α)(i:Int):Option α:=(ixN xs.length i).bind fun j=>xs[j]?
theorem Jj{n:Nat}{i:Int}{j:Nat}(h:ixN n i=some j):seqIndex? i n=some j/\j<n/\-(n:Int)<=i/\i<n:=by
 unfold ixN at h;by_cases h0:0<=i
 .rw[BB h0]at h;by_cases h1:i<n
  .rw[BB h1]at h;have e:i.toNat=j:=BU h;exact⟨by rw[seqIndex_of h0 h1,e],by omega,by omega,h1⟩
  .rw[AU h1]at h;cases h
 .rw[AU h0]at h;by_cases h1:-(n:Int)<=i
  .rw[BB h1]at h;have e:(i+n).toNat=j:=BU h;exact⟨by rw[seqIndex_neg (by omega) h1,e],by omega,h1,by omega⟩
  .rw[AU h1]at h;cases h
theorem Hr{α:Type}{xs:List α}{i:Int}{v:α}(h:atI xs i=some v):∃j,seqIndex? i xs.length=some j/\xs[j]?=some v/\j<xs.length/\-(xs.length:Int)<=i/\i<xs.length:=by
 unfold atI at h;cases e:ixN xs.length i with
 | none=>rw[e]at h;cases h
 | some j =>
  rw[e]at h;obtain⟨h1,h2,h3,h4⟩:=Jj e;exact⟨j,h1,h,h2,h3,h4⟩
theorem B6{α:Type}{xs:List α}{j:Nat}{v:α}(h:xs[j]?=some v):atI xs (j:Int)=some v:=by
 have hj:j<xs.length:=(AK.mp h).1;have e:ixN xs.length (j:Int)=some j:=by
  unfold ixN;rw[BB (by omega),BB (by omega)];simp
 unfold atI;rw[e];exact h
def Og(b:Expr):Prop:=∀o i,subscripted b false o i=operate [o,i] (getItem o i)
def IxR(X:Cx)(r:R2):Prop :=
 ∀(value slice:Expr) (pins:List (Addr×Obj)) (s:Shared) (σ:St) (H:Hp) (x y:V) (v u:Value) (Q:VK),Inv X pins σ H s->RelV x v->RelV y u->r x y H Q ->
  subscripted slice false v u=operate [v,u] (getItem v u)->wpAny (model X.prog X.w) X.A (subscriptTail value slice v u) (EP X pins σ Q) X.xe s
def MtR(X:Cx)(id:String)(r:V->List V->Hp->VK->Prop):Prop :=
 ∀(pins:List (Addr×Obj)) (s:Shared) (σ:St) (H:Hp) (x:V) (xs:List V) (v:Value) (us:List Value) (Q:VK),Inv X pins σ H s->RelV x v->Vals xs us->r x xs H Q ->
  wpAny (model X.prog X.w) X.A (call (.builtin id) (v::us)) (EP X pins σ Q) X.xe s
section
variable{X:Cx}{a b:Expr}{ta tb:TE}{pos:Pos}
theorem C1{r:R2}(hr:IxR X r)(ha:PE X a ta)(hb:PE X b tb)(hs:Og b):PE X (.Subscript a b pos) (tOp r ta tb):=by
 intro pins s σ H Q I h;exact Subscript_ (Tq ha hb I h fun v u s2 x y H2 I2 rx ry q=>hr a b pins s2 σ H2 x y v u Q I2 rx ry q (hs _ _))
def Ue(K:PySem.W.Frag):R2:=fun x y H Q=>∃p xs i v,x = .ref p/\y = .int i/\SqL K H p xs/\atI xs i=some v/\Q v H
def Uo(K:PySem.W.Frag):R2:=fun x y H Q=>∃p xs i v,x = .ref p/\y = .int i/\SqT K H p xs/\atI xs i=some v/\Q v H
theorem Oy:IxR X (Ue X.K):=by
 intro value slice pins s σ H x y v u Q I rx ry h hs;obtain⟨p,xs,i,z,rfl,rfl,hq,he,q⟩:=h;cases rx;obtain⟨t,rfl⟩:=ry;obtain⟨its,r,pl,hz⟩:=I.list hq;obtain⟨j,h1,h2,h3,h4,h5⟩:=Hr he;obtain⟨w,ew,rw'⟩:=r.get h2;have hl:=r.length;have hn:=Ar;have fin:EP X pins σ Q w s:=⟨z,H,I,rw',q⟩;by_cases h0:0<=i
 .have hj:i.toNat=j:=by
   rw[seqIndex_of h0 h5]at h1;exact BU h1
  exact item_listR pl.isList h0 (by omega) (by rw[hj];simpa using ew) fin hs
 .have hj:(i +(its.toArray.size:Int)).toNat=j:=by
   rw[seqIndex_neg (by omega) h4]at h1;rw[AO,<-hl];exact BU h1
  exact subscriptTail_builtinR (x:=w) pl.isList.typeIs slot_list_getitem.lookup
   (wpAny_getItem_list_neg (Q:=fun r s'=>r=w/\EP X pins σ Q r s') pl.isList (by omega) (by rw[AO]<;>omega) (by omega) (by rw[hj];simpa using ew) ⟨rfl,fin⟩) hs
theorem Sl:IxR X (Uo X.K):=by
 intro value slice pins s σ H x y v u Q I rx ry h hs;obtain⟨p,xs,i,z,rfl,rfl,hq,he,q⟩:=h;cases rx;obtain⟨t,rfl⟩:=ry;obtain⟨its,r,pl,hz⟩:=I.tuple hq;obtain⟨j,h1,h2,h3,h4,h5⟩:=Hr he;obtain⟨w,ew,rw'⟩:=r.get h2;have hl:=r.length;have hn:=Ar;have fin:EP X pins σ Q w s:=⟨z,H,I,rw',q⟩;exact subscriptTail_builtinR (x:=w) pl.typeIs slot_tuple_getitem.lookup
  (getItem_tuple (j:=j) (Q:=fun r s'=>r=w/\EP X pins σ Q r s') pl (by omega) (by omega) (by rw[AO,<-hl];exact h1) (by simpa using ew) ⟨rfl,fin⟩) hs
theorem Gm(its:List Value)(n j:Nat)(u:Value):Obj.mapSeq (·.setIfInBounds j u) { cls:=.type "list",data:=.seq its.toArray n } ={ cls:=.type "list",data:=.seq (its.set j u).toArray n }:=by
 simp[Obj.mapSeq]
theorem Inv.lst{pins:List (Addr×Obj)}{σ:St}{H:Hp}{s:Shared}{p:Addr}{xs:List V}(I:Inv X pins σ H s)(h:H p=some (.lst xs)) :
  ∃(its:List Value) (n:Nat),Vals xs its/\s.heap.get? p=some { cls:=.type "list",data:=.seq its.toArray n }/\xs.length<=sizeLine:=by
 obtain⟨z,its,n,r,e⟩:=I.hok p _ h;exact⟨its,n,r,e,z⟩
theorem Inv.lstUpd{pins:List (Addr×Obj)}{σ:St}{H:Hp}{s:Shared}{p:Addr}{xs ys:List V}{its its':List Value}{n n':Nat}{f:Obj->Obj}(I:Inv X pins σ H s)(h:H p=some (.lst xs))
  (ho:s.heap.get? p=some { cls:=.type "list",data:=.seq its.toArray n }) (hf:f { cls:=.type "list",data:=.seq its.toArray n } ={ cls:=.type "list",data:=.seq its'.toArray n' }) (r:Vals ys its') (hz:ys.length<=sizeLine) (t:Nat) :
  Inv X pins σ (upd H p (.lst ys)) { s with heap:=s.heap.update p f,toks:=t }:=by
 have e:(s.heap.update p f).get? p=some { cls:=.type "list",data:=.seq its'.toArray n' }:=by
  rw[CF f ho (by rw[hf]<;>rfl),hf]
 refine I.write (x:=p) (e:=p) (by rw[h];trivial) (.inl rfl) (fun b u hb q=>(BJ _ _ (Ne.symm hb)).trans q) ⟨_,e⟩ ?_;exact⟨hz,its',n',r,e⟩
def Tw:V->V->V->Hp->(Hp->Prop)->Prop:=fun o i v H Q=>∃p xs k j,o = .ref p/\i = .int k/\H p=some (.lst xs)/\ixN xs.length k=some j/\Q (upd H p (.lst (xs.set j v)))
theorem y8:Ud X Tw:=by
 intro pins s σ H o i v ov iv u Q I ro ri rv h;obtain⟨p,xs,k,j,rfl,rfl,hp,hj,q⟩:=h;cases ro;obtain⟨t,rfl⟩:=ri;obtain⟨its,n,r,ho,hz⟩:=I.lst hp;obtain⟨h1,h2,h3,h4⟩:=Jj hj;have hl:=r.length;have hn:=Ar;have I':Inv X pins σ (upd H p (.lst (xs.set j v))) { s with heap:=s.heap.update p (Obj.mapSeq (·.setIfInBounds j u)) } :=
  I.lstUpd hp ho (Gm its n j u) (r.set rv j) (by rw[List.length_set];exact hz) s.toks
 by_cases h0:0<=k
 .have hk:k.toNat=j:=by
   rw[seqIndex_of h0 h4]at h1;exact BU h1
  exact PySem.W.ki_setAt ho h0 (by omega) (by rw[AO,<-hl];exact h4) (by rw[hk];exact⟨_,I',q⟩)
 .have hk:(k +(its.toArray.size:Int)).toNat=j:=by
   rw[seqIndex_neg (by omega) h3]at h1;rw[AO,<-hl];exact BU h1
  exact PySem.W.ki_setBack ho (by omega) (by rw[AO,<-hl];exact h3) (by omega) (by rw[hk];exact⟨_,I',q⟩)
theorem Bi(lo hi:Option Int)(n:Nat):(sliceBounds lo hi none n).1 =((HT.sIx n 0 lo:Nat):Int)/\(sliceBounds lo hi none n).2.1 =((HT.sIx n n hi:Nat):Int)/\(sliceBounds lo hi none n).2.2=1:=by
 refine⟨?_,?_,rfl⟩
 .cases lo with
  | none=>simp[sliceBounds,HT.sIx]
  | some i =>
   simp only[sliceBounds,HT.sIx,Option.getD_none,show(1:Int)>0 by decide,EX];by_cases h:i<0
   .simp only[h,EX]<;>omega
   .simp only[h,DG]<;>omega
 .cases hi with
  | none=>simp[sliceBounds,HT.sIx]
  | some i =>
   simp only[sliceBounds,HT.sIx,Option.getD_none,show(1:Int)>0 by decide,EX];by_cases h:i<0
   .simp only[h,EX]<;>omega
   .simp only[h,DG]<;>omega
theorem Aa(its:List Value)(lo hi:Option Int):slicePick its.toArray lo hi none =((its.drop (HT.sIx its.length 0 lo)).take (HT.sIx its.length its.length hi-HT.sIx its.length 0 lo)).toArray:=by
 obtain⟨h1,h2,h3⟩:=Bi lo hi its.toArray.size;unfold slicePick;rw[h1,h2,h3];simp only[sliceRange_one,pick_run,AO]<;>rfl
def Uk(K:PySem.W.Frag):V->Option Int->Option Int->Hp->VK->Prop:=fun x lo hi H Q=>∃a xs,x = .ref a/\SqL K H a xs/\∀p,H p=none->Q (.ref p) (upd H p (.lst (S5 xs lo hi)))
theorem No:SlR X (Uk X.K):=by
 intro pins s σ H x v vl vu lo hi sl Q I rx hs pl pu h;obtain⟨a,xs,rfl,hx,q⟩:=h;cases rx;obtain⟨its,r,ht,hz⟩:=I.list hx;have hlen:=r.length;refine⟨"list",_,slot_list_getitem.lookup,ht.isList.typeIs,?_⟩;refine wpAny_getItem_list_slice ht.isList hs pl pu .none (by simp) ?_ (by rw[AO]<;>omega);rw[Aa,<-hlen];refine⟨.ref s.heap.objs.size,_,I.laid (t':=s.toks) (o:=.lst (S5 xs lo hi)) (fun b ob q=>AC _ q) (Nat.le_refl _) ?_,rfl,q _ (I.hok.fresh (Nat.le_refl _))⟩;exact⟨Nat.le_trans (Di xs lo hi) hz,_,0,(r.drop (HT.sIx xs.length 0 lo)).take (HT.sIx xs.length xs.length hi-HT.sIx xs.length 0 lo),AZ _ rfl⟩
def x6:V->Bool
 | .non=>true
 | .bl _=>true
 | .int _=>true
 | .str _=>true
 | _=>false
def eqV:V->V->Bool
 | .non,.non=>true
 | .bl a,.bl b=>a == b
 | .bl a,.int b=>(if a then 1 else 0) == b
 | .int a,.bl b=>a ==(if b then 1 else 0)
 | .int a,.int b=>a == b
 | .str a,.str b=>a == b
 | _,_=>false
theorem Ri{A:Around}{s:Shared}{y x:V}{u v:Value}(ry:RelV y u)(rx:RelV x v)(fy:x6 y=true)(fx:x6 x=true):SeqAt.EqAt A s u v (eqV y x):=by
 cases y with
 | non =>
  cases ry;cases x with
  | non=>cases rx;exact SeqAt.EqAt.same _
  | bl b=>cases rx;exact SeqAt.EqAt.none_bool b
  | int b=>obtain⟨t,rfl⟩:=rx;exact SeqAt.EqAt.none_int b t
  | str b=>obtain⟨t,rfl⟩:=rx;exact SeqAt.EqAt.none_str b t
  | _=>exact absurd (show false=true from fx) AM
 | bl a =>
  cases ry;cases x with
  | non=>cases rx;exact SeqAt.EqAt.bool_none a
  | bl b=>cases rx;exact SeqAt.EqAt.bool_bool a b
  | int b=>obtain⟨t,rfl⟩:=rx;exact SeqAt.EqAt.bool_int a b t
  | str b=>obtain⟨t,rfl⟩:=rx;exact SeqAt.EqAt.bool_str a b t
  | _=>exact absurd (show false=true from fx) AM
 | int a =>
  obtain⟨t',rfl⟩:=ry;cases x with
  | non=>cases rx;exact SeqAt.EqAt.int_none a t'
  | bl b=>cases rx;exact SeqAt.EqAt.int_bool a t' b
  | int b=>obtain⟨t,rfl⟩:=rx;exact SeqAt.EqAt.int_int a t' b t
  | str b=>obtain⟨t,rfl⟩:=rx;exact SeqAt.EqAt.int_str a t' b t
  | _=>exact absurd (show false=true from fx) AM
 | str a =>
  obtain⟨t',rfl⟩:=ry;cases x with
  | non=>cases rx;exact SeqAt.EqAt.str_none a t'
  | bl b=>cases rx;exact SeqAt.EqAt.str_bool a t' b
  | int b=>obtain⟨t,rfl⟩:=rx;exact SeqAt.EqAt.str_int a t' b t
  | str b=>obtain⟨t,rfl⟩:=rx;exact SeqAt.EqAt.str_str a t' b t
  | _=>exact absurd (show false=true from fx) AM
 | _=>exact absurd (show false=true from fy) AM
def eqU(x:V)(u:Value):Bool:=match u with
 | .none=>eqV .non x
 | .bool b=>eqV (.bl b) x
 | .int i _=>eqV (.int i) x
 | .str z _=>eqV (.str z) x
 | _=>false
theorem Mv{x y:V}{u:Value}(r:RelV y u)(f:x6 y=true):eqU x u=eqV y x:=by
 cases y with
 | non=>cases r;rfl
 | bl b=>cases r;rfl
 | int i=>obtain⟨t,rfl⟩:=r;rfl
 | str z=>obtain⟨t,rfl⟩:=r;rfl
 | _=>exact absurd (show false=true from f) AM
theorem Y9{x:V}:∀{xs:List V} {us:List Value},Vals xs us->xs.all x6=true->us.any (eqU x)=xs.any fun y=>eqV y x
 | _,_,.nil,_=>rfl
 | y::xs,u::us,.cons r t,f=>by
  rw[List.all_cons,CC]at f;rw[EW,EW,Mv r f.1,Y9 t f.2]
theorem S2{A:Around}{s:Shared}{x:V}{v:Value}(rx:RelV x v)(fx:x6 x=true):∀{xs:List V} {us:List Value},Vals xs us->xs.all x6=true->∀u∈us,SeqAt.EqAt A s u v (eqU x u)
 | _,_,.nil,_=>fun u hu=>by cases hu
 | y::xs,u::us,.cons r t,f=>fun u' hu=>by
  rw[List.all_cons,CC]at f;rcases AN.mp hu with rfl | hu
  .rw[Mv r f.1];exact Ri r rx f.1 fx
  .exact S2 rx fx t f.2 u' hu
def inV(x:V)(xs:List V):Bool:=xs.any fun y=>eqV y x
def rIn(K:PySem.W.Frag)(neg:Bool):R2:=fun x y H Q=>∃p xs,y = .ref p/\(SqL K H p xs\/SqT K H p xs)/\x6 x=true/\xs.all x6=true/\Q (.bl (if neg then !inV x xs else inV x xs)) H
theorem He:OpR X (compareOp .In) (rIn X.K false):=by
 intro pins s σ H x y v u Q I rx ry h;obtain⟨p,xs,rfl,hq,fx,fs,q⟩:=h;cases ry;rcases hq with hq | hq
 .obtain⟨its,r,pl,hz⟩:=I.list hq;refine SeqAt.in_listAt (eqU x) pl.isList (fun w hw=>S2 rx fx r fs w (by simpa using hw)) ⟨.bl _,H,I,rfl,?_⟩;rw[show its.toArray.any (eqU x)=its.any (eqU x) by simp,Y9 r fs];exact q
 .obtain⟨its,r,pl,hz⟩:=I.tuple hq;refine SeqAt.in_tupleAt (eqU x) pl (fun w hw=>S2 rx fx r fs w (by simpa using hw)) ⟨.bl _,H,I,rfl,?_⟩;rw[show its.toArray.any (eqU x)=its.any (eqU x) by simp,Y9 r fs];exact q
theorem Bb:OpR X (compareOp .NotIn) (rIn X.K true):=by
 intro pins s σ H x y v u Q I rx ry h;obtain⟨p,xs,rfl,hq,fx,fs,q⟩:=h;cases ry;rcases hq with hq | hq
 .obtain⟨its,r,pl,hz⟩:=I.list hq;refine SeqAt.notIn_listAt (eqU x) pl.isList (fun w hw=>S2 rx fx r fs w (by simpa using hw)) ⟨.bl _,H,I,rfl,?_⟩;rw[show its.toArray.any (eqU x)=its.any (eqU x) by simp,Y9 r fs];exact q
 .obtain⟨its,r,pl,hz⟩:=I.tuple hq;refine SeqAt.notIn_tupleAt (eqU x) pl (fun w hw=>S2 rx fx r fs w (by simpa using hw)) ⟨.bl _,H,I,rfl,?_⟩;rw[show its.toArray.any (eqU x)=its.any (eqU x) by simp,Y9 r fs];exact q
theorem Bc:E3 X (.builtin "len") (fun xs H Q=>∃p ys,xs = [.ref p]/\(SqL X.K H p ys\/SqT X.K H p ys)/\Q (.int ys.length) H):=by
 intro pins s σ H xs us Q I r h;obtain⟨p,ys,rfl,hq,q⟩:=h;obtain⟨u,rfl,rx⟩:=Q6 r;cases rx;have hn:=Ar;rcases hq with hq | hq
 .obtain⟨its,r',pl,hz⟩:=I.list hq;have hlen:=r'.length;exact Calls.call_len_list pl.isList (by simp only[AO]<;>omega) ⟨.int ys.length,H,I.tok _,⟨s.toks+1,by rw[AO,hlen]⟩,q⟩
 .obtain⟨its,r',pl,hz⟩:=I.tuple hq;have hlen:=r'.length;exact len_tuple pl (by simp only[AO]<;>omega) ⟨.int ys.length,H,I.tok _,⟨s.toks+1,by rw[AO,hlen]⟩,q⟩
theorem Ba:E3 X (.builtin "len") (fun xs H Q=>∃z,xs = [.str z]/\z.length<=sizeLine/\Q (.int z.length) H):=by
 intro pins s σ H xs us Q I r h;obtain⟨z,rfl,hz,q⟩:=h;obtain⟨u,rfl,t,rfl⟩:=Q6 r;have hn:=Ar;exact len_str (by omega) ⟨.int z.length,H,I.tok _,⟨_,rfl⟩,q⟩
theorem Be:E3 X (.type "list") (fun xs H Q=>∃p ys,xs = [.ref p]/\(SqL X.K H p ys\/SqT X.K H p ys)/\∀l,H l=none->Q (.ref l) (upd H l (.lst ys))):=by
 intro pins s σ H xs us Q I r h;obtain⟨p,ys,rfl,hq,q⟩:=h;obtain⟨u,rfl,rx⟩:=Q6 r;cases rx;have fin:∀(its:List Value),Vals ys its->ys.length<=sizeLine->∀(h':Heap) (c':Nat),(∀b o',s.heap.get? b=some o'->h'.get? b=some o') ->
   h'.get? s.heap.objs.size=some { cls:=.type "list",dict:=none,data:=.seq its.toArray c',slots:=#[] }->EP X pins σ Q (.ref s.heap.objs.size) { s with heap:=h' }:=fun its r' hz h' c' kp e =>
  ⟨.ref s.heap.objs.size,_,I.laid (t':=s.toks) kp (Nat.le_refl _) (show ObjOk X.prog X.w _ h' _ (.lst ys)from⟨hz,its,c',r',e⟩),rfl,q _ (I.hok.fresh (Nat.le_refl _))⟩
 rcases hq with hq | hq
 .obtain⟨its,r',pl,hz⟩:=I.list hq;have hlen:=r'.length;obtain⟨o,ho,hc,n,hd⟩:=pl.isList;exact call_list_seq p (.inl rfl) ho hc hd (fun h' c' kp e=>fin its r' hz h' c' kp e) (by simp only[AO]<;>omega)
 .obtain⟨its,r',pl,hz⟩:=I.tuple hq;have hlen:=r'.length;obtain⟨o,ho,hc,n,hd⟩:=pl;exact call_list_seq p (.inr rfl) ho hc hd (fun h' c' kp e=>fin its r' hz h' c' kp e) (by simp only[AO]<;>omega)
def tyV(K:PySem.W.Frag)(T:String)(x:V)(H:Hp):Prop:=match x with
 | .str _=>T = "str"
 | .int _=>T = "int"
 | .ref p=>(T = "list"/\∃xs,SqL K H p xs)\/(T = "tuple"/\∃o,K.lookup p=some o/\o.cls = .type "tuple"/\o.dict=none) \/
   (T = "dict"/\((∃kvs,H p=some (.dK kvs))\/∃kvs,H p=some (.dT kvs)))\/(T = "set"/\∃S n,H p=some (.set S n))
 | _=>False
theorem Mj{pins:List (Addr×Obj)}{σ:St}{H:Hp}{s:Shared}{T:String}{x:V}{v:Value}(I:Inv X pins σ H s)(r:RelV x v)(ty:tyV X.K T x H) :
  s.TypeIs v T/\∀a,v = .ref a->∃ob,s.heap.get? a=some ob/\ob.dict=none:=by
 cases x with
 | str z =>
  obtain⟨t,rfl⟩:=r;cases(show T = "str" from ty);exact⟨typeIs_str s z t,fun _ e=>nomatch e⟩
 | int i =>
  obtain⟨t,rfl⟩:=r;cases(show T = "int" from ty);exact⟨typeIs_int s i t,fun _ e=>nomatch e⟩
 | ref p =>
  cases r;rcases ty with⟨rfl,xs,hq⟩ | ⟨rfl,o,hk,hc,hd⟩ | ⟨rfl,hk⟩ | ⟨rfl,S,n,hk⟩
  .obtain⟨its,_,pl,_⟩:=I.list hq;refine⟨pl.isList.typeIs,fun a e=>?_⟩;cases e;obtain⟨o,n,e,c,hd,_⟩:=pl;exact⟨o,e,hd⟩
  .refine⟨⟨o,I.kIn p o hk,hc⟩,fun a e=>?_⟩;cases e;exact⟨o,I.kIn _ o hk,hd⟩
  .have z:∃o,s.heap.get? p=some o/\o.ExactDict:=by
    rcases hk with⟨kvs,hk⟩ | ⟨kvs,hk⟩
    .obtain⟨_,_,_,_,o,_,_,e,ex,_⟩:=I.hok p _ hk;exact⟨o,e,ex⟩
    .obtain⟨_,_,_,_,o,_,_,e,ex,_⟩:=I.hok p _ hk;exact⟨o,e,ex⟩
   obtain⟨o,e,ex⟩:=z;refine⟨⟨o,e,ex.1⟩,fun a e2=>?_⟩;cases e2;exact⟨o,e,ex.2.1⟩
  .obtain⟨o,_,_,_,e,ex,_⟩:=I.hok p _ hk;refine⟨⟨o,e,ex.1⟩,fun a e2=>?_⟩;cases e2;exact⟨o,e,ex.2.1⟩
 | _=>exact False.elim ty
def Ui(K:PySem.W.Frag)(T:String)(r:V->List V->Hp->VK->Prop)(to:TE):TE:=fun σ H Q=>to σ H fun x H1=>tyV K T x H1/\r x [] H1 Q
def tBM(K:PySem.W.Frag)(T:String)(r:V->List V->Hp->VK->Prop)(to:TE)(t:TA):TE:=fun σ H Q=>to σ H fun x H1=>tyV K T x H1/\t σ H1 fun xs H2=>r x xs H2 Q
variable{o e:Expr}{es:List Expr}{to:TE}{t:TA}{name:Str}{apos cpos:Pos}{T id:String}{r:V->List V->Hp->VK->Prop}
theorem Sg(pa:PlainAttrs T)(slot:Slot T name id)(hty:typeOf (.builtin id)=pure (.type "method_descriptor"))(hm:MtR X id r)(ho:PE X o to)
  (hbase:attributeBase o name X.env (eval o X.env)=eval o X.env:=by rfl) (hline:(apos.endLine == cpos.line)=true:=by rfl):PE X (.Call (.Attribute o name apos) [] [] cpos) (Ui X.K T r to):=by
 intro pins s σ H Q I h;refine wpAny_Call_method0_late hbase hline (thn (ho pins s σ H _ I h) fun v s1 ⟨x,H1,I1,r1,ty,q1⟩=>?_);obtain⟨h1,h2⟩:=Mj I1 r1 ty;exact⟨T,id,pa,slot,hty,h1,h2,Calls.callWith_builtin rfl (PySem.evalArgs_none (hm pins s1 σ H1 x [] v [] Q I1 r1 .nil q1))⟩
theorem Tu(pa:PlainAttrs T)(slot:Slot T name id)(hty:typeOf (.builtin id)=pure (.type "method_descriptor"))(hm:MtR X id r)(ho:PE X o to)(ha:PA X (e::es) t)
  (hbase:attributeBase o name X.env (eval o X.env)=eval o X.env:=by rfl)
  (hfew:((backTo cpos (starEach (e::es) X.env)).all (fun x=>!x.1) &&(backToKw cpos (keywordEach [] X.env)).all (fun x=>x.1.isSome)
   && decide ((e::es).length +([]:List Keyword).length +(if([]:List Keyword).isEmpty then 0 else 1)<30))=true:=by rfl)
  (hline:(apos.endLine == cpos.line)=true:=by rfl) (hs:starEach (e::es) X.env =(false,eval e X.env)::starEach es X.env:=by rfl) (hplain:(backTo cpos (starEach es X.env)).any (·.1)=false:=by rfl) :
  PE X (.Call (.Attribute o name apos) (e::es) [] cpos) (tBM X.K T r to t):=by
 intro pins s σ H Q I h;refine wpAny_Call_method_late hbase hfew hline rfl (thn (ho pins s σ H _ I h) fun v s1 ⟨x,H1,I1,r1,ty,q1⟩=>?_);obtain⟨h1,h2⟩:=Mj I1 r1 ty;refine⟨T,id,pa,slot,hty,h1,h2,?_⟩;have hA:=ha cpos pins s1 σ H1 _ I1 q1;rw[hs]at hA⊢;refine Calls.callWith_builtin (by show(false||(backTo cpos (starEach es X.env)).any (·.1))=false;rw[hplain]<;>rfl) (Calls.evalArgs_plain ?_);exact thn hA fun us s2 ⟨vs,H2,I2,r2,q2⟩=>hm pins s2 σ H2 x vs v us Q I2 r1 r2 q2
end
def MtM(X:Cx)(id:String)(r:V->List V->Hp->VK->Prop):Prop :=
 ∀(pins:List (Addr×Obj)) (s:Shared) (σ:St) (H:Hp) (x:V) (xs:List V) (v:Value) (us:List Value) (Q:VK),Inv X pins σ H s->RelV x v->Vals xs us->r x xs H Q ->
  wpAny (model X.prog X.w) X.A (call (.builtin id) (v::us)) (EP X pins σ Q) X.xe s
theorem Vals.one:∀{x:V} {us:List Value},Vals [x] us->∃u,us = [u]/\RelV x u
 | _,_,.cons r .nil=>⟨_,rfl,r⟩
theorem Vals.two:∀{x y:V} {us:List Value},Vals [x,y] us->∃u v,us = [u,v]/\RelV x u/\RelV y v
 | _,_,_,.cons r (.cons q .nil)=>⟨_,_,rfl,r,q⟩
theorem Vals.zero:∀{us:List Value},Vals [] us->us = []
 | _,.nil=>rfl
theorem Vals.eraseIdx:∀{xs:List V} {us:List Value} (i:Nat),Vals xs us->Vals (xs.eraseIdx i) (us.eraseIdx i)
 | _,_,_,.nil=>.nil
 | _,_,0,.cons _ t=>t
 | _,_,i+1,.cons r t=>.cons r (Vals.eraseIdx i t)
theorem Vals.reverse{xs:List V}{us:List Value}(h:Vals xs us):Vals xs.reverse us.reverse:=by
 induction h with
 | nil=>exact .nil
 | cons r t ih=>rw[FK,FK];exact Vals.append ih (.cons r .nil)
theorem Bd{α:Type}:∀(l:List α) (i:Nat),(l.eraseIdx i).length<=l.length
 | [],_=>Nat.le_refl _
 | _::_,0=>BZ _
 | _::r,i+1=>Nat.succ_le_succ (Bd r i)
section
variable{X:Cx}{pins:List (Addr×Obj)}{σ:St}{H:Hp}{s:Shared}{l b:Addr}{xs ys zs:List V}
theorem Inv.lset{its its':List Value}{n:Nat}{f:Array Value->Array Value}{t':Nat}(I:Inv X pins σ H s)(hH:H l=some (.lst xs))
  (e:s.heap.get? l=some { cls:=.type "list",data:=.seq its.toArray n }) (hf:f its.toArray=its'.toArray) (hv:Vals ys its') (hz:ys.length<=sizeLine) :
  Inv X pins σ (upd H l (.lst ys)) { s with heap:=s.heap.update l (Obj.mapSeq f),toks:=t' }:=by
 have q:=PySem.IsL.update e f;rw[hf]at q;refine I.write (x:=l) (e:=l) (by rw[hH];exact trivial) (.inl rfl) (fun b' u hb hu=>(BJ s.heap (Obj.mapSeq f) (Ne.symm hb)).trans hu) ⟨_,q⟩ ?_;exact⟨hz,its',_,hv,q⟩
theorem Inv.lnew{its:List Value}{t':Nat}(I:Inv X pins σ H s)(hv:Vals ys its)(hz:ys.length<=sizeLine) :
  Inv X pins σ (upd H s.heap.objs.size (.lst ys)) { s with heap:=s.heap.push { cls:=.type "list",data:=.seq its.toArray },toks:=t' } :=
 I.laid (fun _ _ q=>AC _ q) (Nat.le_refl _) ⟨hz,its,0,hv,AZ _ rfl⟩
theorem Inv.fresh(I:Inv X pins σ H s):H s.heap.objs.size=none:=I.hok.fresh (Nat.le_refl _)
theorem Inv.lstM(I:Inv X pins σ H s)(hH:H l=some (.lst xs)):xs.length<=sizeLine/\∃(its:List Value) (n:Nat),Vals xs its/\xs.length=its.length/\s.heap.get? l=some { cls:=.type "list",data:=.seq its.toArray n }:=by
 obtain⟨z,its,n,r,e⟩:=I.hok l _ hH;exact⟨z,its,n,r,r.length,e⟩
end
section
variable{X:Cx}
def Ng:V->List V->Hp->VK->Prop:=fun x vs H Q=>∃l xs y,x = .ref l/\vs = [y]/\H l=some (.lst xs)/\xs.length<sizeLine/\Q .non (upd H l (.lst (xs ++ [y])))
theorem M8:MtM X "list.append" Ng:=by
 intro pins s σ H x vs v us Q I rx rv h;obtain⟨l,xs,y,rfl,rfl,hH,hz,q⟩:=h;cases rx;obtain⟨u,rfl,ru⟩:=rv.one;obtain⟨z,its,n,r,hl,e⟩:=I.lstM hH;refine call_meets F.slot_list_append ⟨_,e,rfl⟩ F.entry_list_append (F.args_list_append_2 _ _) (PySem.list_append l its.toArray n u (by rw[AO];omega)) ⟨e,?_⟩;refine⟨.non,_,I.lset (its':=its ++ [u]) hH e (by simp) (r.append (.cons ru .nil)) ?_,rfl,q⟩;rw[BF,List.length_singleton];omega
def Qa:V->List V->Hp->VK->Prop:=fun x vs H Q=>∃l xs i k y,x = .ref l/\vs = [.int i]/\H l=some (.lst xs)/\-(2^63)<=i/\i<2^63/\seqIndex? i xs.length=some k/\xs[k]?=some y/\Q y (upd H l (.lst (xs.eraseIdx k)))
theorem Ki:MtM X "list.pop" Qa:=by
 intro pins s σ H x vs v us Q I rx rv h;obtain⟨l,xs,i,k,y,rfl,rfl,hH,h1,h2,hk,hy,q⟩:=h;cases rx;obtain⟨u,rfl,ru⟩:=rv.one;obtain⟨t,rfl⟩:=ru;obtain⟨z,its,n,r,hl,e⟩:=I.lstM hH;obtain⟨w,hw,rw'⟩:=r.get hy;refine call_meets F.slot_list_pop ⟨_,e,rfl⟩ F.entry_list_pop (F.args_list_pop_2 _ _)
  (MeetsSeq.list_pop_at l its.toArray n i t k w (fitsIndex_both h1 h2) (by rw[AO,<-hl];exact hk) (by rw[<-BL];exact hw) (by rw[AO];omega)) ⟨e,?_⟩
 refine⟨y,_,I.lset (its':=its.eraseIdx k) hH e ?_ (r.eraseIdx k) ?_,rw',q⟩
 .show its.toArray.eraseIdxIfInBounds k =(its.eraseIdx k).toArray;rw[List.eraseIdxIfInBounds_toArray]
 .have:=Bd xs k;omega
def Kp:V->List V->Hp->VK->Prop:=fun x vs H Q=>∃l xs,x = .ref l/\vs = []/\H l=some (.lst xs)/\Q .non (upd H l (.lst xs.reverse))
theorem Fi:MtM X "list.reverse" Kp:=by
 intro pins s σ H x vs v us Q I rx rv h;obtain⟨l,xs,rfl,rfl,hH,q⟩:=h;cases rx;have hus:=rv.zero;subst hus;obtain⟨z,its,n,r,hl,e⟩:=I.lstM hH;refine call_meets F.slot_list_reverse ⟨_,e,rfl⟩ F.entry_list_reverse (F.args_list_reverse_1 _) (AutoSeq1.list_reverse_list_0 l its.toArray n (by rw[AO];omega)) ⟨e,?_⟩;refine⟨.non,_,I.lset (its':=its.reverse) hH e (by simp) r.reverse ?_,rfl,q⟩;rw[List.length_reverse];omega
def Va:R2:=fun x y H Q=>∃l b xs zs,x = .ref l/\y = .ref b/\H l=some (.lst xs)/\H b=some (.lst zs)/\xs.length+zs.length<=sizeLine/\∀p,H p=none->Q (.ref p) (upd H p (.lst (xs++zs)))
theorem Y4:OpR X (binaryOp .Add) Va:=by
 intro pins s σ H x y v u Q I rx ry h;obtain⟨l,b,xs,zs,rfl,rfl,hH,hB,hz,q⟩:=h;cases rx;cases ry;obtain⟨z,its,n,r,hl,e⟩:=I.lstM hH;obtain⟨z2,its2,n2,r2,hl2,e2⟩:=I.lstM hB;refine PySem.P.add_list e e2 ?_ (by rw[AO,AO];omega);have ea:its.toArray++its2.toArray =(its++its2).toArray:=by simp
 rw[ea];exact⟨.ref _,_,I.lnew (t':=s.toks) (r.append r2) (by rw[BF];omega),rfl,q _ I.fresh⟩
end
section
variable{U:Type}[DecidableEq U]
def Fk(kvs:List (U×V))(k:U):Option V:=(kvs.find? fun kv=>decide (kv.1=k)).map (·.2)
def Ir(kvs:List (U×V))(k:U)(v:V):List (U×V) :=
 if(kvs.any fun kv=>decide (kv.1=k))=true then kvs.map (fun kv=>if kv.1=k then(kv.1,v)else kv)else kvs ++ [(k,v)]
theorem Ee{p:U×V}{r:List (U×V)}{k:U}(e:p.1=k):Fk (p::r) k=some p.2:=by simp[Fk,EF,e]
theorem Ek{p:U×V}{r:List (U×V)}{k:U}(e:¬p.1=k):Fk (p::r) k=Fk r k:=by simp[Fk,EF,e]
theorem Dl(kvs:List (U×V))(k:U)(v:V):(Ir kvs k v).length<=kvs.length+1:=by
 unfold Ir;split
 .rw[AB];omega
 .rw[BF,BO,List.length_nil];omega
theorem RelO.getD{o:Option V}{u:Option Value}{d:V}{d':Value}(r:RelO o u)(rd:RelV d d'):RelV (o.getD d) (u.getD d'):=by
 cases o with
 | none=>cases u with
  | none=>exact rd
  | some _=>exact(show False from r).elim
 | some _=>cases u with
  | none=>exact(show False from r).elim
  | some _=>exact r
theorem KV.val{kvs:List (U×V)}{vs:List (U×Value)}(r:KV kvs vs)(k:U):RelO (Fk kvs k) (valueAt vs k):=by
 unfold KV at r
 induction r with
 | nil=>exact True.intro
 | @cons p q ps qs h t ih =>
  obtain⟨h1,h2⟩:=h;by_cases e:p.1=k
  .have e':q.1=k:=h1.symm.trans e;have b:valueAt (q::qs) k=some q.2:=by simp[valueAt,EF,e']
   rw[Ee e,b];exact h2
  .have e':¬q.1=k:=fun z=>e (h1.trans z);have b:valueAt (q::qs) k=valueAt qs k:=by simp[valueAt,EF,e']
   rw[Ek e,b];exact ih
theorem KV.any{kvs:List (U×V)}{vs:List (U×Value)}(r:KV kvs vs)(k:U):(kvs.any fun kv=>decide (kv.1=k))=vs.any fun kv=>decide (kv.1=k):=by
 unfold KV at r
 induction r with
 | nil=>rfl
 | cons h t ih=>rw[EW,EW,ih,h.1]
theorem KV.repl{kvs:List (U×V)}{vs:List (U×Value)}(r:KV kvs vs)(k:U){y:V}{u:Value}(ry:RelV y u) :
  KV (kvs.map fun kv=>if kv.1=k then(kv.1,y)else kv) (vs.map fun kv=>if kv.1=k then(kv.1,u)else kv):=by
 unfold KV at r⊢
 induction r with
 | nil=>exact .nil
 | @cons p q ps qs h t ih =>
  rw[BQ,BQ];refine .cons ?_ ih;obtain⟨h1,h2⟩:=h;by_cases e:p.1=k
  .rw[BB e,BB (h1.symm.trans e)];exact⟨h1,ry⟩
  .rw[AU e,AU (fun z=>e (h1.trans z))];exact⟨h1,h2⟩
theorem KV.put{kvs:List (U×V)}{vs:List (U×Value)}(r:KV kvs vs)(k:U){y:V}{u:Value}(ry:RelV y u):KV (Ir kvs k y) (stored vs k u):=by
 unfold Ir stored;rw[r.any k];by_cases e:(vs.any fun kv=>decide (kv.1=k))=true
 .rw[BB e,BB e];exact r.repl k ry
 .rw[AU e,AU e];exact Paired.snoc r ⟨rfl,ry⟩
theorem KV.length{kvs:List (U×V)}{vs:List (U×Value)}(r:KV kvs vs):kvs.length=vs.length:=Paired.length r
end
theorem Lk{P:Program}{w:World}{k:Key}{u:Value}(r:RelV (kV k) u):(C9 P w).is k u=true:=by
 cases k with
 | inl i=>obtain⟨t,e⟩:=(show ∃t,u=Value.int i t from r);subst e;exact Cp P w i t
 | inr x=>obtain⟨t,e⟩:=(show ∃t,u=Value.str x t from r);subst e;exact Cs P w x t
theorem Cc{P:Program}{w:World}:∀{ks:List Key} {us:List Value},Vals (ks.map kV) us->ItemsAre (C9 P w) ks us
 | [],_,r=>by rw[List.map_nil]at r;cases r;exact .nil
 | k::ks,_,r=>by
  rw[BQ]at r;cases r with
  | cons h t=>exact .cons (Lk h) (Cc t)
abbrev KT(H:Hp):List (List Key×V)->List (List Key×Addr×Value)->Prop:=Paired fun p q=>p.1=q.1/\H q.2.1=some (.tup (p.1.map kV))/\RelV p.2 q.2.2
theorem KT.val{H:Hp}{kvs:List (List Key×V)}{xs:List (List Key×Addr×Value)}(r:KT H kvs xs)(k:List Key):RelO (Fk kvs k) ((atKey xs k).map (·.2)):=by
 induction r with
 | nil=>exact True.intro
 | @cons p q ps qs h t ih =>
  obtain⟨h1,_,h2⟩:=h;by_cases e:p.1=k
  .have e':q.1=k:=h1.symm.trans e;have b:atKey (q::qs) k=some q.2:=by simp[atKey,EF,e']
   rw[Ee e,b];exact h2
  .have e':¬q.1=k:=fun z=>e (h1.trans z);have b:atKey (q::qs) k=atKey qs k:=by simp[atKey,EF,e']
   rw[Ek e,b];exact ih
section
variable{P:Program}{w:World}{H:Hp}{h:Heap}{a:Addr}
theorem Qw{u:HO}(ok:HOk P w H h)(e:Rd H a u):ObjOk P w H h a u:=e.ok ok
theorem Kh{kvs:List (Key×V)}(ok:HOk P w H h)(e:Rd H a (.dK kvs)):kvs.length<=sizeLine/\(a == sysModules)=false/\∃vs,KV kvs vs/\h.DictOf (C9 P w) a vs :=
 show ObjOk P w H h a (.dK kvs)from Qw ok e
theorem Hg{ks:List Key}(ok:HOk P w H h)(e:H a=some (.tup (ks.map kV))):(tupleKind (C9 P w)).is h ks a:=by
 obtain⟨_,its,r,o,h1,h2,n,h3⟩:=(show ObjOk P w H h a (.tup (ks.map kV))from ok a _ e);exact⟨o,its.toArray,n,h1,h2,h3,by simpa using Cc r⟩
theorem Ld{kvs:List (List Key×V)}(ok:HOk P w H h)(e:Rd H a (.dT kvs)):kvs.length<=sizeLine/\(a == sysModules)=false /\
  ∃xs,KT H kvs xs/\h.DictOfH (tupleKind (C9 P w)) a xs:=by
 obtain⟨z,y,xs,r,o,es,ep,h1,h2,h3,h4,h5⟩:=(show ObjOk P w H h a (.dT kvs)from Qw ok e);refine⟨z,y,xs,r,o,es,ep,h1,h2,h3,h4,fun x hx=>?_,h5⟩;have all:∀{l:List (List Key×V)} {m:List (List Key×Addr×Value)},KT H l m->∀x∈m,(tupleKind (C9 P w)).is h x.1 x.2.1:=by
  intro l m q
  induction q with
  | nil=>intro x hx;exact nomatch hx
  | @cons p q ps qs hq t ih =>
   intro x hx;rcases AN.mp hx with e | hx
   .subst e;exact Hg ok (by rw[<-hq.1];exact hq.2.1)
   .exact ih x hx
 exact all r x hx
end
def DGet(H:Hp)(a:Addr)(y:V)(r:Option V):Prop :=
 (∃kvs k,Rd H a (.dK kvs)/\y=kV k/\r=Fk kvs k)\/∃kvs k b,Rd H a (.dT kvs)/\y = .ref b/\H b=some (.tup (k.map kV))/\r=Fk kvs k
theorem DGet.k{H:Hp}{a:Addr}{kvs:List (Key×V)}{k:Key}(e:H a=some (.dK kvs)):DGet H a (kV k) (Fk kvs k):=.inl ⟨kvs,k,.inl e,rfl,rfl⟩
section
variable{X:Cx}{pins:List (Addr×Obj)}{σ:St}{H:Hp}{s:Shared}{a:Addr}{y v:V}{u r:Value}{o:Option V}{A:Around}{E:Value->Shared->Prop}
theorem Inv.big(I:Inv X pins σ H s):sysModules<s.heap.objs.size:=by
 have h:mainGlobals<s.heap.objs.size:=(I.mod.glob.keeps I.bk).lt;exact Nat.lt_trans (by decide) h
theorem Ii{Q:Value->Shared->Prop}(hu:A.units+1<cLine)(I:Inv X pins σ H s)(g:DGet H a y (some v))(ry:RelV y u)(h:∀w' s',Inv X pins σ H s'->RelV v w'->Q w' s') :
  wpAny (model X.prog X.w) A (getItem (.ref a) u) Q E s:=by
 rcases g with⟨kvs,k,e,ey,l⟩ | ⟨kvs,k,b,e,ey,eb,l⟩
 .subst ey;obtain⟨z,hd,vs,rel,dd⟩:=Kh I.hok e;obtain⟨w',hw,rw'⟩:=RelO.some_of (v:=v) (o:=valueAt vs k) (by rw[l];exact rel.val k);exact wpAny_getItem_of (Lk ry) dd.mapOf hw (h w' _ (I.tok _) rw')
 .subst ey;cases(show u=Value.ref b from ry);obtain⟨z,hd,xs,rel,dd⟩:=Ld I.hok e;obtain⟨w',hw,rw'⟩:=RelO.some_of (v:=v) (o:=(atKey xs k).map (·.2)) (by rw[l];exact rel.val k);obtain⟨p,hp,hp2⟩:=AR.mp hw;refine wpAny_getItem_heap (tupleKind_room_in1 hu) (Hg I.hok eb) dd hp ?_;rw[hp2];exact h w' _ (I.tok _) rw'
theorem Pz{P:Program}{w:World}{H':Hp}{h':Heap}{kvs:List (Key×V)}{vs:List (Key×Value)}(z:kvs.length<=sizeLine)(hd:(a == sysModules)=false)(rel:KV kvs vs)(dd:h'.DictOf (C9 P w) a vs) :
  ObjOk P w H' h' a (.dK kvs):=⟨z,hd,vs,rel,dd⟩
end
def Uq(i:Expr):Prop:=∀ov iv,subscripted i false ov iv=operate [ov,iv] (getItem ov iv)
theorem Pc{prog:Program}{w:World}{A:Around}{E:Value->Shared->Prop}{s:Shared}{env:Env}{value slice:Expr}{pos:Pos}{T id:String}{Q:Value->Shared->Prop}
  (hl:typeLookup (.type T) "__getitem__" = pure (some (.builtin id))) (hs:Uq slice)
  (h:wpAny (model prog w) A (eval value env) (fun o s₁=>wpAny (model prog w) A (eval slice env) (fun i s₂=>s₂.TypeIs o T/\wpAny (model prog w) A (getItem o i) Q E s₂) E s₁) E s) :
  wpAny (model prog w) A (eval (.Subscript value slice pos) env) Q E s:=by
 refine Subscript_ (BP h (fun o s₁ h₁=>BP h₁ (fun i s₂ h₂=>?_) fun _ _ x=>x) fun _ _ x=>x);obtain⟨hT,h₂⟩:=h₂;unfold subscriptTail;refine AA ?_;rw[getitemInPython_of_ne hT.not_modules];refine AA (wpAny_specialOf hT hl ?_);have fin:wpAny (model prog w) A (subscripted slice false o i) (fun r s₃=>wpAny (model prog w) A (letTemporaryGo value o r >>= fun _=>pure r) Q E s₃) E s₂:=by
  rw[hs o i];exact wpAny_operating (BP h₂ (fun r s₃ h₃=>AA (wpAny_letTemporaryGo (AD h₃))) fun _ _ x=>x)
 first
  | exact AD (AA fin)
  | exact AA (AD (AA fin))
  | exact AA fin
theorem Cl{X:Cx}{pins:List (Addr×Obj)}{σ:St}{H:Hp}{s:Shared}{a:Addr}{y:V}{o:Option V}(I:Inv X pins σ H s)(g:DGet H a y o):s.TypeIs (.ref a) "dict":=by
 rcases g with⟨kvs,k,e,_,_⟩ | ⟨kvs,k,b,e,_,_,_⟩
 .obtain⟨_,_,vs,_,dd⟩:=Kh I.hok e;exact dd.typeIs
 .obtain⟨_,_,xs,_,dd⟩:=Ld I.hok e;exact dd.typeIs
def Tk(td ty:TE):TE:=fun σ H Q=>td σ H fun x H1=>ty σ H1 fun y H2=>∃a v,x = .ref a/\DGet H2 a y (some v)/\Q v H2
section
variable{X:Cx}{o i e value:Expr}{pos pos' tpos:Pos}{td ty tv:TE}
theorem Nv(hu:X.A.units+1<cLine)(ho:PE X o td)(hi:PE X i ty)(hs:Uq i):PE X (.Subscript o i pos) (Tk td ty):=by
 intro pins s σ H Q I h;refine Pc PySem.F.slot_dict_getitem.lookup hs (thn (ho pins s σ H _ I h) fun u s1 ⟨x,H1,I1,rx,q1⟩=>thn (hi pins s1 σ H1 _ I1 q1) fun iv s2 ⟨y,H2,I2,ry,a,v,ex,g,q2⟩=>?_);subst ex;obtain rfl:u=Value.ref a:=rx;exact⟨Cl I2 g,Ii hu I2 g ry fun w' s3 I3 rw'=>⟨v,H2,I3,rw',q2⟩⟩
end
structure M2(X:Cx)(o:Expr)(m:Str)(apos:Pos)(e f:Expr)(cpos:Pos):Prop where
 base:attributeBase o m X.env (eval o X.env)=eval o X.env
 few:((backTo cpos (starEach [e,f] X.env)).all (fun x=>!x.1) &&(backToKw cpos (keywordEach [] X.env)).all (fun x=>x.1.isSome)
  && decide (([e,f]:List Expr).length +([]:List Keyword).length +(if([]:List Keyword).isEmpty then 0 else 1)<30))=true
 line:(apos.endLine == cpos.line)=true
 trees:backTo cpos (starEach [e,f] X.env) = [(false,eval e X.env),(false,eval f X.env)]
def IsD(H:Hp)(a:Addr):Prop:=(∃kvs,Rd H a (.dK kvs))\/∃kvs,Rd H a (.dT kvs)
theorem Rq{X:Cx}{pins:List (Addr×Obj)}{σ:St}{H:Hp}{s:Shared}{a:Addr}(I:Inv X pins σ H s)(d:IsD H a) :
  s.TypeIs (.ref a) "dict"/\(∀b,Value.ref a = .ref b->∃ob,s.heap.get? b=some ob/\ob.dict=none)/\(a == sysModules)=false:=by
 rcases d with⟨kvs,e⟩ | ⟨kvs,e⟩
 .obtain⟨_,hd,vs,_,dd⟩:=Kh I.hok e;refine⟨dd.typeIs,fun b q=>?_,hd⟩;cases q;obtain⟨ob,_,_,h1,h2,_⟩:=dd;exact⟨ob,h1,h2.2.1⟩
 .obtain⟨_,hd,xs,_,dd⟩:=Ld I.hok e;refine⟨dd.typeIs,fun b q=>?_,hd⟩;cases q;obtain⟨ob,_,_,h1,h2,_⟩:=dd;exact⟨ob,h1,h2.2.1⟩
section
variable{X:Cx}{pins:List (Addr×Obj)}{σ:St}{H:Hp}{s:Shared}{a:Addr}{y d:V}{u r:Value}{o:Option V}{A:Around}{E:Value->Shared->Prop}
theorem Qx{Q:Value->Shared->Prop}(hu:A.units+1<cLine)(I:Inv X pins σ H s)(g:DGet H a y o)(ry:RelV y u)(rd:RelV d r)(h:∀w' s',Inv X pins σ H s'->RelV (o.getD d) w'->Q w' s') :
  wpAny (model X.prog X.w) A (call (.builtin "dict.get") [.ref a,u,r]) Q E s:=by
 rcases g with⟨kvs,k,e,ey,l⟩ | ⟨kvs,k,b,e,ey,eb,l⟩
 .subst ey;obtain⟨z,hd,vs,rel,dd⟩:=Kh I.hok e;refine call_meetsIn PySem.F.slot_dict_get dd.typeIs PySem.F.entry_dict_get (PySem.F.args_dict_get_3 _ _ _) (meets_dict_get_default (C9 X.prog X.w) a (Lk ry) hd r) ⟨_,dd.mapOf,h _ _ (I.tok _) ?_⟩;rw[l];exact(rel.val k).getD rd
 .subst ey;cases(show u=Value.ref b from ry);obtain⟨z,hd,xs,rel,dd⟩:=Ld I.hok e;refine call_meetsIn PySem.F.slot_dict_get dd.typeIs PySem.F.entry_dict_get (PySem.F.args_dict_get_3 _ _ _) (meetsH_dict_get_default (tupleKind (C9 X.prog X.w)) a b hd r) ⟨tupleKind_room_in1 hu,k,xs,Hg I.hok eb,dd,h _ _ (I.tok _) ?_⟩;rw[l];exact(rel.val k).getD rd
end
def Qs(td ty tx:TE):TE:=fun σ H Q=>td σ H fun x H1=>∃a,x = .ref a/\IsD H1 a/\ty σ H1 fun y H2=>tx σ H2 fun z H3=>∃o,DGet H3 a y o/\Q (o.getD z) H3
section
variable{X:Cx}{o e f:Expr}{apos cpos:Pos}{td ty tx:TE}
theorem Ll(hu:X.A.units+1<cLine)(ho:PE X o td)(he:PE X e ty)(hf:PE X f tx)(m:M2 X o "get" apos e f cpos):PE X (.Call (.Attribute o "get" apos) [e,f] [] cpos) (Qs td ty tx):=by
 intro pins s σ H Q I h;refine wpAny_Call_method m.base m.few m.line PySem.F.plainAttrs_dict PySem.F.slot_dict_get PySem.F.type_dict_get (thn (ho pins s σ H _ I h) fun u s1 ⟨x,H1,I1,rx,a,ex,d,q1⟩=>?_);subst ex;obtain rfl:u=Value.ref a:=rx;obtain⟨t1,t2,_⟩:=Rq I1 d;refine⟨t1,t2,?_⟩;rw[m.trees];refine Calls.callWith_builtin rfl (Calls.evalArgs_plain (Calls.spliced_cons (thn (he pins s1 σ H1 _ I1 q1) fun iv s2 ⟨y,H2,I2,ry,q2⟩ =>
  Calls.spliced_cons (thn (hf pins s2 σ H2 _ I2 q2) fun fv s3 ⟨z,H3,I3,rz,ov,g,q3⟩=>Calls.spliced_nil ?_))))
 exact Qx hu I3 g ry rz fun w' s4 I4 rw'=>⟨_,H3,I4,rw',q3⟩
end
end L2
namespace Att
open PySem PySem.W PySem.Calls PyProof.Rows
theorem Z6{P:Params}{h:Heap}:∀(ns:List Int) (vs:List Value),WellAll P h vs (ns.map WData.int)->IntsAre vs ns:=by
 intro ns
 induction ns with
 | nil =>
  intro vs w;rw[List.map_nil]at w;cases w;exact .nil
 | cons n ns ih =>
  intro vs w;rw[BQ]at w;cases w with
  | cons a b =>
   cases a;exact .cons _ _ (ih _ b)
theorem Jk{l:OpenLaw}{n:Nat}(hn:l.most=some n){P:Params}{h:Heap}{args:List WData}{vals:List Value}
  (hpre:l.row.toRowW.claim.pre args=true) (hwl:WellAll P h vals args) :
  ∃a vs ns,vals = [Value.ref a]/\args = [WData.list (ns.map WData.int)]/\h.get? a=some { cls:=.type "list",data:=.seq vs.toArray }/\IntsAre vs ns/\ns.length<=n:=by
 have hsh:WShape.hasAll [] args [.list .int]=true:=(pre_splitW hpre).1;have hc:l.pre.holds [] { args:=args }=true:=(pre_splitW hpre).2;obtain⟨d,r,rfl,h1,h2⟩:=hasAllW_cons hsh;obtain rfl:=hasAllW_nil h2;obtain⟨xs,rfl,h3⟩:=hasW_list h1;obtain⟨ns,rfl⟩:=items_int h3;have hlen:ns.length<=n:=by
  unfold OpenLaw.pre at hc;have h4:(WTm.not (.lt (.lit (.int (n:Int))) (.len (.arg 0)))).holds [] { args:=[.list (ns.map .int)] }=true:=by
   have h4:=(holds_andW hc).1;rw[hn]at h4;exact h4
  have h5:=condW_of h4 (w_not (w_lt w_lit (w_len_list (w_arg rfl))));rw[AB]at h5;refine Nat.le_of_not_lt fun q=>?_;have q':(n:Int) <((ns.length:Nat):Int):=by omega
  first
   | (rw[AI q']at h5;exact absurd h5 (by decide))
   | (simp at h5;omega)
 cases hwl with
 | cons w1 w2 =>
  cases w2;cases w1 with
  | list ho hall=>exact⟨_,_,ns,rfl,rfl,ho,Z6 ns _ hall,hlen⟩
theorem Iy(l:OpenLaw)(args:List WData):l.row.toRowW.claim.post args (.bool true) args=true :=
 postW_of (r:=l.row.toRowW) (X:=(true == true))
  (show WShape.has [] (.bool true) .bool=true by first | rfl | decide | simp[WShape.has,WShape.arms,WShape.armsAll])
  (show(WTm.eq .res (.lit (.bool true))).value [] { args:=args,res:=some (.bool true),after:=args }=some (.bool (true == true))from w_eq_bool (w_res rfl) w_lit) rfl
theorem attach_call{l:OpenLaw}{n:Nat}{q:Program}{loose:List Str}{XP:(Str->Option Value)->Heap->Prop}{YP:World->Heap->Prop}{d:DefRec}
  (hn:l.most=some n) (hdf:d.params.defaults = [])
  (call:∀(w:World) (s₀ s₁:Shared) (mg mb:Str->Option Value) (fa:Addr) (o:Obj) (pm cd doc:Value) (a:Addr) (vs:List Value) (ns:List Int),
   Ground q loose [] XP w s₀ mg mb s₁.heap->YP w s₁.heap ->
   s₁.heap.get? fa=some o->o.data = .func (docDef d.name d.params d.body d.scope pm cd doc)->s₁.heap.CodeRec cd d.name->mg d.name=some (.ref fa) ->
   s₁.heap.get? a=some { cls:=.type "list",data:=.seq vs.toArray }->IntsAre vs ns->ns.length<=n->s₁.gens = #[] ->
   codeAny (model l.prog w) callerA (.call (.ref fa) ⟨[.ref a],[]⟩) (fun r s'=>r = .ok (.ret (.bool true))/\OldK s₁.heap s'.heap/\s'.os=s₁.os/\AllBare s'.gens) s₁) :
  WalkO q loose XP YP l.row.toRowW d [] (fun f vs=>PySem.call f vs):=by
 intro w s₀ s₁ mg mb G Y fa o pm cd doc dV kV ho hd hcd hD hmg hg args vals as hpre hlay hrd hwl hlo;obtain rfl:dV = .none:=Dflts.none hD hdf;obtain rfl:kV = .none:=Dflts.noKw hD;obtain⟨a,vs,ns,rfl,rfl,hobj,hints,hlen⟩:=Jk hn hpre hwl;refine enter_call (DV (call w s₀ s₁ mg mb fa o pm cd doc a vs ns G Y ho (fd_plain hd) hcd hmg hobj hints hlen hg) fun r s' hq=>?_);obtain⟨rfl,h2,h3,h4⟩:=hq;exact⟨.inl ⟨.bool true,.bool true,[],rfl,fun _=>rfl,.bool true,Iy l _,fun _=>⟨List.Pairwise.nil,fun _ hm=>(nomatch hm)⟩⟩,h2,h3,h4⟩
end Att
namespace L2
open PySem PySem.Spec PyProof.Rows
theorem Bt:∀{vs:List Value} {ns:List Int},IntsAre vs ns->Vals (ns.map V.int) vs
 | _,_,.nil=>.nil
 | _,_,.cons n t h=>.cons ⟨t,rfl⟩ (Bt h)
def Ke(s:Stmt)(j:Nat):Stmt:=match s with
 | .ClassDef _ _ _ body _ _ _ _ _ _ _=>body.getD j (.Pass ⟨0,0,0,0⟩)
 | _=>.Pass ⟨0,0,0,0⟩
def O6(s:Stmt):Arguments:=match s with
 | .FunctionDef _ a _ _ _ _ _ _ _ _=>a
 | _=>{ posonlyargs:=[],args:=[],vararg:=none,kwonlyargs:=[],kw_defaults:=[],kwarg:=none,defaults:=[] }
def F9(s:Stmt):List Stmt:=match s with
 | .FunctionDef _ _ b _ _ _ _ _ _ _=>b
 | _=>[]
def B3(s:Stmt):Scope:=match s with
 | .FunctionDef _ _ _ _ _ _ sc _ _ _=>sc
 | _=>{ kind:=.function,names:=[],isGenerator:=false,isCoroutine:=false }
abbrev CX0:CXT:=fun _ _ _ _ _ _=>False
abbrev E0:XK:=fun _ _ _=>False
theorem Oc{X:Cx}:m8 CX0 X E0:=fun _ _ _ _ _ _ _ h=>h.elim
structure Fun(K:PySem.W.Frag)(x qual:Str)(st:Stmt)(f:Addr)(fd:FuncData):Prop where
 ex:∃(oc:Value) (od:Option Addr) (kV doc pm:Value) (an:Option Addr) (cdv ct:Value) (osl:Array (Option Value)),
  fd=PySem.W.fnOf x qual (O6 st) (F9 st) (B3 st) .none kV doc pm an cdv ct/\K.lookup f=some ⟨oc,od,.func fd,osl⟩/\PySem.W.codeIn K cdv qual=true
 kp:PySem.W.keepIn K (.ref f)=true
section
variable{P:Program}{w:World}{K:PySem.W.Frag}{mg:Str->Option Value}{base:Heap}
theorem Fun.ok{x qual:Str}{st:Stmt}{f:Addr}{fd:FuncData}{N ps:List Str}{k:Nat}{sp:Sp}(F:Fun K x qual st f fd)(S:FnScope N ps (B3 st))(len:∀vs H Q E,sp vs H Q E->vs.length=ps.length)
  (hbody:∀(cdv:Value) (A:Around) (outer:List Env) (s:Shared) (H:Hp) (vs:List V) (Q:VK) (E:XK),Room k (A.deeper (envOfC qual (B3 st) s.heap.objs.size f cdv))->sp vs H Q E ->
   ∃t,PSs (Lj CX0 P w K mg base N qual (B3 st) f cdv A outer s H E).nox (F9 st) t/\t { nx:=fun _ H'=>Q .non H',rt:=Q } (i0 N vs) H):FnOk P w K mg base CX0 (k+1) f fd ps sp:=by
 obtain⟨oc,od,kV,doc,pm,an,cdv,ct,osl,rfl,lk,hcd⟩:=F.ex;refine Ol lk hcd S len fun A outer s H vs Q E hr hsp=>?_;obtain⟨t,h,q⟩:=hbody cdv A outer s H vs Q E hr hsp;exact⟨t,h.nox,q⟩
theorem Fun.binds{x qual:Str}{st:Stmt}{f:Addr}{fd:FuncData}{ps:List Str}(F:Fun K x qual st f fd)
  (h:∀(kV doc pm:Value) (an:Option Addr) (cdv ct:Value) (us:List Value),us.length=ps.length->bindArgs (PySem.W.fnOf x qual (O6 st) (F9 st) (B3 st) .none kV doc pm an cdv ct) ⟨us,[]⟩=pure (ps.zip us)):Binds K fd ps []:=by
 obtain⟨oc,od,kV,doc,pm,an,cdv,ct,osl,rfl,lk,hcd⟩:=F.ex;exact .all (h kV doc pm an cdv ct)
theorem fun_mk{x qual:Str}{st:Stmt}{f:Addr}{oc:Value}{od an:Option Addr}{osl:Array (Option Value)}{kV doc pm cdv ct:Value}(l:K.lookup f=some ⟨oc,od,.func (PySem.W.fnOf x qual (O6 st) (F9 st) (B3 st) .none kV doc pm an cdv ct),osl⟩)
  (c:PySem.W.codeIn K cdv qual=true) (k:PySem.W.keepIn K (.ref f)=true):Fun K x qual st f (PySem.W.fnOf x qual (O6 st) (F9 st) (B3 st) .none kV doc pm an cdv ct):=⟨⟨oc,od,kV,doc,pm,an,cdv,ct,osl,rfl,l,c⟩,k⟩
end
theorem Rs{A:Around}{k:Nat}(hr:Room k A):A.units+1<cLine:=Nat.lt_of_le_of_lt (DY (by decide:1<=64) _) hr.units
section
variable{X:Cx}
theorem pv(i:Nat){x:Str}{pos:Pos}(hN:X.N[i]?=some x:=by rfl)(hv:Vis X.env.scope x:=by first | exact Or.inl rfl | exact Or.inr (Or.inl rfl) | exact Or.inr (Or.inr rfl))(hd:(x ==("__debug__":Str))=false:=by decide)
  (hcd:(x ==("__classdict__":Str))=false:=by decide):PE X (.Name x pos) (Uh i):=Gv hN hv hd hcd
end
theorem R0{A B:Prop}(h:B):if false=true then A else B:=by
 rw[AU AM];exact h
theorem U3{A B:Prop}(h:A):if true=true then A else B:=by
 rw[BB rfl];exact h
theorem l9{c A B:Prop}[Decidable c](h1:c->A)(h2:¬c->B):if c then A else B:=by
 by_cases h:c
 .rw[BB h];exact h1 h
 .rw[AU h];exact h2 h
def Same(H H':Hp):Prop:=∀b o,H b=some o->H' b=some o
theorem Same.refl(H:Hp):Same H H:=fun _ _ h=>h
theorem Same.trans{H H1 H2:Hp}(a:Same H H1)(b:Same H1 H2):Same H H2:=fun c o h=>b c o (a c o h)
theorem Same.free{H H':Hp}(e:Same H H'){l:Addr}(h:H' l=Option.none):H l=Option.none:=by
 cases q:H l with
 | none=>rfl
 | some o =>
  rw[e l o q]at h;cases h
section
variable{U:Type}[DecidableEq U]
theorem Jt:∀{l:List U} {k:U},l.Nodup->¬k∈l->(l ++ [k]).Nodup
 | [],k,_,_=>by simp
 | a::r,k,h,hk=>by
  obtain⟨h1,h2⟩:=CT.mp h;show(a ::(r ++ [k])).Nodup;refine CT.mpr ⟨fun m=>?_,Jt h2 fun m=>hk (AN.mpr (Or.inr m))⟩;rcases AV.mp m with q | q
  .exact h1 q
  .exact hk (AN.mpr (Or.inl (AE.mp q).symm))
end
def cxC(X:Cx)(scope:Scope)(cl:List (Str×Addr))(N':List Str)(pins:List (Addr×Obj))(ex:List Addr)(s3:Shared)(H3:Hp):Cx where
 prog:=X.prog
 w:=X.w
 K:=X.K
 mg:=X.mg
 base:=X.base
 A:=X.A
 N:=N'
 s₀:=s3
 H₀:=H3
 env:=compEnvC scope cl s3.heap.objs.size X.env
 outer:=X.stack
 stack:=X.stack
 ex:=ex
 fn:=fun _=>false
 calm:=X.calm
 pn:=X.pn++pins
 xe:=fun _ _=>False
def Caps(X:Cx)(scope:Scope)(cl:List (Str×Addr)):List Str->List (Option Nat)->Prop
 | [],[]=>True
 | _::N,none::c=>Caps X scope cl N c
 | x::N,some j::c=>(X.N[j]?=some x/\X.env.scope.names.lookup x=some .cell/\(relabel scope X.env).names.lookup x=some .cell/\cl.lookup x=X.env.cells.lookup x)/\Caps X scope cl N c
 | _,_=>False
def ClIn(X:Cx):List (Str×Addr)->Prop
 | []=>True
 | p::r=>X.env.cells.lookup p.1=some p.2/\ClIn X r
structure CScope(X:Cx)(scope:Scope)(cl:List (Str×Addr))(N':List Str)(cap:List (Option Nat)):Prop where
 kind:scope.kind = .function
 nocell:∀y∈scope.names,y.2≠ .cell
 loc:∀y∈scope.names,y.2 = .local->scope.names.lookup y.1=some .local
 clos:closureFor scope X.env=pure cl
 cin:ClIn X cl
 has:((relabel scope X.env).names.all fun y=>!(y.2 == .cell||y.2 == .free)||(cl.lookup y.1).isSome)=true
 caps:Caps X scope cl N' cap
def Mf(cap:List (Option Nat))(σ:St):St:=cap.map fun o=>o.bind fun j=>(σ[j]?).join
theorem ClIn.get{X:Cx}:∀{cl:List (Str×Addr)} {x:Str} {c:Addr},ClIn X cl->cl.lookup x=some c->X.env.cells.lookup x=some c
 | [],_,_,_,h=>by simp at h
 | (y,d)::r,x,c,⟨h1,h2⟩,h=>by
  rw[FM]at h;cases e:x == y with
  | true =>
   rw[e]at h;cases h;rw[beq_iff_eq.mp e];exact h1
  | false =>
   rw[e]at h;exact ClIn.get h2 h
theorem Caps.len{X:Cx}{scope:Scope}{cl:List (Str×Addr)}:∀{N:List Str} {cap:List (Option Nat)},Caps X scope cl N cap->cap.length=N.length
 | [],[],_=>rfl
 | _::N,none::c,h=>by rw[BO,BO,Caps.len (N:=N) (cap:=c) h]
 | _::N,some j::c,h=>by rw[BO,BO,Caps.len h.2]
 | [],_::_,h=>h.elim
 | _::_,[],h=>h.elim
theorem Caps.get{X:Cx}{scope:Scope}{cl:List (Str×Addr)}{j:Nat}{x:Str}:∀{N:List Str} {cap:List (Option Nat)} {i:Nat},Caps X scope cl N cap->N[i]?=some x->cap[i]?=some (some j) ->
  X.N[j]?=some x/\X.env.scope.names.lookup x=some .cell/\(relabel scope X.env).names.lookup x=some .cell/\cl.lookup x=X.env.cells.lookup x
 | [],_,_,_,h,_=>by simp at h
 | _::_,[],_,_,_,h=>by simp at h
 | y::N,none::c,0,_,_,h=>by simp at h
 | y::N,none::c,i+1,h,h1,h2=>Caps.get (N:=N) (cap:=c) (i:=i) h (by simpa using h1) (by simpa using h2)
 | y::N,some k::c,0,h,h1,h2=>by
  simp at h1 h2;subst h1;subst h2;exact h.1
 | y::N,some k::c,i+1,h,h1,h2=>Caps.get (N:=N) (cap:=c) (i:=i) h.2 (by simpa using h1) (by simpa using h2)
section
variable{X:Cx}{scope:Scope}{cl:List (Str×Addr)}{N':List Str}{cap:List (Option Nat)}{pins:List (Addr×Obj)}{σ:St}{H3:Hp}{s3:Shared}{ex:List Addr}
theorem p9{p:NameKind->Bool}:∀{names:List (Str×NameKind)} {q:Str->NameKind->Bool} {x:Str} {k:NameKind},(names.all fun y=>q y.1 y.2)=true->names.lookup x=some k->q x k=true
 | [],_,_,_,_,h=>by simp at h
 | (y,d)::r,q,x,k,ha,h=>by
  rw[List.all_cons,CC]at ha;rw[FM]at h;cases e:x == y with
  | true =>
   rw[e]at h;cases h;rw[beq_iff_eq.mp e];exact ha.1
  | false =>
   rw[e]at h;exact p9 (p:=p) (names:=r) (q:=q) ha.2 h
theorem Inv.block(I:Inv X pins σ H3 s3)(S:CScope X scope cl N' cap)(hc:X.calm=true)(hex:∀b∈ex,Al X pins H3 b/\∃o,s3.heap.get? b=some o){h1:Heap}{tk:Nat}
  (hns:h1.Ns s3.heap.objs.size (fun _=>none)) (hk:∀b o,s3.heap.get? b=some o->h1.get? b=some o) :
  Inv (cxC X scope cl N' pins ex s3 H3) [] (Mf cap σ) H3 { s3 with heap:=h1,toks:=tk }:=by
 have lt3:∀b o,s3.heap.get? b=some o->b≠s3.heap.objs.size:=fun b o e=>AQ (AF e);have hcell:∀x c,cl.lookup x=some c->∃v,s3.heap.IsCell c v:=fun x c e=>I.cell x c (S.cin.get e);have hfree:H3 s3.heap.objs.size=none:=I.hok.fresh (Nat.le_refl _);refine⟨⟨I.ok.mod,?_,I.ok.glob,I.ok.blt,Nat.le_refl _,fun x y c e1 e2=>I.ok.inj x y c (S.cin.get e1) (S.cin.get e2),fun x hx=>?_,fun x c h _=>absurd h AM,I.ok.hd,I.ok.frames,.inl rfl,fun b hb=>?_,I.bs,Nat.le_trans I.ok.bsz I.sz,fun b o e hb=>?_,fun b hb=>?_,I.stack,I.stkFree⟩,
  rfl,I.bare,Un.kept hk,⟨_,hns,fun i x v e1 e2 e3=>?_⟩,fun x c e=>?_,hfree,fun x c e=>I.freeC x c (S.cin.get e),fun p hp=>?_,I.hok.kept hk,?_⟩
 .exact S.kind
 .have q:∀k,(relabel scope X.env).names.lookup x=some k->(!(k == .cell||k == .free)||(cl.lookup x).isSome)=true:=fun k e=>p9 (p:=fun _=>true) (q:=fun a k=>!(k == .cell||k == .free)||(cl.lookup a).isSome) S.has e;have hx':(relabel scope X.env).names.lookup x=some .cell\/(relabel scope X.env).names.lookup x=some .free:=hx;have:(cl.lookup x).isSome=true:=by
   rcases hx' with e | e
   .exact q _ e
   .exact q _ e
  exact DX.mp this
 .obtain⟨⟨_,_,_,_,f4,_⟩,o,e⟩:=hex b hb;exact⟨lt3 b o e,fun x c ec=>f4 x c (S.cin.get ec)⟩
 .obtain⟨⟨f0,f1,f2,f3,_⟩,_⟩:=hex b hb;rcases f3 with f3 | f3
  .exact I.ok.noex b o e f3
  .have:=(I.ok.bs b o e).1;exact absurd (BG (AF this) f3) (DK _)
 .intro hf;obtain⟨⟨_,f1,f2,_⟩,_⟩:=hex b hb;rcases AN.mp (I.stkSub b hf)with z | z
  .exact f1 z
  .exact f2 z
 .unfold Mf at e2;rw[AH]at e2;cases ec:cap[i]? with
  | none=>rw[ec]at e2;cases e2
  | some o =>
   rw[ec]at e2;cases o with
   | none=>cases e2
   | some j =>
    have e2':(σ[j]?).join=some v:=BU e2;obtain⟨c1,c2,c3,c4⟩:=S.caps.get e1 ec;have ej:σ[j]?=some (some v):=by
     cases ej:σ[j]? with
     | none=>rw[ej]at e2';cases e2'
     | some z=>rw[ej]at e2';cases z with
      | none=>cases e2'
      | some z=>cases e2';rfl
    obtain⟨m,hn,hl⟩:=I.loc;obtain⟨u,r,l⟩:=hl j x v c1 ej (.inr (.inl c2));refine⟨u,r,?_⟩;rcases l with⟨k,_⟩ | ⟨_,c,hc',hcell'⟩
    .have:X.env.scope.names.lookup x=some .local:=k;rw[c2]at this;cases this
    .exact .inr ⟨.inl c3,c,c4.trans hc',let⟨o,ho,hd⟩:=hcell';⟨o,hk _ _ ho,hd⟩⟩
 .obtain⟨v,o,ho,hd⟩:=hcell x c e;exact⟨v,o,hk _ _ ho,hd⟩
 .have hp':p∈X.pn++pins:=by simpa [cxC] using hp
  obtain⟨e,n,ne,nf,d⟩:=I.pin p hp';refine⟨hk _ _ e,n,lt3 _ _ e,fun hf=>?_,d⟩;rcases AN.mp (I.stkSub p.1 hf)with z | z
  .exact ne z
  .exact nf z
 .unfold Mf;rw[AB];exact S.caps.len
theorem Inv.unblock{σ':St}{H':Hp}{s':Shared}{h':Heap}(I:Inv X pins σ H3 s3)(hex:∀b∈ex,Al X pins H3 b)(J:Inv (cxC X scope cl N' pins ex s3 H3) [] σ' H' s')(hb:Heap.SameBut s3.heap.objs.size s'.heap h') :
  Inv X pins σ H' { s' with heap:=h' }:=by
 have hfr:H' s3.heap.objs.size=none:=J.free;refine I.call' (ch:=ex) J.os ⟨fun b o e n h1 h2=>?_,fun b o e n h1 h2=>?_,fun b o e n h2=>?_,fun b o e h2=>?_,J.base.tups,J.base.frzs,J.base.tbls⟩ (fun b ob e=>?_) J.bare fun b hbx=>?_
 .exact(hb.2 b (AQ (AF e))).trans (J.base.keep b o e n h1 h2)
 .obtain⟨sl,q⟩:=J.base.slot b o e n h1 h2;exact⟨sl,(hb.2 b (AQ (AF e))).trans q⟩
 .exact J.base.free b o e n h2
 .obtain⟨o',q⟩:=J.base.there b o e h2;exact⟨o',(hb.2 b (AQ (AF e))).trans q⟩
 .refine(J.hok b ob e).stay (fun c w' hc q=>(hb.2 c ?_).trans q) (fun _ q=>q) fun _ _ q=>q;rintro rfl;rcases hc with z | z
  .rw[<-z,hfr]at e;cases e
  .rw[hfr]at z;cases z
 .obtain⟨_,f1,_,f3,f4,f5⟩:=hex b hbx;exact⟨f3,f1,f4,f5⟩
end
def Io(e:Expr)(d:Nat)(iter tg:Expr)(ifs:List Expr)(emit:Sem Fin->Sem Fin)(it acc:Value)(env:Env):Sem Fin:=do
 standAt iter.pos
 match <-pyNext it with
 | none=>pure (.done .next)
 | some v =>
  letOwnedTupleGo tg it v
  assign tg env v
  let mut ok:=true
  for c in ifs do
   if ok then ok <-isTrue c env (eval c env)
  if ok then emit (again (.compLoop e d it acc env))else again (.compLoop e d it acc env)
def emL(elt:Expr)(acc:Value)(env:Env)(k:Sem Fin):Sem Fin:=(do let _ <-call (.builtin "list.append") [acc,<-eval elt env]:Sem Unit) >>= fun _=>k
theorem j4(elt tg iter:Expr)(ifs:List Expr)(scope:Scope)(pos:Pos)(it acc:Value)(env:Env) :
  compTurn (.ListComp elt [⟨tg,iter,ifs,0⟩] scope pos) 0 it acc env=Io (.ListComp elt [⟨tg,iter,ifs,0⟩] scope pos) 0 iter tg ifs (emL elt acc env) it acc env:=rfl
abbrev TEm:=St->Hp->(St->Hp->Prop)->Prop
def PEm(X:Cx)(emit:Sem Fin->Sem Fin)(t:TEm):Prop :=
 ∀(pins:List (Addr×Obj)) (s:Shared) (σ:St) (H:Hp) (Q:St->Hp->Prop) (k:Sem Fin) (F:Fin->Shared->Prop) (E:Value->Shared->Prop),Inv X pins σ H s->t σ H Q ->
  (∀s' σ' H',Inv X pins σ' H' s'->Q σ' H'->wpAny (model X.prog X.w) X.A k F E s')->wpAny (model X.prog X.w) X.A (emit k) F E s
def PTs(X:Cx)(ifs:List Expr)(t:TT):Prop :=
 ∀(pins:List (Addr×Obj)) (s:Shared) (σ:St) (H:Hp) (Q:Bool->Hp->Prop),Inv X pins σ H s->t σ H Q ->
  wpAny (model X.prog X.w) X.A (forIn ifs true fun c r=>if r=true then do let ok <-isTrue c X.env (eval c X.env);pure (ForInStep.yield ok)else pure (ForInStep.yield r)) (TP X pins σ Q) X.xe s
def Fr:TT:=fun _ H Q=>Q true H
theorem E8{X:Cx}:PTs X [] Fr:=fun _ _ _ H _ I h=>wpAny_tests_nil ⟨H,I,h⟩
theorem x5{X:Cx}{c:Expr}{t:TT}(h:PT X c t):PTs X [c] t:=fun pins s σ H Q I q=>wpAny_tests_one (h pins s σ H Q I q)
def Ms(g:TG)(tc:TT)(em:TEm)(J:It)(σ:St)(H:Hp)(Q:St->Hp->Prop):Prop :=
 ∃W:Nat->Nat->St->Hp->Prop,(∃m,W 0 m σ H)/\∀i m σ H,W i m σ H->(J.stop i H/\Q σ H)\/(J.go i H/\∀x H',J.yld i H x H'->g x σ H' fun σ2 H2=>tc σ2 H2 fun b H3 =>
  if b=true then em σ2 H3 fun σ3 H4=>∃m',m' < m/\W (i+1) m' σ3 H4 else ∃m',m' < m/\W (i+1) m' σ2 H3)
section
variable{X:Cx}{e tg iter:Expr}{d:Nat}{ifs:List Expr}{emit:Sem Fin->Sem Fin}{it:Addr}{acc:Value}{g:TG}{tc:TT}{em:TEm}{J:It}{fp:List Addr}{tn:Nat->Heap->Prop}{R:Result->Shared->Prop}
theorem Bw(hun:X.A.under (.compLoop e d (.ref it) acc X.env)=X.A)(hden:(model X.prog X.w).den (.compLoop e d (.ref it) acc X.env) =(compTurn e d (.ref it) acc X.env).onRaise (fun x=>do noteFrame x X.env;theTreesLotGoes x))(hc:X.calm=true)(hxe:X.xe=fun _ _=>False)(hct:compTurn e d (.ref it) acc X.env=Io e d iter tg ifs emit (.ref it) acc X.env)(hg:PG X tg g)(ht:PTs X ifs tc)(hem:PEm X emit em)
  (T:Turn X.prog X.w X.K tg J fp it tn) {pins:List (Addr×Obj)} {s:Shared} {σ:St} {H:Hp} {Q:St->Hp->Prop} (I:Inv X pins σ H s) (st:tn 0 s.heap) (hf:∀b∈fp,Al X pins H b) (h:Ms g tc em J σ H Q)
  (hR:∀s' σ' H',Inv X pins σ' H' s'->Q σ' H'->R (.ok .next) s'):codeAny (model X.prog X.w) X.A (.compLoop e d (.ref it) acc X.env) R s:=by
 obtain⟨W,⟨m0,w0⟩,turn⟩:=h;have stat:∀{H':Hp},(∀b∈fp,H' b=none)->∀b∈fp,Al X pins H' b:=fun hn b hb=>⟨hn b hb,(hf b hb).2⟩;have no:∀{α:Type} {m:Sem α} {P:α->Shared->Prop} {E:Value->Shared->Prop} {s:Shared},wpAny (model X.prog X.w) X.A m P X.xe s->wpAny (model X.prog X.w) X.A m P E s:=fun q=>by
  rw[hxe]at q;exact BP q (fun _ _ z=>z) fun _ _ z=>z.elim
 refine codeAny_loop rfl (fun n s'=>∃i σ' H',Inv X pins σ' H' s'/\tn i s'.heap/\(∀b∈fp,H' b=none)/\W i n σ' H') (fun n s3 hI=>?_) m0 ⟨0,σ,H,I,st,fun b hb=>(hf b hb).1,w0⟩;obtain⟨i,σ3,H3,I3,st3,fr3,w3⟩:=hI;rw[hun,hden];refine wpAny_noted ?_;rw[hct];unfold Io;refine AA (DW (AA ?_));rcases turn i n σ3 H3 w3 with⟨stop,qn⟩ | ⟨go,step⟩
 .refine BP (T.done X rfl rfl rfl hc i pins s3 σ3 H3 _ I3 (stat fr3) st3 stop) (fun r s4 ⟨hr,I4⟩=>?_) fun _ _ z=>z;subst hr;exact AD (hR s4 σ3 H3 I4 qn)
 .refine BP (T.item X rfl rfl rfl hc i pins s3 σ3 H3 _ I3 (stat fr3) st3 go) (fun r s4 ⟨u,hr,h4⟩=>?_) fun _ _ z=>z;subst hr;refine AA (BP h4 (fun _ s5 ⟨x,H5,I5,r5,y5,st5,fr5⟩=>?_) fun _ _ z=>z);have I5':=I5.pinned (stat fr5) (T.obj _ _ st5);have again:∀{σ7:St} {H7:Hp} {s7:Shared},Inv X (pins++Bz fp s5.heap) σ7 H7 s7->(∃m',m' < n/\W (i+1) m' σ7 H7)->∃m,m<n/\∃i σ' H',Inv X pins σ' H' s7/\tn i s7.heap/\(∀b∈fp,H' b=none)/\W i m σ' H':=fun{σ7 H7 s7} I7 n7=>by
   obtain⟨m',hm,w7⟩:=n7;refine⟨m',hm,i+1,σ7,H7,I7.unpinned,T.keep _ _ _ st5 fun b hb o e=>(I7.pin (b,o) (BM _ (BM _ (P1 hb e)))).1,fun b hb=>?_,w7⟩;obtain⟨o,e,d⟩:=T.obj _ _ st5 b hb;exact(I7.pin (b,o) (BM _ (BM _ (P1 hb e)))).2.1
  refine AA (BP (no (hg _ s5 σ3 H5 x u _ I5' r5 (step x H5 y5))) (fun _ s6 ⟨σ6,H6,I6,q6⟩=>?_) fun _ _ z=>z);refine AA (BP (no (ht _ s6 σ6 H6 _ I6 q6)) (fun ok s7 ⟨H7,I7,q7⟩=>?_) fun _ _ z=>z);cases ok with
  | false=>exact AD ⟨rfl,again I7 q7⟩
  | true =>
   exact hem _ s7 σ6 H7 _ _ _ _ I7 q7 fun s8 σ8 H8 I8 q8=>AD ⟨rfl,again I8 q8⟩
theorem o7(hun:X.A.under (.compStart e d (.ref it) acc X.env)=X.A)(hden:(model X.prog X.w).den (.compStart e d (.ref it) acc X.env) =(compStart e d (.ref it) acc X.env).onRaise (fun x=>do noteFrame x X.env;standAt theWindowsPlace)){gs:List Comprehension}(hgs:clausesOf e=gs)(hd:gs[d]?=some ⟨tg,iter,ifs,0⟩){s:Shared}(T:Turn X.prog X.w X.K tg J fp it tn)(st:tn 0 s.heap)
  (h:codeAny (model X.prog X.w) X.A (.compLoop e d (.ref it) acc X.env) R s):codeAny (model X.prog X.w) X.A (.compStart e d (.ref it) acc X.env) R s:=by
 refine codeAny_of_tree ?_;rw[hun,hden];refine wpAny_notedAt ?_;unfold compStart;rw[hgs,hd];show wpAny _ X.A (ask >>= _) _ _ s;refine AA (wpAny_askSetting (wpAny_ite ?_));have h1:=T.self X.A 0 s (fun it' s'=>codeAny (model X.prog X.w) X.A (.compLoop e d it' acc X.env) R s') (notedBy (model X.prog X.w) X.A X.env fun x s'=>R (.error x) s') st h;split
 .first
   | exact AA (AD (AD (And.intro rfl h)))
   | exact AD (And.intro rfl h)
 .first
   | exact AA (CM (AA (DW (AA (BP h1 (fun it' s' h'=>AD (And.intro rfl h')) fun _ _ x=>x)))))
   | (refine AA (CM ?_);show wpAny _ _ (standAt iter.pos >>= _) _ _ s;exact AA (DW (AA (BP h1 (fun it' s' h'=>AD (And.intro rfl h')) fun _ _ x=>x))))
end
section
variable{X:Cx}{tg iter:Expr}{ifs:List Expr}{g:TG}{tc:TT}{em:TEm}{scope:Scope}{cl:List (Str×Addr)}{N':List Str}{cap:List (Option Nat)}{pos:Pos}{wi:TI}
def Ln(wi:TI)(o:Addr->HO)(cap:List (Option Nat))(lp:Addr->It->St->Hp->(St->Hp->Prop)->Prop):TE:=fun σ H Q=>wi σ H fun J H1=>∀D,H1 D=none->lp D J (Mf cap σ) (upd H1 D (o D)) fun _ H2=>Q (.ref D) H2
theorem Km{e:Expr}{gs:List Comprehension}{newAcc:Sem Value}{p2:Pos}(hcl:clausesOf e =⟨tg,iter,ifs,0⟩::gs)(o:Addr->HO)(hs:∀x,foldedSetIterable iter X.env x=pure x)(S:CScope X scope cl N' cap)(hc:X.calm=true)(hi:PI X tg iter wi)
  {lp:Addr->It->St->Hp->(St->Hp->Prop)->Prop}
  (hnew:∀(pins:List (Addr×Obj)) (s:Shared) (σ:St) (H:Hp) (Q:Value->Shared->Prop) (E:Value->Shared->Prop),Inv X pins σ H s->(∀s',Inv X pins σ (upd H s.heap.objs.size (o s.heap.objs.size)) s'->(∀b ob,s.heap.get? b=some ob->s'.heap.get? b=some ob)->Q (.ref s.heap.objs.size) s')->wpAny (model X.prog X.w) X.A newAcc Q E s)
  (hlp:∀(pins:List (Addr×Obj)) (ex:List Addr) (s3:Shared) (H3:Hp) (D it:Addr) (fp:List Addr) (tn:Nat->Heap->Prop) (J:It) (σ:St) (s:Shared) (H:Hp) (Q:St->Hp->Prop) (R:Result->Shared->Prop),
   Turn X.prog X.w X.K tg J fp it tn->Inv (cxC X scope cl N' pins ex s3 H3) [] σ H s->tn 0 s.heap->(∀b∈fp,Al (cxC X scope cl N' pins ex s3 H3) [] H b)->lp D J σ H Q ->
   (∀s' σ' H',Inv (cxC X scope cl N' pins ex s3 H3) [] σ' H' s'->Q σ' H'->R (.ok .next) s') ->
   codeAny (model X.prog X.w) X.A (.compLoop e 0 (.ref it) (.ref D) (compEnvC scope cl s3.heap.objs.size X.env)) R s)
  (hun:∀it D env,X.A.under (.compStart e 0 (.ref it) (.ref D) env)=X.A) (hden:∀it D env,(model X.prog X.w).den (.compStart e 0 (.ref it) (.ref D) env) =(compStart e 0 (.ref it) (.ref D) env).onRaise (fun x=>do noteFrame x env;standAt theWindowsPlace))
  (hev:∀E Q s,wpAny (model X.prog X.w) X.A (comprehension e scope X.env p2 newAcc false (eval iter X.env)) Q E s->wpAny (model X.prog X.w) X.A (eval e X.env) Q E s) :
  PE X e (Ln wi o cap lp):=by
 intro pins s σ H Q I h;refine hev _ _ _ (wpAny_comprehension_free (use:=none) hcl hs S.clos S.kind S.loc (thn (hi pins s σ H _ I h) fun v s1 h1=>thn h1 fun itv s2 h2=>?_));obtain⟨it,fp,tn,J,H2,eit,I2,T,st2,f2,R2⟩:=h2;subst eit;refine hnew pins s2 σ H2 _ _ I2 fun s3 I3 k3=>?_;have hD:H2 s2.heap.objs.size=none:=I2.hok.fresh (Nat.le_refl _);have fok:∀b∈fp,Al X pins (upd H2 s2.heap.objs.size (o s2.heap.objs.size)) b/\∃ob,s3.heap.get? b=some ob:=fun b hb=>by
  obtain⟨ob,e,_⟩:=T.obj _ _ st2 b hb;obtain⟨f0,fr⟩:=f2 b hb;exact⟨⟨by rw[B4 (AQ (AF e))];exact f0,fr⟩,ob,k3 b ob e⟩
 refine wpAny_newFunctionEnv S.nocell (by intro y hy;simp at hy) (fun h1 hns hsb=>?_) S.kind;have hk:∀b ob,s3.heap.get? b=some ob->h1.get? b=some ob:=fun b ob e=>(hsb.2 b (AQ (AF e))).trans (AC _ e);have I4:Inv (cxC X scope cl N' pins fp s3 (upd H2 s2.heap.objs.size (o s2.heap.objs.size))) [] (Mf cap σ) (upd H2 s2.heap.objs.size (o s2.heap.objs.size)) { s3 with heap:=h1,toks:=s3.toks +([]:List (Str×Value)).length } :=
  I3.block S hc fok hns hk
 have st4:tn 0 h1:=T.keep 0 _ _ st2 fun b hb ob e=>hk b ob (k3 b ob e);refine o7 (X:=cxC X scope cl N' pins fp s3 (upd H2 s2.heap.objs.size (o s2.heap.objs.size))) (gs:=⟨tg,iter,ifs,0⟩::gs) (e:=e) (d:=0) (tg:=tg) (iter:=iter) (ifs:=ifs) (hun _ _ _) (hden _ _ _) hcl rfl T st4 ?_;refine hlp pins fp s3 _ s2.heap.objs.size it fp tn J (Mf cap σ) _ _ _ _ T I4 st4 (fun b hb=>?_) (R2 _ hD) fun s' σ' H' I' q'=>?_
 .obtain⟨⟨f0,f1,f2',f3,f4,f5⟩,ob,eo⟩:=fok b hb;refine⟨f0,AQ (AF eo),fun hf=>?_,.inl hb,fun x c e=>f4 x c (S.cin.get e),fun p hp=>f5 p (by simpa [cxC] using hp)⟩;rcases AN.mp (I3.stkSub b hf)with z | z
  .exact f1 z
  .exact f2' z
 .obtain⟨m,hn,_⟩:=I'.loc;exact⟨m,hn,fun h' hb=>⟨.ref _,H',I3.unblock (fun b hb=>(fok b hb).1) I' hb,rfl,q'⟩⟩
end
section
variable{X:Cx}{tg iter elt:Expr}{ifs:List Expr}{g:TG}{tc:TT}{te:TE}{scope:Scope}{cl:List (Str×Addr)}{N':List Str}{cap:List (Option Nat)}{pos:Pos}{wi:TI}
def Gi(D:Addr)(te:TE):TEm:=fun σ H Q=>te σ H fun y H1=>∃ys,H1 D=some (.lst ys)/\ys.length<sizeLine/\Q σ (upd H1 D (.lst (ys ++ [y])))
theorem Mw{α:Type}{X:Cx}(hxe:X.xe=fun _ _=>False){m:Sem α}{P:α->Shared->Prop}{E:Value->Shared->Prop}{s:Shared}(q:wpAny (model X.prog X.w) X.A m P X.xe s):wpAny (model X.prog X.w) X.A m P E s:=by
 rw[hxe]at q;exact BP q (fun _ _ z=>z) fun _ _ z=>z.elim
theorem Dx{D:Addr}(hxe:X.xe=fun _ _=>False)(he:PE X elt te):PEm X (emL elt (.ref D) X.env) (Gi D te):=by
 intro pins s σ H Q k F E I h hk;unfold emL;refine AA (AA (BP (Mw hxe (he pins s σ H _ I h)) (fun u s1 ⟨y,H1,I1,r1,ys,e1,z1,q1⟩=>?_) fun _ _ z=>z));refine AA (BP (Mw hxe (M8 pins s1 σ H1 (.ref D) [y] (.ref D) [u] (fun v H2=>v = .non/\Q σ H2) I1 rfl (.cons r1 .nil) ⟨D,ys,y,rfl,rfl,e1,z1,rfl,q1⟩)) (fun v s2 ⟨y2,H2,I2,r2,_,q2⟩=>?_) fun _ _ z=>z);exact AD (hk s2 σ H2 I2 q2)
theorem Q9(S:CScope X scope cl N' cap)(hc:X.calm=true)(hi:PI X tg iter wi)
  (hb:∀(pins:List (Addr×Obj)) (ex:List Addr) (s3:Shared) (H3:Hp),PG (cxC X scope cl N' pins ex s3 H3) tg g/\PTs (cxC X scope cl N' pins ex s3 H3) ifs tc/\PE (cxC X scope cl N' pins ex s3 H3) elt te)
  (hs:∀x,foldedSetIterable iter X.env x=pure x:=by intro _;rfl) :
  PE X (.ListComp elt [⟨tg,iter,ifs,0⟩] scope pos) (Ln wi (fun _=>.lst []) cap fun D J σ H Q=>Ms g tc (Gi D te) J σ H Q):=by
 refine Km (newAcc:=newList []) (p2:=firstIterPos [⟨tg,iter,ifs,0⟩] pos) rfl (fun _=>.lst []) hs S hc hi (fun pins s σ H Q E I h=>?_) (fun pins ex s3 H3 D it fp tn J σ s H Q R T I st hf h hR=>?_) (fun _ _ _=>rfl) (fun _ _ _=>rfl) (fun E Q s h=>h)
 .refine wpAny_newList ?_;exact h _ (I.lnew (t':=s.toks) (its:=[]) .nil (CW _)) fun b ob e=>AC _ e
 .obtain⟨b1,b2,b3⟩:=hb pins ex s3 H3;exact Bw (X:=cxC X scope cl N' pins ex s3 H3) rfl rfl hc rfl (j4 elt tg iter ifs scope pos _ _ _) b1 b2 (Dx rfl b3) T I st hf h hR
end
instance:LawfulBEq Key where
 rfl {a}:=by cases a with
  | inl i=>show(i == i)=true;simp
  | inr x=>show(x == x)=true;simp
 eq_of_beq {a b} h:=by
  cases a with
  | inl i=>cases b with
   | inl j=>exact congrArg Sum.inl (eq_of_beq (show(i == j)=true from h))
   | inr j=>exact absurd h (by intro z;cases z)
  | inr i=>cases b with
   | inl j=>exact absurd h (by intro z;cases z)
   | inr j=>exact congrArg Sum.inr (eq_of_beq (show(i == j)=true from h))
def Its(x:Str):It:=⟨fun i _=>i<x.cps.size,fun i H v H'=>H'=H/\∃c,x.cps[i]?=some c/\v = .str ⟨#[c]⟩,fun i _=>i=x.cps.size⟩
theorem Es{P:Program}{w:World}{K:PySem.W.Frag}{tg:Expr}(it:Addr)(x:Str)(t:Tok)(ty:String)(hty:["enumerate", "zip", "dict_itemiterator", "dict_reverseitemiterator", "odict_iterator", "itertools.zip_longest", "itertools.pairwise"].contains ty=false)
  (W:∀A':Around,A'.handled=none->Walks P w A' it [it] [it] x.cps.size (SignAt x) (fun i h=>h.IsStrIter it ty x t i))
  (hself:∀(A:Around) (i:Nat) (s:Shared) (Q:Value->Shared->Prop) (E:Value->Shared->Prop),s.heap.IsStrIter it ty x t i->Q (.ref it) s->wpAny (model P w) A (pyIter (.ref it)) Q E s):Turn P w K tg (Its x) [it] it (fun i h=>h.IsStrIter it ty x t i) where
 mem:=by simp
 obj:=fun i h st b hb=>by
  have e:b=it:=by simpa using hb
  subst e;obtain⟨o,e,c,d⟩:=st;exact⟨o,e,fun v z=>by rw[d]at z;cases z⟩
 keep:=fun i h h' st k=>let⟨o,e,r⟩:=st;⟨o,k it (by simp) o e,r⟩
 item:=by
  intro X hP hw hK hc i pins s σ H E I hf st hg;subst hP hw hK;obtain⟨f0,f1,f2,f3,f4,f5⟩:=hf it (by simp);refine(W X.A (I.ok.hd hc)).item i s _ _ hg st fun v h' tk hv st' k=>?_;obtain⟨c,u,ec,ev⟩:=hv;have I1:Inv X pins σ H { s with heap:=h',toks:=tk }:=I.turned (fun b o hb e=>k b o (by simpa using hb) e) f0 f1 f3 f4 f5;obtain⟨o,e,c',d⟩:=id st';exact⟨v,rfl,Oz (s:={ s with heap:=h',toks:=tk }) e c' d hty ⟨.str ⟨#[c]⟩,H,I1,⟨u,ev⟩,⟨rfl,c,ec,rfl⟩,st',fun b hb=>(hf b hb).1⟩⟩
 done:=by
  intro X hP hw hK hc i pins s σ H E I hf st hg;subst hP hw hK;obtain⟨f0,f1,f2,f3,f4,f5⟩:=hf it (by simp);have hg':i=x.cps.size:=hg;subst hg';exact(W X.A (I.ok.hd hc)).done s _ _ st fun h' tk k=>⟨rfl,I.turned (fun b o hb e=>k b o (by simpa using hb) e) f0 f1 f3 f4 f5⟩
 self:=fun A i s Q E st h=>hself A i s Q E st h
section
variable{X:Cx}{tg:Expr}
def Vr(te:TE):TI:=fun σ H R=>te σ H fun x H1=>∃z,x = .str z/\R (Its z) H1
theorem Qr{l:Expr}{tl:TE}(hl:PE X l tl):PI X tg l (Vr tl):=by
 intro pins s σ H R I h;refine thn (hl pins s σ H _ I h) fun v s1 ⟨x,H1,I1,r1,q1⟩=>?_;obtain⟨z,e,q⟩:=q1;subst e;obtain⟨t,rfl⟩:=r1;have fin:∀(o:Obj) (ty:String),o.cls = .type ty->o.data = .fields #[.str z t,.int (0:Nat) 0]->o.isFreed=false->Turn X.prog X.w X.K tg (Its z) [s1.heap.objs.size] s1.heap.objs.size (fun i h=>h.IsStrIter s1.heap.objs.size ty z t i) ->
   PIE X pins σ tg R (.ref s1.heap.objs.size) { s1 with heap:=s1.heap.push o }:=fun o ty c d hf T=>by
  refine⟨s1.heap.objs.size,[s1.heap.objs.size],_,_,H1,rfl,I1.kept (t':=s1.toks) fun b o e=>AC _ e,T,⟨o,AZ _ hf,c,d⟩,fun b hb=>?_,q⟩;have e:b=s1.heap.objs.size:=by simpa using hb
  subst e;exact I1.fpOk (Nat.le_refl _) (I1.hok.fresh (Nat.le_refl _))
 cases ha:z.cps.all (· < 128)
 .exact wpAny_pyIter_wide ha (fin _ _ rfl rfl rfl (Es _ z t "str_iterator" (by decide) (fun A' hA=>Walks.strWide hA _ z t) fun A i s Q E st h=>wpAny_pyIter_striter_wide st h))
 .exact wpAny_pyIter_ascii ha (fin _ _ rfl rfl rfl (Es _ z t "str_ascii_iterator" (by decide) (fun A' hA=>Walks.strAscii hA _ z t) fun A i s Q E st h=>wpAny_pyIter_striter_ascii st h))
end
section
variable{X:Cx}
theorem Ku(hc:X.calm=true):E3 X (.builtin "all") (fun xs H Q=>∃(p:Addr) (bs:List Bool),xs = [.ref p]/\SqL X.K H p (bs.map V.bl)/\Q (.bl (bs.all id)) H):=by
 intro pins s σ H xs us Q I r h;obtain⟨p,bs,rfl,hq,q⟩:=h;obtain⟨u,rfl,ru⟩:=Q6 r;cases ru;obtain⟨its,rv,pl,hz⟩:=I.list hq;refine call_all_walk (FJ pl.isList ?_);have hne:p≠s.heap.objs.size:=by
  obtain⟨o,n,e,_⟩:=pl;exact AQ (AF e)
 refine⟨s.heap.objs.size,_,_,_,_,_,fun i=>bs.getD i true,rfl,Walks.list (A:=X.A.in1) (show X.A.in1.handled=none from I.ok.hd hc) _ p hne its.toArray,⟨⟨_,AZ _ rfl,rfl,rfl⟩,?_⟩,fun i v s' Q' E' hv q'=>?_,fun h' tk k=>?_⟩
 .obtain⟨o,n,e,c,d,e2⟩:=pl;exact⟨o,AC _ e,c,n,e2⟩
 .have hb:(bs.map V.bl)[i]?=some (V.bl (bs.getD i true))/\RelV (V.bl (bs.getD i true)) v:=by
   have hv':its[i]?=some v:=by simpa using hv
   have hi:i<its.length:=(AK.mp hv').1;have hl:=rv.length;rw[AB]at hl;have e:(bs.map V.bl)[i]?=some (V.bl (bs.getD i true)):=by
    rw[AH,AJ (by omega)];simp[EN,AJ (show i<bs.length by omega)]
   obtain⟨u,hu,ru⟩:=rv.get e;rw[hv']at hu;cases hu;exact⟨e,ru⟩
  cases hb.2;exact CG q'
 .have hl:=rv.length;rw[AB]at hl;have e:(List.range its.toArray.size).all (fun i=>bs.getD i true)=bs.all id:=by
   rw[AO,<-hl];rw[FA,DM,DM];constructor
   .intro z b hb;obtain⟨i,hi,rfl⟩:=EK.mp hb;have:=z i (List.mem_range.mpr hi);simpa [EN,AJ hi] using this
   .intro z i hi;have hi':=List.mem_range.mp hi;have:=z bs[i] (List.getElem_mem hi');simpa [EN,AJ hi'] using this
  rw[e];exact⟨.bl (bs.all id),H,I.kept fun b o eb=>k b o (by
   intro hb;have:b=s.heap.objs.size:=by simpa using hb
   exact absurd (AF eb) (by rw[this];exact DK _)) (AC _ eb),rfl,q⟩
theorem o9:∀{ss:List Str} {us:List Value},Vals (ss.map V.str) us->StrsAre us ss
 | [],_,.nil=>.nil
 | _::_,_,.cons ⟨t,e⟩ r=>by subst e;exact .cons _ _ (o9 r)
def leS(a b:Str):Prop:=¬b.cps.toList<a.cps.toList
theorem Bv:E3 X (.builtin "sorted") (fun xs H Q=>∃(p:Addr) (ss:List Str),xs = [.ref p]/\SqL X.K H p (ss.map V.str)/\∀(l:Addr) (ss':List Str),H l=none->ss'.Perm ss->ss'.Pairwise leS->Q (.ref l) (upd H l (.lst (ss'.map V.str)))):=by
 intro pins s σ H xs us Q I r h;obtain⟨p,ss,rfl,hq,q⟩:=h;obtain⟨u,rfl,ru⟩:=Q6 r;cases ru;obtain⟨its,rv,pl,hz⟩:=I.list hq;have hS:=o9 rv;have hl:=rv.length;refine TS.sorted_gen (collect_list (vs:=its) pl.isList ?_ (by omega));refine⟨rfl,by omega,strKind,oneType',fun s2 _=>TS.keys_strs hS,fun out h' e ho k hg=>?_⟩;have hsz:((s.heap.push (seqObj "list" #[] 0)).update s.heap.objs.size (Obj.mapSeq (· ++ its.toArray))).objs.size=s.heap.objs.size+1:=by rw[Heap.size_update,size_push']
 obtain⟨hp,hs⟩:=ho;have hm:∀v∈out.toList,∃x t,v = .str x t:=fun v hv=>hS.all v (hp.mem_iff.mp hv);have hv:Vals ((out.toList.map strOf).map V.str) out.toList:=by
  have:∀us:List Value,(∀v∈us,∃x t,v = .str x t)->Vals ((us.map strOf).map V.str) us:=by
   intro us
   induction us with
   | nil=>exact fun _=>.nil
   | cons v r ih =>
    intro h;obtain⟨x,t,rfl⟩:=h v (BC ..);exact .cons ⟨t,rfl⟩ (ih fun u hu=>h u (AY _ hu))
  exact this _ hm
 have hperm:(out.toList.map strOf).Perm ss:=by
  have:=hp.map strOf
  rwa [hS.strs]at this
 have hpw:(out.toList.map strOf).Pairwise leS:=by
  rw[List.pairwise_map];refine(List.Pairwise.and_mem.mp hs).imp fun{u v} ⟨hu,hv',q⟩=>?_;obtain⟨x,t,rfl⟩:=hm u hu;obtain⟨y,t',rfl⟩:=hm v hv';have q':decide (y.cps.toList<x.cps.toList)=false:=q;exact of_decide_eq_false q'
 have hk0:∀b o,s.heap.get? b=some o->h'.get? b=some o:=fun b o eb=>k b o (by
  rw[Heap.get?_update_ne _ _ _ _ (AQ (AF eb))];exact AC _ eb)
 have hn:H (s.heap.objs.size+1)=none:=I.hok.fresh (BZ _);have hg':h'.get? (s.heap.objs.size+1)=some (seqObj "list" out e):=by rw[<-hsz];exact hg
 refine⟨.ref (s.heap.objs.size+1),upd H (s.heap.objs.size+1) (.lst ((out.toList.map strOf).map V.str)),?_,by show Value.ref _=_;rw[<-hsz],q _ _ hn hperm hpw⟩;refine I.laid (t':=s.toks) hk0 (BZ _) ⟨?_,out.toList,e,hv,by simpa using hg'⟩;rw[AB,AB,hp.length_eq];omega
end
abbrev PA2:=Addr×Str×Str
def P5(H:Hp)(q:PA2):Prop:=H q.1=some (.tup [.str q.2.1,.str q.2.2])
theorem Inv.turnLaid{X:Cx}{pins:List (Addr×Obj)}{σ:St}{H:Hp}{s:Shared}{h':Heap}{t':Nat}{fp:List Addr}{T:Addr}{o:HO}(I:Inv X pins σ H s)(k:∀b ob,b∉fp->s.heap.get? b=some ob->h'.get? b=some ob)
  (hf:∀b∈fp,Al X pins H b) (hfo:∀b∈fp,∃ob,s.heap.get? b=some ob) (hT:s.heap.objs.size<=T) (new:ObjOk X.prog X.w (upd H T o) h' T o):Inv X pins σ (upd H T o) { s with heap:=h',toks:=t' }:=by
 have hn:=I.hok.fresh hT;have nT:∀b ob,s.heap.get? b=some ob->b≠T:=fun b ob e=>AQ (BG (AF e) hT);have nf:∀b u,H b=some u->b∉fp:=fun b u e hb=>by rw[(hf b hb).1]at e;cases e
 refine I.step (g':=s.gens) (d':=s.drawn) (ch:=fp) (fun b hb=>let⟨_,f1,_,f3,f4,f5⟩:=hf b hb;⟨f3,f1,f4,f5⟩) (fun b ob _ _ hc e _=>k b ob hc e) (fun b ob _ _ hc e _=>⟨ob.slots,k b ob hc e⟩) (fun b ob _ e n=>by rw[B4 (nT b ob e)];exact n)
  (fun b ob hc e=>⟨ob,k b ob hc e⟩) (fun b xs e=>by rw[B4 (B1 e hn)];exact e) (fun b u xs e=>by rw[B4 (B1 e hn)];exact e) (fun b ps e=>⟨#[],by rw[B4 (B1 e hn),e];simp⟩) (fun m hm=>?_) (fun b u e=>?_) I.bare
 .obtain⟨ob,es,ep,ho,r⟩:=hm;exact⟨ob,es,ep,k _ ob (fun hb=>(hf _ hb).2.1 rfl) ho,r⟩
 .by_cases hb:b=T
  .subst hb;rw[A7]at e;cases e;exact new
  .rw[B4 hb]at e;refine(I.hok b u e).stay (fun c v hc q=>k c v ?_ q) (fun c q=>by rw[B4 (B1 q hn)];exact q) fun c xs q=>by rw[B4 (B1 q hn)];exact q
   rcases hc with z | z
   .rw[z];exact nf b u e
   .exact nf c _ z
def Ite(K:PySem.W.Frag)(a:Addr):It :=
 ⟨fun i H=>∃xs x,SqL K H a xs/\xs[i]?=some x,fun i H v H'=>∃T x,v = .ref T/\H T=none/\H'=upd H T (.tup [.int i,x])/\∀xs,SqL K H a xs->xs[i]?=some x,fun i H=>∃xs,SqL K H a xs/\xs.length=i⟩
theorem Jh{P:Program}{w:World}{K:PySem.W.Frag}{elts:List Expr}{kk:Nat}{tp:Pos}(a it e:Addr)(hei:e≠it):Turn P w K (.Tuple elts kk tp) (Ite K a) [e,it] e (fun i h=>(∃old,IsEnum h e it i old)/\h.IsListIter it a i) where
 mem:=by simp
 obj:=fun i h st b hb=>by
  obtain⟨⟨old,h1⟩,o,h2,c,d⟩:=st;rcases AN.mp hb with rfl | hb
  .exact⟨_,h1,fun v z=>by cases z⟩
  .rw[AE.mp hb];exact⟨o,h2,fun v z=>by rw[d]at z;cases z⟩
 keep:=fun i h h' st k=>⟨let⟨old,h1⟩:=st.1;⟨old,k e (by simp) _ h1⟩,st.2.at fun o x=>k it (by simp) o x⟩
 item:=by
  intro X hP hw hK hc i pins s σ H E I hf st hg;subst hP hw hK;obtain⟨xs,x,hq,hx⟩:=hg;obtain⟨its,rv,p,hz⟩:=I.list hq;obtain⟨u,hu,ru⟩:=rv.get hx;obtain⟨f0,f1,f2,f3,f4,f5⟩:=hf e (by simp);obtain⟨g0,g1,g2,g3,g4,g5⟩:=hf it (by simp);have hae:a≠e:=fun z=>by
   obtain⟨old,h1⟩:=st.1;obtain⟨o,n,e1,c,_⟩:=p;rw[z,h1]at e1;cases e1;exact absurd c (by show ¬Value.type "enumerate" = Value.type "list";decide)
  have hai:a≠it:=fun z=>by
   obtain⟨o2,h2,c2,d2⟩:=st.2;obtain⟨o,n,e1,c,_⟩:=p;rw[z,h2]at e1;cases e1;rw[c2]at c;exact absurd c (by decide)
  have hi:i<its.toArray.size:=by
   rw[AO];exact(AK.mp hu).1
  have W:=WalksT.enumerate (prog:=X.prog) (w:=X.w) (A:=X.A) (I.ok.hd hc) e it a hei hae hai its.toArray;refine W.item i s _ _ hi ⟨st.1,st.2,p.isList⟩ fun T vals h' tk hv hT ht hm k=>?_;obtain⟨t,x',hx',rfl⟩:=hv;have:x'=u:=by
   have:its.toArray[i]?=some u:=by simpa using hu
   rw[this]at hx';exact(BU hx').symm
  subst this;refine⟨.ref T,rfl,W.go elts kk tp i T _ _ _ hm fun h2 st2 k2=>?_⟩;have hTn:H T=none:=I.hok.fresh hT;have hTe:T≠e:=fun z=>W.apart i T h' hm (by simp[z]);have hTi:T≠it:=fun z=>W.apart i T h' hm (by simp[z]);have kk2:∀b o,b≠e->b≠it->s.heap.get? b=some o->h2.get? b=some o:=fun b o b1 b2 eb=>k2 b o (by simp[b1,b2]) (k b o (by simp[b1,b2]) eb);have hT2:h2.IsTuple T #[.int i t,x']:=by
   obtain⟨o,e1,r⟩:=ht;exact⟨o,k2 T o (by simp[hTe,hTi]) e1,r⟩
  refine⟨.ref T,upd H T (.tup [.int i,x]),I.turnLaid (fp:=[e,it]) (fun b o hb eb=>kk2 b o (fun z=>hb (by simp[z])) (fun z=>hb (by simp[z])) eb) hf (fun b hb=>?_) hT ⟨?_,[.int i t,x'],.cons ⟨t,rfl⟩ (.cons ru .nil),hT2⟩,rfl,⟨T,x,rfl,hTn,rfl,fun ys hy=>by rw[I.list_inj hy hq];exact hx⟩,⟨st2.1,st2.2.1⟩,fun b hb=>?_⟩
  .rcases AN.mp hb with rfl | hb
   .obtain⟨old,h1⟩:=st.1;exact⟨_,h1⟩
   .rw[AE.mp hb];obtain⟨o,h1,_⟩:=st.2;exact⟨o,h1⟩
  .show 2<=sizeLine;decide
  .rcases AN.mp hb with rfl | hb
   .rw[B4 (Ne.symm hTe)];exact f0
   .rw[AE.mp hb,B4 (Ne.symm hTi)];exact g0
 done:=by
  intro X hP hw hK hc i pins s σ H E I hf st hg;subst hP hw hK;obtain⟨xs,hq,hx⟩:=hg;obtain⟨its,rv,p,hz⟩:=I.list hq;obtain⟨f0,f1,f2,f3,f4,f5⟩:=hf e (by simp);obtain⟨g0,g1,g2,g3,g4,g5⟩:=hf it (by simp);have hae:a≠e:=fun z=>by
   obtain⟨old,h1⟩:=st.1;obtain⟨o,n,e1,c,_⟩:=p;rw[z,h1]at e1;cases e1;exact absurd c (by show ¬Value.type "enumerate" = Value.type "list";decide)
  have hai:a≠it:=fun z=>by
   obtain⟨o2,h2,c2,d2⟩:=st.2;obtain⟨o,n,e1,c,_⟩:=p;rw[z,h2]at e1;cases e1;rw[c2]at c;exact absurd c (by decide)
  have W:=WalksT.enumerate (prog:=X.prog) (w:=X.w) (A:=X.A) (I.ok.hd hc) e it a hei hae hai its.toArray;have hl:=rv.length;have hi:i=its.toArray.size:=by rw[AO];omega
  rw[hi]at st;refine W.done s _ _ ⟨st.1,st.2,p.isList⟩ fun h' tk k=>⟨rfl,?_⟩;have I1:=I.step (h':=h') (H':=H) (t':=tk) (g':=s.gens) (d':=s.drawn) (ch:=[e,it]) (fun b hb=>let⟨_,f1,_,f3,f4,f5⟩:=hf b hb;⟨f3,f1,f4,f5⟩) (fun b ob _ _ hc e _=>k b ob hc e) (fun b ob _ _ hc e _=>⟨ob.slots,k b ob hc e⟩) (fun _ _ _ _ n=>n)
   (fun b ob hc e=>⟨ob,k b ob hc e⟩) (fun _ _ e=>e) (fun _ _ _ e=>e) (fun b ps e=>⟨#[],by rw[e];simp⟩) (fun m hm=>?_) (fun b u eb=>?_) I.bare
  .exact I1
  .obtain⟨ob,es,ep,ho,r⟩:=hm;exact⟨ob,es,ep,k _ ob (fun hb=>(hf _ hb).2.1 rfl) ho,r⟩
  .have nf:∀b u,H b=some u->b∉[e,it]:=fun b u e hb=>by rw[(hf b hb).1]at e;cases e
   refine(I.hok b u eb).stay (fun c v hc q=>k c v ?_ q) (fun _ q=>q) fun _ _ q=>q;rcases hc with z | z
   .rw[z];exact nf b u eb
   .exact nf c _ z
 self:=fun A i s Q E st h=>by
  obtain⟨old,he⟩:=st.1;exact wpAny_pyIter_enum he h
section
variable{X:Cx}{elts:List Expr}{kk:Nat}{tp:Pos}
def Qn(K:PySem.W.Frag)(ta:TA):TI:=fun σ H R=>ta σ H fun vs H1=>∃a xs,vs = [.ref a]/\SqL K H1 a xs/\R (Ite K a) H1
theorem Na{a:Expr}{ta:TA}{p pos:Pos}(hg:Gl X "enumerate")(hm:X.mg "enumerate" = none)(hv:bootBuiltins "enumerate" = some (.type "enumerate"))(ha:PA X [a] ta)(hs:starEach [a] X.env = [(false,eval a X.env)]:=by rfl):PI X (.Tuple elts kk tp) (.Call (.Name "enumerate" p) [a] [] pos) (Qn X.K ta):=by
 intro pins s σ H R I h;refine Call_ (X8 I hg hm hv (PyProof.Rows.callWith_type1 (thn (ha pos pins s σ H _ I h) fun us s1 ⟨vs,H1,I1,r1,q1⟩=>?_) hs rfl));obtain⟨l,xs,e,hq,q⟩:=q1;subst e;obtain⟨u,rfl,ru⟩:=Q6 r1;cases ru;obtain⟨its,rv,pl,hz⟩:=I1.list hq;refine call_enumerate_list pl.isList fun h' he hit hsz k=>wpAny_pyIter_enum he ?_;have I2:Inv X pins σ H1 { s1 with heap:=h' }:=I1.kept (t':=s1.toks) k;refine⟨s1.heap.objs.size+1,[s1.heap.objs.size+1,s1.heap.objs.size],_,_,H1,rfl,I2,Jh l s1.heap.objs.size (s1.heap.objs.size+1) (Nat.succ_ne_self _),⟨⟨_,he⟩,hit⟩,fun b hb=>?_,q⟩;rcases AN.mp hb with z | hb
 .rw[z];exact I1.fpOk (BZ _) (I1.hok.fresh (BZ _))
 .rw[AE.mp hb];exact I1.fpOk (Nat.le_refl _) (I1.hok.fresh (Nat.le_refl _))
end
end L2
namespace ST
open PySem
section
variable{prog:Program}{w:World}{K:Type}[DecidableEq K]{knd:KeyKind prog w K}{A:Around}{E:Value->Shared->Prop}{s:Shared}
theorem Ip{h:Heap}{a:Addr}{o:Obj}{es:Array (Int×Value)}{ep:Nat}{t:SetTable}(ho:h.get? a=some o)(hd:o.data = .set es ep t)(es':Array (Int×Value))(t':SetTable) :
  (h.update a (Obj.putSet es' t')).get? a=some { o with data:=.set es' (ep+1) t' }:=by
 have:=CF (Obj.putSet es' t') ho (by rw[putSet_of es' t' hd];rfl);rw[putSet_of es' t' hd]at this;exact this
end
section
variable{prog:Program}{w:World}{A:Around}{E:Value->Shared->Prop}{s:Shared}
theorem erase_perm{α:Type}:∀{l:List α} {i:Nat} {x:α},l[i]?=some x->(x::l.eraseIdx i).Perm l
 | [],i,x,h=>by simp at h
 | y::l,0,x,h=>by
  have:y=x:=by simpa using h
  subst this;exact .refl _
 | y::l,i+1,x,h=>by
  have h':l[i]?=some x:=by simpa using h
  exact(List.Perm.swap y x _).trans ((erase_perm h').cons y)
structure SAt(w:World)(h:Heap)(a:Addr)(o:Obj)(es:Array (Int×Value))(ep:Nat)(t:SetTable):Prop where
 ho:h.get? a=some o
 ex:o.ExactSet
 hd:o.data = .set es ep t
 ft:t.fits es.size=true
 led:t.led=!(w.params.followText "set-order")
 pln:t.plain=true->es.size=0
 few:es.size<4096
variable{a it:Addr}{o:Obj}{es:Array (Int×Value)}{ep:Nat}{t:SetTable}
end
section
variable{prog:Program}{w:World}{A:Around}{E:Value->Shared->Prop}{s:Shared}{a it T:Addr}{o:Obj}{es:Array (Int×Value)}{ep:Nat}{t:SetTable}
theorem SAt.at{h h':Heap}(S:SAt w h a o es ep t)(e:h'.get? a=some o):SAt w h' a o es ep t:=⟨e,S.ex,S.hd,S.ft,S.led,S.pln,S.few⟩
end
end ST
namespace ST
open PySem L2
theorem Sb(t:SetTable)(n:Nat):(t.orStandIn n).led=t.led:=by
 unfold SetTable.orStandIn;split<;>rfl
theorem Oo(t:SetTable)(es:Array (Int×Value))(h:Int)(x:Value):(layNew t es h x).2.1.led=t.led:=by
 unfold layNew;split
 .rename_i sl wd e;show((t.put sl).1.orStandIn _).led=_;rw[Sb];rfl
 .rfl
theorem Ft{t t':SetTable}{hs:Array Int}{n:Nat}{ord:Array Nat}(h:t.relaid hs n=some (t',ord)):t'.led=t.led/\t'.plain=t.plain:=by
 unfold SetTable.relaid SetTable.laid at h;cases e:SetTable.layClean (SetTable.sizeAbove n-1) hs with
 | none=>rw[e]at h;cases h
 | some ow =>
  rw[e]at h;cases h;exact⟨rfl,rfl⟩
theorem Hb(t:SetTable)(es:Array (Int×Value))(n:Nat)(hp:t.plain=false):(relayAll t es n).2.1.led=t.led/\(relayAll t es n).2.1.plain=false:=by
 unfold relayAll;split
 .rename_i t' ord e;obtain⟨e1,e2⟩:=Ft e;dsimp only;split
  .exact⟨e1,e2.trans hp⟩
  .exact⟨rfl,rfl⟩
 .exact⟨rfl,rfl⟩
def Vi:Value->Str
 | .str x _=>x
 | _=>Str.empty
section
variable{prog:Program}{w:World}{A:Around}{E:Value->Shared->Prop}{s:Shared}{a:Addr}
structure TxtEs(w:World)(es:Array (Int×Value))(ss:List Str):Prop where
 el:∀e∈es.toList,∃x tk,e =(hashStr w x,Value.str x tk)
 pm:(es.toList.map fun e=>Vi e.2).Perm ss
 nd:ss.Nodup
def WS(w:World)(h:Heap)(a:Addr)(ss:List Str):Prop:=∃o es ep t,SAt w h a o es ep t/\TxtEs w es ss
theorem TxtEs.elems{es:Array (Int×Value)}{ss:List Str}(h:TxtEs w es ss):ElemsOf (C9 prog w) es.toList:=fun e he=>by
 obtain⟨x,tk,rfl⟩:=h.el e he;exact⟨⟨.inr x,S3 x tk,rfl⟩,rfl⟩
theorem TxtEs.mem{es:Array (Int×Value)}{ss:List Str}(h:TxtEs w es ss)(x:Str):x∈ss↔∃e∈es.toList,(C9 prog w).is (.inr x) e.2=true:=by
 rw[<-h.pm.mem_iff];constructor
 .intro hm;obtain⟨e,he,rfl⟩:=BA.mp hm;obtain⟨y,tk,rfl⟩:=h.el e he;exact⟨_,he,S3 y tk⟩
 .rintro⟨e,he,hk⟩;obtain⟨y,tk,rfl⟩:=h.el e he;have:y=x:=by
   rcases D3 (show Ct (.inr x) (.str y tk)=true from hk)with⟨i,t,e1,e2⟩ | ⟨z,t,e1,e2⟩
   .cases e2
   .cases e1;cases e2;rfl
  subst this;exact BA.mpr ⟨_,he,rfl⟩
theorem TxtEs.len{es:Array (Int×Value)}{ss:List Str}(h:TxtEs w es ss):es.size=ss.length:=by
 have:=h.pm.length_eq;rw[AB,AW]at this;exact this
theorem add_txt{ss:List Str}{x:Str}{tk:Tok}{Q:Bool->Shared->Prop}(S:WS w s.heap a ss)(hl:ss.length+1<4096)
  (h:∀h' b,Heap.SameBut a s.heap h'->WS w h' a (if x∈ss then ss else ss ++ [x])->Q b { s with heap:=h' }) :
  wpAny (model prog w) A (setAddHashed a (.str x tk) (hashStr w x)) Q E s:=by
 obtain⟨o,es,ep,t,S,T⟩:=id S;have hkey:(C9 prog w).is (.inr x) (.str x tk)=true:=S3 x tk;have hsz:=T.len;unfold setAddHashed setAddHashedIn;refine BT (AA (wpAny_setState_of S.ho S.hd S.ft ?_));dsimp only;rw[byScan_of (knd:=C9 prog w) rfl S.few T.elems,BB rfl];unfold setAddByScan;refine AA (AA (CM ?_));refine AA (wpAny_setScan_of hkey S.ho S.hd S.ft T.elems ?_);cases hr:List.findIdx? (fun e=>(C9 prog w).is (.inr x) e.2) es.toList with
 | some j =>
  dsimp only;obtain⟨hj,hpj,_⟩:=List.findIdx?_eq_some_iff_getElem.mp hr;have hx:x∈ss:=(T.mem (prog:=prog) x).mpr ⟨es.toList[j],List.getElem_mem hj,hpj⟩;refine AD (AD ?_);have:=h s.heap false (Heap.SameBut.refl a s.heap) (by rw[BB hx];exact⟨o,es,ep,t,S,T⟩);exact this
 | none =>
  dsimp only;have hx:¬x∈ss:=fun hx=>by
   obtain⟨e,he,hp⟩:=(T.mem (prog:=prog) x).mp hx;have:=List.findIdx?_eq_none_iff.mp hr e he;rw[hp]at this;exact Bool.noConfusion this
  have hgw:∀(b:Bool) {s1:Shared} {Q':Unit->Shared->Prop},Q' () s1->wpAny (model prog w) A (match b with | true=>rule "set.scan.the-table-gave-way" | false=>pure ()) Q' E s1 :=
   fun b s1 Q' hq=>by cases b<;>first | exact AD hq | exact CM hq
  have hperm:=layNew_perm t es (hashStr w x) (.str x tk);have hfits:=layNew_fits t es (hashStr w x) (.str x tk);have hled:=Oo t es (hashStr w x) (.str x tk);show wpAny _ _ (match layNew t es (hashStr w x) (.str x tk)with | (es,t,wasDummy,gave)=>_) _ _ _;generalize layNew t es (hashStr w x) (.str x tk)=L at hperm hfits hled⊢;obtain⟨es1,t1,wasDummy,gave⟩:=L;dsimp only at hperm hfits hled⊢;rw[CO]at hperm;have hT1:∀es2:Array (Int×Value),es2.toList.Perm es1.toList->TxtEs w es2 (ss ++ [x]):=fun es2 hp2=>by
   refine⟨fun e he=>?_,?_,?_⟩
   .rcases AV.mp (hperm.mem_iff.mp (hp2.mem_iff.mp he))with z | z
    .exact T.el e z
    .exact⟨x,tk,AE.mp z⟩
   .refine((hp2.trans hperm).map _).trans ?_;rw[A_];exact T.pm.append (.refl _)
   .rw[CZ];refine⟨T.nd,by simp,fun y hy z hz=>?_⟩;rw[AE.mp hz];rintro rfl;exact hx hy
  have hsz1:es1.size=ss.length+1:=by
   have:=(hT1 es1 (.refl _)).len;rw[BF]at this;exact this
  refine AA (hgw _ ?_);have key:∀t2:SetTable,t2.led=t.led->t2.plain=false->t2.fits es1.size=true->wpAny (model prog w) A (do
    storeSet a es1 t2
    if(!wasDummy&&t2.tooFull)=true then do
      (match(relayAll t2 es1 (SetTable.grown es1.size)).2.2 with | true=>rule "set.scan.the-table-gave-way" | false=>pure ())
      storeSet a (relayAll t2 es1 (SetTable.grown es1.size)).1 (relayAll t2 es1 (SetTable.grown es1.size)).2.1
      pure (some true)
     else pure (some true)) (fun r s'=>wpAny (model prog w) A (match r with | some added=>pure added | none=>setAddHashedIn a (.str x tk) (hashStr w x) 99999) Q E s') E s:=by
   intro t2 l2 p2 f2;refine AA (wpAny_storeSet_of S.ho S.hd ?_ (by rw[hsz1,sizeLine_eq];omega));have ho1:=Ip S.ho S.hd es1 t2;have sb1:=EU s.heap a (Obj.putSet es1 t2);split
   .have hp:=relayAll_perm t2 es1 (SetTable.grown es1.size);have hf:=relayAll_fits t2 es1 (SetTable.grown es1.size);obtain⟨hl3,hp3⟩:=Hb t2 es1 (SetTable.grown es1.size) p2;have hz2:(relayAll t2 es1 (SetTable.grown es1.size)).1.size=es1.size:=by rw[<-AW,hp.length_eq,AW]
    refine AA (hgw _ ?_);refine AA (wpAny_storeSet_of ho1 rfl ?_ (by rw[hz2,hsz1,sizeLine_eq];omega));refine AD (AD (h _ true (sb1.trans (EU _ a _)) ?_));rw[AU hx];exact⟨_,_,_,_,⟨Ip ho1 rfl _ _,S.ex,rfl,hf,hl3.trans (l2.trans S.led),(fun z=>by rw[hp3]at z;cases z),by rw[hz2,hsz1];omega⟩,hT1 _ hp⟩
   .refine AD (AD (h _ true sb1 ?_));rw[AU hx];exact⟨_,es1,_,t2,⟨ho1,S.ex,rfl,f2,l2.trans S.led,(fun z=>by rw[p2]at z;cases z),by rw[hsz1];omega⟩,hT1 _ (.refl _)⟩
  cases hpl:t1.plain with
  | true =>
   rw[BB rfl,hashByValue_scannable 8 (x:=Value.str x tk) rfl];refine AA (AD ?_);exact key { t1 with plain:=false } hled rfl (SetTable.fits_plain_off hfits)
  | false =>
   rw[AU (by decide)];refine AA (AD ?_);exact key t1 hled hpl hfits
end
end ST
namespace L2
open PySem PySem.Spec PyProof.Rows
def Pw(w:World)(a:Addr)(ss:List Str):HO:=.ext fun h=>ST.WS w h a ss
section
variable{X:Cx}{pins:List (Addr×Obj)}{σ:St}{H:Hp}{s:Shared}{a:Addr}{ss:List Str}
theorem Qz{P:Program}{w:World}{H:Hp}{h:Heap}(z:ST.WS w h a ss):ObjOk P w H h a (Pw w a ss) :=
 ⟨z,let⟨o,_,_,_,S,_⟩:=z;⟨o,S.ho⟩,fun h1 h2 ⟨o,es,ep,t,S,r⟩ k=>⟨o,es,ep,t,S.at (k o S.ho),r⟩⟩
theorem Inv.setw(I:Inv X pins σ H s)(e:H a=some (Pw X.w a ss)):ST.WS X.w s.heap a ss:=by
 obtain⟨z,_⟩:=(show ObjOk X.prog X.w H s.heap a (Pw X.w a ss)from I.hok a _ e);exact z
def Py(l:List Str)(x:Str):List Str:=if x∈l then l else l ++ [x]
end
section
variable{X:Cx}
theorem Ic:E3 X (.builtin "isinstance") (fun xs H Q=>∃x n t b,xs = [x,.ty n]/\TyOf X.K H x t/\PySem.W.kitOne X.K t (.type n)=some b/\Q (.bl b) H):=by
 intro pins s σ H xs us Q I r h;obtain⟨x,n,t,b,rfl,ht,he,q⟩:=h;obtain⟨u,v,rfl,ru,rv⟩:=r.two;cases rv;exact Hs I ru ht he fun tk=>⟨.bl b,H,I.tok _,rfl,q⟩
end
mutual
def Rp(K:PySem.W.Frag)(H:Hp):PyData->V->Prop
 | .none,v=>v = .non
 | .bool b,v=>v = .bl b
 | .int i,v=>v = .int i
 | .str x,v=>v = .str x
 | .list ds,v=>∃a xs,v = .ref a/\SqL K H a xs/\Rps K H ds xs
 | .tuple ds,v=>∃a xs,v = .ref a/\SqT K H a xs/\Rps K H ds xs
 | .dict _,_=>False
def Rps(K:PySem.W.Frag)(H:Hp):List PyData->List V->Prop
 | [],vs=>vs = []
 | d::ds,vs=>∃v r,vs=v::r/\Rp K H d v/\Rps K H ds r
end
section
variable{X:Cx}{pins:List (Addr×Obj)}{σ:St}{H:Hp}{s:Shared}
mutual
theorem Inv.reads(I:Inv X pins σ H s):∀(d:PyData) (v:V) (u:Value),Rp X.K H d v->RelV v u->∃as,Reads s.heap u d as
 | .none,v,u,h,r=>by
  cases(show v = .non by simpa [Rp] using h);cases r;exact⟨_,.none⟩
 | .bool b,v,u,h,r=>by
  cases(show v = .bl b by simpa [Rp] using h);cases r;exact⟨_,.bool b⟩
 | .int i,v,u,h,r=>by
  cases(show v = .int i by simpa [Rp] using h);obtain⟨t,rfl⟩:=r;exact⟨_,.int i t⟩
 | .str x,v,u,h,r=>by
  cases(show v = .str x by simpa [Rp] using h);obtain⟨t,rfl⟩:=r;exact⟨_,.str x t⟩
 | .list ds,v,u,h,r=>by
  obtain⟨a,xs,e,hq,hs⟩:=(show ∃a xs,v=V.ref a/\SqL X.K H a xs/\Rps X.K H ds xs by simpa [Rp] using h);subst e;cases r;obtain⟨its,rv,⟨o,n,e,hc,hd,hda⟩,_⟩:=I.list hq;obtain⟨as,z⟩:=I.readsAll ds xs its hs rv;exact⟨_,.list e hc hda (by simpa using z)⟩
 | .tuple ds,v,u,h,r=>by
  obtain⟨a,xs,e,hq,hs⟩:=(show ∃a xs,v=V.ref a/\SqT X.K H a xs/\Rps X.K H ds xs by simpa [Rp] using h);subst e;cases r;obtain⟨its,rv,⟨o,e,hc,n,hda⟩,_⟩:=I.tuple hq;obtain⟨as,z⟩:=I.readsAll ds xs its hs rv;exact⟨_,.tuple e hc hda (by simpa using z)⟩
 | .dict _,v,u,h,r=>by simp[Rp]at h
theorem Inv.readsAll(I:Inv X pins σ H s):∀(ds:List PyData) (vs:List V) (us:List Value),Rps X.K H ds vs->Vals vs us->∃as,ReadsAll s.heap us ds as
 | [],vs,us,h,r=>by
  cases(show vs = [] by simpa [Rps] using h);cases r;exact⟨_,.nil⟩
 | d::ds,vs,us,h,r=>by
  obtain⟨v,vr,e,h1,h2⟩:=(show ∃v r,vs=v::r/\Rp X.K H d v/\Rps X.K H ds r by simpa [Rps] using h);subst e;cases r with
  | cons r1 r2 =>
   obtain⟨as,z⟩:=I.reads d v _ h1 r1;obtain⟨bs,z'⟩:=I.readsAll ds vr _ h2 r2;exact⟨_,.cons z z'⟩
end
def Pl(d:PyData):Prop:=d.canLay0=true/\d.depth<=50
def Ta(K:PySem.W.Frag):R2:=fun x y H Q=>∃d e,Rp K H d x/\Rp K H e y/\Pl d/\Pl e/\Q (.bl (PyData.eqv d e)) H
def Tn(K:PySem.W.Frag):R2:=fun x y H Q=>∃d e,Rp K H d x/\Rp K H e y/\Pl d/\Pl e/\Q (.bl (!PyData.eqv d e)) H
theorem Rx(hu:X.A.units+64<cLine):OpR X (compareOp .Eq) (Ta X.K):=by
 intro pins s σ H x y v u Q I rx ry h;obtain⟨d,e,h1,h2,p1,p2,q⟩:=h;obtain⟨as,z1⟩:=I.reads d x v h1 rx;obtain⟨bs,z2⟩:=I.reads e y u h2 ry;exact PySem.SeqAt.compareEq_reads z1 z2 p1.1 p2.1 (by have:=p1.2;have:=p2.2;omega) ⟨.bl (PyData.eqv d e),H,I,rfl,q⟩
theorem Qc(hu:X.A.units+64<cLine):OpR X (compareOp .NotEq) (Tn X.K):=by
 intro pins s σ H x y v u Q I rx ry h;obtain⟨d,e,h1,h2,p1,p2,q⟩:=h;obtain⟨as,z1⟩:=I.reads d x v h1 rx;obtain⟨bs,z2⟩:=I.reads e y u h2 ry;exact PySem.SeqAt.compareNe_reads z1 z2 p1.1 p2.1 (by have:=p1.2;have:=p2.2;omega) ⟨.bl (!PyData.eqv d e),H,I,rfl,q⟩
def Pt(K:PySem.W.Frag)(neg:Bool):R2:=fun x y H Q=>∃d ds,Rp K H d x/\(Rp K H (.list ds) y\/Rp K H (.tuple ds) y)/\Pl d/\PyData.canLayAll0 ds=true/\Q (.bl (if neg then !(ds.any fun z=>PyData.eqv z d)else ds.any fun z=>PyData.eqv z d)) H
theorem Rb(hu:X.A.units+64<cLine):OpR X (compareOp .In) (Pt X.K false):=by
 intro pins s σ H x y v u Q I rx ry h;obtain⟨d,ds,h1,h2,p1,p2,q⟩:=h;obtain⟨as,z1⟩:=I.reads d x v h1 rx;have hu':X.A.units+1+min (PyData.depthAll ds) d.depth<cLine:=by have:=p1.2;omega
 rcases h2 with h2 | h2
 .obtain⟨bs,z2⟩:=I.reads (.list ds) y u h2 ry;exact PySem.SeqAt.in_list_reads z2 z1 p2 p1.1 hu' ⟨.bl _,H,I,rfl,q⟩
 .obtain⟨bs,z2⟩:=I.reads (.tuple ds) y u h2 ry;exact PySem.SeqAt.in_tuple_reads z2 z1 p2 p1.1 hu' ⟨.bl _,H,I,rfl,q⟩
theorem Js(hu:X.A.units+64<cLine):OpR X (compareOp .NotIn) (Pt X.K true):=by
 intro pins s σ H x y v u Q I rx ry h;obtain⟨d,ds,h1,h2,p1,p2,q⟩:=h;obtain⟨as,z1⟩:=I.reads d x v h1 rx;have hu':X.A.units+1+min (PyData.depthAll ds) d.depth<cLine:=by have:=p1.2;omega
 rcases h2 with h2 | h2
 .obtain⟨bs,z2⟩:=I.reads (.list ds) y u h2 ry;exact PySem.SeqAt.notIn_list_reads z2 z1 p2 p1.1 hu' ⟨.bl _,H,I,rfl,q⟩
 .obtain⟨bs,z2⟩:=I.reads (.tuple ds) y u h2 ry;exact PySem.SeqAt.notIn_tuple_reads z2 z1 p2 p1.1 hu' ⟨.bl _,H,I,rfl,q⟩
end
section
variable{X:Cx}
def Eg:V->List V->Hp->VK->Prop:=fun x vs H Q=>∃z y ps,x = .str z/\vs = [.str y]/\(decide (z.length<y.length)||decide (Builtin.Str.strKind z<Builtin.Str.strKind y))=false/\(y.length == 0)=false /\
 (Builtin.Str.occurrences z y 0 z.length (z.length+1)).isEmpty=false/\z.length<=4000/\Builtin.Str.partsBetween z (Builtin.Str.occurrences z y 0 z.length (z.length+1)) y.length=ps/\ps.length<=4000/\∀l,H l=none->Q (.ref l) (upd H l (.lst (ps.map V.str)))
theorem As:∀(ps:List Str) (tk:Nat),Vals (ps.map V.str) (strsFrom tk ps)
 | [],_=>.nil
 | _::r,tk=>.cons ⟨tk,rfl⟩ (As r (tk+1))
theorem Ac:MtM X "str.split" Eg:=by
 intro pins s σ H x vs v us Q I rx rv h;obtain⟨z,y,ps,rfl,rfl,h1,h2,h3,h4,rfl,h6,q⟩:=h;obtain⟨t,rfl⟩:=rx;obtain⟨u,rfl,⟨tk,rfl⟩⟩:=rv.one;have hz:z.length<=sizeLine:=by rw[sizeLine_eq];omega
 have hp:(Builtin.Str.partsBetween z (Builtin.Str.occurrences z y 0 z.length (z.length+1)) y.length).length<=sizeLine:=by rw[sizeLine_eq];omega
 refine call_meets F.slot_str_split (typeIs_str _ _ _) F.entry_str_split (F.args_str_split_2 _ _) (PySem.meets_str_split_sep z y t tk h1 h2 h3 hz hp) ?_;exact⟨.ref s.heap.objs.size,_,I.lnew (As _ _) (by rw[AB];exact hp),rfl,q _ I.fresh⟩
end
end L2
namespace L2
open PySem PySem.Spec PyProof.Rows
structure Fn(K:PySem.W.Frag)(mg:Str->Option Value)(x:Str)(st:Stmt)(ps:List Str) where
 f:Addr
 fd:FuncData
 F:Fun K x x st f fd
 b:Binds K fd ps []
 m:mg x=some (.ref f)
section
variable{X:Cx}
theorem C0{x:Str}{st:Stmt}{ps:List Str}{k:Nat}{sp:Sp}{e:Expr}{es:List Expr}{t:TA}{p pos:Pos}(D:Fn X.K X.mg x st ps)(G:FnOk X.prog X.w X.K X.mg X.base CX0 k D.f D.fd ps sp)(hr:Room k X.A)(ha:PA X (e::es) t)
  (hg:Gl X x:=by rfl) (hdb:(x ==("__debug__":Str))=false:=by decide) (hs:starEach (e::es) X.env =(false,eval e X.env)::starEach es X.env:=by rfl) (hpl:(backTo pos (starEach es X.env)).any (·.1)=false:=by rfl) :
  PE X (.Call (.Name x p) (e::es) [] pos) (Kv sp [] E0 t):=Hq G hr hg D.m D.F.kp D.b .nil Oc ha hdb hs hpl
theorem Ot{x:Str}{i:Int}{pos:Pos}(h:∃t,X.mg x=some (.int i t))(hg:Gl X x:=by rfl)(hd:(x ==("__debug__":Str))=false:=by decide):PE X (.Name x pos) (tC (.int i)):=by
 obtain⟨t,e⟩:=h;exact Dm hg e ⟨t,rfl⟩ hd
theorem Tt{x y:Str}{pos:Pos}(h:∃t,X.mg x=some (.str y t))(hg:Gl X x:=by rfl)(hd:(x ==("__debug__":Str))=false:=by decide):PE X (.Name x pos) (tC (.str y)):=by
 obtain⟨t,e⟩:=h;exact Dm hg e ⟨t,rfl⟩ hd
theorem J4{x:Str}{n:String}{pos:Pos}(hm:X.mg x=none)(hv:bootBuiltins x=some (.type n))(hg:Gl X x:=by rfl)(hn:x≠ "__name__":=by decide)(hd:(x ==("__debug__":Str))=false:=by decide):PE X (.Name x pos) (tC (.ty n)) :=
 Nz hg hm hv rfl hn hd
theorem D0{x:Str}{id:String}{r:List V->Hp->VK->Prop}{e:Expr}{es:List Expr}{t:TA}{p pos:Pos}(hc:E3 X (.builtin id) r)(hm:X.mg x=none)(hv:bootBuiltins x=some (.builtin id))(ha:PA X (e::es) t)(hg:Gl X x:=by rfl)(hn:x≠ "__name__":=by decide)(hdb:(x ==("__debug__":Str))=false:=by decide)
  (hs:starEach (e::es) X.env =(false,eval e X.env)::starEach es X.env:=by rfl) (hpl:(backTo pos (starEach es X.env)).any (·.1)=false:=by rfl):PE X (.Call (.Name x p) (e::es) [] pos) (tCB r t):=Mc hc hg hm hv ha hn hdb hs hpl
theorem t6{x:Str}{T:String}{r:List V->Hp->VK->Prop}{e:Expr}{es:List Expr}{t:TA}{p pos:Pos}(hc:E3 X (.type T) r)(hm:X.mg x=none)(hv:bootBuiltins x=some (.type T))(ha:PA X (e::es) t)(hg:Gl X x:=by rfl)(hn:x≠ "__name__":=by decide)(hdb:(x ==("__debug__":Str))=false:=by decide)
  (hs:starEach (e::es) X.env =(false,eval e X.env)::starEach es X.env:=by rfl) (hpl:(backTo pos (starEach es X.env)).any (·.1)=false:=by rfl):PE X (.Call (.Name x p) (e::es) [] pos) (tCB r t):=Jg hc hg hm hv ha hn hdb hs hpl
theorem O2{scope:Scope}{cl:List (Str×Addr)}{N':List Str}{cap:List (Option Nat)}(caps:Caps X scope cl N' cap)(cin:ClIn X cl)(clos:closureFor scope X.env=pure cl:=by rfl)(kind:scope.kind = .function:=by rfl)(nocell:∀y∈scope.names,y.2≠ .cell:=by decide +kernel)
  (loc:∀y∈scope.names,y.2 = .local->scope.names.lookup y.1=some .local:=by decide +kernel) (has:((relabel scope X.env).names.all fun y=>!(y.2 == .cell||y.2 == .free)||(cl.lookup y.1).isSome)=true:=by rfl):CScope X scope cl N' cap:=⟨kind,nocell,loc,clos,cin,has,caps⟩
theorem pgC{scope:Scope}{cl:List (Str×Addr)}{N':List Str}{pins:List (Addr×Obj)}{ex:List Addr}{s3:Shared}{H3:Hp}{x:Str}{pos:Pos}(i:Nat)(hN:N'.Nodup:=by decide +kernel)(hi:N'[i]?=some x:=by rfl)(hx:Loc (cxC X scope cl N' pins ex s3 H3).env.scope x:=by exact Or.inl rfl)
  (hf:(cxC X scope cl N' pins ex s3 H3).env.scope.names.lookup x=some .local:=by rfl):PG (cxC X scope cl N' pins ex s3 H3) (.Name x pos) (w6 i):=D7 (X:=cxC X scope cl N' pins ex s3 H3) hN hi hx (.inr hf)
end
theorem G8:bootBuiltins "len" = some (.builtin "len"):=by decide +kernel
theorem Bh:bootBuiltins "enumerate" = some (.type "enumerate"):=by decide +kernel
theorem Qe:bootBuiltins "min" = some (.builtin "min"):=by decide +kernel
theorem Kd:bootBuiltins "max" = some (.builtin "max"):=by decide +kernel
theorem Mi:bootBuiltins "abs" = some (.builtin "abs"):=by decide +kernel
theorem Ce:bootBuiltins "sorted" = some (.builtin "sorted"):=by decide +kernel
theorem Ej:bootBuiltins "int" = some (.type "int"):=by decide +kernel
theorem Et:bootBuiltins "str" = some (.type "str"):=by decide +kernel
theorem y9:bootBuiltins "bool" = some (.type "bool"):=by decide +kernel
theorem K9:bootBuiltins "list" = some (.type "list"):=by decide +kernel
theorem Q5:bootBuiltins "tuple" = some (.type "tuple"):=by decide +kernel
theorem Qj:bootBuiltins "set" = some (.type "set"):=by decide +kernel
theorem B8:bootBuiltins "isinstance" = some (.builtin "isinstance"):=by decide +kernel
theorem Ig:bootBuiltins "all" = some (.builtin "all"):=by decide +kernel
def KeepAt(a:Addr)(H0 H:Hp):Prop:=∀o,H0 a=some o->H a=some o
def Sm(D:List Addr)(H H':Hp):Prop:=∀b o,H b=some o->b∉D->H' b=some o
theorem Same.at{H0 H:Hp}(h:Same H0 H)(a:Addr):KeepAt a H0 H:=fun o e=>h a o e
theorem Same.new{H:Hp}{p:Addr}{o:HO}(h:H p=none):Same H (upd H p o):=fun b u e=>by rw[B4 (B1 e h)];exact e
theorem Same.upd{H0 H:Hp}{p:Addr}{o:HO}(s:Same H0 H)(h:H0 p=none):Same H0 (upd H p o):=fun b u e=>by rw[B4 (B1 e h)];exact s b u e
theorem Same.sm{D:List Addr}{H H':Hp}(h:Same H H'):Sm D H H':=fun b o e _=>h b o e
theorem Sm.refl(D:List Addr)(H:Hp):Sm D H H:=fun _ _ e _=>e
theorem Sm.trans{D:List Addr}{H H1 H2:Hp}(a:Sm D H H1)(b:Sm D H1 H2):Sm D H H2:=fun c o h n=>b c o (a c o h n) n
theorem Sm.new{D:List Addr}{H H1:Hp}{p:Addr}{o:HO}(a:Sm D H H1)(h:H1 p=none):Sm D H (L2.upd H1 p o):=fun b u e n=>by
 have:=a b u e n;rw[B4 (B1 this h)];exact this
theorem Sm.upd{D:List Addr}{H H1:Hp}{p:Addr}{o:HO}(a:Sm D H H1)(h:p∈D):Sm D H (L2.upd H1 p o):=fun b u e n=>by
 rw[B4 (show b≠p from fun z=>n (by rw[z];exact h))];exact a b u e n
theorem Sm.updN{D:List Addr}{H H1:Hp}{p:Addr}{o:HO}(a:Sm D H H1)(h:H p=none):Sm D H (L2.upd H1 p o):=fun b u e n=>by rw[B4 (B1 e h)];exact a b u e n
theorem KeepAt.seqL{K:PySem.W.Frag}{H H':Hp}{a:Addr}{xs:List V}(e:KeepAt a H H')(h:SqL K H a xs):SqL K H' a xs:=by
 rcases h with(h | ⟨o,h⟩) | h
 .exact .inl (.inl (e _ h))
 .exact .inl (.inr ⟨o,e _ h⟩)
 .exact .inr h
def Sqs(K:PySem.W.Frag)(H:Hp)(a:Addr)(xs:List V):Prop:=SqL K H a xs\/SqT K H a xs
structure AsSeq(J:It)(xs:List V)(a:Addr)(H0:Hp):Prop where
 go:∀H i,KeepAt a H0 H->i<xs.length->J.go i H
 stop:∀H,KeepAt a H0 H->J.stop xs.length H
 yld:∀H i x H',KeepAt a H0 H->i<xs.length->J.yld i H x H'->H'=H/\xs[i]?=some x
theorem asL{K:PySem.W.Frag}{H0:Hp}{a:Addr}{xs:List V}(h:SqL K H0 a xs):AsSeq (Itl K a) xs a H0 :=
 ⟨fun H i k hi=>⟨xs,xs[i],k.seqL h,AJ hi⟩,fun H k=>⟨xs,k.seqL h,Nat.le_refl _⟩,fun H i x H' k hi ⟨e,y⟩=>⟨e,y xs (k.seqL h)⟩⟩
theorem Rf{J:It}{n:Nat}{g:TG}{tb:TS}{D:Ends}{σ:St}{H:Hp}(Pv:Nat->St->Hp->Prop)(h0:Pv 0 σ H)(hgo:∀i σ H,i<n->Pv i σ H->J.go i H)(hst:∀σ H,Pv n σ H->J.stop n H)
  (hs:∀i σ H x H',i<n->Pv i σ H->J.yld i H x H'->g x σ H' fun σ2 H2=>tb { D with nx:=Pv (i+1),ct:=Pv (i+1),bk:=D.nx } σ2 H2) (hd:∀σ H,Pv n σ H->D.nx σ H) :
  ∃W:Nat->Nat->St->Hp->Prop,(∃m,W 0 m σ H)/\∀i m σ H,W i m σ H ->
   (J.stop i H/\D.nx σ H)\/(J.go i H/\∃N:St->Hp->Prop,(∀σ' H',N σ' H'->∃m',m' < m/\W (i+1) m' σ' H')/\∀x H',J.yld i H x H'->g x σ H' fun σ2 H2=>tb { D with nx:=N,ct:=N,bk:=D.nx } σ2 H2):=by
 refine⟨fun i m σ H=>m=n-i/\i<=n/\Pv i σ H,⟨n,by simp,CW _,h0⟩,?_⟩;rintro i m σ H ⟨rfl,hi,p⟩;by_cases hlt:i<n
 .exact .inr ⟨hgo i σ H hlt p,Pv (i+1),fun σ' H' p'=>⟨n-(i+1),by omega,rfl,hlt,p'⟩,fun x H' y=>hs i σ H x H' hlt p y⟩
 .have e:i=n:=by omega
  subst e;exact .inl ⟨hst σ H p,hd σ H p⟩
theorem Rl{J:It}{xs:List V}{a:Addr}{H0:Hp}(as:AsSeq J xs a H0){g:TG}{tb:TS}{D:Ends}{σ:St}{H:Hp}(Pv:Nat->St->Hp->Prop)(h0:Pv 0 σ H)(hk:∀i σ H,i<=xs.length->Pv i σ H->KeepAt a H0 H)
  (hs:∀i σ H x,xs[i]?=some x->Pv i σ H->g x σ H fun σ2 H2=>tb { D with nx:=Pv (i+1),ct:=Pv (i+1),bk:=D.nx } σ2 H2) (hd:∀σ H,Pv xs.length σ H->D.nx σ H) :
  ∃W:Nat->Nat->St->Hp->Prop,(∃m,W 0 m σ H)/\∀i m σ H,W i m σ H ->
   (J.stop i H/\D.nx σ H)\/(J.go i H/\∃N:St->Hp->Prop,(∀σ' H',N σ' H'->∃m',m' < m/\W (i+1) m' σ' H')/\∀x H',J.yld i H x H'->g x σ H' fun σ2 H2=>tb { D with nx:=N,ct:=N,bk:=D.nx } σ2 H2) :=
 Rf (n:=xs.length) Pv h0 (fun i σ H hi p=>as.go H i (hk i σ H (CS hi) p) hi) (fun σ H p=>as.stop H (hk _ σ H (Nat.le_refl _) p)) (fun i σ H x H' hi p y=>by
  obtain⟨rfl,e⟩:=as.yld H i x H' (hk i σ H (CS hi) p) hi y;exact hs i σ _ x e p) hd
theorem Bu{J:It}{n:Nat}{g:TG}{tc:TT}{em:TEm}{σ:St}{H:Hp}{Q:St->Hp->Prop}(Pv:Nat->St->Hp->Prop)(h0:Pv 0 σ H)(hgo:∀i σ H,i<n->Pv i σ H->J.go i H)(hst:∀σ H,Pv n σ H->J.stop n H)
  (hs:∀i σ H x H' (N:St->Hp->Prop),i<n->Pv i σ H->J.yld i H x H'->(∀σ' H',Pv (i+1) σ' H'->N σ' H')->g x σ H' fun σ2 H2=>tc σ2 H2 fun b H3=>if b=true then em σ2 H3 N else N σ2 H3)
  (hd:∀σ H,Pv n σ H->Q σ H):Ms g tc em J σ H Q:=by
 refine⟨fun i m σ H=>m=n-i/\i<=n/\Pv i σ H,⟨n,by simp,CW _,h0⟩,?_⟩;rintro i m σ H ⟨rfl,hi,p⟩;by_cases hlt:i<n
 .exact .inr ⟨hgo i σ H hlt p,fun x H' y=>hs i σ H x H' _ hlt p y fun σ3 H4 p'=>⟨n-(i+1),by omega,rfl,hlt,p'⟩⟩
 .have e:i=n:=by omega
  subst e;exact .inl ⟨hst σ H p,hd σ H p⟩
theorem U6{J:It}{xs:List V}{a:Addr}{H0:Hp}(as:AsSeq J xs a H0){g:TG}{tc:TT}{em:TEm}{σ:St}{H:Hp}{Q:St->Hp->Prop}(Pv:Nat->St->Hp->Prop)(h0:Pv 0 σ H)(hk:∀i σ H,i<=xs.length->Pv i σ H->KeepAt a H0 H)
  (hs:∀i σ H x (N:St->Hp->Prop),xs[i]?=some x->Pv i σ H->(∀σ' H',Pv (i+1) σ' H'->N σ' H')->g x σ H fun σ2 H2=>tc σ2 H2 fun b H3=>if b=true then em σ2 H3 N else N σ2 H3)
  (hd:∀σ H,Pv xs.length σ H->Q σ H):Ms g tc em J σ H Q :=
 Bu (n:=xs.length) Pv h0 (fun i σ H hi p=>as.go H i (hk i σ H (CS hi) p) hi) (fun σ H p=>as.stop H (hk _ σ H (Nat.le_refl _) p)) (fun i σ H x H' N hi p y hN=>by
  obtain⟨rfl,e⟩:=as.yld H i x H' (hk i σ H (CS hi) p) hi y;exact hs i σ _ x N e p hN) hd
theorem Cd{em:TEm}{N:St->Hp->Prop}{σ:St}{H:Hp}{i:Nat}{x:V}(h:em (σ.set i (some x)) H N):w6 i x σ H fun σ2 H2=>Fr σ2 H2 fun b H3=>if b=true then em σ2 H3 N else N σ2 H3:=by
 show if true=true then em (σ.set i (some x)) H N else N (σ.set i (some x)) H
 rw[BB rfl];exact h
section
variable{X:Cx}(K:PySem.W.Frag)(P:Program)(w:World){tg:Expr}
theorem piL{l:Expr}{tl:TE}(hl:PE X l tl)(hK:X.K=K:=by rfl):PI X tg l (Ro K tl):=by subst hK;exact Pa hl
theorem piE{elts:List Expr}{kk:Nat}{tp:Pos}{a:Expr}{ta:TA}{p pos:Pos}(hm:X.mg "enumerate" = none)(ha:PA X [a] ta)(hg:Gl X "enumerate":=by rfl)(hs:starEach [a] X.env = [(false,eval a X.env)]:=by rfl)(hK:X.K=K:=by rfl) :
  PI X (.Tuple elts kk tp) (.Call (.Name "enumerate" p) [a] [] pos) (Qn K ta):=by subst hK;exact Na hg hm Bh ha hs
theorem Pu{a:Expr}{ta:TA}{p pos:Pos}(hm:X.mg "range" = none)(ha:PA X [a] ta)(hg:Gl X "range":=by rfl)(hs:starEach [a] X.env = [(false,eval a X.env)]:=by rfl):PI X tg (.Call (.Name "range" p) [a] [] pos) (Ru ta):=Ho hg hm ha hs
theorem pgT{es:List Expr}{k:Nat}{t:TGs}{n:Nat}{pos:Pos}(h:PGs X es t)(hc:X.calm=true:=by rfl)(hn:(assignEach es X.env).length=n:=by rfl)(hst:(assignEach es X.env).findIdx? (·.1)=none:=by rfl)(hK:X.K=K:=by rfl):PG X (.Tuple es k pos) (Uj K n t):=by subst hK;exact Rj hc h hn hst
theorem peF{e:Expr}{ta:TE}{f:Str}{pos:Pos}(he:PE X e ta)(hb:attributeBase e f X.env (eval e X.env)=eval e X.env:=by rfl)(hK:X.K=K:=by rfl):PE X (.Attribute e f pos) (Uc K ta f):=by subst hK;exact Sh he hb
theorem psF{o value:Expr}{ta tv:TE}{f:Str}{pos pos':Pos}(ha:PE X o ta)(hv:PE X value tv)(hs:swapsWith value (some (.Attribute o f pos')) pos.line X.env=pure false:=by rfl)(hK:X.K=K:=by rfl):PS X (.Assign [.Attribute o f pos'] value pos) (Ty K ta tv f):=by subst hK;exact Qf ha hv hs
theorem J5(hK:X.K=K:=by rfl):E3 X (.builtin "len") (fun xs H Q=>∃p ys,xs = [.ref p]/\(SqL K H p ys\/SqT K H p ys)/\Q (.int ys.length) H):=by subst hK;exact Bc
theorem y7(hK:X.K=K:=by rfl):E3 X (.type "list") (fun xs H Q=>∃p ys,xs = [.ref p]/\(SqL K H p ys\/SqT K H p ys)/\∀l,H l=none->Q (.ref l) (upd H l (.lst ys))):=by subst hK;exact Be
theorem Jw(hc:X.calm=true:=by rfl)(hK:X.K=K:=by rfl):E3 X (.builtin "all") (fun xs H Q=>∃(p:Addr) (bs:List Bool),xs = [.ref p]/\SqL K H p (bs.map V.bl)/\Q (.bl (bs.all id)) H):=by subst hK;exact Ku hc
theorem Ev(hK:X.K=K:=by rfl):E3 X (.builtin "sorted") (fun xs H Q=>∃(p:Addr) (ss:List Str),xs = [.ref p]/\SqL K H p (ss.map V.str)/\∀(l:Addr) (ss':List Str),H l=none->ss'.Perm ss->ss'.Pairwise leS->Q (.ref l) (upd H l (.lst (ss'.map V.str)))):=by subst hK;exact Bv
theorem E2(hK:X.K=K:=by rfl):E3 X (.builtin "isinstance") (fun xs H Q=>∃x n t b,xs = [x,.ty n]/\TyOf K H x t/\PySem.W.kitOne K t (.type n)=some b/\Q (.bl b) H):=by subst hK;exact Ic
theorem Ua(hu:X.A.units+64<cLine)(hK:X.K=K:=by rfl):OpR X (compareOp .In) (Pt K false):=by subst hK;exact Rb hu
theorem Ko(hu:X.A.units+64<cLine)(hK:X.K=K:=by rfl):OpR X (compareOp .NotIn) (Pt K true):=by subst hK;exact Js hu
theorem Nm(hu:X.A.units+64<cLine)(hK:X.K=K:=by rfl):OpR X (compareOp .Eq) (Ta K):=by subst hK;exact Rx hu
theorem Rv(hu:X.A.units+64<cLine)(hK:X.K=K:=by rfl):OpR X (compareOp .NotEq) (Tn K):=by subst hK;exact Qc hu
theorem Ca(hK:X.K=K:=by rfl):OpR X (compareOp .In) (rIn K false):=by subst hK;exact He
theorem Dt(hK:X.K=K:=by rfl):OpR X (compareOp .NotIn) (rIn K true):=by subst hK;exact Bb
theorem ixL(hK:X.K=K:=by rfl):IxR X (Ue K):=by subst hK;exact Oy
theorem ixT(hK:X.K=K:=by rfl):IxR X (Uo K):=by subst hK;exact Sl
theorem slL(hK:X.K=K:=by rfl):SlR X (Uk K):=by subst hK;exact No
theorem Me{T id:String}{name:Str}{o e:Expr}{es:List Expr}{to:TE}{t:TA}{apos cpos:Pos}{r:V->List V->Hp->VK->Prop}(pa:PlainAttrs T)(slot:Slot T name id)(hty:typeOf (.builtin id)=pure (.type "method_descriptor"))(hm:MtM X id r)(ho:PE X o to)(ha:PA X (e::es) t)
  (hbase:attributeBase o name X.env (eval o X.env)=eval o X.env:=by rfl)
  (hfew:((backTo cpos (starEach (e::es) X.env)).all (fun x=>!x.1) &&(backToKw cpos (keywordEach [] X.env)).all (fun x=>x.1.isSome)
   && decide ((e::es).length +([]:List Keyword).length +(if([]:List Keyword).isEmpty then 0 else 1)<30))=true:=by rfl)
  (hline:(apos.endLine == cpos.line)=true:=by rfl) (hs:starEach (e::es) X.env =(false,eval e X.env)::starEach es X.env:=by rfl) (hplain:(backTo cpos (starEach es X.env)).any (·.1)=false:=by rfl) (hK:X.K=K:=by rfl) :
  PE X (.Call (.Attribute o name apos) (e::es) [] cpos) (tBM K T r to t):=by subst hK;exact Tu pa slot hty hm ho ha hbase hfew hline hs hplain
theorem Ts{T id:String}{name:Str}{o:Expr}{to:TE}{apos cpos:Pos}{r:V->List V->Hp->VK->Prop}(pa:PlainAttrs T)(slot:Slot T name id)(hty:typeOf (.builtin id)=pure (.type "method_descriptor"))(hm:MtM X id r)(ho:PE X o to)
  (hbase:attributeBase o name X.env (eval o X.env)=eval o X.env:=by rfl) (hline:(apos.endLine == cpos.line)=true:=by rfl) (hK:X.K=K:=by rfl):PE X (.Call (.Attribute o name apos) [] [] cpos) (Ui K T r to):=by subst hK;exact Sg pa slot hty hm ho hbase hline
end
section
variable{X:Cx}
theorem Gd{pins:List (Addr×Obj)}{σ:St}{H:Hp}{s:Shared}{A:Around}{E:Value->Shared->Prop}{Q:Value->Shared->Prop}{b:Bool}{x:V}{u t:Value}{tp:Addr}{its:List Value}(I:Inv X pins σ H s)(rx:RelV x u)(ty:TyOf X.K H x t)(htp:IsTup s.heap tp its.toArray)(e:PySem.W.kitAny X.K t its=some b)(hv:(∃y,x = .str y)\/(∃a xs,x = .ref a/\(H a=some (.lst xs)\/H a=some (.tup xs))))(h:∀tk,Q (.bool b) { s with toks:=tk }) :
  wpAny (model X.prog X.w) A (call (.builtin "isinstance") [u,.ref tp]) Q E s:=by
 obtain⟨⟨oc,od,odt,osl⟩,ho,hc,n,hd⟩:=htp;cases hc;cases hd;rcases hv with⟨y,rfl⟩ | ⟨a,xs,rfl,ea | ea⟩
 .cases ty;obtain⟨t,q⟩:=(show ∃t,u=Value.str y t from rx);cases q;exact PySem.W.kia_tup PySem.W.kitx_str I.kIn True.intro ho e (fun z=>nomatch z) h
 .cases(show u=Value.ref a from rx);have hty:t = .type "list":=by cases ty with
   | lst=>rfl
   | frz=>rfl
   | tup ea'=>rw[ea]at ea';cases ea'
   | dK ea'=>rw[ea]at ea';cases ea'
   | dT ea'=>rw[ea]at ea';cases ea'
   | ins ea'=>rw[ea]at ea';cases ea'
  subst hty;obtain⟨_,_,n,_,h1⟩:=(show ObjOk X.prog X.w H s.heap a (.lst xs)from I.hok a _ ea);exact PySem.W.kia_tup PySem.W.kitx_list I.kIn ⟨_,h1,rfl⟩ ho e (fun z=>nomatch z) h
 .cases(show u=Value.ref a from rx);have hty:t = .type "tuple":=by cases ty with
   | tup=>rfl
   | frz ea'=>rw[ea]at ea';cases ea'
   | lst ea'=>rw[ea]at ea';cases ea'
   | dK ea'=>rw[ea]at ea';cases ea'
   | dT ea'=>rw[ea]at ea';cases ea'
   | ins ea'=>rw[ea]at ea';cases ea'
  subst hty;obtain⟨_,_,_,p⟩:=(show ObjOk X.prog X.w H s.heap a (.tup xs)from I.hok a _ ea);obtain⟨o,h1,h2,_⟩:=p;exact PySem.W.kia_tup PySem.W.kitx_tuple I.kIn ⟨o,h1,h2⟩ ho e (fun z=>nomatch z) h
def Nu(K:PySem.W.Frag):List V->Hp->VK->Prop:=fun xs H Q=>∃(x:V) (p:Addr) (ns:List String) (t:Value) (b:Bool),xs = [x,.ref p]/\H p=some (.tup (ns.map V.ty))/\TyOf K H x t/\((∃y,x = .str y)\/(∃a xs,x = .ref a/\(H a=some (.lst xs)\/H a=some (.tup xs))))/\PySem.W.kitAny K t (ns.map Value.type)=some b/\Q (.bl b) H
theorem Da:∀{ns:List String} {us:List Value},Vals (ns.map V.ty) us->us=ns.map Value.type
 | [],_,.nil=>rfl
 | _::_,_,.cons r t=>by rw[BQ,Da t];cases r;rfl
theorem Fp:E3 X (.builtin "isinstance") (Nu X.K):=by
 intro pins s σ H xs us Q I r h;obtain⟨x,p,ns,t,b,rfl,hp,ht,hv,he,q⟩:=h;obtain⟨u,v,rfl,ru,rv⟩:=r.two;cases rv;obtain⟨its,rv,pl,hz⟩:=I.tuple (SqT.of hp);rw[Da rv]at pl;exact Gd I ru ht pl he hv fun tk=>⟨.bl b,H,I.tok _,rfl,q⟩
variable(K:PySem.W.Frag)
theorem Lw(hK:X.K=K:=by rfl):E3 X (.builtin "isinstance") (Nu K):=by subst hK;exact Fp
end
section
variable{prog:Program}{w:World}{A:Around}{E:Value->Shared->Prop}{s:Shared}{it l:Addr}{i:Nat}{items:Array Value}{x:Value}{Q:Value->Shared->Prop}
theorem My{α:Type}{Q:α->Shared->Prop}(hA:A.handled=none)(h:∀h' e,(∀b o,s.heap.get? b=some o->h'.get? b=some o)->(∃o,h'.get? e=some o/\o.cls = .type "StopIteration")->E (.ref e) { s with heap:=h' }):wpAny (model prog w) A (Builtin.SmallTypes.stopIteration (α:=α)) Q E s:=by
 refine AA (AA (FG (AA (AD (EI ?_ (sizeOk_excFields ..)))) (by show 0<=sizeLine;decide)));refine AA (wpAny_handled ?_);rw[hA];exact wpAny_throw (h _ _ (fun b o e=>AC _ (AC _ e)) ⟨_,AZ _ rfl,rfl⟩)
theorem M0(hit:s.heap.IsTupleIter it l i)(hl:s.heap.IsTuple l items)(hx:items[i]?=some x)
  (hQ:∀h',h'.IsTupleIter it l (i+1)->Heap.SameBut it s.heap h'->Q x { s with heap:=h' }):wpAny (model prog w) A (Builtin.SmallTypes.nextOf (.ref it)) Q E s:=by
 obtain⟨o,ho,hc,hd⟩:=id hit;obtain⟨ol,hol,_,nl,hdl⟩:=hl;refine AA (DZ hit.typeIs F.slot_tuple_iterator_next (ER F.slot_tuple_iterator_next hit.typeIs F.entry_tuple_iterator_next ?_ (F.args_tuple_iterator_next_1 _)));refine AA (AD (AA (B_ ho hd rfl ?_)));refine CU (c:=(Value.ref l == Value.none)=true) rfl ?_;refine AA (B_ ho hd rfl (AA (CQ hol hdl ?_)));dsimp only;rw[show items[(i:Int).toNat]?=some x from hx];refine AA (wpAny_setField ho hd (FL 1) (AD ⟨x,rfl,AD (hQ _ ⟨_,CF _ ho (Obj.isFreed_of_fields (Obj.data_mapFields hd _)),(Obj.cls_mapFields o _).trans hc,(Obj.data_mapFields hd _).trans ?_⟩ (EU _ _ _))⟩));rfl
theorem g9(hA:A.handled=none)(hit:s.heap.IsTupleIter it l i)(hl:s.heap.IsTuple l items)(hx:items[i]?=none)
  (hE:∀h' e,Heap.ExtBut it s.heap h'->(∃o,h'.get? e=some o/\o.cls = .type "StopIteration")->E (.ref e) { s with heap:=h' }):wpAny (model prog w) A (Builtin.SmallTypes.nextOf (.ref it)) Q E s:=by
 obtain⟨o,ho,hc,hd⟩:=id hit;obtain⟨ol,hol,_,nl,hdl⟩:=hl;refine AA (DZ hit.typeIs F.slot_tuple_iterator_next (ER F.slot_tuple_iterator_next hit.typeIs F.entry_tuple_iterator_next ?_ (F.args_tuple_iterator_next_1 _)));refine AA (AD (AA (B_ ho hd rfl ?_)));refine CU (c:=(Value.ref l == Value.none)=true) rfl ?_;refine AA (B_ ho hd rfl (AA (CQ hol hdl ?_)));dsimp only;rw[show items[(i:Int).toNat]?=none from hx];refine AA (CM (AA (wpAny_setField ho hd (D_ 1) ?_)));exact My hA fun h' e k ho=>hE h' e (fun b o hb e=>k b o (((EU _ _ _).2 b hb).trans e)) ho
theorem Iu{M:Model}{α β:Type}{a b:α}{i u v:β}{f:α->β->Sem (ForInStep β)}{Q:β->Shared->Prop}(h:wpAny M A (f a i) (fun r s'=>r = .yield u/\wpAny M A (f b u) (fun r s'=>r = .yield v/\Q v s') E s') E s):wpAny M A (forIn [a,b] i f) Q E s:=by
 rw[List.forIn_cons];refine AA (BP h (fun r s' z=>?_) fun e s' z=>z);obtain⟨rfl,z⟩:=z;show wpAny M A (forIn [b] u f) Q E s';rw[List.forIn_cons];refine AA (BP z (fun r s' z=>?_) fun e s' z=>z);obtain⟨rfl,z⟩:=z;exact AD z
theorem i6{z TI TO i1 i2 l1 l2:Addr}{k1 k2:Nat}{xs ys:Array Value}{x y a b:Value}(D:ZipApart z TI TO i1 i2 l1 l2)(hz:IsZip s.heap z TI TO .none)(hti:IsPair s.heap TI (.ref i1) (.ref i2))(hto:IsPair s.heap TO a b)
  (h1:s.heap.IsTupleIter i1 l1 k1) (h2:s.heap.IsTupleIter i2 l2 k2) (g1:s.heap.IsTuple l1 xs) (g2:s.heap.IsTuple l2 ys) (hx:xs[k1]?=some x) (hy:ys[k2]?=some y)
  (hQ:∀h',IsZip h' z TI TO (rawInt s.heap.objs.size)->IsPair h' TO x y->h'.IsTupleIter i1 l1 (k1+1)->h'.IsTupleIter i2 l2 (k2+1)->IsPair h' s.heap.objs.size x y->h'.objs.size=s.heap.objs.size+1->(∀c o,c≠z->c≠TO->c≠i1->c≠i2->s.heap.get? c=some o->h'.get? c=some o)->Q (.ref s.heap.objs.size) { s with heap:=h' }) :
  wpAny (model prog w) A (Builtin.«zip.__next__» ⟨[.ref z],[]⟩) (fun fin s'=>∃v,fin = .done (.ret v)/\Q v s') E s:=by
 obtain⟨h0,gg,dd,tt,oo⟩:=s;refine AA (AD (AA (B_ hz rfl rfl (AA (B_ hz rfl rfl (AA (CQ hti rfl ?_)))))));refine CU rfl (AA (AA (B_ hz rfl rfl (AD (wpAny_ite_true rfl ?_)))));refine AA (CM (AA (B_ hz rfl rfl (AA (ED hz (D_ 4) fun h3 z3 s3=>?_)))));have a3:=h1.extBut s3.extBut D.i1z;have b3:=h2.extBut s3.extBut D.i2z;have c3:=g1.extBut s3.extBut D.l1z;have d3:=g2.extBut s3.extBut D.l2z;have e3:=(s3.2 TO D.TOz).trans hto;refine AA ?_;rw[show(#[Value.ref i1,Value.ref i2].toList.zipIdx) = [(Value.ref i1,0),(Value.ref i2,1)]from rfl];refine Iu (u:=(none,())) (v:=(none,())) ?_;refine AA (wpAny_onRaise (CU rfl (AA (M0 a3 c3 hx fun h4 a4 s4=>AD ?_))));have e4:=(s4.2 TO D.TOi1).trans e3;refine AA (CQ e4 rfl (AA (wpAny_updateSeq_pair e4 fun h5 e5 s5=>AA (FP (AD ⟨rfl,?_⟩)))));have b5:=(b3.extBut s4.extBut D.i12.symm).extBut s5.extBut D.TOi2.symm;have d5:=(d3.extBut s4.extBut D.l2i1).extBut s5.extBut D.l2TO;refine AA (wpAny_onRaise (CU rfl (AA (M0 b5 d5 hy fun h6 b6 s6=>AD ?_))));have e6:=(s6.2 TO D.TOi2).trans e5;refine AA (CQ e6 rfl (AA (wpAny_updateSeq_pair e6 fun h7 e7 s7=>AA (FP (AD ⟨rfl,?_⟩)))));have z7:=(s7.2 z D.TOz.symm).trans ((s6.2 z D.i2z.symm).trans ((s5.2 z D.TOz.symm).trans ((s4.2 z D.i1z.symm).trans z3)));have hs:h7.objs.size=h0.objs.size:=s7.1.trans (s6.1.trans (s5.1.trans (s4.1.trans s3.1)));have n0:∀{c:Addr} {o:Obj},h0.get? c=some o->c≠h7.objs.size:=fun e=>by rw[hs];exact AQ (AF e)
 refine AA (CQ e7 rfl (AA (FG (AA (AA (ED (AC _ z7) (D_ 4) fun h8 z8 s8=>ED z8 (Nat.succ_lt_succ (D_ 3)) fun h9 z9 s9=>AD ⟨_,rfl,?_⟩))) (by show 2<=sizeLine;decide))));have k9:∀{c:Addr} {o:Obj},c≠z->h7.get? c=some o->h9.get? c=some o:=fun nz e=>(s9.2 _ nz).trans ((s8.2 _ nz).trans (AC _ e));have sz9:h9.objs.size=h0.objs.size+1:=s9.1.trans (s8.1.trans ((CH ..).trans (congrArg (· + 1) hs)));have tk:h9.get? h7.objs.size=some ⟨.type "tuple",none,.seq #[x,y],#[]⟩:=(s9.2 _ (n0 hz).symm).trans ((s8.2 _ (n0 hz).symm).trans (AZ _ rfl));rw[hs]at z9 tk⊢;refine hQ h9 z9 (k9 D.TOz e7) (a4.at fun o e=>?_) (b6.at fun o e=>?_) tk sz9 fun c o nz nt n1 n2 e=>k9 nz ?_
 .exact k9 D.i1z ((s7.2 _ D.TOi1.symm).trans ((s6.2 _ D.i12).trans ((s5.2 _ D.TOi1.symm).trans e)))
 .exact k9 D.i2z ((s7.2 _ D.TOi2.symm).trans e)
 .exact(s7.2 _ nt).trans ((s6.2 _ n2).trans ((s5.2 _ nt).trans ((s4.2 _ n1).trans ((s3.2 _ nz).trans e))))
theorem Ab{z TI TO i1 i2 l1 l2:Addr}{k1:Nat}{xs:Array Value}{Q:PySem.Fin->Shared->Prop}(hA:A.handled=none)(D:ZipApart z TI TO i1 i2 l1 l2)(hz:IsZip s.heap z TI TO .none)(hti:IsPair s.heap TI (.ref i1) (.ref i2))
  (h1:s.heap.IsTupleIter i1 l1 k1) (g1:s.heap.IsTuple l1 xs) (hx:xs[k1]?=none)
  (hE:∀h' e,(∀c o,c≠z->c≠TO->c≠i1->c≠i2->s.heap.get? c=some o->h'.get? c=some o)->(∃o,h'.get? e=some o/\o.cls = .type "StopIteration")->E (.ref e) { s with heap:=h' }) :
  wpAny (model prog w) A (Builtin.«zip.__next__» ⟨[.ref z],[]⟩) Q E s:=by
 obtain⟨h0,gg,dd,tt,oo⟩:=s;refine AA (AD (AA (B_ hz rfl rfl (AA (B_ hz rfl rfl (AA (CQ hti rfl ?_)))))));refine CU rfl (AA (AA (B_ hz rfl rfl (AD (wpAny_ite_true rfl ?_)))));refine AA (CM (AA (B_ hz rfl rfl (AA (ED hz (D_ 4) fun h3 z3 s3=>?_)))));refine AA ?_;rw[show(#[Value.ref i1,Value.ref i2].toList.zipIdx) = [(Value.ref i1,0),(Value.ref i2,1)]from rfl,List.forIn_cons];refine AA (AA (wpAny_onRaise (CU rfl (AA (g9 hA (h1.extBut s3.extBut D.i1z) (g1.extBut s3.extBut D.l1z) hx fun h4 e k4 ho=>?_)))));refine ED (k4 z _ D.i1z.symm z3) (D_ 4) fun h5 z5 s5=>hE h5 e (fun c o nz _ n1 _ e=>(s5.2 _ nz).trans (k4 c o n1 ((s3.2 _ nz).trans e))) ?_;obtain⟨o,ho,hc⟩:=ho;have ne:e≠z:=fun q=>by
  subst q;rw[k4 e _ D.i1z.symm z3]at ho;cases ho;exact absurd (show Value.type "zip" = .type "StopIteration" from hc) (by decide)
 exact⟨o,(s5.2 _ ne).trans ho,hc⟩
theorem Em{z TI TO:Addr}{f0:Value}(hz:IsZip s.heap z TI TO f0):s.TypeIs (.ref z) "zip":=⟨_,hz,rfl⟩
theorem Nc(hA:A.handled=none)(z TI TO i1 i2 l1 l2:Addr)(D:ZipApart z TI TO i1 i2 l1 l2)(xs ys:Array Value)(hl:xs.size<=ys.size) :
  WalksT prog w A z [z,TI,TO,i1,i2,l1,l2] [z,TO,i1,i2] xs.size (fun i vals=>∃x y,xs[i]?=some x/\ys[i]?=some y/\vals = #[x,y])
   (fun i h=>IsZip h z TI TO .none/\IsPair h TI (.ref i1) (.ref i2)/\(∃a b,IsPair h TO a b)/\h.IsTupleIter i1 l1 i/\h.IsTupleIter i2 l2 i/\h.IsTuple l1 xs/\h.IsTuple l2 ys)
   (fun i T h=>IsZip h z TI TO (rawInt T)/\IsPair h TI (.ref i1) (.ref i2)/\(∃a b,IsPair h TO a b)/\h.IsTupleIter i1 l1 (i+1)/\h.IsTupleIter i2 l2 (i+1)/\h.IsTuple l1 xs/\h.IsTuple l2 ys/\T≠z/\T≠TO/\T≠i1/\T≠i2) where
 sub:=by simp
 frame:=fun i h h' ⟨h1,h2,⟨a,b,h3⟩,h4,h5,h6,h7⟩ k=>⟨k z (by simp) _ h1,k TI (by simp) _ h2,⟨a,b,k TO (by simp) _ h3⟩,h4.at (k i1 (by simp)),h5.at (k i2 (by simp)),h6.at (k l1 (by simp)),h7.at (k l2 (by simp))⟩
 item:=fun i s Q E hi ⟨h1,h2,⟨a,b,h3⟩,h4,h5,h6,h7⟩ hQ=>by
  have hx:xs[i]?=some xs[i]:=ES hi;have hy:ys[i]?=some (ys[i]'(BG hi hl)):=ES _;refine AA (FO (DZ (Em h1) F.slot_zip_next (ER F.slot_zip_next (Em h1) F.entry_zip_next (i6 D h1 h2 h3 h4 h5 h6 h7 hx hy fun h' z' o' a' b' t' sz k=>AD ?_) (F.args_zip_next_1 _))));refine hQ _ _ h' s.toks ⟨_,_,hx,hy,rfl⟩ (Nat.le_refl _) ⟨_,t',rfl,_,rfl⟩ ⟨z',k TI _ D.TIz D.TITO D.TIi1 D.TIi2 h2,⟨_,_,o'⟩,a',b',h6.at fun o e=>k l1 o D.l1z D.l1TO D.l1i1 D.l1i2 e,h7.at fun o e=>k l2 o D.l2z D.l2TO D.l2i1 D.l2i2 e,?_,?_,?_,?_⟩ fun b o hb e=>?_
  .exact(AQ (AF h1)).symm
  .exact(AQ (AF h3)).symm
  .obtain⟨o,e,_⟩:=h4;exact(AQ (AF e)).symm
  .obtain⟨o,e,_⟩:=h5;exact(AQ (AF e)).symm
  .simp only[AN,AX,or_false,not_or]at hb;exact k b o hb.1 hb.2.1 hb.2.2.1 hb.2.2.2 e
 go:=fun elts k pos i T s Q E ⟨h1,h2,⟨a,b,h3⟩,h4,h5,h6,h7,_⟩ hQ=>wpAny_letOwnedTupleGo_zip h1 fun h' z' k'=>hQ h' ⟨z',(k'.2 _ D.TIz).trans h2,⟨a,b,(k'.2 _ D.TOz).trans h3⟩,h4.extBut k'.extBut D.i1z,h5.extBut k'.extBut D.i2z,h6.extBut k'.extBut D.l1z,h7.extBut k'.extBut D.l2z⟩ fun b o hb e=>(k'.2 b fun q=>hb (by rw[q];exact BC ..)).trans e
 apart:=fun i T h ⟨_,_,_,_,_,_,_,n1,n2,n3,n4⟩ hm=>by
  simp only[AN,AX,or_false]at hm;rcases hm with e | e | e | e
  .exact n1 e
  .exact n2 e
  .exact n3 e
  .exact n4 e
 done:=fun s Q E ⟨h1,h2,⟨a,b,h3⟩,h4,h5,h6,h7⟩ hQ=>by
  have hx:xs[xs.size]?=none:=Array.getElem?_eq_none (Nat.le_refl _);refine AA (FO (DZ (Em h1) F.slot_zip_next (ER F.slot_zip_next (Em h1) F.entry_zip_next (Ab hA D h1 h2 h4 h6 hx fun h' e k ho=>?_) (F.args_zip_next_1 _))));obtain⟨o,ho,hc⟩:=ho;refine AA (wpAny_isInstance ⟨o,ho,hc⟩ isSubtype_stop (AD (hQ h' s.toks fun b o hb e=>?_)));simp only[AN,AX,or_false,not_or]at hb;exact k b o hb.1 hb.2.1 hb.2.2.1 hb.2.2.2 e
 self:=fun i s Q E ⟨h1,_⟩ q=>FN h1 q
end
section
variable{prog:Program}{w:World}{A:Around}{E:Value->Shared->Prop}{s:Shared}
theorem Cf{M:Model}{T:String}{vs:List Value}{Q:Value->Shared->Prop}(h:Q (.ref s.heap.objs.size) { s with heap:=s.heap.push { cls:=.type T,data:=.fields vs.toArray } })(hs:sizeOk (.fields vs.toArray)):wpAny M A (Builtin.SmallTypes.newRecord (.type T) vs) Q E s:=EI h hs
theorem Hl{l1 l2:Addr}{xs ys:Array Value}{Q:Value->Shared->Prop}(g1:s.heap.IsTuple l1 xs)(g2:s.heap.IsTuple l2 ys)
  (hQ:∀h',IsZip h' (s.heap.objs.size+4) (s.heap.objs.size+2) (s.heap.objs.size+3) .none->IsPair h' (s.heap.objs.size+2) (.ref s.heap.objs.size) (.ref (s.heap.objs.size+1))->IsPair h' (s.heap.objs.size+3) .none .none ->
   h'.IsTupleIter s.heap.objs.size l1 0->h'.IsTupleIter (s.heap.objs.size+1) l2 0->(∀c o,s.heap.get? c=some o->h'.get? c=some o)->Q (.ref (s.heap.objs.size+4)) { s with heap:=h' }) :
  wpAny (model prog w) A (call (.type "zip") [.ref l1,.ref l2]) Q E s:=by
 refine callType_new (S:=fun A R s'=>s'=s/\∀h',IsZip h' (s.heap.objs.size+4) (s.heap.objs.size+2) (s.heap.objs.size+3) .none->IsPair h' (s.heap.objs.size+2) (.ref s.heap.objs.size) (.ref (s.heap.objs.size+1))->IsPair h' (s.heap.objs.size+3) .none .none ->
   h'.IsTupleIter s.heap.objs.size l1 0->h'.IsTupleIter (s.heap.objs.size+1) l2 0->(∀c o,s.heap.get? c=some o->h'.get? c=some o)->R (.ok (.ret (.ref (s.heap.objs.size+4)))) { s with heap:=h' }) F.called_zip rfl (F.typeCall_zip_2 _ _) (F.newCall_zip_2 _ _) (fun _=>F.args_object_init_3 _ _ _) F.entry_zip_new (.of_wp fun prog w A R s' hR=>?_) ⟨rfl,fun h' z1 z2 z3 z4 z5 k=>⟨⟨_,z1,rfl⟩,hQ h' z1 z2 z3 z4 z5 k⟩⟩
 obtain⟨rfl,hR⟩:=hR;obtain⟨h0,gg,dd,tt,oo⟩:=s';refine AA (AA (AD (CU rfl (AA (wpAny_of_eq sub_zip (CU rfl (AD ?_)))))))
 let h1:=h0.push { cls:=.type "tuple_iterator",data:=.fields #[.ref l1,.int 0 0] }
 let h2:=h1.push { cls:=.type "tuple_iterator",data:=.fields #[.ref l2,.int 0 0] }
 let h3:=h2.push { cls:=.type "tuple",data:=.seq #[.ref h0.objs.size,.ref h1.objs.size] }
 let h4:=h3.push { cls:=.type "tuple",data:=.seq #[.none,.none] }
 have e1:h1.objs.size=h0.objs.size+1:=CH ..;have e2:h2.objs.size=h0.objs.size+2:=(CH ..).trans (congrArg (· + 1) e1);have e3:h3.objs.size=h0.objs.size+3:=(CH ..).trans (congrArg (· + 1) e2);have e4:h4.objs.size=h0.objs.size+4:=(CH ..).trans (congrArg (· + 1) e3);have g2':h1.IsTuple l2 ys:=g2.at fun o e=>AC _ e;have p0:h1.get? h0.objs.size=some { cls:=.type "tuple_iterator",data:=.fields #[.ref l1,.int 0 0] }:=AZ _ rfl;have p1:h2.get? h1.objs.size=some { cls:=.type "tuple_iterator",data:=.fields #[.ref l2,.int 0 0] }:=AZ _ rfl;have p2:h3.get? h2.objs.size=some { cls:=.type "tuple",data:=.seq #[.ref h0.objs.size,.ref h1.objs.size] }:=AZ _ rfl;have p3:h4.get? h3.objs.size=some { cls:=.type "tuple",data:=.seq #[.none,.none] }:=AZ _ rfl;have u:∀{h:Heap} {o:Obj} {c:Addr} {q:Obj},h.get? c=some q->(h.push o).get? c=some q:=fun e=>AC _ e;refine CU rfl (AA (AA (Iu (u:=#[.ref h0.objs.size]) (v:=#[.ref h0.objs.size,.ref h1.objs.size]) (AA (BT (wpAny_pyIter_tuple g1 (AD ⟨rfl,AA (BT (wpAny_pyIter_tuple g2' (AD ⟨rfl,AD ?_⟩)))⟩)))))));refine AA (FG (AA (FG (AA (Cf (AD ⟨_,rfl,?_⟩) ?_)) (by show 2<=sizeLine;decide))) (by show 2<=sizeLine;decide))
 .have hz:=AZ h4 (o:={ cls:=.type "zip",data:=.fields #[.none,.bool false,.bool false,.ref h2.objs.size,.ref h3.objs.size] }) rfl;have q:=hR (h4.push { cls:=.type "zip",data:=.fields #[.none,.bool false,.bool false,.ref h2.objs.size,.ref h3.objs.size] });rw[show(Shared.mk h0 gg dd tt oo).heap.objs.size=h0.objs.size from rfl,<-e1,<-e2,<-e3,<-e4]at q;exact q hz (u (u p2)) (u p3) ⟨_,u (u (u (u p0))),rfl,rfl⟩ ⟨_,u (u (u p1)),rfl,rfl⟩ fun c o e=>u (u (u (u (u e))))
 .show 5<=sizeLine+2;decide
end
def Px(sq:Hp->Addr->List V->Prop)(a b:Addr):It :=
  ⟨fun i H=>∃xs ys x y,sq H a xs/\sq H b ys/\xs.length<=ys.length/\xs[i]?=some x/\ys[i]?=some y,fun i H v H'=>∃T x y,v = .ref T/\H T=none/\H'=upd H T (.tup [x,y])/\(∀xs,sq H a xs->xs[i]?=some x)/\∀ys,sq H b ys->ys[i]?=some y,
   fun i H=>∃xs ys,sq H a xs/\sq H b ys/\xs.length<=ys.length/\xs.length=i⟩
def Gx(isIt:Heap->Addr->Addr->Nat->Prop)(z TI TO i1 i2 a b:Addr)(i:Nat)(h:Heap):Prop:=IsZip h z TI TO .none/\IsPair h TI (.ref i1) (.ref i2)/\(∃u v,IsPair h TO u v)/\isIt h i1 a i/\isIt h i2 b i
section
variable{P:Program}{w:World}{K:PySem.W.Frag}{elts:List Expr}{kk:Nat}{tp:Pos}{isIt:Heap->Addr->Addr->Nat->Prop}{isq:Heap->Addr->Array Value->Prop}{sq:Hp->Addr->List V->Prop}
theorem An(oI:∀h c l i,isIt h c l i->∃o,h.get? c=some o/\∀v,o.data≠ .cell v)(kI:∀h h' c l i,isIt h c l i->(∀o,h.get? c=some o->h'.get? c=some o)->isIt h' c l i)
  (gI:∀(X:Cx) pins σ H s c xs,X.K=K->Inv X pins σ H s->sq H c xs->∃its,Vals xs its/\isq s.heap c its.toArray) (uI:∀(X:Cx) pins σ H s c xs ys,X.K=K->Inv X pins σ H s->sq H c xs->sq H c ys->xs=ys)
  (z TI TO i1 i2 a b:Addr) (WI:∀(A:Around),A.handled=none->∀xs ys:Array Value,xs.size<=ys.size->WalksT P w A z [z,TI,TO,i1,i2,a,b] [z,TO,i1,i2] xs.size (fun i vals=>∃x y,xs[i]?=some x/\ys[i]?=some y/\vals = #[x,y])
   (fun i h=>IsZip h z TI TO .none/\IsPair h TI (.ref i1) (.ref i2)/\(∃a b,IsPair h TO a b)/\isIt h i1 a i/\isIt h i2 b i/\isq h a xs/\isq h b ys)
   (fun i T h=>IsZip h z TI TO (rawInt T)/\IsPair h TI (.ref i1) (.ref i2)/\(∃a b,IsPair h TO a b)/\isIt h i1 a (i+1)/\isIt h i2 b (i+1)/\isq h a xs/\isq h b ys/\T≠z/\T≠TO/\T≠i1/\T≠i2)) :
  Turn P w K (.Tuple elts kk tp) (Px sq a b) [z,TI,TO,i1,i2] z (Gx isIt z TI TO i1 i2 a b) where
 mem:=BC ..
 obj:=fun i h st c hc=>by
  obtain⟨h1,h2,⟨u,v,h3⟩,h4,h5⟩:=st;simp only[AN,AX,or_false]at hc;rcases hc with rfl | rfl | rfl | rfl | rfl
  .exact⟨_,h1,fun v z=>by cases z⟩
  .exact⟨_,h2,fun v z=>by cases z⟩
  .exact⟨_,h3,fun v z=>by cases z⟩
  .exact oI _ _ _ _ h4
  .exact oI _ _ _ _ h5
 keep:=fun i h h' st k=>by
  obtain⟨h1,h2,⟨u,v,h3⟩,h4,h5⟩:=st;exact⟨k z (by simp) _ h1,k TI (by simp) _ h2,⟨u,v,k TO (by simp) _ h3⟩,kI _ _ _ _ _ h4 (k i1 (by simp)),kI _ _ _ _ _ h5 (k i2 (by simp))⟩
 item:=by
  intro X hP hw hK hc i pins s σ H E I hf st hg;subst hP hw;obtain⟨xs,ys,x,y,hq,hr,hle,hx,hy⟩:=hg;obtain⟨its,rv,p⟩:=gI _ _ _ _ _ _ _ hK I hq;obtain⟨jts,rw_,p'⟩:=gI _ _ _ _ _ _ _ hK I hr;obtain⟨u,hu,ru⟩:=rv.get hx;obtain⟨v,hv,rv'⟩:=rw_.get hy;have hl:=rv.length;have hl':=rw_.length;have W:=WI X.A (I.ok.hd hc) its.toArray jts.toArray (by rw[AO,AO,<-hl,<-hl'];exact hle);have hi:i<its.toArray.size:=by rw[AO];exact(AK.mp hu).1
  obtain⟨s1,s2,s3,s4,s5⟩:=id st;refine W.item i s _ _ hi ⟨s1,s2,s3,s4,s5,p,p'⟩ fun T vals h' tk hvs hT ht hm k=>?_;obtain⟨x',y',hx',hy',rfl⟩:=hvs;have ex:x'=u:=BU (hx'.symm.trans ((EG ..).trans hu));have ey:y'=v:=BU (hy'.symm.trans ((EG ..).trans hv));subst ex ey;refine⟨.ref T,rfl,W.go elts kk tp i T _ _ _ hm fun h2 st2 k2=>?_⟩;have kk2:∀b o,b∉[z,TI,TO,i1,i2]->s.heap.get? b=some o->h2.get? b=some o:=fun c o hc' ec=>by
   have n4:c∉[z,TO,i1,i2]:=fun m=>hc' (by
    simp only[AN,AX,or_false]at m⊢;exact m.imp_right .inr)
   exact k2 c o n4 (k c o n4 ec)
  have hT2:h2.IsTuple T #[x',y']:=ht.at fun o e=>k2 T o (W.apart i T h' hm) e;have gone:∀c∈[z,TI,TO,i1,i2],∃ob,s.heap.get? c=some ob:=fun c hc'=>by
   obtain⟨u3,v3,h3⟩:=s3;obtain⟨o4,h4,_⟩:=oI _ _ _ _ s4;obtain⟨o5,h5,_⟩:=oI _ _ _ _ s5;simp only[AN,AX,or_false]at hc';rcases hc' with rfl | rfl | rfl | rfl | rfl
   .exact⟨_,s1⟩
   .exact⟨_,s2⟩
   .exact⟨_,h3⟩
   .exact⟨_,h4⟩
   .exact⟨_,h5⟩
  refine⟨.ref T,upd H T (.tup [x,y]),I.turnLaid (fp:=[z,TI,TO,i1,i2]) kk2 hf gone hT ⟨?_,[x',y'],.cons ru (.cons rv' .nil),hT2⟩,rfl,⟨T,x,y,rfl,I.hok.fresh hT,rfl,fun zs hz=>by rw[uI _ _ _ _ _ _ _ _ hK I hz hq];exact hx,fun zs hz=>by rw[uI _ _ _ _ _ _ _ _ hK I hz hr];exact hy⟩,⟨st2.1,st2.2.1,st2.2.2.1,st2.2.2.2.1,st2.2.2.2.2.1⟩,fun c hc'=>?_⟩
  .show 2<=sizeLine;decide
  .obtain⟨ob,eb⟩:=gone c hc';rw[B4 (AQ (BG (AF eb) hT))];exact(hf c hc').1
 done:=by
  intro X hP hw hK hc i pins s σ H E I hf st hg;subst hP hw;obtain⟨xs,ys,hq,hr,hle,hx⟩:=hg;obtain⟨its,rv,p⟩:=gI _ _ _ _ _ _ _ hK I hq;obtain⟨jts,rw_,p'⟩:=gI _ _ _ _ _ _ _ hK I hr;have hl:=rv.length;have hl':=rw_.length;have W:=WI X.A (I.ok.hd hc) its.toArray jts.toArray (by rw[AO,AO,<-hl,<-hl'];exact hle);have hi:i=its.toArray.size:=by rw[AO,<-hl,hx]
  obtain⟨s1,s2,s3,s4,s5⟩:=id st;rw[hi]at s4 s5;refine W.done s _ _ ⟨s1,s2,s3,s4,s5,p,p'⟩ fun h' tk k=>⟨rfl,?_⟩;have nf:∀b u,H b=some u->b∉[z,TI,TO,i1,i2]:=fun b u e hb=>by rw[(hf b hb).1]at e;cases e
  have k':∀c o,c∉[z,TI,TO,i1,i2]->s.heap.get? c=some o->h'.get? c=some o:=fun c o hc' ec=>k c o (fun m=>hc' (by
    simp only[AN,AX,or_false]at m⊢;exact m.imp_right .inr)) ec
  refine I.step (h':=h') (H':=H) (t':=tk) (g':=s.gens) (d':=s.drawn) (ch:=[z,TI,TO,i1,i2]) (fun b hb=>let⟨_,f1,_,f3,f4,f5⟩:=hf b hb;⟨f3,f1,f4,f5⟩) (fun b ob _ _ hc e _=>k' b ob hc e) (fun b ob _ _ hc e _=>⟨ob.slots,k' b ob hc e⟩) (fun _ _ _ _ n=>n)
   (fun b ob hc e=>⟨ob,k' b ob hc e⟩) (fun _ _ e=>e) (fun _ _ _ e=>e) (fun b ps e=>⟨#[],by rw[e];simp⟩) (fun m hm=>?_) (fun b u eb=>?_) I.bare
  .obtain⟨ob,es,ep,ho,r⟩:=hm;exact⟨ob,es,ep,k' _ ob (fun hb=>(hf _ hb).2.1 rfl) ho,r⟩
  .refine(I.hok b u eb).stay (fun c v hc q=>k' c v ?_ q) (fun _ q=>q) fun _ _ q=>q;rcases hc with z | z
   .rw[z];exact nf b u eb
   .exact nf c _ z
 self:=fun A i s Q E st h=>FN st.1 h
theorem Ka(z TI TO i1 i2 a b:Addr)(D:ZipApart z TI TO i1 i2 a b):Turn P w K (.Tuple elts kk tp) (Px (SqL K) a b) [z,TI,TO,i1,i2] z (Gx Heap.IsListIter z TI TO i1 i2 a b) :=
 An (isq:=Heap.IsList) (fun h c l i ⟨o,e,_,d⟩=>⟨o,e,fun v z=>by rw[d]at z;cases z⟩) (fun h h' c l i z k=>z.at k) (fun X pins σ H s c xs hK I hq=>by subst hK;obtain⟨its,rv,p,_⟩:=I.list hq;exact⟨its,rv,p.isList⟩) (fun X pins σ H s c xs ys hK I hq hr=>by subst hK;exact I.list_inj hq hr)
  z TI TO i1 i2 a b fun A hA xs ys hl=>by
   have W:=WalksT.zip2 (prog:=P) (w:=w) hA z TI TO i1 i2 a b D xs ys
   rwa [DB hl]at W
theorem Hj(z TI TO i1 i2 a b:Addr)(D:ZipApart z TI TO i1 i2 a b):Turn P w K (.Tuple elts kk tp) (Px (SqT K) a b) [z,TI,TO,i1,i2] z (Gx Heap.IsTupleIter z TI TO i1 i2 a b) :=
 An (isq:=Heap.IsTuple) (fun h c l i ⟨o,e,_,d⟩=>⟨o,e,fun v z=>by rw[d]at z;cases z⟩) (fun h h' c l i z k=>z.at k) (fun X pins σ H s c xs hK I hq=>by subst hK;obtain⟨its,rv,p,_⟩:=I.tuple hq;exact⟨its,rv,p⟩) (fun X pins σ H s c xs ys hK I hq hr=>by subst hK;exact I.tuple_inj hq hr)
  z TI TO i1 i2 a b fun A hA xs ys hl=>Nc hA z TI TO i1 i2 a b D xs ys hl
end
section
variable{X:Cx}{elts:List Expr}{kk:Nat}{tp:Pos}
def Ul(K:PySem.W.Frag)(R:It->Hp->Prop)(a b:Addr)(xs ys:List V)(H:Hp):Prop:=SqL K H a xs/\SqL K H b ys/\R (Px (SqL K) a b) H\/SqT K H a xs/\SqT K H b ys/\R (Px (SqT K) a b) H
def Su(K:PySem.W.Frag)(ta:TA):TI:=fun σ H R=>ta σ H fun vs H1=>∃a b xs ys,vs = [.ref a,.ref b]/\Ul K R a b xs ys H1
theorem Pe:bootBuiltins "zip" = some (.type "zip"):=by decide +kernel
theorem Pg{a b:Expr}{ta:TA}{p pos:Pos}(hg:Gl X "zip")(hm:X.mg "zip" = none)(ha:PA X [a,b] ta)(hs:starEach [a,b] X.env =(false,eval a X.env)::starEach [b] X.env:=by rfl)(hpl:(backTo pos (starEach [b] X.env)).any (·.1)=false:=by rfl):PI X (.Tuple elts kk tp) (.Call (.Name "zip" p) [a,b] [] pos) (Su X.K ta):=by
 intro pins s σ H R I h;refine Call_ (X8 I hg hm Pe (PyProof.Rows.callWith_type1 (thn (ha pos pins s σ H _ I h) fun us s1 ⟨vs,H1,I1,r1,q1⟩=>?_) hs hpl));obtain⟨l,m,xs,ys,e,q⟩:=q1;subst e;obtain⟨u,v,rfl,ru,rv⟩:=r1.two;cases ru;cases rv;have fpk:∀c∈[s1.heap.objs.size+4,s1.heap.objs.size+2,s1.heap.objs.size+3,s1.heap.objs.size,s1.heap.objs.size+1],Al X pins H1 c:=fun c hc=>by
  have hc':s1.heap.objs.size<=c:=by
   simp only[AN,AX,or_false]at hc;rcases hc with rfl | rfl | rfl | rfl | rfl
   .exact DL ..
   .exact DL ..
   .exact DL ..
   .exact Nat.le_refl _
   .exact DL ..
  exact I1.fpOk hc' (I1.hok.fresh hc')
 rcases q with⟨hq,hr,q⟩ | ⟨hq,hr,q⟩
 .obtain⟨its,rx,pl,hz⟩:=I1.list hq;obtain⟨jts,ry,pm,hz'⟩:=I1.list hr;have a1:l<s1.heap.objs.size:=by obtain⟨_,e,_⟩:=pl.isList;exact AF e
  have a2:m<s1.heap.objs.size:=by obtain⟨_,e,_⟩:=pm.isList;exact AF e
  refine call_zip_2 pl.isList pm.isList fun h' g1 g2 g3 g4 g5 hsz k=>FN g1 ?_;exact⟨s1.heap.objs.size+4,_,_,_,H1,rfl,I1.kept (t':=s1.toks) k,Ka _ _ _ _ _ l m (zipApart_new a1 a2),⟨g1,g2,⟨_,_,g3⟩,g4,g5⟩,fpk,q⟩
 .obtain⟨its,rx,pl,hz⟩:=I1.tuple hq;obtain⟨jts,ry,pm,hz'⟩:=I1.tuple hr;have a1:l<s1.heap.objs.size:=by obtain⟨_,e,_⟩:=id pl;exact AF e
  have a2:m<s1.heap.objs.size:=by obtain⟨_,e,_⟩:=id pm;exact AF e
  refine Hl pl pm fun h' g1 g2 g3 g4 g5 k=>FN g1 ?_;exact⟨s1.heap.objs.size+4,_,_,_,H1,rfl,I1.kept (t':=s1.toks) k,Hj _ _ _ _ _ l m (zipApart_new a1 a2),⟨g1,g2,⟨_,_,g3⟩,g4,g5⟩,fpk,q⟩
variable(K:PySem.W.Frag)
theorem Vk{a b:Expr}{ta:TA}{p pos:Pos}(hm:X.mg "zip" = none)(ha:PA X [a,b] ta)(hg:Gl X "zip":=by rfl)(hs:starEach [a,b] X.env =(false,eval a X.env)::starEach [b] X.env:=by rfl)(hpl:(backTo pos (starEach [b] X.env)).any (·.1)=false:=by rfl)(hK:X.K=K:=by rfl):PI X (.Tuple elts kk tp) (.Call (.Name "zip" p) [a,b] [] pos) (Su K ta):=by subst hK;exact Pg hg hm ha hs hpl
end
section
variable{X:Cx}{tg iter elt:Expr}{ifs:List Expr}{scope:Scope}{cl:List (Str×Addr)}{N':List Str}{cap:List (Option Nat)}{wi:TI}{pos:Pos}
theorem Gr{e:Expr}{gs:List Comprehension}{newAcc:Sem Value}{p2:Pos}{use:Option (Value->Sem Unit)}{Qv:Value->Shared->Prop}(hcl:clausesOf e =⟨tg,iter,ifs,0⟩::gs)(o:Addr->HO)(hs:∀x,foldedSetIterable iter X.env x=pure x)(S:CScope X scope cl N' cap)(hc:X.calm=true)(hi:PI X tg iter wi)
  {lp:Addr->It->St->Hp->(St->Hp->Prop)->Prop}
  (hnew:∀(pins:List (Addr×Obj)) (s:Shared) (σ:St) (H:Hp) (Q:Value->Shared->Prop) (E:Value->Shared->Prop),Inv X pins σ H s->(∀s',Inv X pins σ (upd H s.heap.objs.size (o s.heap.objs.size)) s'->(∀b ob,s.heap.get? b=some ob->s'.heap.get? b=some ob)->Q (.ref s.heap.objs.size) s')->wpAny (model X.prog X.w) X.A newAcc Q E s)
  (hlp:∀(pins:List (Addr×Obj)) (ex:List Addr) (s3:Shared) (H3:Hp) (D it:Addr) (fp:List Addr) (tn:Nat->Heap->Prop) (J:It) (σ:St) (s:Shared) (H:Hp) (Q:St->Hp->Prop) (R:Result->Shared->Prop),
   Turn X.prog X.w X.K tg J fp it tn->Inv (cxC X scope cl N' pins ex s3 H3) [] σ H s->tn 0 s.heap->(∀b∈fp,Al (cxC X scope cl N' pins ex s3 H3) [] H b)->lp D J σ H Q ->
   (∀s' σ' H',Inv (cxC X scope cl N' pins ex s3 H3) [] σ' H' s'->Q σ' H'->R (.ok .next) s') ->
   codeAny (model X.prog X.w) X.A (.compLoop e 0 (.ref it) (.ref D) (compEnvC scope cl s3.heap.objs.size X.env)) R s)
  (hun:∀it D env,X.A.under (.compStart e 0 (.ref it) (.ref D) env)=X.A) (hden:∀it D env,(model X.prog X.w).den (.compStart e 0 (.ref it) (.ref D) env) =(compStart e 0 (.ref it) (.ref D) env).onRaise (fun x=>do noteFrame x env;standAt theWindowsPlace))
  {pins:List (Addr×Obj)} {s:Shared} {σ:St} {H:Hp} {Q:V->Hp->Prop} (I:Inv X pins σ H s) (h:Ln wi o cap lp σ H Q)
  (hend:∀(D:Addr) (fp:List Addr) (H2:Hp) (s3 s':Shared) (σ':St) (H':Hp),Inv X pins σ H2 s3->(∀b∈fp,Al X pins H2 b)->Inv (cxC X scope cl N' pins fp s3 H2) [] σ' H' s'->Q (.ref D) H'->compPost (model X.prog X.w) X.A X.xe use Qv (.ref D) s3.heap.objs.size (.ok .next) s') :
  wpAny (model X.prog X.w) X.A (comprehension e scope X.env p2 newAcc false (eval iter X.env) use) Qv X.xe s:=by
 refine wpAny_comprehension_free hcl hs S.clos S.kind S.loc (thn (hi pins s σ H _ I h) fun v s1 h1=>thn h1 fun itv s2 h2=>?_);obtain⟨it,fp,tn,J,H2,eit,I2,T,st2,f2,R2⟩:=h2;subst eit;refine hnew pins s2 σ H2 _ _ I2 fun s3 I3 k3=>?_;have hD:H2 s2.heap.objs.size=none:=I2.hok.fresh (Nat.le_refl _);have fok:∀b∈fp,Al X pins (upd H2 s2.heap.objs.size (o s2.heap.objs.size)) b/\∃ob,s3.heap.get? b=some ob:=fun b hb=>by
  obtain⟨ob,e,_⟩:=T.obj _ _ st2 b hb;obtain⟨f0,fr⟩:=f2 b hb;exact⟨⟨by rw[B4 (AQ (AF e))];exact f0,fr⟩,ob,k3 b ob e⟩
 refine wpAny_newFunctionEnv S.nocell (by intro y hy;simp at hy) (fun h1 hns hsb=>?_) S.kind;have hk:∀b ob,s3.heap.get? b=some ob->h1.get? b=some ob:=fun b ob e=>(hsb.2 b (AQ (AF e))).trans (AC _ e);have I4:Inv (cxC X scope cl N' pins fp s3 (upd H2 s2.heap.objs.size (o s2.heap.objs.size))) [] (Mf cap σ) (upd H2 s2.heap.objs.size (o s2.heap.objs.size)) { s3 with heap:=h1,toks:=s3.toks +([]:List (Str×Value)).length } :=
  I3.block S hc fok hns hk
 have st4:tn 0 h1:=T.keep 0 _ _ st2 fun b hb ob e=>hk b ob (k3 b ob e);refine o7 (X:=cxC X scope cl N' pins fp s3 (upd H2 s2.heap.objs.size (o s2.heap.objs.size))) (gs:=⟨tg,iter,ifs,0⟩::gs) (e:=e) (d:=0) (tg:=tg) (iter:=iter) (ifs:=ifs) (hun _ _ _) (hden _ _ _) hcl rfl T st4 ?_;refine hlp pins fp s3 _ s2.heap.objs.size it fp tn J (Mf cap σ) _ _ _ _ T I4 st4 (fun b hb=>?_) (R2 _ hD) fun s' σ' H' I' q'=>?_
 .obtain⟨⟨f0,f1,f2',f3,f4,f5⟩,ob,eo⟩:=fok b hb;refine⟨f0,AQ (AF eo),fun hf=>?_,.inl hb,fun x c e=>f4 x c (S.cin.get e),fun p hp=>f5 p (by simpa [cxC] using hp)⟩;rcases AN.mp (I3.stkSub b hf)with z | z
  .exact f1 z
  .exact f2' z
 .exact hend _ fp _ s3 s' σ' H' I3 (fun b hb=>(fok b hb).1) I' q'
theorem Ae{i:Nat}{x:Str}{pos' cpos:Pos}{g:TG}{tc:TT}{te:TE}(hN:X.N.Nodup)(hi:X.N[i]?=some x)(hx:Loc X.env.scope x)(S:CScope X scope cl N' cap)(hc:X.calm=true)(hI:PI X tg iter wi)
  (hb:∀(pins:List (Addr×Obj)) (ex:List Addr) (s3:Shared) (H3:Hp),PG (cxC X scope cl N' pins ex s3 H3) tg g/\PTs (cxC X scope cl N' pins ex s3 H3) ifs tc/\PE (cxC X scope cl N' pins ex s3 H3) elt te)
  (hs:∀x,foldedSetIterable iter X.env x=pure x:=by intro _;rfl)
  (hsw:swapsWith (.ListComp elt [⟨tg,iter,ifs,0⟩] scope cpos) (some (.Name x pos')) pos.line X.env=pure true:=by rfl)
  (hf:X.fn x=true\/X.env.scope.names.lookup x=some .local:=by first | exact .inl rfl | exact .inr rfl | assumption) :
  PS X (.Assign [.Name x pos'] (.ListComp elt [⟨tg,iter,ifs,0⟩] scope cpos) pos) (Sv (Ln wi (fun _=>.lst []) cap fun D J σ H Q=>Ms g tc (Gi D te) J σ H Q) (w6 i)):=by
 intro pins s σ H D I h;rw[exec_Assign];refine AA (DW (AA (wpAny_of_eq hsw (wpAny_ite_true rfl (AA (AA ?_))))));refine Gr (newAcc:=newList []) (p2:=firstIterPos [⟨tg,iter,ifs,0⟩] cpos) rfl (fun _=>.lst []) hs S hc hI (fun pins s σ H Q E I h=>?_) (fun pins ex s3 H3 D it fp tn J σ s H Q R T I st hf h hR=>?_) (fun _ _ _=>rfl) (fun _ _ _=>rfl) I h fun E fp H2 s3 s' σ' H' I3 fok I' q=>?_
 .refine wpAny_newList ?_;exact h _ (I.lnew (t':=s.toks) (its:=[]) .nil (CW _)) fun b ob e=>AC _ e
 .obtain⟨b1,b2,b3⟩:=hb pins ex s3 H3;exact Bw (X:=cxC X scope cl N' pins ex s3 H3) rfl rfl hc rfl (j4 elt tg iter ifs scope cpos _ _ _) b1 b2 (Dx rfl b3) T I st hf h hR
 .have IX:Inv X pins σ H' s':=I3.unblock fok I' ⟨rfl,fun _ _=>rfl⟩;have fC:Al X pins H' s3.heap.objs.size:=I3.fpOk (Nat.le_refl _) I'.free;obtain⟨m,hn,_⟩:=I'.loc;show wpAny _ _ (assign (.Name x pos') X.env (.ref E)) _ _ _;refine wpAny_assign_Name (Bq (v:=.ref E) IX hN hi hx rfl (fun s2 I2 ⟨a,hsb,ha⟩=>?_) hf);have nC:s3.heap.objs.size≠a:=by
   rcases ha with rfl | ha
   .exact fC.2.1
   .exact(fC.2.2.2.2.1 _ _ ha).symm
  refine⟨m,?_,fun h' hsb'=>AD (AD ?_)⟩
  .obtain⟨ob,es,ep,e1,r⟩:=hn;exact⟨ob,es,ep,(hsb.2 _ nC).trans e1,r⟩
  refine⟨_,H',?_,q⟩;have k:∀b ob,b∉[s3.heap.objs.size]->s2.heap.get? b=some ob->h'.get? b=some ob:=fun b ob hb e=>(hsb'.2 b fun z=>hb (AE.mpr z)).trans e;refine I2.step (h':=h') (H':=H') (t':=s2.toks) (g':=s2.gens) (d':=s2.drawn) (ch:=[s3.heap.objs.size]) (fun b hb=>by rw[AE.mp hb];exact⟨fC.2.2.2.1,fC.2.1,fC.2.2.2.2⟩) (fun b ob _ _ hc e _=>k b ob hc e) (fun b ob _ _ hc e _=>⟨ob.slots,k b ob hc e⟩) (fun _ _ _ _ n=>n)
   (fun b ob hc e=>⟨ob,k b ob hc e⟩) (fun _ _ e=>e) (fun _ _ _ e=>e) (fun b ps e=>⟨#[],by rw[e];simp⟩) (fun m hm=>?_) (fun b u eb=>?_) I2.bare
  .obtain⟨ob,es,ep,ho,r⟩:=hm;exact⟨ob,es,ep,k _ ob (fun hb=>fC.2.1 (AE.mp hb).symm) ho,r⟩
  .have nf:∀b u,H' b=some u->b∉[s3.heap.objs.size]:=fun b u e hb=>by rw[AE.mp hb,fC.1]at e;cases e
   refine(I2.hok b u eb).stay (fun c v hc q=>k c v ?_ q) (fun _ q=>q) fun _ _ q=>q;rcases hc with z | z
   .rw[z];exact nf b u eb
   .exact nf c _ z
end
structure IsC(K:PySem.W.Frag)(C:Addr):Prop where
 ha:PySem.W.findIn K (.ref C) "__class__" = some (some (.builtin "object.__class__"))
 hn:PySem.W.specialIn K (.builtin "object.__class__") "__get__" = some (some (.builtin "getset_descriptor.__get__"))
 htk:PySem.W.takesIn K (.builtin "object.__class__")=some true
 hm:PySem.W.mroIn K C (.type "object")=some true
 one:PySem.W.kitOne K (.ref C) (.ref C)=some true
theorem kit_same(K:PySem.W.Frag)(a:Addr):PySem.W.kitOne K (.ref a) (.ref a)=some true:=BB (beq_self_eq_true _)
section
variable{X:Cx}
theorem f8{x:Str}{C:Addr}{pos:Pos}(h:X.mg x=some (.ref C))(hg:Gl X x:=by rfl)(hd:(x ==("__debug__":Str))=false:=by decide):PE X (.Name x pos) (tC (.ref C)):=Dm hg h rfl hd
end
def Y0(l xs:List Str):List Str:=xs.foldl Py l
theorem La(l:List Str)(x:Str):(Py l x).length<=l.length+1:=by
 unfold Py;split
 .omega
 .rw[BF];exact Nat.le_refl _
theorem Qp{w:World}{h h':Heap}{a:Addr}{ss:List Str}(z:ST.WS w h a ss)(k:∀o,h.get? a=some o->h'.get? a=some o):ST.WS w h' a ss:=by
 obtain⟨o,es,ep,t,S,r⟩:=z;exact⟨o,es,ep,t,S.at (k o S.ho),r⟩
section
variable{prog:Program}{w:World}{A:Around}{R:Result->Shared->Prop}{I:Addr}{fp wr:List Addr}{G:Array GenState->Array GenState->Prop}{n:Nat}{P:Nat->Value->Prop}{St:Nat->Shared->Prop}
theorem Hm(W:WalksS prog w A.in1 I fp wr G n P St)(S:Addr)(hSf:S∉fp)(xs:List Str)(hn:xs.length=n)(hval:∀i v,P i v->∃x t,xs[i]?=some x/\v = .str x t) :
  ∀(k i:Nat) (s:Shared) (ss:List Str),n-i=k->i<=n->St i s->ST.WS w s.heap S ss->ss.length+k<4096 ->
   (∀s',Moved (S::wr) G s s'->ST.WS w s'.heap S (Y0 ss (xs.drop i))->R (.ok (.ret .none)) s') ->
   codeAny (model prog w) A (.builtin "set.update.loop" ⟨[.ref S,.ref I],[]⟩) R s:=by
 have hSw:S∉wr:=fun h=>hSf (W.sub _ h);have hsub:∀b∈wr,b∈S::wr:=fun b hb=>AY _ hb;intro k
 induction k with
 | zero =>
  intro i s ss hk hi hst hS _ hR;have hin:i=n:=by omega
  subst hin;refine DC F.entry_set_update_loop ?_;rw[Around.under_plainId F.plain_set_update_loop _];refine AA (W.done s _ _ hst fun s' hm=>?_);have q:=hR s' (hm.mono hsub);rw[<-hn,List.drop_length]at q;exact AD (q (Qp hS fun o=>hm.heap S o hSw))
 | succ k ih =>
  intro i s ss hk hi hst hS hz hR;refine DC F.entry_set_update_loop ?_;rw[Around.under_plainId F.plain_set_update_loop _];refine AA (W.item i s _ _ (by omega) hst fun v s' hP hst' hm=>?_);obtain⟨x,t,hx,rfl⟩:=hval i v hP;show wpAny _ A.in1 (holding [Value.str x t] (setAdd S (.str x t)) >>= _) _ _ s';refine AA (BT ?_);unfold setAdd;refine BT (AA (wpAny_pyHash_str ?_));refine ST.add_txt (s:={ s' with toks:=s'.toks+1 }) (Qp hS fun o=>hm.heap S o hSw) (by omega) fun h' b hsb z'=>?_;refine AD ⟨plainId_quiet F.plain_set_update_loop _,ih (i+1) _ (Py ss x) (by omega) (by omega) (W.frame _ s' _ _ hst' (BZ _) fun b hb o e=>?_) z' (by have:=La ss x;omega) fun s'' hm'' hS''=>?_⟩
  .rw[hsb.2 b (fun h:b=S=>hSf (by rw[<-h];exact hb))];exact e
  .refine hR s'' (Moved.trans W.gtrans ((hm.mono hsub).then_heap (BZ _) fun b o hb e=>?_) hm'') ?_
   .rw[hsb.2 b (fun h:b=S=>hb (by rw[h];exact BC))];exact e
   .have hd:xs.drop i=x::xs.drop (i+1):=by
     obtain⟨hi',ex⟩:=AK.mp hx;rw[<-ex];exact DD hi'
    rw[hd];exact hS''
end
section
variable{prog:Program}{w:World}{A:Around}{E:Value->Shared->Prop}{s:Shared}
abbrev freshW(w:World):Obj:={ cls:=.type "set",dict:=none,data:=.set #[] 0 (.fresh 0 0 (!(w.params.followText "set-order"))) }
theorem Kj{h:Heap}{a:Addr}(e:h.get? a=some (freshW w)):ST.WS w h a [] :=
 ⟨_,#[],0,_,⟨e,⟨rfl,rfl,rfl⟩,rfl,by rfl,rfl,fun _=>rfl,by decide⟩,⟨fun e he=>by simp at he,by simp,List.nodup_nil⟩⟩
theorem Lq(a:Value){Q₁:Value->Shared->Prop}(h:Q₁ (.ref s.heap.objs.size) { s with heap:=s.heap.push (freshW w) }) :
  codeAny (model prog w) A (.call (.builtin "set.__new__") ⟨[.type "set",a],[]⟩) (wants Q₁ E) s:=by
 refine codeAny_of_tree ?_;show wpAny _ A.in1 (do checkBuiltinCall "set.__new__" ⟨[.type "set",a],[]⟩;again (.builtin "set.__new__" ⟨[.type "set",a],[]⟩)) _ _ s;refine AA (wpAny_of_eq (F.newCall_set_1 a) (AD ⟨plainId_quiet F.plain_set_new _,DC F.entry_set_new ?_⟩));rw[Around.under_plainId F.plain_set_new _];unfold Builtin.«set.__new__» Builtin.Frozenset.newClass;have hsub:=sub_set_self;obtain⟨hp,g,d,tk,os⟩:=s;dsimp only;wp_walk;refine wpAny_askSetting (AD ?_);dsimp only;simp only[newObj];refine AA (wpAny_alloc (AD ?_));exact AD h
set_option maxHeartbeats 3200000 in
theorem p8{l:Addr}{ol it:Obj}{nm:String}{xs:List Str}{n:Nat}{P:Nat->Value->Prop}{St:Addr->Nat->Heap->Prop}{Q:Value->Shared->Prop}(hh:A.handled=none)(hol:s.heap.get? l=some ol)(hcl:ol.cls = .type nm)
  (hs1:isSubtype (.type nm) (.type "set")=pure false) (hs2:isSubtype (.type nm) (.type "frozenset")=pure false) (hne:(Value.type nm == Value.type "dict")=false)
  (hit:∀{A:Around} {E:Value->Shared->Prop} {Q:Value->Shared->Prop} (s1:Shared),s1.heap.get? l=some ol->Q (.ref s1.heap.objs.size) { s1 with heap:=s1.heap.push it }->wpAny (model prog w) A (pyIter (.ref l)) Q E s1)
  (hW:∀(A:Around) (I:Addr),A.handled=none->l≠I->Walks prog w A I [I,l] [I] n P (St I)) (hSt:∀(h:Heap) (I:Addr),h.get? I=some it->h.get? l=some ol->St I 0 h) (hiti:it.isFreed=false)
  (hn:xs.length=n) (hval:∀i v,P i v->∃x t,xs[i]?=some x/\v = .str x t) (hb:n<4096)
  (h:∀(h':Heap) (tk:Nat),ST.WS w h' s.heap.objs.size (Y0 [] xs)->(∀b o,s.heap.get? b=some o->h'.get? b=some o)->Q (.ref s.heap.objs.size) { s with heap:=h',toks:=tk }) :
  wpAny (model prog w) A (call (.type "set") [.ref l]) Q E s:=by
 obtain⟨c,tl,hmro⟩:=F.called_set.mro;have hmade:=F.called_set.made;have hsub:=F.called_set.sub;refine EC (codeAny_of_tree ?_);show wpAny _ _ (callAny (.type "set") _) _ _ _;refine AD ⟨Code.quiet_builtin _ (by decide +kernel),DC F.entry_type_call ?_⟩;rw[Around.under_plain (weight_type_call_type "set" [.ref l] []) rfl];have h1:=F.called_set.notType;have h2:=F.called_set.canCreate;have hct:=F.typeCall_set_1 (.ref l)
 repeat (any_goals (first | assumption | wp_step))
 refine DV (Lq (.ref l) (E:=E) (Q₁:=fun obj s₁=>obj = .ref s.heap.objs.size/\s₁ ={ s with heap:=s.heap.push (freshW w) }) ⟨rfl,rfl⟩) fun r s₁ hr=>?_;cases r with
 | error e=>exact hr
 | ok fl =>
  cases fl with
  | ret obj =>
   obtain⟨rfl,rfl⟩:=hr;have hS:(s.heap.push (freshW w)).get? s.heap.objs.size=some (freshW w):=AZ _ rfl;have hT:Shared.TypeIs { s with heap:=s.heap.push (freshW w) } (.ref s.heap.objs.size) "set":=⟨_,hS,rfl⟩;have hli:=F.called_set.init.lookup;have hbi:=F.called_set.init.bind (.ref s.heap.objs.size)
   repeat (any_goals (first | assumption | wp_step))
   refine DV (EO (R:=wants (fun r s₂=>r = .none/\∃h' tk,s₂ ={ s with heap:=h',toks:=tk }/\ST.WS w h' s.heap.objs.size (Y0 [] xs) /\
     (∀b o,s.heap.get? b=some o->h'.get? b=some o)) E) F.called_set.init.plain F.entry_set_init (check_set_init_1 hT ?_)) fun r₂ s₂ hr₂=>?_
   .have hol':(s.heap.push (freshW w)).get? l=some ol:=AC _ hol;obtain⟨ocls,odict,odata,oslots⟩:=ol;simp only at hcl;subst hcl;unfold Builtin.«set.__init__» noKeywords Builtin.Frozenset.updateFrom;generalize hPI:pyIter=PI;wp_walk;subst hPI;refine hit _ hol' ?_;refine AA (wpAny_runValue ?_);have hlS:l<s.heap.objs.size:=AF hol;have hh3:A.in1.in1.in1.handled=none:=by simp[hh]
    have hneI:l≠(s.heap.push (freshW w)).objs.size:=by
     rw[CH];exact AQ (FH hlS)
    have hSf:s.heap.objs.size∉[(s.heap.push (freshW w)).objs.size,l]:=by
     rw[CH];simp only[AN,AX,or_false,not_or];exact⟨AQ (FL _),Nat.ne_of_gt hlS⟩
    refine Hm ((hW _ _ hh3 hneI).toS) s.heap.objs.size hSf xs hn hval (n-0) 0 _ [] rfl (CW _) (hSt _ _ (AZ _ hiti) (AC _ hol')) (Kj (AC _ hS)) (by simpa using hb) fun s' hm hS'=>?_;obtain⟨h',g',d',tk',os'⟩:=s';have eg:g'=s.gens:=hm.gens;have ed:d'=s.drawn:=hm.drawn;have eo:os'=s.os:=hm.os;subst eg;subst ed;subst eo;show wpAny _ _ _ _ _ _;refine AD ?_;show wpAny _ _ (ret Value.none) _ _ _;refine AD ⟨rfl,h',tk',rfl,hS',fun b o e=>?_⟩;have hb:=AF e;have hb1:b≠s.heap.objs.size:=AQ hb;have hb2:b≠(s.heap.push (freshW w)).objs.size:=by
     rw[CH];exact AQ (FH hb)
    exact hm.heap b o (by simp only[AN,AX,or_false,not_or];exact⟨hb1,hb2⟩) (AC _ (AC _ e))
   .cases r₂ with
    | error e=>exact hr₂
    | ok fl₂ =>
     cases fl₂ with
     | ret r =>
      obtain⟨rfl,h',tk,rfl,hS',hk'⟩:=hr₂
      repeat (any_goals (first | assumption | wp_step))
      exact h _ _ hS' hk'
     | _=>exact hr₂.elim
  | _=>exact hr.elim
end
theorem u0:isSubtype (.type "tuple") (.type "set")=pure false:=by rw[isSubtype_type];kernel_rfl
theorem Q0:isSubtype (.type "tuple") (.type "frozenset")=pure false:=by rw[isSubtype_type];kernel_rfl
theorem Ay:∀{xs l:List Str},xs.Nodup->(∀x∈xs,x∉l)->Y0 l xs=l++xs
 | [],l,_,_=>(CA l).symm
 | x::xs,l,nd,ni=>by
  obtain⟨n1,n2⟩:=CT.mp nd;show Y0 (Py l x) xs=_;have e:Py l x=l ++ [x]:=AU (ni x (BC ..));rw[e,Ay n2 fun y hy hm=>?_,BE]
  .rfl
  .rcases AV.mp hm with hm | hm
   .exact ni y (AY _ hy) hm
   .exact n1 (AE.mp hm▸hy)
theorem Jv{ss:List Str}{its:List Value}(r:Vals (ss.map V.str) its)(i:Nat)(v:Value)(e:its.toArray[i]?=some v):∃x t,ss[i]?=some x/\v = .str x t:=by
 rw[EG]at e;cases h:ss[i]? with
 | none =>
  have:=r.none_of (i:=i) (by rw[AH,h];rfl);rw[this]at e;cases e
 | some x =>
  obtain⟨u,e1,t,e2⟩:=r.get (i:=i) (x:=.str x) (by rw[AH,h];rfl);rw[e1]at e;cases e;exact⟨x,t,rfl,e2⟩
section
variable{X:Cx}
theorem Pn(K:PySem.W.Frag)(w:World)(hc:X.calm=true:=by rfl)(hK:X.K=K:=by rfl)(hw:X.w=w:=by rfl):E3 X (.type "set") (fun xs H Q=>∃(p:Addr) (ss:List Str),xs = [.ref p]/\(SqL K H p (ss.map V.str)\/SqT K H p (ss.map V.str))/\ss.Nodup/\ss.length<4096/\∀l,H l=none->Q (.ref l) (upd H l (Pw w l ss))):=by
 subst hK;subst hw;intro pins s σ H xs us Q I r h;obtain⟨p,ss,rfl,hq,nd,hb,q⟩:=h;obtain⟨u,rfl,rx⟩:=Q6 r;cases rx;have en:Y0 [] ss=ss:=Ay nd fun _ _ h=>nomatch h
 have fin:∀(h':Heap) (tk:Nat),ST.WS X.w h' s.heap.objs.size (Y0 [] ss)->(∀b o,s.heap.get? b=some o->h'.get? b=some o)->EP X pins σ Q (.ref s.heap.objs.size) { s with heap:=h',toks:=tk }:=fun h' tk z k=>by
  rw[en]at z;exact⟨.ref s.heap.objs.size,_,I.laid (t':=tk) k (Nat.le_refl _) (Qz z),rfl,q _ (I.hok.fresh (Nat.le_refl _))⟩
 rcases hq with hq | hq
 .obtain⟨its,r',pl,hz⟩:=I.list hq;have hlen:=r'.length;rw[AB]at hlen;obtain⟨o,ho,hc',n,hd⟩:=pl.isList;exact p8 (I.ok.hd hc) ho hc' F.sub_list_set F.sub_list_frozenset (by decide) (fun s1 e q=>FJ ⟨_,e,hc',n,hd⟩ q) (fun A I hA hne=>Walks.list hA I p hne its.toArray) (fun h I e1 e2=>⟨⟨_,e1,rfl,rfl⟩,⟨_,e2,hc',n,hd⟩⟩) rfl (by simp[hlen]) (Jv r') (by simpa [<-hlen] using hb) fin
 .obtain⟨its,r',pl,hz⟩:=I.tuple hq;have hlen:=r'.length;rw[AB]at hlen;obtain⟨o,ho,hc',n,hd⟩:=pl;exact p8 (I.ok.hd hc) ho hc' u0 Q0 (by decide) (fun s1 e q=>wpAny_pyIter_tuple ⟨_,e,hc',n,hd⟩ q) (fun A I hA hne=>Walks.tuple hA I p hne its.toArray) (fun h I e1 e2=>⟨⟨_,e1,rfl,rfl⟩,⟨_,e2,hc',n,hd⟩⟩) rfl (by simp[hlen]) (Jv r') (by simpa [<-hlen] using hb) fin
end
def Gp(kvs more:List (Key×V)):List (Key×V):=more.foldl (fun a kv=>Ir a kv.1 kv.2) kvs
theorem KV.mrg:∀{more:List (Key×V)} {vs':List (Key×Value)} {kvs:List (Key×V)} {vs:List (Key×Value)},KV kvs vs->KV more vs'->KV (Gp kvs more) (merged vs vs')
 | [],[],_,_,r,_=>r
 | [],_::_,_,_,_,r'=>by cases r'
 | _::_,[],_,_,_,r'=>by cases r'
 | (k,y)::m,(k',u)::n,kvs,vs,r,r'=>by
  cases r' with
  | cons h t =>
   obtain⟨e,ry⟩:=h;have e:k=k':=e;subst e;show KV (Gp (Ir kvs k y) m) (merged (stored vs k u) n);exact KV.mrg (r.put k ry) t
theorem Cr(kvs more:List (Key×V)):(Gp kvs more).length<=kvs.length+more.length:=by
 induction more generalizing kvs with
 | nil=>exact Nat.le_refl _
 | cons a r ih =>
  have h1:=ih (Ir kvs a.1 a.2);have h2:=Dl kvs a.1 a.2;show(Gp (Ir kvs a.1 a.2) r).length<=kvs.length +(r.length+1);omega
section
variable{X:Cx}
theorem Kc:bootBuiltins "dict" = some (.type "dict"):=by decide +kernel
end
theorem Fb:entryFor table "dict.update.loop" = some Builtin.«dict.update.loop»:=entryFor_of_tree (by kernel_rfl)
theorem X5:plainId "dict.update.loop" = true:=by decide +kernel
section
variable{prog:Program}{w:World}{A:Around}{E:Value->Shared->Prop}{s:Shared}
theorem Ak{a:Addr}{xs:Array Value}{k:Nat}{sl:Array (Option Value)}{name:Str}{Q:Option Value->Shared->Prop}
  (hx:s.heap.get? a=some { cls:=.type "list",dict:=none,data:=.seq xs k,slots:=sl }) (hmiss:typeLookup (.type "list") name=pure none) (hname:(["__module__", "__name__", "__qualname__", "__doc__", "__annotations__"]:List Str).contains name=false) (hA:A.handled=none)
  (h:∀h' tk,(∀b ob,s.heap.get? b=some ob->h'.get? b=some ob)->Q none { s with heap:=h',toks:=tk }) (hsz:name.length+100<=sizeLine) :
  wpAny (model prog w) A (getAttr? (.ref a) name) Q E s:=by
 obtain⟨hp,g,d,tk,os⟩:=s;have hT:∀tk',(⟨hp,g,d,tk',os⟩:Shared).TypeIs (.ref a) "list":=fun _=>⟨_,hx,rfl⟩;have f1:=sub_AttributeError;have f3:=F.slot_list_getattribute.lookup;have f4:=F.slot_list_getattribute.bind (.ref a);have f5:=am_list_getattr_none;unfold getAttr? getAttrBy? getAttrBy
 repeat (any_goals (first | assumption | exact hT _ | ((with_reducible show wpAny _ _ (call (Value.builtin "list.__getattribute__") _ _) _ _ _);refine call_meets F.slot_list_getattribute (hT _) am_entry_list_getattribute (F.args_list_getattribute_2 _ _) (meets_getattribute_miss_list a xs k sl name _ hmiss hname hsz) ⟨hx,hA,fun h' tk' e hx'=>?_⟩) | wp_step))
 obtain⟨t',u',he⟩:=hx'.there;show wpAny _ _ (getattributeRaised _ _ _ _ _ _ _) _ _ _;unfold getattributeRaised
 repeat (any_goals (first | assumption | wp_step))
 exact h _ _ hx'.keeps
end
section
variable{prog:Program}{w:World}{A:Around}{R:Result->Shared->Prop}{I:Addr}{fp wr:List Addr}{G:Array GenState->Array GenState->Prop}{n:Nat}{P:Nat->Value->Prop}{St:Nat->Shared->Prop}{K:Type}[DecidableEq K]{knd:KeyKind prog w K}
theorem Gw(W:WalksS prog w A.in1 I fp wr G n P St)(D:Addr)(hDf:D∉fp)(h0:Heap)(more:List (K×Value))(hn:more.length=n)
  (hval:∀i v,P i v->∃t o k key u m,v = .ref t/\t∉D::wr/\h0.get? t=some o/\o.cls = .type "tuple"/\o.data = .seq #[key,u] m/\more[i]?=some (k,u)/\knd.is k key=true) :
  ∀(k i:Nat) (s:Shared) (kvs:List (K×Value)) (tk:Tok),n-i=k->i<=n->St i s->(∀b o,b∉D::wr->h0.get? b=some o->s.heap.get? b=some o)->s.heap.DictOf knd D kvs->kvs.length+k<=sizeLine ->
   (∀s',Moved (D::wr) G s s'->s'.heap.DictOf knd D (merged kvs (more.drop i))->R (.ok (.ret .none)) s') ->
   codeAny (model prog w) A (.builtin "dict.update.loop" ⟨[.ref D,.ref I,.int (i:Int) tk,.none],[]⟩) R s:=by
 have hDw:D∉wr:=fun h=>hDf (W.sub _ h);have hsub:∀b∈wr,b∈D::wr:=fun b hb=>AY _ hb;have dat:∀{h h':Heap} {kvs:List (K×Value)},h.DictOf knd D kvs->(∀o,h.get? D=some o->h'.get? D=some o)->h'.DictOf knd D kvs:=fun⟨o,es,ep,ho,r⟩ k=>⟨o,es,ep,k o ho,r⟩;intro k
 induction k with
 | zero =>
  intro i s kvs tk hk hi hst hh hS _ hR;have hin:i=n:=by omega
  subst hin;refine DC Fb ?_;rw[Around.under_plainId X5 _];refine AA (W.done s _ _ hst fun s' hm=>?_);have q:=hR s' (hm.mono hsub);rw[<-hn,List.drop_length]at q;show wpAny _ _ (Builtin.Dict.addKeywords D [] >>= _) _ _ _;exact AA (AD (AD (q (dat hS fun o=>hm.heap D o hDw))))
 | succ k ih =>
  intro i s kvs tk hk hi hst hh hS hz hR;refine DC Fb ?_;rw[Around.under_plainId X5 _];refine AA (W.item i s _ _ (by omega) hst fun v s' hP hst' hm=>?_);obtain⟨t,o,kk,key,u,m,rfl,htw,ht,hc,hd,hx,hkey⟩:=hval i v hP;have ht':s'.heap.get? t=some o:=hm.heap t o (fun z=>htw (hsub _ z)) (hh t o htw ht);refine AA (BT (AA (EQ ?_)));unfold Builtin.Dict.pairItems;refine AA (wpAny_typeOf (T := "tuple") ⟨o,ht',hc⟩ ?_);rw[BB (by decide)];refine AA (CQ ht' hd (AD ?_));show wpAny _ _ (holding [key,u] (dictSet D key u)) _ _ _;refine BT (wpAny_dictSet_pairs hkey (dat hS fun o=>hm.heap D o hDw) (fun h' d' hsb=>?_) (by omega));refine AD ⟨plainId_quiet X5 _,ih (i+1) _ (stored kvs kk u) _ (by omega) (by omega) (W.frame _ s' _ _ hst' (BZ _) fun b hb o e=>?_) (fun b o hb e=>?_) d' (by
   have:=stored_length_le kvs kk u;omega) fun s'' hm'' hS''=>?_⟩
  .rw[hsb.2 b (fun h:b=D=>hDf (by rw[<-h];exact hb))];exact e
  .rw[hsb.2 b (fun h:b=D=>hb (by rw[h];exact BC))];exact hm.heap b o (fun z=>hb (hsub _ z)) (hh b o hb e)
  .refine hR s'' (Moved.trans W.gtrans ((hm.mono hsub).then_heap (BZ _) fun b o hb e=>?_) hm'') ?_
   .rw[hsb.2 b (fun h:b=D=>hb (by rw[h];exact BC))];exact e
   .have hd:more.drop i =(kk,u)::more.drop (i+1):=by
     obtain⟨hi',ex⟩:=AK.mp hx;rw[<-ex];exact DD hi'
    rw[hd];exact hS''
end
section
variable{X:Cx}
theorem j7:∀{as:List Addr} {its:List Value},Vals (as.map V.ref) its->its=as.map Value.ref
 | [],_,.nil=>rfl
 | _::_,_,.cons r t=>by rw[BQ,j7 t];cases r;rfl
theorem Jq{pins:List (Addr×Obj)}{σ:St}{H:Hp}{s:Shared}(I:Inv X pins σ H s):∀ps:List (Addr×Key×V),(∀q∈ps,H q.1=some (.tup [kV q.2.1,q.2.2]))->∃more:List (Key×Value),KV (ps.map fun q=>q.2) more /\
  ∀(i:Nat) (q:Addr×Key×V),ps[i]?=some q->∃(o:Obj) (key u:Value) (m:Nat),s.heap.get? q.1=some o/\o.cls = .type "tuple"/\o.data = .seq #[key,u] m/\more[i]?=some (q.2.1,u)/\(C9 X.prog X.w).is q.2.1 key=true
 | [],_=>⟨[],.nil,fun i q h=>by simp at h⟩
 | p::ps,h=>by
  obtain⟨more,r,hm⟩:=Jq I ps fun q hq=>h q (AY _ hq);obtain⟨_,its,rv,o,h1,h2,n,h3⟩:=(show ObjOk X.prog X.w H s.heap p.1 (.tup [kV p.2.1,p.2.2])from I.hok _ _ (h p (BC ..)));obtain⟨key,u,rfl,rk,ru⟩:=rv.two;refine⟨(p.2.1,u)::more,.cons ⟨rfl,ru⟩ r,fun i q hq=>?_⟩;cases i with
  | zero=>cases hq;exact⟨o,key,u,n,h1,h2,by simpa using h3,rfl,Lk rk⟩
  | succ i=>exact hm i q hq
theorem Kn(hc:X.calm=true):E3 X (.type "dict") (fun xs H Q=>∃(p:Addr) (ps:List (Addr×Key×V)),xs = [.ref p]/\H p=some (.lst (ps.map fun q=>V.ref q.1))/\(∀q∈ps,H q.1=some (.tup [kV q.2.1,q.2.2]))/\ps.length<=1000/\∀l,H l=none->Q (.ref l) (upd H l (.dK (Gp [] (ps.map fun q=>q.2))))):=by
 intro pins s σ H xs us Q I r h;obtain⟨p,ps,rfl,hp,ht,hl,q⟩:=h;obtain⟨u,rfl,ru⟩:=Q6 r;cases ru;obtain⟨its,nn,rv,ho,hz⟩:=I.lst hp;have ei:its =(ps.map fun q=>q.1).map Value.ref:=j7 (by rw[AS];exact rv);obtain⟨more,rm,hm⟩:=Jq I ps ht;have lm:more.length=ps.length:=by rw[<-rm.length,AB]
 have li:its.toArray.size=ps.length:=by rw[ei];simp
 have hps:p<s.heap.objs.size:=AF ho;refine callType_codes (Q₁:=fun obj s₁=>obj = .ref s.heap.objs.size/\s₁ ={ s with heap:=s.heap.push { cls:=.type "dict",data:=.dict #[] } }) PySem.F.kt_called_dict (PySem.F.kt_typeCall_dict_1 _) PySem.F.entry_dict_init (kt_code_dict_new _ ⟨rfl,rfl⟩) ?_;rintro obj s₁ ⟨rfl,rfl⟩;have hnew:(s.heap.push { cls:=.type "dict",data:=.dict #[] }).DictOf (C9 X.prog X.w) s.heap.objs.size []:=Heap.DictOf.new s.heap;have ho':(s.heap.push { cls:=.type "dict",data:=.dict #[] }).get? p=some { cls:=.type "list",data:=.seq its.toArray nn }:=AC _ ho;refine⟨hnew.typeIs,PySem.F.args_dict_init_2 _ _,?_⟩;unfold Builtin.«dict.__init__»;refine AA ?_;unfold Builtin.Dict.selfAndRest;refine AA (wpAny_notOrdered_dict hnew.typeIs ?_);show wpAny _ _ (pure (s.heap.objs.size,[Value.ref p])) _ _ _;refine AD ?_;show wpAny _ _ (Builtin.Dict.updateFrom "dict.__init__" s.heap.objs.size (.ref p) [] .none) _ _ _;unfold Builtin.Dict.updateFrom;refine AA (wpAny_typeOf (T := "list") ⟨_,ho',rfl⟩ ?_);rw[BB (by decide)];have hh:X.A.in1.in1.handled=none:=I.ok.hd hc;refine AA (Ak ho' (am_miss_of_fast (by decide +kernel)) (by decide +kernel) hh (fun h1 tk1 k1=>?_) (by decide +kernel));refine wpAny_ite_true rfl ?_;have hD1:h1.DictOf (C9 X.prog X.w) s.heap.objs.size []:=let⟨o,es,ep,ho,r⟩:=hnew;⟨o,es,ep,k1 _ _ ho,r⟩;have hp1:=k1 _ _ ho';have hDs:s.heap.objs.size<h1.objs.size:=let⟨_,_,_,ho,_⟩:=hD1;AF ho;have hps1:p≠h1.objs.size:=AQ (Nat.lt_trans hps hDs);refine AA (CM (AA (FJ (l:=p) (items:=its.toArray) ⟨_,hp1,rfl,nn,rfl⟩ (AD ⟨plainId_quiet X5 _,?_⟩))));have k2:∀b o,s.heap.get? b=some o->h1.get? b=some o:=fun b o e=>k1 b o (AC _ e);refine Gw (A:=X.A.in1) (knd:=C9 X.prog X.w) ((Walks.list (A:=X.A.in1.in1) hh h1.objs.size p hps1 its.toArray).toS) s.heap.objs.size ?_ h1 more (lm.trans li.symm) (fun i v hv=>?_) _ 0 _ [] _ rfl (CW _) ⟨⟨_,AZ _ rfl,rfl,rfl⟩,⟨_,AC _ hp1,rfl,nn,rfl⟩⟩ (fun b o _ e=>AC _ e) (let⟨o,es,ep,ho,r⟩:=hD1;⟨o,es,ep,AC _ ho,r⟩) ?_ fun s' hmv hS'=>?_
 .simp only[AN,AX,or_false,not_or];exact⟨AQ hDs,Nat.ne_of_gt hps⟩
 .have hv:its.toArray[i]?=some v:=hv;rw[EG,ei,AS,AH]at hv;obtain⟨z,hz',rfl⟩:=AR.mp hv;obtain⟨o,key,u,m,e1,e2,e3,e4,e5⟩:=hm i z hz';have lt:=AF e1;refine⟨z.1,o,z.2.1,key,u,m,rfl,?_,k2 _ _ e1,e2,e3,e4,e5⟩;simp only[AN,AX,or_false,not_or];exact⟨AQ lt,AQ (Nat.lt_trans lt hDs)⟩
 .rw[li,sizeLine_eq];simp;omega
 .obtain⟨h',g',d',tk',os'⟩:=s';have eg:g'=s.gens:=hmv.gens;have ed:d'=s.drawn:=hmv.drawn;have eo:os'=s.os:=hmv.os;subst eg;subst ed;subst eo;refine⟨rfl,.ref s.heap.objs.size,upd H s.heap.objs.size (.dK (Gp [] (ps.map fun q=>q.2))),I.laid (fun b o eb=>?_) (Nat.le_refl _) (Pz ?_ (beq_eq_false_iff_ne.mpr (Nat.ne_of_gt I.big)) (KV.mrg .nil rm) hS'),rfl,q _ I.fresh⟩
  .have lt:=AF eb;refine hmv.heap b o ?_ (AC _ (k2 b o eb));simp only[AN,AX,or_false,not_or];exact⟨AQ lt,AQ (Nat.lt_trans lt hDs)⟩
  .have:=Cr [] (ps.map fun q=>q.2);rw[AB]at this;rw[sizeLine_eq];simp at this;omega
end
section
variable{X:Cx}{pos:Pos}
variable(K:PySem.W.Frag)
theorem Eh(hc:X.calm=true:=by rfl):E3 X (.type "dict") (fun xs H Q=>∃(p:Addr) (ps:List (Addr×Key×V)),xs = [.ref p]/\H p=some (.lst (ps.map fun q=>V.ref q.1))/\(∀q∈ps,H q.1=some (.tup [kV q.2.1,q.2.2]))/\ps.length<=1000/\∀l,H l=none->Q (.ref l) (upd H l (.dK (Gp [] (ps.map fun q=>q.2))))):=Kn hc
end
def XO(x C:Addr)(d:Option Addr):HO:=.ext fun h=>∃o vs,h.get? x=some o/\o.cls = .ref C/\o.dict=d/\o.data = .fields vs
theorem XO.ok{P:Program}{w:World}{H:Hp}{h:Heap}{x C:Addr}{d:Option Addr}{o:Obj}{vs:Array Value}(e:h.get? x=some o)(hc:o.cls = .ref C)(hd:o.dict=d)(hv:o.data = .fields vs):ObjOk P w H h x (XO x C d) :=
 ⟨⟨o,vs,e,hc,hd,hv⟩,⟨o,e⟩,fun h1 h2 ⟨o,vs,e,r⟩ k=>⟨o,vs,k o e,r⟩⟩
def Fl(H:Hp)(n:Nat)(x:Addr)(h:Heap):Prop :=
 ∃o vs,h.get? x=some o/\o.data = .fields vs/\1<vs.size/\(vs[1]?=some .none\/∃T oT ts,vs[1]?=some (.ref T)/\T≠x/\n<=T/\H T=none/\h.get? T=some oT/\oT.data = .fields ts/\3<ts.size)
structure RX(P:Program)(w:World)(base:Heap)(fs:List Env)(env:Env)(outer:List Env)(H0:Hp)(s0:Shared)(x C:Addr)(d:Option Addr)(H:Hp)(s:Shared):Prop where
 os:s.os=s0.os
 bare:AllBare s.gens
 un:Un (frs fs) [] H0 H s0.heap s.heap
 hok:HOk P w H s.heap
 bsz:base.objs.size<=s0.heap.objs.size
 bs:∀b o,base.get? b=some o->s.heap.get? b=some o/\H b=none
 funs:s.heap.FunFrames base (env::outer)
 frf:∀b∈frs (env::outer),H b=none
 loc:∃L,env.frame=some L
 old:∀b o,s0.heap.get? b=some o->b∉frs fs->b∉frs (env::outer)
 sub:∀b∈frs fs,b∈frs (env::outer)
 hx:H x=some (XO x C d)
 nx:s0.heap.objs.size<=x
 fl:Fl H s0.heap.objs.size x s.heap
section
variable{P:Program}{w:World}{base:Heap}{env:Env}{fs outer:List Env}{H0 H:Hp}{s0 s:Shared}{x C:Addr}{d:Option Addr}{h':Heap}
theorem RX.chg(r:RX P w base fs env outer H0 s0 x C d H s){TT:List Addr}(tt:∀T∈TT,H T=none/\s0.heap.objs.size<=T/\∃o ts,s.heap.get? T=some o/\o.data = .fields ts)
  (keep:∀b o,b≠x->b∉TT->b∉frs (env::outer)->s.heap.get? b=some o->h'.get? b=some o)
  (slot:∀b o,b∈frs (env::outer)->s.heap.get? b=some o->∃sl,h'.get? b=some { o with slots:=sl })
  (ht:∀T∈TT,∃o,h'.get? T=some o) (hxo:∀o,s.heap.get? x=some o->∃vs,h'.get? x=some { o with data:=.fields vs }) (fl:Fl H s0.heap.objs.size x h') :
  RX P w base fs env outer H0 s0 x C d H { s with heap:=h' }:=by
 obtain⟨ox,vx,ex,hcx,hdx,hvx⟩:∃o vs,s.heap.get? x=some o/\o.cls = .ref C/\o.dict=d/\o.data = .fields vs:=(r.hok x _ r.hx).1;obtain⟨vx',ex'⟩:=hxo ox ex;have nfr:∀b,b∈frs (env::outer)->b≠x:=fun b hb z=>by
  have:=r.frf b hb;rw[z,r.hx]at this;cases this
 have nft:∀b,b∈frs (env::outer)->b∉TT:=fun b hb z=>by
  obtain⟨_,o,ho,hnf⟩:=r.funs.mem hb;obtain⟨_,_,o',ts,ho',hd'⟩:=tt b z;rw[ho]at ho';cases ho';exact hnf ts hd'
 have old:∀b o,s0.heap.get? b=some o->b≠x/\b∉TT:=fun b o e=>⟨fun z=>absurd (AF e) (by rw[z];exact Nat.not_lt.mpr r.nx),fun z=>absurd (AF e) (Nat.not_lt.mpr (tt b z).2.1)⟩;have there:∀b o,s.heap.get? b=some o->∃o',h'.get? b=some o':=fun b o e=>by
  by_cases c1:b=x
  .rw[c1];exact⟨_,ex'⟩
  by_cases c2:b∈TT
  .exact ht b c2
  by_cases c3:b∈frs (env::outer)
  .obtain⟨sl,q⟩:=slot b o c3 e;exact⟨_,q⟩
  .exact⟨_,keep b o c1 c2 c3 e⟩
 have trk:∀b u,H b=some u->b≠x->∀o,s.heap.get? b=some o->h'.get? b=some o:=fun b u e c o ho =>
  keep b o c (fun z=>by rw[(tt b z).1]at e;cases e) (fun z=>by rw[r.frf b z]at e;cases e) ho
 refine⟨r.os,r.bare,⟨fun b o e n hb hx=>?_,fun b o e n hb hx=>?_,r.un.free,fun b o e hx=>?_,r.un.tups,r.un.frzs,r.un.tbls⟩,fun b u e=>?_,r.bsz,fun b o e=>?_,?_,r.frf,r.loc,r.old,r.sub,r.hx,r.nx,fl⟩
 .exact keep b o (old b o e).1 (old b o e).2 (r.old b o e hb) (r.un.keep b o e n hb hx)
 .obtain⟨sl,q⟩:=r.un.slot b o e n hb hx;obtain⟨sl',q'⟩:=slot b _ (r.sub b hb) q;exact⟨sl',q'⟩
 .obtain⟨o',q⟩:=r.un.there b o e hx;exact there b o' q
 .by_cases c:b=x
  .subst c;rw[r.hx]at e;cases e;exact XO.ok ex' hcx hdx rfl
  .refine(r.hok b u e).stay (fun b' o hb q=>?_) (fun _ q=>q) fun _ _ q=>q;rcases hb with z | z
   .subst z;exact trk b' u e c o q
   .refine trk b' _ z (fun q'=>?_) o q;rw[q',r.hx]at z;cases z
 .refine⟨keep b o (fun z=>?_) (fun z=>?_) (fun z=>?_) (r.bs b o e).1,(r.bs b o e).2⟩
  .have:=(r.bs b o e).2;rw[z,r.hx]at this;cases this
  .exact absurd (AF e) (Nat.not_lt.mpr (Nat.le_trans r.bsz (tt b z).2.1))
  .have:=(r.funs.mem z).1;rw[e]at this;cases this
 .refine r.funs.of_keeps fun b o e hnf=>?_;by_cases c1:b=x
  .subst c1;rw[ex]at e;cases e;exact absurd hvx (hnf _)
  by_cases c2:b∈TT
  .obtain⟨_,_,o',ts,ho',hd'⟩:=tt b c2;rw[e]at ho';cases ho';exact absurd hd' (hnf _)
  by_cases c3:b∈frs (env::outer)
  .obtain⟨sl,q⟩:=slot b o c3 e;exact⟨_,q,rfl⟩
  .exact⟨o,keep b o c1 c2 c3 e,rfl⟩
def Tb(H:Hp)(n:Nat)(x:Addr)(h:Heap):Prop :=
 ∃o vs T oT ts,h.get? x=some o/\o.data = .fields vs/\vs[1]?=some (.ref T)/\T≠x/\n<=T/\H T=none/\h.get? T=some oT/\oT.data = .fields ts/\3<ts.size
theorem Tb.fl{H:Hp}{n:Nat}{x:Addr}{h:Heap}(t:Tb H n x h):Fl H n x h:=by
 obtain⟨o,vs,T,oT,ts,e,hd,h1,r⟩:=t;exact⟨o,vs,e,hd,(Array.getElem?_eq_some_iff.mp h1).1,.inr ⟨T,oT,ts,h1,r⟩⟩
theorem Ur{o:Obj}{vs:Array Value}(f:Array Value->Array Value)(e:o.data = .fields vs):Obj.mapFields f o ={ o with data:=.fields (f vs) }:=by
 obtain⟨a,b,c,d⟩:=o;have e:c = .fields vs:=e;subst e;rfl
section
variable{M:Model}{A:Around}{E:Value->Shared->Prop}{Q:Unit->Shared->Prop}
theorem RX.entry(r:RX P w base fs env outer H0 s0 x C d H s)(hfr:A.frames=some (env::outer)){L:Addr}(hf:env.frame=some L){head:Value}{hadNext:Bool}
  (h:∀h',RX P w base fs env outer H0 s0 x C d H { s with heap:=h' }->Tb H s0.heap.objs.size x h'->Q () { s with heap:=h' }) :
  wpAny M A (do let a <-frameOf env;let pl <-entryPlaceOf L hadNext;let b <-EntryCells.newEntry head a .none (rawInt L) .none pl;setField (.ref x) 1 b) Q E s:=by
 obtain⟨o,vs,he,hd,hsz,_⟩:=id r.fl;have nfr:∀b,b∈frs (env::outer)->b≠x:=fun b hb z=>by
  have:=r.frf b hb;rw[z,r.hx]at this;cases this
 refine AA (wpAny_frameOf_fun hfr r.funs hf fun h₁ hs₁=>?_);refine AA (wpAny_entryPlaceOf fun pl hpl=>?_);unfold EntryCells.newEntry newFields;refine AA (EI ?_ (hpl.sizeOk5 _ _ _ _ _));have he₁:h₁.get? x=some o:=(hs₁.2.1 x fun hm=>nfr x hm rfl).trans he;have ht5:3 <([head,Value.ref L,.none,rawInt L,.none] ++(if pl.isEmpty then List.replicate 6 Value.none else pl)).toArray.size:=by
  simp only[AO,BF,BO,List.length_nil];omega
 generalize ([head,Value.ref L,.none,rawInt L,.none] ++(if pl.isEmpty then List.replicate 6 Value.none else pl)).toArray=ts at ht5;have he₂:=AC (h:=h₁) { cls:=.type "traceback",dict:=none,data:=.fields ts } he₁;have hTx:h₁.objs.size≠x:=Nat.ne_of_gt (AF he₁);have hT₃:=(BJ (h₁.push { cls:=.type "traceback",dict:=none,data:=.fields ts }) (Obj.mapFields (·.setIfInBounds 1 (Value.ref h₁.objs.size))) (Ne.symm hTx)).trans (AZ h₁ rfl);have he₃:=CF (Obj.mapFields (·.setIfInBounds 1 (Value.ref h₁.objs.size))) he₂ (Obj.isFreed_of_fields (Obj.data_mapFields hd _));rw[Ur _ hd]at he₃;have tb:Tb H s0.heap.objs.size x ((h₁.push { cls:=.type "traceback",dict:=none,data:=.fields ts }).update x (Obj.mapFields (·.setIfInBounds 1 (Value.ref h₁.objs.size)))) :=
  ⟨_,_,h₁.objs.size,_,ts,he₃,rfl,by simp[hsz],hTx,Nat.le_trans r.nx (CS (AF he₁)),r.hok.fresh (by rw[hs₁.1];exact Nat.le_refl _),hT₃,rfl,ht5⟩
 refine wpAny_setField he₂ hd hsz (h _ (r.chg (TT:=[]) (fun _ z=>nomatch z) (fun b o' hb _ hb' q=>?_) (fun b o' hb q=>?_) (fun _ z=>nomatch z) (fun o' q=>?_) tb.fl) tb)
 .rw[BJ _ _ (Ne.symm hb)];exact AC _ ((hs₁.2.1 b hb').trans q)
 .obtain⟨sl,q'⟩:=hs₁.2.2 b o' q;refine⟨sl,?_⟩;rw[BJ _ _ (Ne.symm (nfr b hb))];exact AC _ q'
 .rw[he]at q;cases q;exact⟨_,he₃⟩
theorem RX.setT(r:RX P w base fs env outer H0 s0 x C d H s){o oT:Obj}{vs ts:Array Value}{T:Addr}{v:Value}(he:s.heap.get? x=some o)(hd:o.data = .fields vs)(h1:vs[1]?=some (.ref T))(hT:T≠x)(hn:s0.heap.objs.size<=T)(hH:H T=none)(e:s.heap.get? T=some oT)(hdT:oT.data = .fields ts)(h3:3<ts.size)
  (h:∀h',RX P w base fs env outer H0 s0 x C d H { s with heap:=h' }->Tb H s0.heap.objs.size x h'->Q () { s with heap:=h' }):wpAny M A (setField (.ref T) 3 v) Q E s:=by
 have he':=(BJ s.heap (Obj.mapFields (·.setIfInBounds 3 v)) hT).trans he;have hT':=CF (Obj.mapFields (·.setIfInBounds 3 v)) e (Obj.isFreed_of_fields (Obj.data_mapFields hdT _));have tb:Tb H s0.heap.objs.size x (s.heap.update T (Obj.mapFields (·.setIfInBounds 3 v))):=⟨o,vs,T,_,_,he',hd,h1,hT,hn,hH,hT',Obj.data_mapFields hdT _,by simpa using h3⟩;refine wpAny_setField e hdT h3 (h _ (r.chg (TT:=[T]) (fun b z=>?_) (fun b o' hb hb' _ q=>?_) (fun b o' hb q=>?_) (fun b z=>?_) (fun o' q=>?_) tb.fl) tb)
 .rw[AE.mp z];exact⟨hH,hn,_,_,e,hdT⟩
 .rw[BJ _ _ (fun z=>hb' (by rw[z];exact AE.mpr rfl))];exact q
 .refine⟨o'.slots,?_⟩;rw[BJ _ _ (fun z=>by
   obtain⟨_,o2,ho,hnf⟩:=r.funs.mem hb;rw[<-z,e]at ho;cases ho;exact hnf _ hdT)]
  exact q
 .rw[AE.mp z];exact⟨_,hT'⟩
 .rw[he]at q;cases q;exact⟨vs,by rw[he',<-hd]⟩
theorem RX.note(r:RX P w base fs env outer H0 s0 x C d H s)(hfr:A.frames=some (env::outer))
  (h:∀h',RX P w base fs env outer H0 s0 x C d H { s with heap:=h' }->Tb H s0.heap.objs.size x h'->Q () { s with heap:=h' }):wpAny M A (noteFrame (.ref x) env) Q E s:=by
 obtain⟨L,hf⟩:=r.loc;obtain⟨o,vs,he,hd,hsz,c⟩:=id r.fl;unfold noteFrame;simp only[hf];rcases c with h1 | ⟨T,oT,ts,h1,hT,hn,hH,e,hdT,h3⟩
 .refine AA (B_ he hd h1 ?_);rw[AU (by decide)];exact r.entry hfr hf h
 .refine AA (B_ he hd h1 ?_);rw[BB (show(Value.ref T != Value.none)=true from by simp)];refine AA (B_ e hdT (ES h3) ?_);split
  .exact AD (h s.heap r ⟨o,vs,T,oT,ts,he,hd,h1,hT,hn,hH,e,hdT,h3⟩)
  .refine AA (r.setT he hd h1 hT hn hH e hdT h3 fun h' r' _=>?_);exact r'.entry hfr hf h
theorem RX.flight(r:RX P w base fs env outer H0 s0 x C d H s){fr:Option Addr}
  (h:∀h',RX P w base fs env outer H0 s0 x C d H { s with heap:=h' }->(Tb H s0.heap.objs.size x s.heap->Tb H s0.heap.objs.size x h')->Q () { s with heap:=h' }):wpAny M A (setFlight (.ref x) fr) Q E s:=by
 obtain⟨o,vs,he,hd,hsz,c⟩:=id r.fl;unfold setFlight;rcases c with h1 | ⟨T,oT,ts,h1,hT,hn,hH,e,hdT,h3⟩
 .refine AA (B_ he hd h1 ?_);rw[AU (by decide)];exact AD (h s.heap r id)
 .refine AA (B_ he hd h1 ?_);rw[BB (show(Value.ref T != Value.none)=true from by simp)];exact r.setT he hd h1 hT hn hH e hdT h3 fun h' r' t'=>h h' r' fun _=>t'
theorem RX.leave(r:RX P w base fs env outer H0 s0 x C d H s)(hfr:A.frames=some (env::outer))
  (h:∀h',RX P w base fs env outer H0 s0 x C d H { s with heap:=h' }->Tb H s0.heap.objs.size x h'->Q () { s with heap:=h' }):wpAny M A (leaving env (.ref x)) Q E s:=by
 unfold leaving;exact AA (r.note hfr fun h' r' t'=>r'.flight fun h2 r2 t2=>h h2 r2 (t2 t'))
end
end
def CXe(P:Program)(w:World):CXT:=fun outer H s E e s' =>
 ∃x C d H',e = .ref x/\s'.os=s.os/\AllBare s'.gens/\Un (frs outer) [] H H' s.heap s'.heap/\HOk P w H' s'.heap/\H' x=some (XO x C d)/\s.heap.objs.size<=x/\Tb H' s.heap.objs.size x s'.heap/\E (.ref C) d H'
def XE(X:Cx)(E:XK):Value->Shared->Prop:=fun e s'=>∃x C d H',e = .ref x/\RX X.prog X.w X.base X.outer X.env X.outer X.H₀ X.s₀ x C d H' s'/\E (.ref C) d H'
section
variable{prog:Program}{w:World}{A:Around}{E:Value->Shared->Prop}{h:Heap}{g:Array GenState}{d:Drawn}{t:Nat}{os:OsState}
variable{nm q:Str}{C N:Addr}{bs bm bmB:List Value}{hdct:Bool}{sn:List Str}{sub:List Value}{ab:Bool}{col:Option Bool}{dd:Option Addr}{k0 k1 k2 k3 k5:Option Value}{B newId initId:String}
abbrev exObj(C t:Addr):Obj:={ cls:=.ref C,data:=.fields #[.ref t,.none,.none,.none,.bool false,.none] }
abbrev exHeap(h:Heap)(C:Addr)(rest:List Value):Heap:=(h.push { cls:=.type "tuple",data:=.seq rest.toArray }).push (exObj C h.objs.size)
end
def XN(x C:Addr)(d:Option Addr):HO:=.ext fun h=>∃vs sl,h.get? x=some ⟨.ref C,d,.fields vs,sl⟩/\vs[1]?=some .none
theorem XN.ok{P:Program}{w:World}{H:Hp}{h:Heap}{x C:Addr}{d:Option Addr}{vs:Array Value}{sl:Array (Option Value)}(e:h.get? x=some ⟨.ref C,d,.fields vs,sl⟩)(h1:vs[1]?=some .none):ObjOk P w H h x (XN x C d) :=
 ⟨⟨vs,sl,e,h1⟩,⟨_,e⟩,fun h1 h2 ⟨vs,sl,e,r⟩ k=>⟨vs,sl,k _ e,r⟩⟩
section
variable{M:Model}{A:Around}{E:Value->Shared->Prop}{env:Env}
variable{nm q:Str}{C N:Addr}{bs bm:List Value}{hdct:Bool}{sn:List Str}{sub:List Value}{ab:Bool}{col:Option Bool}{dd:Option Addr}{k0 k1 k2 k3 k5:Option Value}{newId:String}
theorem Jn{s:Shared}{x:Sem Value}{Q:Flow->Shared->Prop}(hbase:bm.contains (.type "BaseException")=true)(hh:A.handled=none)
  (h:wpAny M A x (fun v s₁=>∃e dct vs sl,v = .ref e/\s₁.heap.get? C=some (excClassObj nm q C N bs bm hdct sn sub ab col dd k0 k1 k2 k3 k5 newId) /\
   s₁.heap.get? e=some ⟨.ref C,dct,.fields vs,sl⟩/\vs[1]?=some .none/\E (.ref e) s₁) E s) :
  wpAny M A (raiseStmt env (some x) none) Q E s:=by
 have hcB:(Value.ref C::bm).contains (.type "BaseException")=true:=by rw[List.contains_cons,hbase,Bool.or_true]
 unfold raiseStmt;refine AA (BP h (fun v s₁ h₁=>?_) fun _ _ x=>x);obtain⟨e,dct,vs,sl,rfl,hC,he,h1,hE⟩:=h₁;obtain⟨hp,g,d,tk,os⟩:=s₁
 repeat (first | with_reducible refine C_ he ?_ | with_reducible refine C_ hC ?_ | (with_reducible refine EV hC ?_;rw[hcB]) | with_reducible refine B_ he rfl h1 ?_ | wp_step)
 exact wpAny_raiseNew_none hh hE
end
structure XC(K:PySem.W.Frag)(C:Addr)(bm:List Value):Prop where
 obj:∃nm q N bs hdct sn sub ab col dd k0 k1 k2 k3 k5,K.lookup C=some (excClassObj nm q C N bs bm hdct sn sub ab col dd k0 k1 k2 k3 k5 "ValueError.__new__")
 tail:PySem.W.tailIn K [.type "ValueError",.type "Exception",.type "BaseException",.type "object"] bm=true
 kp:PySem.W.keepIn K (.ref C)=true
 sa:PySem.W.findIn K (.ref C) "__setattr__" = some (some (.builtin "object.__setattr__"))
 hd:PySem.W.hasDictIn K C=true
theorem XC.base{K:PySem.W.Frag}{C:Addr}{bm:List Value}(c:XC K C bm){h:Heap}(X:K.In h):bm.contains (.type "BaseException")=true:=(PySem.W.tail_of_in X c.tail).hasType rfl
structure BX(X:Cx)(E:XK):Prop where
 xe:X.xe=XE X E
 st:X.stack=X.env::X.outer
 fr:X.env.frame=some X.env.locals
 ex:X.ex = []
 calm:X.calm=true
section
variable{X:Cx}{pins:List (Addr×Obj)}{σ:St}{H:Hp}{s:Shared}{x C:Addr}{E:XK}
theorem Inv.rx{d:Option Addr}(I:Inv X pins σ H s)(b:BX X E)(hx:H x=some (XO x C d))(nx:X.s₀.heap.objs.size<=x)(fl:Fl H X.s₀.heap.objs.size x s.heap):RX X.prog X.w X.base X.outer X.env X.outer X.H₀ X.s₀ x C d H s:=by
 refine⟨I.os,I.bare,by have:=I.base;rw[b.ex]at this;exact this,I.hok,I.ok.bsz,I.bs,by have:=I.stack;rw[b.st]at this;exact this,by have:=I.stkFree;rw[b.st]at this;exact this,⟨_,b.fr⟩,fun c o e hc z=>?_,fun c hc=>?_,hx,nx,fl⟩
 .unfold frs at z hc;rw[DA,b.fr]at z;rcases AN.mp z with q | q
  .exact absurd (AF e) (by rw[q];exact Nat.not_lt.mpr I.ok.above)
  .exact hc q
 .unfold frs at hc⊢;rw[DA,b.fr];exact AY _ hc
theorem Tb.mono{n m:Nat}{h:Heap}(t:Tb H n x h)(k:m<=n):Tb H m x h:=by
 obtain⟨o,vs,T,oT,ts,e,hd,h1,h2,h3,r⟩:=t;exact⟨o,vs,T,oT,ts,e,hd,h1,h2,Nat.le_trans k h3,r⟩
theorem BX.passes(b:BX X E):m8 (CXe X.prog X.w) X E:=by
 rintro pins σ H s e s' I ⟨x,C,d,H',rfl,os,bare,un,hok,hx,nx,tb,q⟩;have I':=I.call' os un hok bare (fun b z=>absurd z (by simp));rw[b.xe];exact⟨x,C,d,H',rfl,I'.rx b hx (Nat.le_trans I.sz nx) (tb.mono I.sz).fl,q⟩
end
section
variable{X:Cx}{C f:Addr}{fd:FuncData}{ps:List Str}{sp:Sp}{E:XK}{bm:List Value}{k:Nat}{n:Str}{p pos cpos:Pos}{e:Expr}{es:List Expr}{t:TA}
theorem BX.made{pins:List (Addr×Obj)}{σ:St}{H:Hp}{s:Shared}{x:Addr}{d:Option Addr}(b:BX X E)(I:Inv X pins σ H s)(hx:H x=some (XN x C d))(nx:X.s₀.heap.objs.size<=x)(q:E (.ref C) d (upd H x (XO x C d))) :
  ∃vs sl,s.heap.get? x=some ⟨.ref C,d,.fields vs,sl⟩/\vs[1]?=some .none/\X.xe (.ref x) s:=by
 obtain⟨vs,sl,ex,h1⟩:∃vs sl,s.heap.get? x=some ⟨.ref C,d,.fields vs,sl⟩/\vs[1]?=some .none:=(I.hok x _ hx).1;refine⟨vs,sl,ex,h1,?_⟩;have I4:Inv X pins σ (upd H x (XO x C d)) s:=I.write (x:=x) (e:=x) (h':=s.heap) (t':=s.toks) (by rw[hx];exact True.intro) (.inl rfl) (fun _ _ _ z=>z) ⟨_,ex⟩ (XO.ok ex rfl rfl rfl);rw[b.xe];exact⟨x,C,d,_,rfl,I4.rx b A7 nx ⟨_,vs,ex,rfl,(Array.getElem?_eq_some_iff.mp h1).1,.inl h1⟩,q⟩
end
section
variable{P:Program}{w:World}{K:PySem.W.Frag}{mg:Str->Option Value}{base:Heap}
abbrev cxE(P:Program)(w:World)(K:PySem.W.Frag)(mg:Str->Option Value)(base:Heap)(N:List Str)(qual:Str)(scope:Scope)(f:Addr)(cd:Value)(A:Around)(outer:List Env)(s:Shared)(H:Hp)(E:XK):Cx :=
 (Lj (CXe P w) P w K mg base N qual scope f cd A outer s H E).wish (XE (Lj (CXe P w) P w K mg base N qual scope f cd A outer s H E) E)
theorem cxE.bx{N:List Str}{qual:Str}{scope:Scope}{f:Addr}{cd:Value}{A:Around}{outer:List Env}{s:Shared}{H:Hp}{E:XK}:BX (cxE P w K mg base N qual scope f cd A outer s H E) E:=⟨rfl,rfl,rfl,rfl,rfl⟩
theorem PSs.wishI{X:Cx}{E:Value->Shared->Prop}{st:List Stmt}{t:TS}(k:X.A.frames=some X.stack->∀e s,E e s->X.xe e s)(h:PSs (X.wish E) st t):PSs X st t:=fun pins s σ H D I hw =>
 BP (h pins s σ H D (I.wish _) hw) (fun _ _ q=>q.unwish) (k I.ok.frames)
theorem Fun.okE{x qual:Str}{st:Stmt}{f:Addr}{fd:FuncData}{N ps:List Str}{k:Nat}{sp:Sp}(F:Fun K x qual st f fd)(S:FnScope N ps (B3 st))(len:∀vs H Q E,sp vs H Q E->vs.length=ps.length)
  (hbody:∀(cdv:Value) (A:Around) (outer:List Env) (s:Shared) (H:Hp) (vs:List V) (Q:VK) (E:XK),Room k (A.deeper (envOfC qual (B3 st) s.heap.objs.size f cdv))->sp vs H Q E ->
   ∃t,PSs (cxE P w K mg base N qual (B3 st) f cdv A outer s H E) (F9 st) t/\t { nx:=fun _ H'=>Q .non H',rt:=Q } (i0 N vs) H):FnOk P w K mg base (CXe P w) (k+1) f fd ps sp:=by
 obtain⟨oc,od,kV,doc,pm,an,cdv,ct,osl,rfl,lk,hcd⟩:=F.ex;refine Ol lk hcd S len fun A outer s H vs Q E hr hsp=>?_;obtain⟨t,h,q⟩:=hbody cdv A outer s H vs Q E hr hsp;refine⟨t,h.wishI fun hf e s' z=>?_,q⟩;obtain⟨x,C,d,H',rfl,r,q⟩:=z;exact RX.leave r hf fun h' r' t'=>⟨x,C,d,H',rfl,r'.os,r'.bare,r'.un,r'.hok,r'.hx,r'.nx,t',q⟩
end
def PEx(X:Cx)(e:Expr)(t:XK->TE):Prop:=∀(pins:List (Addr×Obj)) (s:Shared) (σ:St) (H:Hp) (Q:VK) (E:XK),Inv X pins σ H s->t E σ H Q ->
 wpAny (model X.prog X.w) X.A (eval e X.env) (EP X pins σ Q) (fun ev s'=>∃s1 H1,Inv X pins σ H1 s1/\CXe X.prog X.w X.stack H1 s1 E ev s') s
section
variable{X:Cx}{pins:List (Addr×Obj)}{σ:St}{H:Hp}{s:Shared}
theorem Q8{M:Model}{A:Around}{E:Value->Shared->Prop}{i:Nat}{x:Str}{pos:Pos}{Q:Unit->Shared->Prop}(I:Inv X pins σ H s)(hN:X.N.Nodup)(hi:X.N[i]?=some x)(hx:X.env.scope.names.lookup x=some .local)
  (h:∀s',Inv X pins (σ.set i none) H s'->Q () s'):wpAny M A (do bindName X.env x .none;unbindBehindTheSuite X.env x pos) Q E s:=by
 obtain⟨m,hn,hl⟩:=id I.loc;have hcls:(X.env.scope.kind == .class||(X.env.scope.kind == .module&&X.env.locals != X.env.globals))=false:=by rw[I.ok.kind];rfl
 have cne:=I.cne;refine wpAny_nameGoes_keeps hx hn hcls fun h' v hn' hs=>?_;obtain⟨oL,_,_,hoL,_⟩:=id hn;have nL:∀b o,X.s₀.heap.get? b=some o->b≠X.env.locals:=fun b o e=>AQ (BG (AF e) I.ok.above);have tracked:HOk X.prog X.w H h':=fun b ob e=>by
  refine(I.hok b ob e).stay (fun c w' hc q=>(hs.2 c ?_).trans q) (fun _ q=>q) fun _ _ q=>q;rintro rfl;rcases hc with rfl | hc
  .rw[I.free]at e;cases e
  .rw[I.free]at hc;cases hc
 refine h _ ⟨I.ok,I.os,I.bare,⟨fun b o e n hb hx=>?_,fun b o e n hb hx=>?_,I.base.free,fun b o e hx=>?_,I.base.tups,I.base.frzs,I.base.tbls⟩,⟨_,hn',fun j y v' e1 e2 e3=>?_⟩,fun y c e=>?_,I.free,I.freeC,fun p hp=>?_,tracked,by simpa using I.len⟩
 .exact(hs.2 b (nL b o e)).trans (I.base.keep b o e n hb hx)
 .obtain⟨sl,e1⟩:=I.base.slot b o e n hb hx;exact⟨sl,(hs.2 b (nL b o e)).trans e1⟩
 .obtain⟨o',e1⟩:=I.base.there b o e hx;exact⟨o',(hs.2 b (nL b o e)).trans e1⟩
 .have hj:j≠i:=fun z=>by
   rw[z,List.getElem?_set]at e2;split at e2
   .split at e2<;>cases e2
   .rename_i q;exact q rfl
  rw[List.getElem?_set_ne (Ne.symm hj)]at e2;obtain⟨u',r',q⟩:=hl j y v' e1 e2 e3;refine⟨u',r',?_⟩;rcases q with⟨k,e⟩ | ⟨k,c,e,z⟩
  .refine .inl ⟨k,?_⟩;have:y≠x:=fun e=>hj (Aj hN e1 (e▸hi));simp[this,e]
  .exact .inr ⟨k,c,e,z.sameBut hs (cne y c e)⟩
 .obtain⟨w',z⟩:=I.cell y c e;exact⟨w',z.sameBut hs (cne y c e)⟩
 .obtain⟨e,n,ne,nf,d⟩:=I.pin p hp;exact⟨(hs.2 p.1 ne).trans e,n,ne,nf,d⟩
end
section
variable{M:Model}{A:Around}{E:Value->Shared->Prop}{h:Heap}{g:Array GenState}{dn:Drawn}{tk:Nat}{os:OsState}
variable{nm q nm' q':Str}{C N S N':Addr}{bs bm bs' bm':List Value}{hdct hdct':Bool}{sn sn':List Str}{sub sub':List Value}{ab ab':Bool}{col col':Option Bool}{dd dd':Option Addr}{k0 k1 k2 k3 k5 j0 j1 j2 j3 j5:Option Value}{newId newId':String}
theorem Vp{e:Addr}{oe:Obj}{Q:Bool->Shared->Prop}(hC:h.get? C=some (excClassObj nm q C N bs bm hdct sn sub ab col dd k0 k1 k2 k3 k5 newId))(hS:h.get? S=some (excClassObj nm' q' S N' bs' bm' hdct' sn' sub' ab' col' dd' j0 j1 j2 j3 j5 newId'))(he:h.get? e=some oe)(hcls:oe.cls = .ref C)
  (hb:bm'.contains (.type "BaseException")=true) (hc:(Value.ref C::bm).contains (.ref S)=true) (hq:Q true ⟨h,g,dn,tk,os⟩):wpAny M A (excMatches (.ref e) (.ref S)) Q E ⟨h,g,dn,tk,os⟩:=by
 have hcB:(Value.ref S::bm').contains (.type "BaseException")=true:=by rw[List.contains_cons,hb,Bool.or_true]
 have f:=tc_notTuple;unfold excMatches
 repeat (first | (with_reducible refine C_ he ?_;rw[hcls]) | with_reducible refine C_ hS ?_ | with_reducible refine C_ hC ?_ | (with_reducible refine EV hS ?_;rw[hcB]) | (with_reducible refine EV hC ?_;rw[hc]) | wp_step)
 exact hq
end
abbrev Xm(X:Cx)(ev:Value):Cx:={ X with A:=X.A.mark (some ev),calm:=false }
section
variable{X:Cx}{pins:List (Addr×Obj)}{σ:St}{H:Hp}{s:Shared}{ev:Value}
theorem Inv.mark(I:Inv X pins σ H s)(ev:Value):Inv (Xm X ev) pins σ H s :=
 ⟨⟨I.ok.mod,I.ok.kind,I.ok.glob,I.ok.blt,I.ok.above,I.ok.inj,I.ok.has,I.ok.cab,fun z=>absurd z (by simp),I.ok.frames,I.ok.stk,I.ok.exf,I.ok.bs,I.ok.bsz,I.ok.noex,I.ok.exfs,I.ok.funs,I.ok.frf⟩,I.os,I.bare,I.base,I.loc,I.cell,I.free,I.freeC,I.pin,I.hok,I.len⟩
theorem Inv.unmark(ok:X.Ok)(I:Inv (Xm X ev) pins σ H s):Inv X pins σ H s:=⟨ok,I.os,I.bare,I.base,I.loc,I.cell,I.free,I.freeC,I.pin,I.hok,I.len⟩
end
def Dh(i:Nat)(D:Ends):Ends:={ nx:=fun σ H=>D.nx (σ.set i none) H,rt:=D.rt,bk:=fun σ H=>D.bk (σ.set i none) H,ct:=fun σ H=>D.ct (σ.set i none) H }
structure XG(K:PySem.W.Frag)(C:Addr):Prop where
 ga:PySem.W.findIn K (.ref C) "__getattribute__" = some (some (.builtin "BaseException.__getattribute__"))
 gn:PySem.W.findIn K (.ref C) "__getattr__" = some none
 mb:PySem.W.mroIn K C (.type "BaseException")=some true
 hd:PySem.W.hasDictIn K C=true
section
variable{prog:Program}{w:World}{A:Around}{E:Value->Shared->Prop}{s:Shared}{K:PySem.W.Frag}{x C:Addr}{ox:Obj}{od:Option Obj}{name:Str}
theorem Ix{M:Model}{nameV:Value}{Q:Unit->Shared->Prop}(X:K.In s.heap)(I:PySem.W.InstAt s.heap x ox C od)(c:XG K C)(hq:Q () s):wpAny M A (checkBuiltinCall "BaseException.__getattribute__" ⟨[.ref x,nameV],[]⟩) Q E s:=by
 have hk:builtinKind "BaseException.__getattribute__" = some .slot:=by decide +kernel
 have hsplit:splitId "BaseException.__getattribute__" = some ("BaseException", "__getattribute__"):=by decide +kernel
 have ha:=PySem.F.args_bexc_ga (.ref x) nameV;have L0:=I.type (M:=M);have L1:=PySem.W.looks_mroIn (M:=M) X c.mb;obtain⟨h,g,d,t,os⟩:=s;simp only[checkBuiltinCall,hk,hsplit];refine AA ?_;unfold isInstance;refine AA (L0.at (L1.at ?_))
 repeat (any_goals (first | assumption | wp_step))
theorem Ib{tk:Tok}{R:Result->Shared->Prop}(X:K.In s.heap)(I:PySem.W.InstAt s.heap x ox C od)(c:XG K C)
  (h:wpAny (model prog w) A.in1 (Builtin.«object.__getattribute__» ⟨[.ref x,.str name tk],[]⟩) (fun fin s'=>match fin with | .done f=>R (.ok f) s' | .again c'=>c'.quiet=true/\codeAny (model prog w) A c' R s') (fun e s'=>R (.error e) s') s) :
  codeAny (model prog w) A (.call (.builtin "BaseException.__getattribute__") ⟨[.ref x,.str name tk],[]⟩) R s :=
 EO PySem.F.attrBase_ValueError.ga.plain PySem.F.entry_bexc_ga (Ix X I c h)
theorem Oj{tk:Tok}{fill expr:Bool}{Q:Value->Shared->Prop}(X:K.In s.heap)(I:PySem.W.InstAt s.heap x ox C od)(c:XG K C)
  (h:codeAny (model prog w) A (.call (.builtin "BaseException.__getattribute__") ⟨[.ref x,.str name tk],[]⟩) (fun r s'=>match r with | .ok (.ret v)=>wpAny (model prog w) A (handedOut v) Q E s' | _=>False) s) :
  wpAny (model prog w) A (getAttrBy (.ref x) (.str name tk) fill expr) Q E s:=by
 have L0:=I.type (M:=model prog w);have L1:=PySem.W.looks_findIn (M:=model prog w) X c.ga;have L2:=PySem.W.looks_findIn (M:=model prog w) X c.gn;have f3:=PySem.F.attrBase_ValueError.ga.bind (.ref x);have hx0:(expr&&onTheHeap (Value.builtin "BaseException.__getattribute__"))=false:=by cases expr<;>rfl
 obtain⟨hh,g,d,t,os⟩:=s;unfold getAttrBy;refine BT (AA (L0.at (AA (L1.at ?_))));show wpAny _ _ (getAttrByItsOwn _ _ _ _ _ _) _ _ _;unfold getAttrByItsOwn;refine AA ?_;unfold hookBefore;rw[BB (show onTheHeap (Value.ref C)=true from rfl)];refine L2.at ?_;unfold callGetattribute;rw[hx0,AU (by decide)];unfold boundAndCalled;refine AA (FO (BT ?_));rw[f3];refine AA (AD ?_);refine EC (DV h fun r s' z=>?_);cases r with
 | error e=>exact False.elim z
 | ok f =>
  cases f with
  | ret v=>exact z
  | next=>exact False.elim z
  | brk=>exact False.elim z
  | cont=>exact False.elim z
end
theorem Eb:∀{cs:List Addr} {us:List Value},Vals (cs.map V.ref) us->us=cs.map Value.ref
 | [],_,.nil=>rfl
 | _::_,_,.cons r t=>by rw[BQ,Eb t];cases r;rfl
theorem xc_mk{K:PySem.W.Frag}{nm q:Str}{C N:Addr}{bs bm:List Value}{hdct:Bool}{sn:List Str}{sub:List Value}{ab:Bool}{col:Option Bool}{dd:Option Addr}{k0 k1 k2 k3 k5:Option Value}
  (l:K.lookup C=some (excClassObj nm q C N bs bm hdct sn sub ab col dd k0 k1 k2 k3 k5 "ValueError.__new__")) (t:PySem.W.tailIn K [.type "ValueError",.type "Exception",.type "BaseException",.type "object"] bm=true) (k:PySem.W.keepIn K (.ref C)=true)
  (s:PySem.W.findIn K (.ref C) "__setattr__" = some (some (.builtin "object.__setattr__"))) (d:PySem.W.hasDictIn K C=true):XC K C bm:=⟨⟨_,_,_,_,_,_,_,_,_,_,_,_,_,_,_,l⟩,t,k,s,d⟩
section
variable{X:Cx}{E:XK}
theorem Rn{x:Str}{st:Stmt}{ps:List Str}{k:Nat}{sp:Sp}{e:Expr}{es:List Expr}{t:TA}{p pos:Pos}(b:BX X E)(D:Fn X.K X.mg x st ps)(G:FnOk X.prog X.w X.K X.mg X.base (CXe X.prog X.w) k D.f D.fd ps sp)(hr:Room k X.A)(ha:PA X (e::es) t)
  (hg:Gl X x:=by rfl) (hdb:(x ==("__debug__":Str))=false:=by decide) (hs:starEach (e::es) X.env =(false,eval e X.env)::starEach es X.env:=by rfl) (hpl:(backTo pos (starEach es X.env)).any (·.1)=false:=by rfl) :
  PE X (.Call (.Name x p) (e::es) [] pos) (Kv sp [] E t):=Hq G hr hg D.m D.F.kp D.b .nil b.passes ha hdb hs hpl
theorem Ag:bootBuiltins "ValueError" = some (.type "ValueError"):=by decide +kernel
end
section
variable{prog:Program}{w:World}{A:Around}{E:Value->Shared->Prop}{h:Heap}{g:Array GenState}{d:Drawn}{t:Nat}{os:OsState}
variable{nm q:Str}{C N:Addr}{bs bm bmB:List Value}{hdct:Bool}{sn:List Str}{sub:List Value}{ab:Bool}{col:Option Bool}{dd:Option Addr}{k0 k1 k2 k3 k5:Option Value}{B newId initId:String}
theorem Iq{K:PySem.W.Frag}{rest:List Value}{Q:Fin->Shared->Prop}(F:ExcBaseFacts B newId initId bmB)(T:OwnTail h bmB bm)(X:K.In h)
  (hC:h.get? C=some (excClassObj nm q C N bs bm hdct sn sub ab col dd k0 k1 k2 k3 k5 newId)) (hi:PySem.W.findIn K (.ref C) "__init__" = some (some (.builtin initId)))
  (hrest:rest.length<=sizeLine) (hq:∀h',(∀b o,h.get? b=some o->h'.get? b=some o)->(∃tt,h'.get? (h.objs.size+1)=some { cls:=.ref C,data:=.fields #[.ref tt,.none,.none,.none,.bool false,.none] })->Q (.done (.ret (.ref (h.objs.size+1)))) ⟨h',g,d,t,os⟩) :
  wpAny (model prog w) A (Builtin.«type.__call__» ⟨.ref C::rest,[]⟩) Q E ⟨h,g,d,t,os⟩:=by
 have kp:∀b o,h.get? b=some o->(exHeap h C rest).get? b=some o:=fun b o e=>AC _ (AC _ e);have hC₁:(exHeap h C rest).get? C=some (excClassObj nm q C N bs bm hdct sn sub ab col dd k0 k1 k2 k3 k5 newId):=kp _ _ hC;have hget:(exHeap h C rest).get? (h.objs.size+1)=some (exObj C h.objs.size):=by unfold exHeap;heap_get
 have hcC:(Value.ref C::bm).contains (.ref C)=true:=by simp
 have X₁:K.In (exHeap h C rest):=X.keeps kp;have T₁:=T.keeps kp
 repeat (first | with_reducible refine C_ hC ?_ | with_reducible refine wpAny_madeBy_exc hC ?_ | wp_step)
 refine codeAny_call_builtin_code (Code.quiet_builtin _ F.quiet) (wpAny_check_new_subT F T hC (codeAny_exc_new_subT F T hC ?_ hrest));show wpAny _ _ _ _ _ ⟨exHeap h C rest,g,d,t,os⟩;have hM:∀h2,(∀b o,(exHeap h C rest).get? b=some o->b≠h.objs.size+1->h2.get? b=some o)->(∃tt,h2.get? (h.objs.size+1)=some { cls:=.ref C,data:=.fields #[.ref tt,.none,.none,.none,.bool false,.none] }) ->
   Q (.done (.ret (.ref (h.objs.size+1)))) ⟨h2,g,d,t,os⟩:=fun h2 k th=>hq h2 (fun b o e=>k b o (kp b o e) (fun z=>by rw[z]at e;exact absurd (AF e) (Nat.not_lt.mpr (BZ _)))) th
 have hsz:(exHeap h C rest).objs.size=h.objs.size+2:=by unfold exHeap;simp only[CH]
 generalize exHeap h C rest=h1 at hC₁ hget X₁ T₁ hM hsz⊢;unfold isInstance
 repeat (first | with_reducible refine C_ hget ?_ | (with_reducible refine EV hC₁ ?_;rw[hcC]) | wp_step)
 show wpAny _ _ (typeLookup (.ref C) _) _ _ _;refine PySem.W.Looks.here (s:=⟨h1,g,d,t,os⟩) (PySem.W.looks_findIn X₁ hi) ?_;refine BT (AA (wpAny_of_eq (F.init.bind _) ?_));refine AA (EC (EO F.init.plain F.initEntry (wpAny_check_init_subT F T₁ hC₁ hget rfl ?_)));wp_walk;refine hM _ (fun b o e hb=>?_) ⟨h.objs.size+2,?_⟩
 .rw[BJ _ _ (Ne.symm hb)];exact AC _ e
 .rw[CF _ (AC _ hget) rfl,hsz];rfl
theorem Jr{K:PySem.W.Frag}{rest:List Value}{Q:Value->Shared->Prop}(F:ExcBaseFacts B newId initId bmB)(T:OwnTail h bmB bm)(X:K.In h)
  (hC:h.get? C=some (excClassObj nm q C N bs bm hdct sn sub ab col dd k0 k1 k2 k3 k5 newId)) (hi:PySem.W.findIn K (.ref C) "__init__" = some (some (.builtin initId)))
  (hrest:rest.length<=sizeLine) (hq:∀h',(∀b o,h.get? b=some o->h'.get? b=some o)->(∃tt,h'.get? (h.objs.size+1)=some { cls:=.ref C,data:=.fields #[.ref tt,.none,.none,.none,.bool false,.none] })->Q (.ref (h.objs.size+1)) ⟨h',g,d,t,os⟩) :
  wpAny (model prog w) A (call (.ref C) rest) Q E ⟨h,g,d,t,os⟩:=by
 have f1:=tc_lookup;have f2:=tc_bind (.ref C);have hT:(⟨h,g,d,t,os⟩:Shared).TypeIs (.ref C) "type":=⟨_,hC,rfl⟩;refine EC (codeAny_of_tree ?_);show wpAny _ _ (callAny (.ref C) _) _ _ _
 repeat (any_goals (first | assumption | with_reducible refine C_ hC ?_ | wp_step))
 refine⟨rfl,?_⟩;exact codeAny_call_builtin_at (Code.quiet_builtin _ (by decide +kernel)) entry_typeCall (wpAny_check_type_call_sub hC (Iq F T X hC hi hrest hq))
end
def Mt(K:PySem.W.Frag)(C:Addr):Prop:=PySem.W.findIn K (.ref C) "__init__" = some (some (.builtin "ValueError.__init__"))
section
variable{X:Cx}{pins:List (Addr×Obj)}{σ:St}{H:Hp}{s:Shared}{C:Addr}{bm:List Value}{E:Value->Shared->Prop}
theorem Lg{us:List Value}{Q:Value->Shared->Prop}(c:XC X.K C bm)(ni:Mt X.K C)(I:Inv X pins σ H s)(hus:us.length<=sizeLine)(h:∀x s',H x=none->X.s₀.heap.objs.size<=x->Inv X pins σ (upd H x (XN x C none)) s'->Q (.ref x) s') :
  wpAny (model X.prog X.w) X.A (call (.ref C) us) Q E s:=by
 obtain⟨nm,q,N,bs,hdct,sn,sub,ab,col,dd,k0,k1,k2,k3,k5,hobj⟩:=c.obj;have sz:=I.sz;obtain⟨hp,g,dn,tk,os⟩:=s;refine Jr PySem.F.excBase_ValueError (PySem.W.tail_of_in I.kIn c.tail) I.kIn (I.kIn _ _ hobj) ni hus fun h' kp ⟨tt,he⟩=>?_;exact h _ _ (I.hok.fresh (BZ _)) (Nat.le_trans sz (BZ _)) (I.laid (t':=tk) kp (BZ _) (XN.ok he rfl))
end
def Nb(C:Addr)(E:XK)(t:TA):TS:=fun _ σ H=>t σ H fun vs H1=>vs.length<=sizeLine/\∀x,H1 x=none->E (.ref C) none (upd H1 x (XO x C none))
section
variable{X:Cx}{C f:Addr}{fd:FuncData}{ps:List Str}{sp:Sp}{E:XK}{bm:List Value}{k:Nat}{n:Str}{p pos cpos:Pos}{e:Expr}{es:List Expr}{t:TA}
theorem Ht(b:BX X E)(c:XC X.K C bm)(ni:Mt X.K C)(hg:Gl X n)(hm:X.mg n=some (.ref C))(ha:PA X (e::es) t)
  (hdb:(n ==("__debug__":Str))=false:=by decide) (he:starEach (e::es) X.env =(false,eval e X.env)::starEach es X.env:=by rfl) (hpl:(backTo cpos (starEach es X.env)).any (·.1)=false:=by rfl) :
  PS X (.Raise (some (.Call (.Name n p) (e::es) [] cpos)) none pos) (Nb C E t):=by
 intro pins s σ H D I h;obtain⟨nm,q,N,bs,hdct,sn,sub,ab,col,dd,k0,k1,k2,k3,k5,hobj⟩:=c.obj;have hh:X.A.handled=none:=I.ok.hd b.calm;rw[arm_exec_Raise];refine AA (DW (Jn (C:=C) (nm:=nm) (q:=q) (N:=N) (bs:=bs) (bm:=bm) (hdct:=hdct) (sn:=sn) (sub:=sub) (ab:=ab) (col:=col) (dd:=dd) (k0:=k0) (k1:=k1) (k2:=k2) (k3:=k3) (k5:=k5) (newId := "ValueError.__new__") (c.base I.kIn) hh (AA (BP ?_ (fun v s₃ h₃=>AA (DW (AD h₃))) fun _ _ x=>x))));refine CI (T0 I hg hm ?_ hdb);refine PySem.W.callWith_K (h₀:=X.base) I.ok.mod.kin c.kp (thn (ha cpos pins s σ H _ I h) fun us s1 ⟨vs,H1,I1,r,hl,q⟩=>⟨I1.kIn,?_⟩) he hpl;refine Lg (us:=us) c ni I1 (by rw[<-r.length];exact hl) fun x s2 hx nx I2=>?_;obtain⟨vs',sl,ex,h1,z⟩:=b.made (d:=none) I2 A7 nx (by rw[Pi];exact q x hx);exact⟨_,none,vs',sl,rfl,I2.kIn _ _ hobj,ex,h1,z⟩
end
section
variable{prog:Program}{w:World}{A:Around}{E:Value->Shared->Prop}{s:Shared}{K:PySem.W.Frag}{x C:Addr}{ox:Obj}{od:Option Obj}
theorem Cn{Q:Option Value->Shared->Prop}(X:K.In s.heap)(I:PySem.W.InstAt s.heap x ox C od)(c:XG K C)(i:IsC K C)(h:Q (some (.ref C)) { s with toks:=s.toks+1 }):wpAny (model prog w) A (getAttr? (.ref x) "__class__") Q E s:=by
 have hf:PySem.W.findObj K C od "__class__" = some (.bind (.builtin "getset_descriptor.__get__") (.builtin "object.__class__")):=by
  obtain⟨cd,hc,_⟩:=PySem.W.any_some c.hd;unfold PySem.W.findObj;rw[hc,Option.bind_some,i.ha,Option.bind_some];simp[i.hn,i.htk]
 unfold getAttr? getAttrBy?;refine AA (wpAny_mkText (AA (FO (Oj (s:={ s with toks:=s.toks+1 }) X I c (Ib (s:={ s with toks:=s.toks+1 }) X I c ?_)))));have L0:=I.type (M:=model prog w);have L1:=PySem.W.looks_find (M:=model prog w) X I hf;obtain⟨hh,g,d,t,os⟩:=s;refine AA (AD (AA (AD (AA (L0.at (AA (L1.at ?_)))))));dsimp only;unfold Builtin.ObjectAttr.bindTo;dsimp only;refine AA (BT (EC (PySem.W.class_get X I i.hm ?_)));exact AD (PySem.W.handed_on rfl (AD h))
end
theorem Cg{K:PySem.W.Frag}{x C:Addr}(c:XG K C)(i:IsC K C):PySem.W.KitX K (.ref x) (.ref C) (fun h=>∃ox od,PySem.W.InstAt h x ox C od) where
 ty:=fun _ _ _ ⟨_,_,I⟩=>I.type
 it:=fun _ _ X _=>by
  obtain⟨cdD,hcD,_⟩:=PySem.W.any_some c.hd;unfold PySem.W.clsIn at hcD;split at hcD
  .rename_i c' d' cd' sl' ho;intro A' Q' E' s' k q;unfold isType loadHead;exact AA (wpAny_loadPart (k _ _ (X _ _ ho)) (AD q))
  .cases hcD
 ne:=fun h tp dd its n sl X htp=>by
  obtain⟨cdD,hcD,_⟩:=PySem.W.any_some c.hd;refine DR.mpr fun q=>?_;have e:C=tp:=Value.ref.inj (beq_iff_eq.mp q);subst e;unfold PySem.W.clsIn at hcD;split at hcD
  .rename_i c' d' cd' sl' ho;have z:=(X _ _ ho).symm.trans htp;cases z
  .cases hcD
 ca:=fun X ⟨_,_,I⟩ k=>Cn X I c i k
section
variable{X:Cx}{pins:List (Addr×Obj)}{σ:St}{H:Hp}{s:Shared}{x C:Addr}
theorem Eo(I:Inv X pins σ H s)(e:H x=some (XO x C none)):∃ox od,PySem.W.InstAt s.heap x ox C od:=by
 obtain⟨o,vs,h1,h2,h3,h4⟩:∃o vs,s.heap.get? x=some o/\o.cls = .ref C/\o.dict=none/\o.data = .fields vs:=(I.hok x _ e).1;exact⟨o,none,⟨h1,h2,by unfold PySem.W.notCls;rw[h4],by rw[h3];trivial⟩⟩
end
def Si(K:PySem.W.Frag)(cv:V->Option Value):List V->Hp->VK->Prop:=fun xs H Q=>∃x C y c b,xs = [.ref x,y]/\cv y=some c/\H x=some (XO x C none)/\XG K C/\IsC K C/\PySem.W.kitOne K (.ref C) c=some b/\Q (.bl b) H
theorem Aq{X:Cx}(K:PySem.W.Frag)(hK:X.K=K:=by rfl):E3 X (.builtin "isinstance") (Si K fun y=>match y with | .ref a=>some (.ref a) | .ty n=>some (.type n) | _=>none):=by
 subst hK;intro pins s σ H xs us Q I r h;obtain⟨x,C,y,c,b,rfl,hc,e1,g,i,hk,q⟩:=h;obtain⟨u,v,rfl,ru,rv⟩:=r.two;cases(show u=Value.ref x from ru);have ev:v=c:=by
  cases y with
  | ref a=>cases hc;exact rv
  | ty n=>cases hc;cases rv;rfl
  | _=>cases hc
 subst ev;obtain⟨ox,od,J⟩:=Eo I e1;exact PySem.W.kia_one (Cg g i) I.kIn ⟨ox,od,J⟩ hk (fun z=>nomatch z) fun tk=>⟨.bl b,H,I.tok _,rfl,q⟩
theorem Fh{X:Cx}(K:PySem.W.Frag)(hK:X.K=K:=by rfl):E3 X (.builtin "isinstance") (fun xs H Q=>∃(x C:Addr) (p:Addr) (cs:List Addr) (b:Bool),xs = [.ref x,.ref p]/\H p=some (.tup (cs.map V.ref))/\H x=some (XO x C none)/\XG K C/\IsC K C/\PySem.W.kitAny K (.ref C) (cs.map Value.ref)=some b/\Q (.bl b) H):=by
 subst hK;intro pins s σ H xs us Q I r h;obtain⟨x,C,p,cs,b,rfl,hp,e1,g,i,hk,q⟩:=h;obtain⟨u,v,rfl,ru,rv⟩:=r.two;cases(show u=Value.ref x from ru);cases(show v=Value.ref p from rv);obtain⟨its,rv,pl,hz⟩:=I.tuple (SqT.of hp);rw[Eb rv]at pl;obtain⟨⟨oc,od',odt,osl⟩,ho,hc,n,hd⟩:=pl;cases hc;cases hd;obtain⟨ox,od,J⟩:=Eo I e1;exact PySem.W.kia_tup (Cg g i) I.kIn ⟨ox,od,J⟩ ho hk (fun z=>nomatch z) fun tk=>⟨.bl b,H,I.tok _,rfl,q⟩
def PSx(X:Cx)(st:List Stmt)(t:XK->TS):Prop:=∀(pins:List (Addr×Obj)) (s:Shared) (σ:St) (H:Hp) (D:Ends) (E:XK),Inv X pins σ H s->t E D σ H ->
 wpAny (model X.prog X.w) X.A (execs st X.env) (SP X pins D) (fun ev s'=>∃s1 H1,Inv X pins σ H1 s1/\CXe X.prog X.w X.stack H1 s1 E ev s') s
def Tj(K:PySem.W.Frag)(S:Addr)(i:Nat)(t:XK->TS)(th:TS):TS:=fun D σ H =>
 t (fun Cv d H'=>∃C bm,Cv = .ref C/\XC K C bm/\(Value.ref C::bm).contains (.ref S)=true/\∀x,H' x=some (XO x C d)->th (Dh i D) (σ.set i (some (.ref x))) H') D σ H
theorem Nk{X:Cx}{S:Addr}{bmS:List Value}{i:Nat}{n c:Str}{cp hp pos:Pos}{b₀:Stmt}{tb body:List Stmt}{t:XK->TS}{th:TS}(nox:∀e s,¬X.xe e s)(st:X.stack=X.env::X.outer)(fr:X.env.frame=some X.env.locals)(hN:X.N.Nodup)(hi:X.N[i]?=some n)(hloc:X.env.scope.names.lookup n=some .local)
  (hg:Gl X c) (hm:X.mg c=some (.ref S)) (cS:XC X.K S bmS) (he:PSx X tb t) (hh:∀ev,PSs (Xm X ev) (b₀::body) th) (hdb:(c ==("__debug__":Str))=false:=by decide) :
  PS X (.Try tb [.ExceptHandler (some (.Name c cp)) (some n) (b₀::body) hp] [] [] pos) (Tj X.K S i t th):=by
 intro pins s σ H D I h;refine wpAny_Try_except ?_;refine BP (he pins s σ H _ _ I h) (fun fl s1 z=>?_) fun ev s' z=>?_
 .cases fl with
  | next=>exact EZ z
  | brk=>exact z
  | cont=>exact z
  | ret u=>exact z
 obtain⟨s1,H1,I1,x,C,d,H',rfl,os,bare,un,hok,hx,nx,tb,C',bm,ec,cC,hcon,q⟩:=z;cases ec;have I2:Inv X pins σ H' s':=I1.call' os un hok bare (fun b z=>absurd z (by simp));have r:RX X.prog X.w X.base X.stack X.env X.outer H1 s1 x C d H' s':=⟨os,bare,un,hok,Nat.le_trans I1.ok.bsz I1.sz,I2.bs,by have:=I2.stack;rw[st]at this;exact this,by have:=I2.stkFree;rw[st]at this;exact this,⟨_,fr⟩,fun b o _ hb=>by rw[st]at hb;exact hb,fun b hb=>by rw[st]at hb;exact hb,hx,nx,tb.fl⟩;have hfr:X.A.frames=some (X.env::X.outer):=by rw[I.ok.frames,st]
 refine r.note hfr fun h' r' t'=>r'.flight fun h2 r2 _=>?_;have I3:Inv X pins σ H' { s' with heap:=h2 }:=I1.call' r2.os r2.un r2.hok r2.bare (fun b z=>absurd z (by simp));refine wpAny_handleBy_cons (codeAny_handlers_test ?_) (by intro q;cases q);refine T0 (I3.mark (.ref x)) hg hm ?_ hdb;obtain⟨nm,q1,N,bs,hdct,sn,sub,ab,col,dd,k0,k1,k2,k3,k5,hobj⟩:=cC.obj;obtain⟨nm',q1',N',bs',hdct',sn',sub',ab',col',dd',j0,j1,j2,j3,j5,hobj'⟩:=cS.obj;obtain⟨ox,vx,ex,hcx,_⟩:∃o vs,h2.get? x=some o/\o.cls = .ref C/\o.dict=d/\o.data = .fields vs:=(r2.hok x _ r2.hx).1;refine Vp (I3.kIn _ _ hobj) (I3.kIn _ _ hobj') ex hcx (cS.base I3.kIn) hcon ?_;refine codeAny_handlers_suite_as (r2.flight fun h4 r4 _=>?_);have I4:Inv X pins σ H' { s' with heap:=h4 }:=I1.call' r4.os r4.un r4.hok r4.bare (fun b z=>absurd z (by simp));refine O8 I4 hN hi (.inl hloc) (v:=.ref x) rfl (fun s5 I5=>?_) (.inr hloc);refine BP (hh (.ref x) pins s5 _ H' (Dh i D) (I5.mark _) (q x hx)) (fun f s6 z=>?_) fun _ _ z=>(nox _ _ z).elim;cases f with
 | next =>
  obtain⟨σ',H6,I6,q6⟩:=z;exact Q8 (I6.unmark I.ok) hN hi hloc fun s7 I7=>⟨_,_,I7,q6⟩
 | brk =>
  obtain⟨σ',H6,I6,q6⟩:=z;exact Q8 (I6.unmark I.ok) hN hi hloc fun s7 I7=>⟨_,_,I7,q6⟩
 | cont =>
  obtain⟨σ',H6,I6,q6⟩:=z;exact Q8 (I6.unmark I.ok) hN hi hloc fun s7 I7=>⟨_,_,I7,q6⟩
 | ret u =>
  obtain⟨v,σ',H6,I6,r6,q6⟩:=z;exact Q8 (I6.unmark I.ok) hN hi hloc fun s7 I7=>⟨v,_,_,I7,r6,q6⟩
def Ma:List Str->List Value->Bool
 | [],[]=>true
 | x::xs,.str y _::us=>x == y&&Ma xs us
 | _,_=>false
theorem Ih:∀{xs:List Str} {us:List Value},Ma xs us=true->Vals (xs.map V.str) us
 | [],[],_=>.nil
 | x::xs,.str y t::us,h=>by
  obtain⟨h1,h2⟩:=(CC _ _).mp (show(x == y&&Ma xs us)=true from h);have e:x=y:=beq_iff_eq.mp h1;exact .cons ⟨t,by rw[e]⟩ (Ih h2)
def GTup(K:PySem.W.Frag)(a:Addr)(xs:List Str):Prop:=∃(o:Obj) (its:Array Value) (n:Nat),K.lookup a=some o/\o.cls = .type "tuple"/\o.data = .seq its n/\its.size<=sizeLine/\Vals (xs.map V.str) its.toList
theorem GTup.sq{K:PySem.W.Frag}{H:Hp}{a:Addr}{xs:List Str}(h:GTup K a xs):SqT K H a (xs.map V.str):=.inr h
theorem Ea:∀{xs:List V} {us:List Value},Vals xs us->us.length=xs.length
 | _,_,.nil=>rfl
 | _,_,.cons _ t=>by rw[BO,BO,Ea t]
theorem gtup_mk{K:PySem.W.Frag}{a:Addr}{xs:List Str}{o:Obj}(l:K.lookup a=some o)(e:∃its n d osl,o =⟨.type "tuple",d,.seq its n,osl⟩/\(decide (xs.length<=100)&&Ma xs its.toList)=true):GTup K a xs:=by
 obtain⟨its,n,d,osl,rfl,h⟩:=e;obtain⟨h1,h2⟩:=(CC _ _).mp h;have v:=Ih h2;refine⟨_,its,n,l,rfl,rfl,?_,v⟩;have e1:=Ea v;rw[AB,AW]at e1;have:=BS h1;rw[sizeLine_eq,e1];omega
def Qi(i:Nat)(f:Addr)(sp:Sp)(E:XK)(t:TA):TE:=fun σ H Q=>σ[i]?=some (some (.ref f))/\Kv sp [] E t σ H Q
section
variable{X:Cx}{i:Nat}{x:Str}{e:Expr}{pos pos':Pos}
theorem Nj{t:XK->TE}(hN:X.N.Nodup)(hi:X.N[i]?=some x)(hx:Loc X.env.scope x)(he:PEx X e t)(hs:swapsWith e (some (.Name x pos')) pos.line X.env=pure false:=by rfl)(hf:X.fn x=true\/X.env.scope.names.lookup x=some .local:=by first | exact .inl rfl | exact .inr rfl | assumption) :
  PSx X [.Assign [.Name x pos'] e pos] (fun E=>Sv (t E) (w6 i)):=by
 intro pins s σ H D E I h;refine wpAny_execs_cons (wpAny_Assign_Name (BP (he pins s σ H _ E I h) (fun v s1 ⟨y,H1,I1,r1,q1⟩=>?_) fun _ _ z=>z) hs);exact O8 I1 hN hi hx r1 (fun s2 I2=>EZ ⟨_,H1,I2,q1⟩) hf
end
theorem U9{a b:Addr}{n:Nat}(h1:a<n)(h2:n<=b):b≠a:=fun z=>by subst z;exact absurd h2 (Nat.not_le_of_lt h1)
section
variable{fs ex:List Addr}{H:Hp}{h h':Heap}{a:Addr}
theorem HOk.table{P:Program}{w:World}{ps qs:Array Value}(ok:HOk P w H h)(hp:H a=some (.tbl ps))(k:∀b u,b≠a->h.get? b=some u->h'.get? b=some u)(he:h'.get? a=some { cls:=.none,data:=.fields qs }):HOk P w (upd H a (.tbl qs)) h':=fun b u q=>by
 by_cases hb:b=a
 .subst hb;rw[A7]at q;cases q;exact he
 .rw[B4 hb]at q;have n:∀c o,H c=some o->o≠ .tbl ps->c≠a:=fun c o e ne z=>by rw[z,hp]at e;cases e;exact ne rfl
  refine(ok b u q).stay (fun c v hc r=>k c v ?_ r) (fun c r=>by rw[B4 (n c _ r (by intro z;cases z))];exact r) fun c xs r=>by rw[B4 (n c _ r (by intro z;cases z))];exact r
  rcases hc with rfl | hc
  .exact hb
  .exact n c _ hc (by intro z;cases z)
end
section
variable{P:Program}{w:World}{fs ex:List Addr}{H H':Hp}{h h':Heap}{a:Addr}{o:HO}
theorem Un.more{p:Addr}{ps more:Array Value}(hp:H p=some (.tbl ps))(hp':H' p=some (.tbl (ps++more)))(old:∀b o,H b=some o->b≠p->H' b=some o)(fre:∀b,b<h.objs.size->H b=none->H' b=none)
  (k:∀b u,b≠p->h.get? b=some u->h'.get? b=some u) (he:∃u,h'.get? p=some u):Un fs ex H H' h h':=by
 have ne:∀b,H b=none->b≠p:=fun b n e=>by rw[e,hp]at n;cases n
 refine⟨fun b u q n _ _=>k b u (ne b n) q,fun b u q n _ _=>⟨u.slots,k b u (ne b n) q⟩,fun b u q n _=>fre b (AF q) n,fun b u q _=>?_,fun b xs q=>old b _ q fun e=>?_,fun b o u q=>old b _ q fun e=>?_,fun b qs q=>?_⟩
 .by_cases e:b=p
  .subst e;exact he
  .exact⟨u,k b u e q⟩
 .rw[e,hp]at q;cases q
 .rw[e,hp]at q;cases q
 .by_cases e:b=p
  .subst e;rw[hp]at q;cases q;exact⟨more,hp'⟩
  .exact⟨#[],by rw[old b _ q e];simp⟩
theorem HOk.track(x:HOk P w H h)(hn:H a=none)(new:ObjOk P w (upd H a o) h a o):HOk P w (upd H a o) h:=fun b u e=>by
 by_cases hb:b=a
 .subst hb;rw[A7]at e;cases e;exact new
 .rw[B4 hb]at e;exact(x b u e).stay (fun c v _ q=>q) (fun c q=>by rw[B4 (B1 q hn)];exact q) fun c xs q=>by rw[B4 (B1 q hn)];exact q
end
def CodeO(c:Addr)(q:Str):HO:=.ext fun h=>h.CodeRec (.ref c) q
def LamO(f c:Addr)(q:Str)(ps:Arguments)(b:Expr)(sc:Scope)(cl:List (Str×Addr)):HO:=.ext fun h=>∃pm ct,h.get? f=some (PySem.W.kla_obj "<lambda>" q ps b sc cl pm c ct)
theorem CodeO.ok{P:Program}{w:World}{H:Hp}{h:Heap}{c:Addr}{q:Str}(r:h.CodeRec (.ref c) q):ObjOk P w H h c (CodeO c q):=by
 have r0:=r;obtain⟨c',o,vs,t,e,ho,hd,hv⟩:=r;cases e;refine⟨r0,⟨o,ho⟩,fun h1 h2 r1 k=>?_⟩;obtain⟨c',o,vs,t,e,ho,hd,hv⟩:=r1;cases e;exact⟨c,o,vs,t,rfl,k o ho,hd,hv⟩
theorem LamO.ok{P:Program}{w:World}{H:Hp}{h:Heap}{f c:Addr}{q:Str}{ps:Arguments}{b:Expr}{sc:Scope}{cl:List (Str×Addr)}{pm ct:Value}(r:h.get? f=some (PySem.W.kla_obj "<lambda>" q ps b sc cl pm c ct)):ObjOk P w H h f (LamO f c q ps b sc cl) :=
 ⟨⟨pm,ct,r⟩,⟨_,r⟩,fun h1 h2 ⟨pm,ct,e⟩ k=>⟨pm,ct,k _ e⟩⟩
def E6(cells:List (Str×Addr)):List (Str×NameKind)->List (Str×Addr)->List (Str×Addr)
 | [],cs=>cs
 | (n,k)::r,cs=>E6 cells r (if(k == NameKind.free)=true then(n,(cells.lookup n).getD 0)::cs else cs)
theorem Q4{scope:Scope}{env:Env}(h:∀x∈scope.names,x.2 = .free->(env.cells.lookup x.1).isSome=true):closureFor scope env=pure (E6 env.cells scope.names []):=by
 have main:∀(l:List (Str×NameKind)) (cs:List (Str×Addr)),(∀x∈l,x.2 = .free->(env.cells.lookup x.1).isSome=true) ->
   (forIn (m:=Sem) l cs fun x __s=>match x with
    | (name,kind)=>if(kind == NameKind.free)=true then do
      let __do_lift <-cellOf env name
      pure (ForInStep.yield ((name,__do_lift)::__s))
     else pure (ForInStep.yield __s))=pure (E6 env.cells l cs):=by
  intro l
  induction l with
  | nil=>intro cs _;rfl
  | cons x r ih =>
   obtain⟨n,k⟩:=x;intro cs hx;rw[List.forIn_cons];by_cases e:(k == NameKind.free)=true
   .have hk:k = .free:=eq_of_beq e;obtain⟨c,hc⟩:=DX.mp (hx (n,k) (BC ..) hk);have hc':cellOf env n=pure c:=by
     unfold cellOf;rw[show List.lookup n env.cells=some c from hc]
    simp only[e,EX,hc',pure_bind];rw[ih _ fun y hy=>hx y (AY _ hy)];show _=pure (E6 env.cells r (if(k == NameKind.free)=true then(n,(env.cells.lookup n).getD 0)::cs else cs));rw[BB e,show List.lookup n env.cells=some c from hc];rfl
   .simp only[e,BN,DG,pure_bind];rw[ih _ fun y hy=>hx y (AY _ hy)];show _=pure (E6 env.cells r (if(k == NameKind.free)=true then(n,(env.cells.lookup n).getD 0)::cs else cs));rw[AU e]
 unfold closureFor;simp only[main scope.names [] h,pure_bind]
theorem c8{pos q:Pos}{c:Value}:∀(l:List Value),TriplesOk l->¬(pos.line=q.line/\pos.col=q.col)->codeAmong q (l ++ [rawInt pos.line,rawInt pos.col,c])=codeAmong q l
 | [],_,n=>by
  show(if((pos.line:Int) ==(q.line:Int) &&(pos.col:Int) ==(q.col:Int))=true then some c else none)=none;rw[AU];intro z;rw[CC,beq_iff_eq,beq_iff_eq]at z;exact n ⟨by omega,by omega⟩
 | .int a _ :: .int b _::x::r,h,n=>by
  show(if(a ==(q.line:Int)&&b ==(q.col:Int))=true then some x else codeAmong q (r ++ [rawInt pos.line,rawInt pos.col,c]))=if(a ==(q.line:Int)&&b ==(q.col:Int))=true then some x else codeAmong q r
  rw[c8 r h n]
def X4(H:Hp)(P:Addr)(ls:List (Pos×Str)):Prop:=∃ps,H P=some (.tbl ps)/\TriplesOk ps.toList/\∀l∈ls,codeAmong l.1 ps.toList=none\/∃c,codeAmong l.1 ps.toList=some (.ref c)/\H c=some (CodeO c l.2)
structure TabAt(K:PySem.W.Frag)(mg:Str->Option Value)(c P:Addr):Prop where
 hd:∀h:Heap,K.In h->PySem.W.CodeHd h c P
 ne:mainGlobals≠P
def Vj(P:Addr)(ls:List (Pos×Str))(cl:List (Str×Addr))(q:Str)(ps:Arguments)(b:Expr)(sc:Scope):TE:=fun _ H Q=>X4 H P ls/\∀f c H',H f=none->X4 H' P ls->H' c=some (CodeO c q)->H' f=some (LamO f c q ps b sc cl)->f≠P->(∀a o,H a=some o->a≠P->H' a=some o)->Q (.ref f) H'
section
variable{X:Cx}
theorem Hc{args:Arguments}{body:Expr}{scope:Scope}{pos:Pos}{c P:Addr}{ls:List (Pos×Str)}(T:TabAt X.K X.mg c P)(hB:X.base.BuiltinsAt X.mg P)(hc:X.env.code = .ref c)(hd1:args.defaults = [])(hd2:args.kw_defaults = [])
  (hfr:∀x∈scope.names,x.2 = .free->X.env.scope.names.lookup x.1=some .cell) (hl:(pos,X.env.qual ++ "<lambda>")∈ls) (hu:∀l∈ls,∀l'∈ls,l.1.line=l'.1.line->l.1.col=l'.1.col->l=l') :
  PE X (.Lambda args body scope pos) (Vj P ls (E6 X.env.cells scope.names []) (X.env.qual ++ "<lambda>") args body scope):=by
 intro pins s σ H Q I h;obtain⟨⟨ps,hP,tr,hls⟩,q⟩:=h;have hdef:defaultsOf args X.env =([],[]):=by
  cases args;cases hd1;cases hd2;rfl
 rw[arm_eval_Lambda,hdef];refine AA (AD (AA (BT (AD ?_))));have hPs:s.heap.get? P=some (PySem.W.tabObj ps):=I.hok P _ hP;have hfr:∀x∈scope.names,x.2 = .free->(X.env.cells.lookup x.1).isSome=true:=fun x hx e=>by
  obtain⟨c,hc⟩:=I.ok.has x.1 (.inl (hfr x hx e));rw[hc];rfl
 have hns:s.heap.Ns mainGlobals X.mg:=I.mod.glob.keeps I.bk;have hB:s.heap.BuiltinsAt X.mg P:=let⟨bm,o,h1,h2,h3,h4,h5,h6⟩:=hB;⟨bm,o,h1,h2,h3,h4,I.bk _ _ h5,h6⟩;rcases hls _ hl with e | ⟨c',e,hc'⟩
 .refine PySem.W.kla_makeFunction (Q4 hfr) I.ok.glob hns hc (T.hd _ I.kIn) hPs tr e T.ne hB fun c' ctv h' tk xb le lt cr eP=>?_;have szP:P<s.heap.objs.size:=AF hPs;have ncP:c'≠P:=U9 szP le;have nfP:h'.objs.size≠P:=U9 szP (Nat.le_trans le (CS lt));have nfc:h'.objs.size≠c':=U9 lt (Nat.le_refl _);have hnc:H c'=none:=I.hok.fresh le;have hnf:H h'.objs.size=none:=I.hok.fresh (Nat.le_trans le (CS lt));have eO:(h'.push (PySem.W.kla_obj "<lambda>" (X.env.qual ++ "<lambda>") args body scope (E6 X.env.cells scope.names []) ((X.mg "__name__").getD .none) c' ctv)).get? h'.objs.size=some (PySem.W.kla_obj "<lambda>" (X.env.qual ++ "<lambda>") args body scope (E6 X.env.cells scope.names []) ((X.mg "__name__").getD .none) c' ctv):=AZ _ rfl;have kk:∀b u,h'.get? b=some u->(h'.push (PySem.W.kla_obj "<lambda>" (X.env.qual ++ "<lambda>") args body scope (E6 X.env.cells scope.names []) ((X.mg "__name__").getD .none) c' ctv)).get? b=some u:=fun b u e=>AC _ e;generalize h'.push (PySem.W.kla_obj "<lambda>" (X.env.qual ++ "<lambda>") args body scope (E6 X.env.cells scope.names []) ((X.mg "__name__").getD .none) c' ctv)=h2 at eO kk⊢;have k:∀b u,b≠P->s.heap.get? b=some u->h2.get? b=some u:=fun b u n e=>kk b u (xb b u n e);have cr2:h2.CodeRec (.ref c') (X.env.qual ++ "<lambda>"):=by
   obtain⟨c1,o,vs,t,e1,ho,hd,hv⟩:=cr;exact⟨c1,o,vs,t,e1,kk _ _ ho,hd,hv⟩
  have eP2:=kk _ _ eP;have u1:upd H P (.tbl (ps ++ #[rawInt pos.line,rawInt pos.col,.ref c'])) c'=none:=by rw[B4 ncP];exact hnc
  have u2:upd (upd H P (.tbl (ps ++ #[rawInt pos.line,rawInt pos.col,.ref c']))) c' (CodeO c' (X.env.qual ++ "<lambda>")) h'.objs.size=none:=by rw[B4 nfc,B4 nfP];exact hnf
  have hok2:=((I.hok.table hP k eP2).track u1 (CodeO.ok cr2)).track u2 (LamO.ok eO);have hp':upd (upd (upd H P (.tbl (ps ++ #[rawInt pos.line,rawInt pos.col,.ref c']))) c' (CodeO c' (X.env.qual ++ "<lambda>"))) h'.objs.size (LamO h'.objs.size c' (X.env.qual ++ "<lambda>") args body scope (E6 X.env.cells scope.names [])) P=some (.tbl (ps ++ #[rawInt pos.line,rawInt pos.col,.ref c'])):=by rw[B4 nfP.symm,B4 ncP.symm,A7]
  have hc2:upd (upd (upd H P (.tbl (ps ++ #[rawInt pos.line,rawInt pos.col,.ref c']))) c' (CodeO c' (X.env.qual ++ "<lambda>"))) h'.objs.size (LamO h'.objs.size c' (X.env.qual ++ "<lambda>") args body scope (E6 X.env.cells scope.names [])) c'=some (CodeO c' (X.env.qual ++ "<lambda>")):=by rw[B4 nfc.symm,A7]
  have old:∀b o,H b=some o->b≠P->upd (upd (upd H P (.tbl (ps ++ #[rawInt pos.line,rawInt pos.col,.ref c']))) c' (CodeO c' (X.env.qual ++ "<lambda>"))) h'.objs.size (LamO h'.objs.size c' (X.env.qual ++ "<lambda>") args body scope (E6 X.env.cells scope.names [])) b=some o:=fun b o e n=>by
   rw[B4 (B1 e hnf),B4 (B1 e hnc),B4 n];exact e
  refine⟨.ref h'.objs.size,_,I.un (Un.more hP hp' old (fun b lb n=>?_) k ⟨_,eP2⟩) hok2,rfl,q _ c' _ hnf ⟨_,hp',?_,fun l ml=>?_⟩ hc2 A7 nfP old⟩
  .rw[B4 (U9 lb (Nat.le_trans le (CS lt))).symm,B4 (U9 lb le).symm,B4 (by intro z;rw[z,hP]at n;cases n)];exact n
  .rw[BI];exact TriplesOk_snoc _ _ _ _ tr
  .rw[BI];by_cases el:l =(pos,X.env.qual ++ "<lambda>")
   .subst el;exact .inr ⟨c',codeAmong_snoc _ tr e,hc2⟩
   .have ne:¬(pos.line=l.1.line/\pos.col=l.1.col):=fun z=>el (hu l ml _ hl z.1.symm z.2.symm);rw[show(#[rawInt pos.line,rawInt pos.col,Value.ref c']:Array Value).toList = [rawInt pos.line,rawInt pos.col,Value.ref c']from rfl,c8 _ tr ne];rcases hls l ml with z | ⟨cc,z,hz⟩
    .exact .inl z
    .exact .inr ⟨cc,z,old _ _ hz fun y=>by rw[y,hP]at hz;cases hz⟩
 .refine PySem.W.kla_makeFunctionHit (Q4 hfr) I.ok.glob hns hc (T.hd _ I.kIn) hPs tr e hB fun ctv h' tk k le=>?_;have szP:P<s.heap.objs.size:=AF hPs;have nfP:h'.objs.size≠P:=U9 szP le;have hnf:H h'.objs.size=none:=I.hok.fresh le;have old:∀b o,H b=some o->upd H h'.objs.size (LamO h'.objs.size c' (X.env.qual ++ "<lambda>") args body scope (E6 X.env.cells scope.names [])) b=some o:=fun b o e=>by rw[B4 (B1 e hnf)];exact e
  refine⟨.ref h'.objs.size,_,I.laid (t':=tk) (fun b u e=>AC _ (k b u e)) le (LamO.ok (AZ _ rfl)),rfl,q _ c' _ hnf ⟨ps,old _ _ hP,tr,fun l ml=>?_⟩ (old _ _ hc') A7 nfP fun b o e _=>old b o e⟩;rcases hls l ml with z | ⟨cc,z,hz⟩
  .exact .inl z
  .exact .inr ⟨cc,z,old _ _ hz⟩
structure CellsIn(X:Cx)(base':Heap)(σ:St):Prop where
 val:∀(i:Nat) (x:Str) (v:V) (c:Addr),X.N[i]?=some x->σ[i]?=some (some v)->X.env.scope.names.lookup x=some .cell->X.env.cells.lookup x=some c->∃u,RelV v u/\base'.IsCell c (some u)
 inj:∀x y c,X.env.cells.lookup x=some c->X.env.cells.lookup y=some c->x=y
 has:∀x,X.env.scope.names.lookup x=some .cell->∃c,X.env.cells.lookup x=some c
def i5(X:Cx)(h:Heap):Heap:=Kf h fun b=>open Classical in if(X.base.get? b).isSome=true\/∃x,X.fn x=true/\X.env.cells.lookup x=some b then none else some (.own 0)
theorem Ao{h:Heap}{b:Addr}{o:Obj}(e:h.get? b=some o)(p:(X.base.get? b).isSome=true\/∃x,X.fn x=true/\X.env.cells.lookup x=some b):(i5 X h).get? b=some o:=X6 e (by rw[BB p])
theorem Ew{h:Heap}{b:Addr}{o:Obj}(e:(i5 X h).get? b=some o):h.get? b=some o/\((X.base.get? b).isSome=true\/∃x,X.fn x=true/\X.env.cells.lookup x=some b):=by
 obtain⟨e1,e2⟩:=Hn e;refine⟨e1,Classical.byContradiction fun z=>?_⟩;rw[AU z]at e2;cases e2
variable{pins:List (Addr×Obj)}{σ:St}{H:Hp}{s:Shared}
theorem Inv.wbs(I:Inv X pins σ H s){b:Addr}{o:Obj}(e:X.base.get? b=some o):(i5 X s.heap).get? b=some o:=Ao (I.bk b o e) (.inl (by rw[e];rfl))
theorem Inv.wmod(I:Inv X pins σ H s):Mod X.K X.mg (i5 X s.heap):=by
 obtain⟨kin,glob,⟨mb,hb,hbb⟩,lim⟩:=I.ok.mod;exact⟨kin.keeps fun b o e=>I.wbs e,glob.keeps fun b o e=>I.wbs e,⟨mb,hb.keeps fun b o e=>I.wbs e,hbb⟩,lim.keeps fun b o e=>I.wbs e⟩
theorem Inv.cell_nofs(I:Inv X pins σ H s){x:Str}{c:Addr}(hf:X.fn x=true)(e:X.env.cells.lookup x=some c):c∉frs X.stack:=fun z=>by
 rcases AN.mp (I.stkSub c z)with y | y
 .exact I.cne x c e y
 .obtain⟨_,o,ho,_⟩:=I.ok.funs.mem y;exact absurd (AF ho) (Nat.not_lt_of_le (I.ok.cab x c hf e))
theorem Inv.wfuns(I:Inv X pins σ H s):s.heap.FunFrames (i5 X s.heap) X.stack:=by
 have all:∀l:List Env,(∀b∈frs l,b∈frs X.stack)->s.heap.FunFrames X.base l->s.heap.FunFrames (i5 X s.heap) l:=by
  intro l
  induction l with
  | nil=>intro _ _;trivial
  | cons env r ih =>
   intro hs hl;obtain⟨hk,⟨L,o,hf,hn,ho,hd⟩,hr⟩:=hl;have hL:L∈frs X.stack:=hs L (by unfold frs;rw[DA,hf];exact BC);refine⟨hk,⟨L,o,hf,?_,ho,hd⟩,ih (fun b hb=>hs b (by unfold frs;rw[DA,hf];exact AY _ hb)) hr⟩;cases q:(i5 X s.heap).get? L with
   | none=>rfl
   | some u =>
    rcases(Ew q).2 with z | ⟨x,z,y⟩
    .rw[hn]at z;cases z
    .exact absurd hL (I.cell_nofs z y)
 exact all X.stack (fun _ h=>h) I.stack
theorem Inv.wenv(I:Inv X pins σ H s):Env0 X.prog X.w X.K X.mg (i5 X s.heap) X.A X.stack s H:=by
 refine⟨I.ok.frames,I.wmod,fun b o e=>?_,Nat.le_of_eq (Bl _ _),I.wfuns,I.stkFree,I.hok,I.bare⟩;obtain⟨e1,e2⟩:=Ew e;refine⟨e1,?_⟩;rcases e2 with z | ⟨x,_,y⟩
 .obtain⟨u,hu⟩:=DX.mp z;exact(I.bs b u hu).2
 .exact I.freeC x b y
theorem Inv.wcells(I:Inv X pins σ H s)(hf:∀x,X.fn x=true):CellsIn X (i5 X s.heap) σ:=by
 refine⟨fun i x v c e1 e2 e3 e4=>?_,I.ok.inj,fun x h=>I.ok.has x (.inl h)⟩;obtain⟨m,_,h⟩:=I.loc;obtain⟨u,r,l⟩:=h i x v e1 e2 (.inr (.inl e3));refine⟨u,r,?_⟩;rcases l with⟨z,_⟩ | ⟨_,c',e5,o,ho,hd⟩
 .rw[show X.env.kindOf x=some .cell from e3]at z;cases z
 .rw[e4]at e5;cases e5;exact⟨o,Ao ho (.inr ⟨x,hf x,e4⟩),hd⟩
end
def Ss(X:Cx)(k:Nat)(f:Addr)(fd:FuncData)(ps:List Str)(t:TA):TE:=fun σ H Q=>t σ H fun vs H1=>∀base':Heap,CellsIn X base' σ->X.K.In base'->∃sp:Sp,FnOk X.prog X.w X.K X.mg base' CX0 k f fd ps sp/\sp vs H1 Q E0
section
variable{X:Cx}{k:Nat}{x:Str}{st:Stmt}{ps:List Str}{e:Expr}{es:List Expr}{t:TA}{p pos:Pos}
theorem Ey(hf:∀x,X.fn x=true)(D:Fn X.K X.mg x st ps)(hr:Room k X.A)(ha:PA X (e::es) t)(hg:Gl X x:=by rfl)(hdb:(x ==("__debug__":Str))=false:=by decide)
  (he:starEach (e::es) X.env =(false,eval e X.env)::starEach es X.env:=by rfl) (hpl:(backTo pos (starEach es X.env)).any (·.1)=false:=by rfl) :
  PE X (.Call (.Name x p) (e::es) [] pos) (Ss X k D.f D.fd ps t):=by
 intro pins s σ H Q I h;refine CI (T0 I hg D.m ?_ hdb);refine PySem.W.callWith_K (h₀:=X.base) I.ok.mod.kin D.F.kp (thn (ha pos pins s σ H _ I h) fun us s1 ⟨vs,H1,I1,r,q⟩=>⟨I1.kIn,?_⟩) he hpl;obtain⟨sp,F,hsp⟩:=q (i5 X s1.heap) (I1.wcells hf) I1.wmod.kin;have hl:us.length=ps.length:=by rw[<-r.length];exact F.len _ _ _ _ hsp
 have hb:=D.b s1 us I1.kIn (by rw[CA];exact hl);rw[CA]at hb;refine EC (DV (F.run X.A X.stack s1 H1 ⟨us,[]⟩ us vs Q E0 hr I1.wenv hb r hsp) fun r s' hq=>?_);cases r with
 | error e=>exact hq.elim
 | ok fl =>
  cases fl with
  | ret u=>exact I1.after hq
  | next=>exact False.elim hq
  | brk=>exact False.elim hq
  | cont=>exact False.elim hq
end
structure LamScope(N ps fr:List Str)(sc:Scope):Prop where
 kind:sc.kind = .function
 co:sc.isCoroutine=false
 gen:sc.isGenerator=false
 eq:N=ps++fr
 nd:N.Nodup
 par:∀x∈ps,sc.names.lookup x=some .local
 fre:∀x∈fr,sc.names.lookup x=some .free
 nocell:∀y∈sc.names,y.2≠ .cell
 has:∀y∈sc.names,y.2 = .free->y.1∈fr
def Hf(P:Program)(w:World)(K:PySem.W.Frag)(mg:Str->Option Value)(base:Heap)(N:List Str)(qual:Str)(scope:Scope)(f:Addr)(cd:Value)(cl:List (Str×Addr))(A:Around)(outer:List Env)(s:Shared)(H:Hp):Cx where
 prog:=P
 w:=w
 K:=K
 mg:=mg
 base:=base
 A:=A.deeper (PySem.W.envX qual scope s.heap.objs.size f cd cl)
 N:=N
 s₀:=s
 H₀:=H
 env:=PySem.W.envX qual scope s.heap.objs.size f cd cl
 outer:=outer
 stack:=PySem.W.envX qual scope s.heap.objs.size f cd cl::outer
 ex:=[]
 calm:=true
 fn:=fun _=>false
 pn:=[]
 xe:=fun _ _=>False
theorem l0{us:List Value}:∀{ps:List Str} {us:List Value} {i:Nat} {x:Str} {u:Value},ps.Nodup->ps[i]?=some x->us[i]?=some u->(ps.zip us).reverse.lookup x=some u
 | [],_,_,_,_,_,h,_=>by simp at h
 | _::_,[],_,_,_,_,_,h=>by simp at h
 | p::ps,w::us,0,x,u,nd,h1,h2=>by
  simp at h1 h2;subst h1 h2;rw[List.zip_cons_cons,FK,List.lookup_append];have:(ps.zip us).reverse.lookup p=none:=by
   rw[List.lookup_eq_none_iff];intro q hq;have:=(FB (List.mem_reverse.mp hq)).1;simp;intro e;exact(CT.mp nd).1 (e▸this)
  rw[this];simp
 | p::ps,w::us,i+1,x,u,nd,h1,h2=>by
  rw[List.zip_cons_cons,FK,List.lookup_append,l0 (us:=us) (CT.mp nd).2 (by simpa using h1) (by simpa using h2)];rfl
section
variable{P:Program}{w:World}{K:PySem.W.Frag}{mg:Str->Option Value}{base:Heap}{N ps fr:List Str}{qual:Str}{scope:Scope}{f c:Addr}{cl:List (Str×Addr)}{A:Around}{outer:List Env}{s:Shared}{H:Hp}
structure ClosV(base:Heap)(cl:List (Str×Addr))(fr:List Str)(gs:List V):Prop where
 len:gs.length=fr.length
 val:∀(i:Nat) (x:Str) (v:V),fr[i]?=some x->gs[i]?=some v->∃c u,cl.lookup x=some c/\RelV v u/\base.IsCell c (some u)
 only:∀x c,cl.lookup x=some c->x∈fr
 inj:∀x y c,cl.lookup x=some c->cl.lookup y=some c->x=y
theorem Ps{us:List Value}{vs gs:List V}{h':Heap}{tk:Nat}(S:LamScope N ps fr scope)(C:ClosV base cl fr gs)(hd:A.handled=none)(e0:Env0 P w K mg base A outer s H)(hl:vs.length=ps.length)(r:Vals vs us)
  (ns:h'.Ns s.heap.objs.size fun x=>(ps.zip us).reverse.lookup x) (k:∀b o,s.heap.get? b=some o->h'.get? b=some o) :
  Inv (Hf P w K mg base N qual scope f (.ref c) cl A outer s H) [] (vs.map some++gs.map some) H { s with heap:=h',toks:=tk }:=by
 have cell:∀x d,cl.lookup x=some d->∃u o,base.get? d=some o/\o.data = .cell (some u):=fun x d e=>by
  obtain⟨i,hi⟩:=List.mem_iff_getElem?.mp (C.only x d e);have li:i<gs.length:=by rw[C.len];exact(AK.mp hi).1
  obtain⟨d',u,e',_,o,ho,hd⟩:=C.val i x gs[i] hi (AJ li);rw[e]at e';cases e';exact⟨u,o,ho,hd⟩
 have noA:∀b:Addr,b∉(Hf P w K mg base N qual scope f (.ref c) cl A outer s H).ex:=fun b z=>absurd (show b∈([]:List Addr)from z) (by simp);refine⟨⟨e0.mod,S.kind,rfl,rfl,Nat.le_refl _,C.inj,fun y hy=>?_,fun y d z _=>?_,fun _=>hd,Around.frames_deeper e0.frames,.inr ⟨rfl,rfl⟩,fun b z=>absurd z (noA b),e0.bs,e0.bsz,fun b _ _=>noA b,fun b z=>absurd z (noA b),e0.funs,e0.frf⟩,
  rfl,e0.bare,Un.kept k,⟨_,ns,fun i y v h1 h2 h3=>?_⟩,fun y d h=>?_,e0.hok.fresh (Nat.le_refl _),fun y d h=>?_,fun p hp=>absurd (show p∈([]:List (Addr×Obj))from hp) (by simp),e0.hok.kept k,?_⟩
 .have hy:scope.names.lookup y=some .cell\/scope.names.lookup y=some .free:=hy;rcases hy with hy | hy
  .exact absurd rfl (S.nocell _ (PySem.mem_of_lookup hy))
  .obtain⟨i,hi⟩:=List.mem_iff_getElem?.mp (S.has _ (PySem.mem_of_lookup hy) rfl);have li:i<gs.length:=by rw[C.len];exact(AK.mp hi).1
   obtain⟨d',_,e',_⟩:=C.val i y gs[i] hi (AJ li);exact⟨d',e'⟩
 .cases(show false=true from z)
 .have h1:(ps++fr)[i]?=some y:=by rw[<-S.eq];exact h1
  have nd:(ps++fr).Nodup:=by rw[<-S.eq];exact S.nd
  by_cases li:i<vs.length
  .rw[DE (by rw[AB];exact li),AH]at h2;rw[DE (by omega)]at h1;obtain⟨v',hv,e⟩:=AR.mp h2;cases e;obtain⟨u,hu,rv⟩:=r.get hv;exact⟨u,rv,.inl ⟨S.par y (AL h1),l0 (us:=us) (CZ.mp nd).1 h1 hu⟩⟩
  .rw[CY (by rw[AB];omega),AH,AB]at h2;rw[CY (by omega)]at h1;obtain⟨v',hv,e⟩:=AR.mp h2;cases e;rw[hl]at hv;obtain⟨d,u,e1,rv,o,ho,hd⟩:=C.val _ y v h1 hv;exact⟨u,rv,.inr ⟨.inr (S.fre y (AL h1)),d,e1,o,k _ _ (e0.bs _ _ ho).1,hd⟩⟩
 .obtain⟨u,o,ho,hd⟩:=cell y d h;exact⟨_,o,k _ _ (e0.bs _ _ ho).1,hd⟩
 .obtain⟨u,o,ho,hd⟩:=cell y d h;exact(e0.bs _ _ ho).2
 .show _=N.length;rw[S.eq,BF,AB,AB,BF,hl,C.len]
theorem Qk{args:Arguments}{body:Expr}{k:Nat}{gs:List V}{sp:Sp}{pm ct:Value}(S:LamScope N ps fr scope)(C:ClosV base cl fr gs)(len:∀vs H Q E,sp vs H Q E->vs.length=ps.length)
  (at_:∀vs H Q E,sp vs H Q E->H f=some (LamO f c qual args body scope cl)/\H c=some (CodeO c qual))
  (hbody:∀(A:Around) (outer:List Env) (s:Shared) (H:Hp) (vs:List V) (Q:VK) (E:XK),Room k (A.deeper (PySem.W.envX qual scope s.heap.objs.size f (.ref c) cl))->sp vs H Q E ->
   ∃t,PE (Hf P w K mg base N qual scope f (.ref c) cl A outer s H) body t/\t (vs.map some++gs.map some) H Q) :
  FnOk P w K mg base CX0 (k+1) f (PySem.W.kla_fn "<lambda>" qual args body scope cl pm (.ref c) ct) ps sp:=by
 refine⟨len,fun A outer s H bargs us vs Q E hr e0 hb r hsp=>?_⟩;have hl:=len _ _ _ _ hsp;obtain⟨hf,hc⟩:=at_ _ _ _ _ hsp;obtain⟨⟨pm',ct',ef⟩,_⟩:=(show ObjOk P w H s.heap f (LamO f c qual args body scope cl)from e0.hok f _ hf);obtain⟨ec,_⟩:=(show ObjOk P w H s.heap c (CodeO c qual)from e0.hok c _ hc);have lim:s.heap.NoLimit:=e0.mod.nolimit.keeps fun b o e=>(e0.bs b o e).1;have hk:∀y∈ps.zip us,scope.names.lookup y.1=some .local:=fun⟨n,v⟩ hy=>S.par n (FB hy).1;have hb':BindsTo s (PySem.W.kla_fn "<lambda>" qual args body scope cl pm' (.ref c) ct') bargs (ps.zip us):=hb;refine PySem.W.kla_callFunE hr.depth ef rfl S.co S.gen rfl ec (hb' _ _ _ _ ?_);refine wpAny_newFunctionEnv S.nocell hk (fun h' ns sb=>?_) S.kind;have k1:∀b o,s.heap.get? b=some o->h'.get? b=some o:=fun b o e=>by
  rw[sb.2 b (AQ (AF e))];exact AC _ e
 refine⟨lim.keeps k1,PySem.W.kla_codeExpr ?_⟩;obtain⟨t,ht,hq⟩:=hbody A outer s H vs Q E (hr.deeper _) hsp;have I:Inv (Hf P w K mg base N qual scope f (.ref c) cl A outer s H) [] (vs.map some++gs.map some) H { s with heap:=h',toks:=s.toks +(ps.zip us).length }:=Ps S C hr.hd e0 hl r ns k1;refine BP (ht [] _ _ H Q I hq) (fun u s' hs=>?_) fun e s' hs=>hs.elim;obtain⟨v,H',J,rv,qv⟩:=hs;exact⟨v,H',J.os,J.bare,J.base,J.hok,rv,qv⟩
theorem Ed{cells:List (Str×Addr)}:∀{names:List (Str×NameKind)} {cs:List (Str×Addr)} {x:Str} {c:Addr},(E6 cells names cs).lookup x=some c->((x,NameKind.free)∈names/\c =(cells.lookup x).getD 0)\/cs.lookup x=some c
 | [],_,_,_,h=>.inr h
 | (n,k)::r,cs,x,c,h=>by
  rcases Ed (names:=r) h with⟨z,e⟩ | z
  .exact .inl ⟨AY _ z,e⟩
  .by_cases f:(k == NameKind.free)=true
   .rw[BB f]at z;by_cases e:x=n
    .subst e;rw[List.lookup_cons_self]at z;cases z;exact .inl ⟨by rw[eq_of_beq f];exact BC ..,rfl⟩
    .rw[FM,show(x == n)=false from by simpa using e]at z;exact .inr z
   .rw[AU f]at z;exact .inr z
theorem Fa{cells:List (Str×Addr)}{x:Str}:∀{names:List (Str×NameKind)} {cs:List (Str×Addr)},(x,NameKind.free)∈names\/(∃c,cs.lookup x=some c)->∃c,(E6 cells names cs).lookup x=some c
 | [],_,h=>h.resolve_left (by simp)
 | (n,k)::r,cs,h=>by
  refine Fa (names:=r) ?_;by_cases e:x=n
  .by_cases f:(k == NameKind.free)=true
   .subst e;exact .inr ⟨_,by rw[BB f,List.lookup_cons_self]⟩
   .rw[AU f];rcases h with z | z
    .rcases AN.mp z with y | y
     .cases y;exact absurd rfl f
     .exact .inl y
    .exact .inr z
  .rcases h with z | ⟨c,z⟩
   .rcases AN.mp z with y | y
    .cases y;exact absurd rfl e
    .exact .inl y
   .refine .inr ⟨c,?_⟩;by_cases f:(k == NameKind.free)=true
    .rw[BB f,FM,show(x == n)=false from by simpa using e];exact z
    .rw[AU f];exact z
theorem CellsIn.clos{X:Cx}{base':Heap}{σ:St}{fr:List Str}{gs:List V}{names:List (Str×NameKind)}(h:CellsIn X base' σ)(hf:∀y∈names,y.2=NameKind.free->y.1∈fr)(hm:∀x∈fr,(x,NameKind.free)∈names)(hc:∀x∈fr,X.env.scope.names.lookup x=some .cell)(len:gs.length=fr.length)
  (hs:∀(i:Nat) (x:Str) (v:V),fr[i]?=some x->gs[i]?=some v->∃j:Nat,X.N[j]?=some x/\σ[j]?=some (some v)):ClosV base' (E6 X.env.cells names []) fr gs:=by
 have key:∀{x c},(E6 X.env.cells names []).lookup x=some c->x∈fr/\X.env.cells.lookup x=some c:=fun{x c} e=>by
  rcases Ed e with⟨z,y⟩ | z
  .have m:=hf _ z rfl;obtain⟨d,hd⟩:=h.has x (hc x m);rw[hd]at y;rw[hd,y];exact⟨m,rfl⟩
  .cases z
 refine⟨len,fun i x v h1 h2=>?_,fun x c e=>(key e).1,fun x y c e1 e2=>h.inj x y c (key e1).2 (key e2).2⟩;have m:=AL h1;obtain⟨c,e⟩:=Fa (cells:=X.env.cells) (cs:=[]) (.inl (hm x m));obtain⟨j,j1,j2⟩:=hs i x v h1 h2;obtain⟨u,r,ic⟩:=h.val j x v c j1 j2 (hc x m) (key e).2;exact⟨c,u,e,r,ic⟩
end
def FnHere(base:Heap)(H:Hp)(f:Addr):Prop:=PySem.W.FnAt f base\/∃φ,H f=some (.ext φ)/\∀h,φ h->PySem.W.FnAt f h
theorem FnHere.lam{base:Heap}{H:Hp}{f c:Addr}{q:Str}{ps:Arguments}{b:Expr}{sc:Scope}{cl:List (Str×Addr)}(h:H f=some (LamO f c q ps b sc cl)):FnHere base H f:=.inr ⟨_,h,fun h ⟨_,_,e⟩=>⟨_,_,_,_,e⟩⟩
theorem FnHere.def{K:PySem.W.Frag}{base:Heap}{H:Hp}{x qual:Str}{st:Stmt}{f:Addr}{fd:FuncData}(F:Fun K x qual st f fd)(k:K.In base):FnHere base H f:=by
 obtain⟨oc,od,kV,doc,pm,an,cdv,ct,osl,rfl,lk,_⟩:=F.ex;exact .inl ⟨_,_,_,_,k _ _ lk⟩
theorem FnHere.same{base:Heap}{H H':Hp}{f:Addr}(h:FnHere base H f)(s:Same H H'):FnHere base H' f:=h.imp id fun⟨φ,e,p⟩=>⟨φ,s _ _ e,p⟩
def Qy(base:Heap)(i:Nat)(f:Addr)(sp:Sp)(t:TA):TE:=fun σ H Q=>σ[i]?=some (some (.ref f))/\FnHere base H f/\t σ H fun vs H1=>FnHere base H1 f/\sp vs H1 Q E0
section
variable{X:Cx}{k:Nat}{f:Addr}{fd:FuncData}{ps:List Str}{sp:Sp}{x:Str}{e:Expr}{es:List Expr}{t:TA}{p pos:Pos}
theorem Inv.fnAt{pins:List (Addr×Obj)}{σ:St}{H:Hp}{s:Shared}(I:Inv X pins σ H s)(h:FnHere X.base H f):PySem.W.FnAt f s.heap:=by
 rcases h with⟨oc,od,fd,sl,e⟩ | ⟨φ,e,q⟩
 .exact⟨oc,od,fd,sl,I.bk _ _ e⟩
 .exact q _ (show ObjOk X.prog X.w H s.heap f (.ext φ)from I.hok f _ e).1
theorem Lx{i:Nat}(F:FnOk X.prog X.w X.K X.mg X.base CX0 k f fd ps sp)(hr:Room k X.A)(hb:Binds X.K fd ps [])
  (ha:PA X (e::es) t) (hN:X.N[i]?=some x:=by rfl) (hv:Vis X.env.scope x:=by first | exact Or.inl rfl | exact Or.inr (Or.inl rfl) | exact Or.inr (Or.inr rfl)) (hdb:(x ==("__debug__":Str))=false:=by decide) (hcd:(x ==("__classdict__":Str))=false:=by decide)
  (he:starEach (e::es) X.env =(false,eval e X.env)::starEach es X.env:=by rfl) (hpl:(backTo pos (starEach es X.env)).any (·.1)=false:=by rfl) :
  PE X (.Call (.Name x p) (e::es) [] pos) (Qy X.base i f sp t):=by
 intro pins s σ H Q I h;obtain⟨e1,fa,h⟩:=h;refine CI (thn (Gv (i:=i) (pos:=p) hN hv hdb hcd pins s σ H (fun v H'=>v = .ref f/\H'=H) I ⟨_,e1,rfl,rfl⟩) fun u s1 ⟨v,H1,I1,r1,e2,e3⟩=>?_);subst e2 e3;cases r1;refine PySem.W.callWith_F (I1.fnAt fa) (thn (ha pos pins s1 σ H1 _ I1 h) fun us s2 ⟨vs,H2,I2,r,fa2,q⟩=>⟨I2.fnAt fa2,?_⟩) he hpl;exact Mg F hr hb .nil Oc I2 r (by rw[CA];exact q)
end
theorem Fun.okC{P:Program}{w:World}{K:PySem.W.Frag}{mg:Str->Option Value}{base:Heap}{x qual:Str}{st:Stmt}{f:Addr}{fd:FuncData}{N ps:List Str}{k:Nat}{sp:Sp}(F:Fun K x qual st f fd)(S:FnScope N ps (B3 st))(len:∀vs H Q E,sp vs H Q E->vs.length=ps.length)
  (hbody:∀(cdv:Value) (A:Around) (outer:List Env) (s:Shared) (H:Hp) (vs:List V) (Q:VK) (E:XK),fd.code=cdv->Room k (A.deeper (envOfC qual (B3 st) s.heap.objs.size f cdv))->sp vs H Q E ->
   ∃t,PSs (Lj CX0 P w K mg base N qual (B3 st) f cdv A outer s H E).nox (F9 st) t/\t { nx:=fun _ H'=>Q .non H',rt:=Q } (i0 N vs) H):FnOk P w K mg base CX0 (k+1) f fd ps sp:=by
 obtain⟨oc,od,kV,doc,pm,an,cdv,ct,osl,rfl,lk,hcd⟩:=F.ex;refine Ol lk hcd S len fun A outer s H vs Q E hr hsp=>?_;obtain⟨t,h,q⟩:=hbody cdv A outer s H vs Q E rfl hr hsp;exact⟨t,h.nox,q⟩
theorem Hi{P:Program}{w:World}{K:PySem.W.Frag}{mg mb:Str->Option Value}{k:Nat}{fa a:Addr}{fd:FuncData}{x:Str}{sp:Sp}{s₁:Shared}{vs:List Value}{ns:List Int}{ts:List Addr}
  (hts:∀p∈ts,s₁.heap.get? p=some (PySem.W.tabObj #[])) (hct:∀p∈ts,isCodeTable s₁.heap p) (hbm:∀p∈ts,s₁.heap.BuiltinsAt mg p) (hkt:∀p∈ts,K.lookup p=none)
  (KX:K.In s₁.heap) (hns:s₁.heap.Ns mainGlobals mg) (hb:s₁.heap.Ns builtinsNs mb) (hbb:∀x:Str,x≠ "__name__"->mb x=bootBuiltins x) (hlim:s₁.heap.NoLimit) (hg:s₁.gens = #[])
  (ha:s₁.heap.get? a=some { cls:=.type "list",data:=.seq vs.toArray }) (hi:IntsAre vs ns) (hl:ns.length<=sizeLine) (hr:Room k callerA)
  (F:∀base:Heap,K.In base->base.Ns mainGlobals mg->(∀p∈ts,base.BuiltinsAt mg p)->FnOk P w K mg base CX0 k fa fd [x] sp) (hbind:∀(s:Shared) (u:Value),BindsTo s fd ⟨[u],[]⟩ [(x,u)])
  (hsp:∀H:Hp,(∀p∈ts,H p=some (.tbl #[]))->SqL K H a (ns.map V.int)->sp [.ref a] H (fun v _=>v = .bl true) fun _ _ _=>False) :
  codeAny (model P w) callerA (.call (.ref fa) ⟨[.ref a],[]⟩) (fun r s'=>r = .ok (.ret (.bool true))/\OldK s₁.heap s'.heap/\s'.os=s₁.os/\AllBare s'.gens) s₁:=by
 have rv:=Bt hi;have nat:a∉ts:=fun z=>by
  have:=hts a z;rw[ha]at this;cases this
 obtain⟨H,hT,hS,hO,ok,hK⟩:∃H:Hp,(∀p∈ts,H p=some (.tbl #[]))/\SqL K H a (ns.map V.int)/\(∀b o,H b=some o->(b∈ts/\o = .tbl #[])\/(b=a/\∃ob xs,o = .frz ob (.lst xs)))/\HOk P w H s₁.heap/\∀b,H b≠none->K.lookup b=none:=by
  cases hk:K.lookup a with
  | some o =>
   have e:=KX a o hk;rw[ha]at e;cases e;refine⟨fun b=>if b∈ts then some (.tbl #[])else none,fun p hp=>BB hp,.inr ⟨_,vs.toArray,_,hk,rfl,rfl,rfl,by rw[AO,hi.length];exact hl,by simpa using rv⟩,fun b o e=>?_,fun b o e=>?_,fun b e=>?_⟩
   .dsimp only at e;by_cases c:b∈ts
    .rw[BB c]at e;cases e;exact .inl ⟨c,rfl⟩
    .rw[AU c]at e;cases e
   .dsimp only at e;by_cases c:b∈ts
    .rw[BB c]at e;cases e;exact hts b c
    .rw[AU c]at e;cases e
   .by_cases c:b∈ts
    .exact hkt b c
    .exact absurd (AU c) e
  | none =>
   refine⟨fun b=>if b=a then some (.frz { cls:=.type "list",data:=.seq vs.toArray } (.lst (ns.map V.int)))else if b∈ts then some (.tbl #[])else none,fun p hp=>?_,.inl (.inr ⟨{ cls:=.type "list",data:=.seq vs.toArray },BB rfl⟩),fun b o e=>?_,fun b o e=>?_,fun b e=>?_⟩
   .show(if p=a then _ else if p∈ts then _ else _)=_;have np:p≠a:=fun z=>nat (z▸hp);rw[AU np,BB hp]
   .dsimp only at e;by_cases d:b=a
    .rw[BB d]at e;cases e;exact .inr ⟨d,_,_,rfl⟩
    .rw[AU d]at e;by_cases c:b∈ts
     .rw[BB c]at e;cases e;exact .inl ⟨c,rfl⟩
     .rw[AU c]at e;cases e
   .dsimp only at e;by_cases d:b=a
    .rw[BB d]at e;cases e;subst d;exact⟨ha,by rw[AB];exact hl,vs,_,rv,ha⟩
    .rw[AU d]at e;by_cases c:b∈ts
     .rw[BB c]at e;cases e;exact hts b c
     .rw[AU c]at e;cases e
   .by_cases d:b=a
    .rw[d];exact hk
    .by_cases c:b∈ts
     .exact hkt b c
     .exact absurd ((AU d).trans (AU c)) e
 have nod:∀{b:Addr} {o:Obj} {es:Array DictEntry} {ep:Nat},s₁.heap.get? b=some o->o.data = .dict es ep->H b=none:=fun{b o es ep} e d=>by
  cases q:H b with
  | none=>rfl
  | some u =>
   rcases hO b u q with⟨z,_⟩ | ⟨z,_⟩
   .rw[hts b z]at e;cases e;cases d
   .rw[z,ha]at e;cases e;cases d
 have nsK:∀{b:Addr} {m:Str->Option Value},s₁.heap.Ns b m->(Kf s₁.heap H).Ns b m:=fun{b m} ⟨o,es,ep,e,d,r⟩=>⟨o,es,ep,X6 e (nod e d),d,r⟩;have hBb:∀p∈ts,(Kf s₁.heap H).BuiltinsAt mg p:=fun p hp=>by
  obtain⟨bm,o,h1,h2,h3,h4,h5,h6,h7,h8⟩:=hbm p hp;refine⟨bm,o,h1,h2,h3,h4,X6 h5 ?_,h6,h7,h8⟩;cases q:H bm with
  | none=>rfl
  | some u =>
   rcases hO bm u q with⟨z,_⟩ | ⟨z,_⟩
   .rw[hts bm z]at h5;cases h5;cases h8
   .rw[z,ha]at h5;cases h5;cases h8
 have hKb:K.In (Kf s₁.heap H):=fun b o e=>X6 (KX b o e) (by
  cases q:H b with
  | none=>rfl
  | some u=>rw[hK b (by rw[q];simp)]at e;cases e)
 have hM:Mod K mg (Kf s₁.heap H):=⟨hKb,nsK hns,⟨mb,nsK hb,hbb⟩,let⟨mc,h1,h2⟩:=hlim;⟨mc,nsK h1,h2⟩⟩;have e0:Env0 P w K mg (Kf s₁.heap H) callerA [] s₁ H:=⟨rfl,hM,fun b o e=>Hn e,Nat.le_of_eq (Bl _ _),trivial,fun b hb=>absurd (show b∈([]:List Addr)from hb) (by simp),ok,.of_eq hg⟩;refine DV ((F _ hKb (nsK hns) hBb).run callerA [] s₁ H ⟨[.ref a],[]⟩ [.ref a] [.ref a] _ _ hr e0 (hbind s₁ (.ref a)) (.cons rfl .nil) (hsp H hT hS)) fun r s' h=>?_;cases r with
 | error e=>exact h.elim
 | ok fl =>
  cases fl with
  | next=>exact False.elim h
  | brk=>exact False.elim h
  | cont=>exact False.elim h
  | ret u =>
   obtain⟨v,H',os,bare,un,ok',r',q⟩:=h;have q':v = .bl true:=q;subst q';obtain rfl:u=Value.bool true:=r';refine⟨rfl,⟨fun b o e=>?_,fun b o e=>un.there b o e (by simp)⟩,os,bare⟩;cases q:H b with
   | none=>exact .inl (un.keep b o e q (fun z=>absurd (show b∈([]:List Addr)from z) (by simp)) (by simp))
   | some u =>
    rcases hO b u q with⟨z,rfl⟩ | ⟨_,ob,xs,rfl⟩
    .obtain⟨more,em⟩:=un.tbls b _ q;have e2:s'.heap.get? b=some { cls:=.none,data:=.fields (#[]++more) }:=ok' b _ em;rw[hts b z]at e;cases e;exact .inr (.inl ⟨hct b z,rfl,#[],more,rfl,e2⟩)
    .obtain⟨e1,_⟩:=ok b _ q;obtain⟨e2,_⟩:=ok' b _ (un.frzs b ob _ q);rw[e]at e1;cases e1;exact .inl e2
theorem walk_ofT{l:PySem.W.OpenLaw}{n k:Nat}{q:Program}{loose:List Str}{XP:(Str->Option Value)->Heap->Prop}{YP:World->Heap->Prop}{d:DefRec}{K:Params->PySem.W.Frag}{sp:World->Sp}{x:Str}{ts:List Addr}
  (hn:l.most=some n) (hn2:n<=sizeLine) (hdf:d.params.defaults = []) (hr:Room k callerA) (hY:∀(w:World) (h:Heap),YP w h->(K w.params).In h) (hYt:∀(w:World) (h:Heap),YP w h->∀p∈ts,h.get? p=some (PySem.W.tabObj #[]))
  (F:∀(w:World) (mg:Str->Option Value) (fa:Addr) (h:Heap),(K w.params).In h->h.Ns mainGlobals mg->mg d.name=some (.ref fa) ->
   (∀p∈ts,isCodeTable h p)/\(∀p∈ts,(K w.params).lookup p=none)/\∃fd:FuncData,(∀(s:Shared) (u:Value),BindsTo s fd ⟨[u],[]⟩ [(x,u)]) /\
    ∀base:Heap,(K w.params).In base->base.Ns mainGlobals mg->(∀p∈ts,base.BuiltinsAt mg p)->FnOk l.prog w (K w.params) mg base CX0 k fa fd [x] (sp w))
  (hsp:∀(w:World) (H:Hp) (a:Addr) (ns:List Int),ns.length<=n->(∀p∈ts,H p=some (.tbl #[]))->SqL (K w.params) H a (ns.map V.int)->sp w [.ref a] H (fun v _=>v = .bl true) fun _ _ _=>False) :
  PySem.W.WalkO q loose XP YP l.row.toRowW d [] (fun f vs=>PySem.call f vs):=by
 refine Att.attach_call hn hdf fun w s₀ s₁ mg mb fa o pm cd doc a vs ns G Y ho hd hcd hmg hobj hints hlen hg=>?_;have KX:=hY w _ Y;obtain⟨h1,h2,fd,hb,hF⟩:=F w mg fa _ KX G.T.g hmg;have hbm:∀p∈ts,s₁.heap.BuiltinsAt mg p:=fun p hp=>by
  obtain⟨bm,o,b1,b2,b3,b4,b5,b6⟩:=G.T.bmain;refine⟨bm,o,b1,b2,fun z=>?_,fun z=>?_,b3,b4,b5,b6⟩
  .obtain⟨o',es,ep,e1,e2,_⟩:=G.T.g;rw[<-z,b3]at e1;cases e1;rw[b6]at e2;cases e2
  .have:=hYt w _ Y p hp;rw[<-z,b3]at this;cases this;cases b6
 exact Hi (hYt w _ Y) h1 hbm h2 KX G.T.g G.T.b G.T.builtins G.T.nolimit hg hobj hints (Nat.le_trans hlen hn2) hr hF hb fun H hO hS=>hsp w H a ns hlen hO hS
section
variable{X:Cx}
theorem Ph(w:World)(hw:X.w=w:=by rfl):E3 X (.builtin "len") (fun xs H Q=>∃(a:Addr) (ss:List Str),xs = [V.ref a]/\H a=some (Pw w a ss)/\Q (.int ss.length) H):=by
 subst hw;intro pins s σ H xs us Q I r h;obtain⟨a,ss,rfl,ha,q⟩:=h;obtain⟨u,rfl,ru⟩:=Q6 r;cases ru;obtain⟨o,es,ep,t,S,T⟩:=I.setw ha;have el:es.size=ss.length:=by
  have:=T.pm.length_eq;rw[AB]at this;rw[<-AW];exact this
 refine call_len_set S.ho S.ex S.hd S.ft (by have:=S.few;omega) ?_;exact⟨.int ss.length,H,I.tok _,⟨_,by rw[el]⟩,q⟩
end
section
variable{prog:Program}{w:World}{A:Around}{s:Shared}{I:Addr}{fp wr:List Addr}{n:Nat}{P:Nat->Value->Prop}{St:Nat->Heap->Prop}{R:Result->Shared->Prop}
theorem Nn{a b:Int}{t u:Tok}{Q:Value->Shared->Prop}{E:Value->Shared->Prop}(h:Q (.bool (decide (a>b))) s):wpAny (model prog w) A (richCompare .Gt (.int a t) (.int b u)) Q E s :=
 CmpOf.ints_gt (P:=fun i v=>∃t,v = .int (if i=0 then a else b) t) (fun i=>if i=0 then a else b) (fun _ _ h=>h) 0 1 _ _ s Q E ⟨t,rfl⟩ ⟨u,rfl⟩ h
theorem Ik(W:Walks prog w A.in1 I fp wr n P St)(num:Nat->Int)(hv:∀i v,P i v->∃t,v = .int (num i) t)(S:Addr)(hSf:S∉fp)(kw:List (Str×Value)) :
  ∀(k j:Nat) (s:Shared) (m:Int) (t:Tok) (c:Nat),n-j=k->j<=n->St j s.heap->s.heap.get? S=some { cls:=.type "list",dict:=none,data:=.seq #[.int m t,.int m t] c,slots:=#[] } ->
  (∀m' t' h' tk,m<=m'->(m'=m\/∃i,j<=i/\i<n/\m'=num i)->(∀i,j<=i->i<n->num i<=m')->(∀b o,b≠S->b∉wr->s.heap.get? b=some o->h'.get? b=some o)->R (.ok (.ret (.int m' t'))) { s with heap:=h',toks:=tk }) ->
  codeAny (model prog w) A (.builtin "max.loop" ⟨[.ref I,.none,.ref S],kw⟩) R s:=by
 have hSw:S∉wr:=fun h=>hSf (W.sub _ h);have hname:(toString "max" ++ toString ".loop":String) = "max.loop":=by decide
 have st_upd:∀{j:Nat} {h:Heap} {g:Obj->Obj},St j h->St j (h.update S g):=fun st=>W.frame _ _ _ st fun b hb o e=>(BJ _ _ (fun h:S=b=>hSf (by rw[h];exact hb))).trans e;intro k
 induction k with
 | zero =>
  intro j s m t c hk hj hst hS hR;have e:j=n:=by omega
  subst e;refine DC F.entry_max_loop ?_;rw[Around.under_plainId F.plain_max_loop _];show wpAny _ A.in1 (seqItems? (.ref S) >>= _) _ _ s;refine AA (CQ hS rfl ?_);show wpAny _ A.in1 (tryCatch (pyNext (.ref I)) _ >>= _) _ _ s;refine AA (EQ (W.done s _ _ hst fun h' tk kp=>?_));have hS':=kp S _ hSw hS;show wpAny _ A.in1 (updateSeq S (fun _=>#[]) >>= _) _ _ _;refine AA (wpAny_updateSeq hS' rfl (AA (FP (AD ?_))));exact hR m t _ _ (Int.le_refl _) (.inl rfl) (fun i h1 h2=>absurd h1 (by omega)) fun b o n1 n2 e=>(BJ _ _ (Ne.symm n1)).trans (kp b o n2 e)
 | succ k ih =>
  intro j s m t c hk hj hst hS hR;have hlt:j<n:=by omega
  refine DC F.entry_max_loop ?_;rw[Around.under_plainId F.plain_max_loop _];show wpAny _ A.in1 (seqItems? (.ref S) >>= _) _ _ s;refine AA (CQ hS rfl ?_);show wpAny _ A.in1 (tryCatch (pyNext (.ref I)) _ >>= _) _ _ s;refine AA (EQ (W.item j s _ _ hlt hst fun v h' tk hP hst' kp=>?_));have hS':=kp S _ hSw hS;obtain⟨tv,rfl⟩:=hv j v hP;show wpAny _ A.in1 (tryCatch (holding [_,_] (richCompare .Gt (.int (num j) tv) (.int m t) >>= _)) _ >>= _) _ _ _;refine AA (EQ (BT (AA (Nn ?_))));refine AA (BT (CG ?_));refine AA (FP (AD ?_));by_cases hb:num j>m
  .rw[AI hb];simp only[EX];refine AA (wpAny_updateSeq hS' rfl (AA (FP ?_)));rw[hname];refine AD ⟨plainId_quiet F.plain_max_loop _,ih (j+1) _ (num j) tv _ (by omega) hlt (st_upd hst') (CF _ hS' rfl) fun m' t' h2 tk2 le wh al kp2=>?_⟩;refine hR m' t' h2 tk2 (by omega) (.inr ?_) (fun i h1 h2=>?_) fun b o n1 n2 e=>kp2 b o n1 n2 ((BJ _ _ (Ne.symm n1)).trans (kp b o n2 e))
   .rcases wh with rfl | ⟨i,h1,h2,e⟩
    .exact⟨j,Nat.le_refl _,hlt,rfl⟩
    .exact⟨i,by omega,h2,e⟩
   .by_cases e:i=j
    .rw[e];exact le
    .exact al i (by omega) h2
  .rw[BD hb];simp only[BN,DG];refine AA (FP ?_);rw[hname];refine AD ⟨plainId_quiet F.plain_max_loop _,ih (j+1) _ m t c (by omega) hlt hst' hS' fun m' t' h2 tk2 le wh al kp2=>?_⟩;refine hR m' t' h2 tk2 le (wh.imp id fun⟨i,h1,h2,e⟩=>⟨i,by omega,h2,e⟩) (fun i h1 h2=>?_) fun b o n1 n2 e=>kp2 b o n1 n2 (kp b o n2 e);by_cases e:i=j
   .rw[e];omega
   .exact al i (by omega) h2
theorem Ga(W:Walks prog w A.in1 I fp wr n P St)(num:Nat->Int)(hv:∀i v,P i v->∃t,v = .int (num i) t)(S:Addr)(hSf:S∉fp){d:Int}{td:Tok}{c:Nat}(hst:St 0 s.heap)(hS:s.heap.get? S=some { cls:=.type "list",dict:=none,data:=.seq #[] c,slots:=#[] })
  (h0:n=0->∀h' tk,(∀b o,b≠S->b∉wr->s.heap.get? b=some o->h'.get? b=some o)->R (.ok (.ret (.int d td))) { s with heap:=h',toks:=tk })
  (hR:∀m t h' tk,(∃i,i<n/\m=num i)->(∀i,i<n->num i<=m)->(∀b o,b≠S->b∉wr->s.heap.get? b=some o->h'.get? b=some o)->R (.ok (.ret (.int m t))) { s with heap:=h',toks:=tk }) :
  codeAny (model prog w) A (.builtin "max.loop" ⟨[.ref I,.none,.ref S],[("default",.int d td)]⟩) R s:=by
 have hSw:S∉wr:=fun h=>hSf (W.sub _ h);have hname:(toString "max" ++ toString ".loop":String) = "max.loop":=by decide
 refine DC F.entry_max_loop ?_;rw[Around.under_plainId F.plain_max_loop _];show wpAny _ A.in1 (seqItems? (.ref S) >>= _) _ _ s;refine AA (CQ hS rfl ?_);show wpAny _ A.in1 (tryCatch (pyNext (.ref I)) _ >>= _) _ _ s;by_cases hn:n=0
 .subst hn;refine AA (EQ (W.done s _ _ hst fun h' tk kp=>?_));refine AA (CM (AD ?_));exact h0 rfl _ _ fun b o _ n2 e=>kp b o n2 e
 .refine AA (EQ (W.item 0 s _ _ (by omega) hst fun v h' tk hP hst' kp=>?_));have hS':=kp S _ hSw hS;obtain⟨tv,rfl⟩:=hv 0 v hP;show wpAny _ A.in1 (updateSeq S (fun _=>#[.int (num 0) tv,.int (num 0) tv]) >>= _) _ _ _;refine AA (wpAny_updateSeq hS' rfl ?_);rw[hname];refine AD ⟨plainId_quiet F.plain_max_loop _,Ik W num hv S hSf _ _ 1 _ (num 0) tv _ rfl (by omega) (W.frame _ _ _ hst' fun b hb o e=>(BJ _ _ (fun h:S=b=>hSf (by rw[h];exact hb))).trans e) (CF _ hS' rfl) fun m t h2 tk2 le wh al kp2=>?_⟩;refine hR m t h2 tk2 ?_ (fun i hi=>?_) fun b o n1 n2 e=>kp2 b o n1 n2 ((BJ _ _ (Ne.symm n1)).trans (kp b o n2 e))
  .rcases wh with rfl | ⟨i,h1,h2,e⟩
   .exact⟨0,by omega,rfl⟩
   .exact⟨i,h2,e⟩
  .by_cases e:i=0
   .rw[e];exact le
   .exact al i (by omega) hi
theorem Ie(a d:Value):argsOk "max" ⟨[a],[("default",d)]⟩:=by unfold argsOk;kernel_rfl
theorem Au{id:String}{b:Builtin}{args:List Value}{kw:List (Str×Value)}{Q E:Value->Shared->Prop}(hk:builtinKind id=none)(hp:plainId id=true)(hb:entryFor table id=some b)(ha:argsOk id ⟨args,kw⟩)
  (hc:wpAny (model prog w) A.in1 (b ⟨args,kw⟩) (fun fin s'=>match fin with
   | .done f=>(match(Except.ok f:Result)with | .ok (.ret v)=>Q v s' | .ok _=>False | .error e=>E e s')
   | .again c'=>c'.quiet=true/\codeAny (model prog w) A c' (fun r s'=>match r with | .ok (.ret v)=>Q v s' | .ok _=>False | .error e=>E e s') s') E s) :
  wpAny (model prog w) A (call (.builtin id) args kw) Q E s:=by
 refine EC (EO hp hb ?_);simp only[checkBuiltinCall,hk];cases hsig:Manifest.signature? id with
 | none=>exact AD hc
 | some sig =>
  have ha':Bind.checkArgs id sig ⟨args,kw⟩=pure ():=by simpa only[argsOk,hsig] using ha
  simp only[ha'];exact AD hc
theorem Jd{Q E:Value->Shared->Prop}{l:Addr}{xs:Array (Int×Tok)}{d:Int}{td:Tok}(hh:A.handled=none)(hl:s.heap.IsList l (intItems xs))
  (h0:xs.size=0->∀h' tk,(∀b o,s.heap.get? b=some o->h'.get? b=some o)->Q (.int d td) { s with heap:=h',toks:=tk })
  (h:∀m t h' tk,(∃i,i<xs.size/\m=numAt xs i)->(∀i,i<xs.size->numAt xs i<=m)->(∀b o,s.heap.get? b=some o->h'.get? b=some o)->Q (.int m t) { s with heap:=h',toks:=tk }) :
  wpAny (model prog w) A (call (.builtin "max") [.ref l] [("default",.int d td)]) Q E s:=by
 have hname:(toString "max" ++ toString ".loop":String) = "max.loop":=by decide
 refine Au F.kind_max F.plain_max F.entry_max (Ie _ _) ?_;show wpAny _ A.in1 (Builtin.Builtins.bindParams "max" ["key", "default"] 0 ⟨[],[("default",.int d td)]⟩ >>= _) _ _ s;refine AA (wpAny_of_eq (show Builtin.Builtins.bindParams "max" ["key", "default"] 0 ⟨[],[("default",.int d td)]⟩=pure [none,some (.int d td)]from rfl) ?_);refine AA (AD ?_);refine AA (iter_intList hl fun s₂ e st hfp hlI=>?_);subst e;refine AA (EI ?_);rw[hname];have W:=Walks.list (prog:=prog) (w:=w) (A:=A.in1) hh s.heap.objs.size l hlI (intItems xs);refine AD ⟨plainId_quiet F.plain_max_loop _,?_⟩;have hn:(intItems xs).size=xs.size:=by simp[intItems]
 have kk:∀{h':Heap},(∀b o,b≠(s.heap.push { cls:=.type "list_iterator",data:=.fields #[.ref l,.int 0 0] }).objs.size->b∉[s.heap.objs.size]->((s.heap.push { cls:=.type "list_iterator",data:=.fields #[.ref l,.int 0 0] }).push { cls:=.type "list",data:=.seq ([]:List Value).toArray }).get? b=some o->h'.get? b=some o)->∀b o,s.heap.get? b=some o->h'.get? b=some o:=fun kp b o e=>by
  have lt:=AF e;refine kp b o (fun y=>?_) (fun y=>?_) (AC _ (AC _ e))
  .rw[y,CH]at lt;exact absurd lt (Nat.not_lt.mpr (BZ _))
  .rw[AE.mp y]at lt;exact DK _ lt
 refine Ga W (numAt xs) (fun _ _=>intItems_at) _ (fun hm=>DK _ (hfp _ hm)) (W.frame 0 _ _ st fun b _ o e=>AC _ e) (AZ _ rfl) (fun e h' tk kp=>h0 (by rw[<-hn];exact e) h' tk (kk kp)) fun m t h' tk ⟨i,hi,e⟩ al kp=>h m t h' tk ⟨i,by rw[<-hn];exact hi,e⟩ (fun i hi=>al i (by rw[hn];exact hi)) (kk kp)
end
def Tz(K:PySem.W.Frag)(ta:TA)(td:TE):TE:=fun σ H Q=>ta σ H fun vs H1=>td σ H1 fun d H2=>∃(p:Addr) (ns:List Int) (k:Int),vs = [.ref p]/\d = .int k/\SqL K H2 p (ns.map V.int)/\(ns = []->Q (.int k) H2)/\∀m∈ns,(∀a∈ns,a<=m)->Q (.int m) H2
theorem Pk{X:Cx}(K:PySem.W.Frag){e ed:Expr}{ta:TA}{td:TE}{p kp pos:Pos}(hm:X.mg "max" = none)(ha:PA X [e] ta)(hd:PE X ed td)(hK:X.K=K:=by rfl)(hc:X.calm=true:=by rfl)(hg:Gl X "max":=by rfl)
  (he:starEach [e] X.env = [(false,eval e X.env)]:=by rfl):PE X (.Call (.Name "max" p) [e] [⟨some "default",ed,kp⟩] pos) (Tz K ta td):=by
 subst hK;intro pins s σ H Q I h;refine CI (X8 I hg hm Kd ?_ (by decide) (by decide));refine callWith_kw (thn (ha pos pins s σ H _ I h) fun us s1 ⟨vs,H1,I1,r1,q1⟩=>kws_cons (thn (hd pins s1 σ H1 _ I1 q1) fun ud s2 ⟨dv,H2,I2,rd,p,ns,k,e1,e2,hq,h0,h1⟩=>kws_nil ?_)) (by rw[he];rfl) (by rw[he];rfl);subst e1 e2;obtain⟨u,rfl,ru⟩:=Q6 r1;cases ru;obtain⟨td',rfl⟩:=(show ∃t,ud=Value.int k t from rd);obtain⟨its,rv,pl,hz⟩:=I2.list hq;have hi:=n8 rv;obtain⟨xs,ex⟩:=hi.allInts.items;have en:numsOf its=ns:=hi.numsOf;have e2:numsOf (intItems xs).toList=numsOf its:=by rw[<-ex]
 rw[nums_intItems,en]at e2;have ln:xs.size=ns.length:=by rw[<-e2,AB,AW]
 show wpAny _ X.A (call (.builtin "max") [.ref p] [("default",.int k td')]) _ _ s2;refine Jd (xs:=xs) (I2.ok.hd hc) (by rw[<-ex];exact pl.isList) (fun z h' tk kp=>⟨.int k,H2,I2.kept kp,⟨_,rfl⟩,h0 (List.length_eq_zero_iff.mp (by omega))⟩) fun m t h' tk ⟨i,li,e⟩ al kp=>⟨.int m,H2,I2.kept kp,⟨_,rfl⟩,h1 m ?_ fun a ha=>?_⟩
 .rw[e,numAt_eq,e2];exact getD_mem (by omega)
 .rw[<-e2]at ha;obtain⟨j,hj,rfl⟩:=mem_getD ha;rw[AB,AW]at hj;rw[<-numAt_eq];exact al j hj
theorem Pr{X:Cx}(K:PySem.W.Frag)(hK:X.K=K:=by rfl)(hc:X.calm=true:=by rfl):E3 X (.builtin "max") (fun xs H Q=>∃(p:Addr) (ns:List Int),xs = [.ref p]/\SqL K H p (ns.map V.int)/\ns≠[]/\∀m∈ns,(∀a∈ns,a<=m)->Q (.int m) H):=by
 subst hK;intro pins s σ H xs us Q I r h;obtain⟨p,ns,rfl,hq,ne,q⟩:=h;obtain⟨u,rfl,ru⟩:=Q6 r;cases ru;obtain⟨its,rv,pl,hz⟩:=I.list hq;have hi:=n8 rv;obtain⟨xs,ex⟩:=hi.allInts.items;have en:numsOf its=ns:=hi.numsOf;have e2:numsOf (intItems xs).toList=numsOf its:=by rw[<-ex]
 rw[nums_intItems,en]at e2;have ln:xs.size=ns.length:=by rw[<-e2,AB,AW]
 have lp:0<ns.length:=List.length_pos_iff.mpr ne;refine max_intList (xs:=xs) (I.ok.hd hc) (by rw[<-ex];exact pl.isList) (by omega) fun v h' tk hv kp=>?_;obtain⟨t,rfl⟩:=intItems_at hv;obtain⟨h1,h2⟩:=argBest_gt (numAt xs) (xs.size-1);refine⟨.int _,H,I.kept kp,⟨_,rfl⟩,q _ ?_ fun a ha=>?_⟩
 .rw[numAt_eq,e2];exact getD_mem (by omega)
 .rw[<-e2]at ha;obtain⟨j,hj,rfl⟩:=mem_getD ha;rw[AB,AW]at hj;rw[<-numAt_eq];exact h2 j (by omega)
section
variable{X:Cx}{k:Nat}{f:Addr}{fd:FuncData}{ps:List Str}{sp:Sp}{x:Str}{p pos:Pos}{e:Expr}{es:List Expr}{t:TA}
theorem Hu{i:Nat}(nox:∀e s,¬X.xe e s)(F:FnOk X.prog X.w X.K X.mg X.base (CXe X.prog X.w) k f fd ps sp)(hr:Room k X.A)(hk:PySem.W.keepIn X.K (.ref f)=true)(hb:Binds X.K fd ps [])
  (ha:PA X (e::es) t) (hN:X.N[i]?=some x:=by rfl) (hv:Vis X.env.scope x:=by first | exact Or.inl rfl | exact Or.inr (Or.inl rfl) | exact Or.inr (Or.inr rfl)) (hdb:(x ==("__debug__":Str))=false:=by decide) (hcd:(x ==("__classdict__":Str))=false:=by decide)
  (he:starEach (e::es) X.env =(false,eval e X.env)::starEach es X.env:=by rfl) (hpl:(backTo pos (starEach es X.env)).any (·.1)=false:=by rfl) :
  PEx X (.Call (.Name x p) (e::es) [] pos) (fun E=>Qi i f sp E t):=by
 intro pins s σ H Q E I h;obtain⟨e1,h⟩:=h;refine CI (BP (Gv (i:=i) (pos:=p) hN hv hdb hcd pins s σ H (fun v H'=>v = .ref f/\H'=H) I ⟨_,e1,rfl,rfl⟩) (fun u s1 ⟨v,H1,I1,r1,e2,e3⟩=>?_) fun _ _ z=>(nox _ _ z).elim);subst e2 e3;cases r1;refine PySem.W.callWith_K (h₀:=X.base) I1.ok.mod.kin hk (BP (ha pos pins s1 σ H1 _ I1 h) (fun us s2 ⟨vs,H2,I2,r,q⟩=>⟨I2.kIn,?_⟩) fun _ _ z=>(nox _ _ z).elim) he hpl;have q:sp vs H2 Q E:=by
  have:sp (vs ++ []) H2 Q E:=q
  rwa [CA]at this
 have hl:us.length=ps.length:=by rw[<-r.length];exact F.len _ _ _ _ q
 have bd:=hb s2 us I2.kIn (by rw[CA];exact hl);rw[CA]at bd;refine EC (DV (F.run X.A X.stack s2 H2 ⟨us,[]⟩ us vs Q E hr I2.env0 bd r q) fun r s' hq=>?_);cases r with
 | error e=>exact⟨_,_,I2,hq⟩
 | ok fl =>
  cases fl with
  | ret u=>exact I2.after hq
  | next=>exact False.elim hq
  | brk=>exact False.elim hq
  | cont=>exact False.elim hq
end
end L2
namespace Sw
open PySem L2
def top(i:Nat):Stmt:=PySem.Challenge.pw_strikeweave_k57_strengths.main.body.getD i (.Pass ⟨0,0,0,0⟩)
abbrev s_is_number:Stmt:=top 11
abbrev s_is_listed:Stmt:=top 12
abbrev s_is_row_of:Stmt:=top 13
abbrev s_is_name:Stmt:=top 17
abbrev s_check_part:Stmt:=top 22
abbrev s_begins_of:Stmt:=top 23
abbrev s_names_of:Stmt:=top 24
abbrev s_fits_people:Stmt:=top 25
abbrev s_fits_sayings:Stmt:=top 26
abbrev s_fits_strikes:Stmt:=top 27
abbrev s_fits_backs:Stmt:=top 28
abbrev s_is_fresh:Stmt:=top 29
abbrev s_is_rank:Stmt:=top 30
abbrev s_are_speakers:Stmt:=top 31
abbrev s_strength:Stmt:=top 34
abbrev s_saying_strength:Stmt:=top 35
abbrev s_row_of:Stmt:=top 36
abbrev s_saying_of:Stmt:=top 37
abbrev s_counting:Stmt:=top 38
abbrev s_law_mix:Stmt:=top 40
abbrev s_law_left:Stmt:=top 41
abbrev s_law_pick:Stmt:=top 42
abbrev s_law_same:Stmt:=top 43
abbrev s_law_many_names:Stmt:=top 44
abbrev s_law_people:Stmt:=top 45
abbrev s_law_speakers:Stmt:=top 46
abbrev s_law_sizes:Stmt:=top 47
abbrev s_law_weave_rows:Stmt:=top 48
abbrev s_law_strength:Stmt:=top 49
abbrev s_law_live:Stmt:=top 50
abbrev s_law_asked:Stmt:=top 51
abbrev s_law:Stmt:=top 52
abbrev s_BadWeave___init__:Stmt:=Ke (top 4) 0
abbrev s_Weave___init__:Stmt:=Ke (top 21) 0
def Ci:Str:=("Weave.__init__":Str) ++ ".<locals>." ++ "<lambda>"
def Q3:List (Pos×Str):=[(⟨50,39,50,90⟩,Ci),(⟨52,39,52,98⟩,Ci),(⟨53,35,53,85⟩,Ci)]
structure Tx(K:PySem.W.Frag)(mg:Str->Option Value) where
 aG:Fn K mg "is_number" s_is_number ["thing"]
 aC:Fn K mg "is_listed" s_is_listed ["thing"]
 ao:Fn K mg "is_row_of" s_is_row_of ["thing", "many"]
 aQ:Fn K mg "is_name" s_is_name ["thing"]
 an:Fn K mg "check_part" s_check_part ["part", "rows", "fits"]
 aH:Fn K mg "begins_of" s_begins_of ["rows"]
 ak:Fn K mg "names_of" s_names_of ["rows"]
 ah:Fn K mg "fits_people" s_fits_people ["ahead", "row"]
 aw:Fn K mg "fits_sayings" s_fits_sayings ["people", "ahead", "row"]
 ax:Fn K mg "fits_strikes" s_fits_strikes ["sayings", "goals", "ahead", "row"]
 aE:Fn K mg "fits_backs" s_fits_backs ["sayings", "ahead", "row"]
 ay:Fn K mg "is_fresh" s_is_fresh ["taken", "thing"]
 aR:Fn K mg "is_rank" s_is_rank ["thing"]
 az:Fn K mg "are_speakers" s_are_speakers ["names", "thing"]
 af:Fn K mg "strength" s_strength ["weave", "name"]
 ae:Fn K mg "saying_strength" s_saying_strength ["weave", "saying"]
 au:Fn K mg "row_of" s_row_of ["rows", "name"]
 al:Fn K mg "saying_of" s_saying_of ["weave", "name"]
 aM:Fn K mg "counting" s_counting ["weave"]
 aK:Fn K mg "_law_mix" s_law_mix ["_law_cell", "_law_k"]
 aN:Fn K mg "_law_left" s_law_left ["_law_script", "_law_k"]
 ac:Fn K mg "_law_pick" s_law_pick ["_law_left_here", "_law_many"]
 ag:Fn K mg "_law_same" s_law_same ["_law_found", "_law_due"]
 ap:Fn K mg "_law_many_names" s_law_many_names ["_law_left_here", "_law_many"]
 aF:Fn K mg "_law_people" s_law_people ["_law_left_here", "_law_many"]
 aA:Fn K mg "_law_speakers" s_law_speakers ["_law_left_here", "_law_people_here"]
 aI:Fn K mg "_law_sizes" s_law_sizes ["_law_left_here", "_law_most"]
 aq:Fn K mg "_law_weave_rows" s_law_weave_rows ["_law_left_here", "_law_most"]
 am:Fn K mg "_law_strength" s_law_strength ["_law_rows", "_law_name"]
 aO:Fn K mg "_law_live" s_law_live ["_law_rows"]
 aJ:Fn K mg "_law_asked" s_law_asked ["_law_ask", "_law_weave", "_law_name"]
 aa:Addr
 ai:Cls K aa
 bE:mg "Weave" = some (.ref aa)
 aS:NoAttr K aa "people"
 ar:NoAttr K aa "sayings"
 as:NoAttr K aa "strikes"
 bl:NoAttr K aa "backs"
 a9:Addr
 a3:FuncData
 ba:Fun K "__init__" "Weave.__init__" s_Weave___init__ a9 a3
 bb:Binds K a3 ["self", "people", "sayings", "strikes", "backs"] []
 bF:Mk K aa a9
 bL:Addr
 ad:Addr
 aP:TabAt K mg bL ad
 aW:a3.code = .ref bL
 bM:Addr
 bN:List Value
 bi:XC K bM bN
 bj:mg "StrikeError" = some (.ref bM)
 a4:Addr
 bO:List Value
 bP:XC K a4 bO
 bw:mg "BadName" = some (.ref a4)
 aX:Addr
 bQ:List Value
 bR:XC K aX bQ
 bo:mg "BadStrike" = some (.ref aX)
 a1:Addr
 bS:List Value
 bT:XC K a1 bS
 bt:mg "BadWeave" = some (.ref a1)
 be:Addr
 bU:List Value
 bV:XC K be bU
 bz:mg "BadRow" = some (.ref be)
 av:Addr
 bA:List Value
 a5:XC K av bA
 a6:mg "NoName" = some (.ref av)
 a2:Addr
 bW:List Value
 bX:XC K a2 bW
 bu:mg "NoStrike" = some (.ref a2)
 bf:Addr
 bY:List Value
 bZ:XC K bf bY
 bB:mg "NoMove" = some (.ref bf)
 a7:Addr
 b0:List Value
 b1:XC K a7 b0
 bx:mg "TooMany" = some (.ref a7)
 b2:XG K a1
 b3:IsC K a1
 b4:(Value.ref a1::bS).contains (.ref bM)=true
 b5:PySem.W.kitAny K (.ref a1) [.ref a4,.ref aX,.ref a1,.ref be,.ref a2,.ref bf,.ref a7]=some true
 b6:PySem.W.kitOne K (.ref a1) (.ref av)=some false
 b7:PySem.W.kitOne K (.ref a1) (.type "ValueError")=some true
 b8:NoAttr K a1 "part"
 b9:NoAttr K a1 "place"
 ca:Addr
 cb:FuncData
 cc:Fun K "__init__" "BadWeave.__init__" s_BadWeave___init__ ca cb
 cd:Binds K cb ["self", "part", "place"] []
 ce:Meth K a1 "__init__" ca
 aT:XG K av
 aU:IsC K av
 aY:(Value.ref av::bA).contains (.ref bM)=true
 bp:PySem.W.kitAny K (.ref av) [.ref a4,.ref aX,.ref a1,.ref be,.ref a2,.ref bf,.ref a7]=some false
 bq:PySem.W.kitOne K (.ref av) (.ref av)=some true
 br:PySem.W.kitOne K (.ref av) (.type "ValueError")=some true
 bC:PySem.W.findIn K (.ref av) "__init__" = some (some (.builtin "ValueError.__init__"))
 bD:∃t,mg "LETTERS" = some (.str "abcdefghijklmnopqrstuvwxyz" t)
 bk:∃t,mg "LONGEST_NAME" = some (.int 8 t)
 cf:Addr
 bG:mg "KINDS" = some (.ref cf)
 bH:GTup K cf ["fact", "claim"]
 bg:∃t,mg "GREATEST_RANK" = some (.int 9 t)
 bh:∃t,mg "FACT_STRENGTH" = some (.int 10 t)
 aj:mg "len" = none
 aD:mg "range" = none
 bs:mg "enumerate" = none
 bI:mg "zip" = none
 bJ:mg "min" = none
 bc:mg "max" = none
 bv:mg "abs" = none
 a8:mg "sorted" = none
 aZ:mg "int" = none
 a0:mg "str" = none
 aV:mg "bool" = none
 aB:mg "list" = none
 aL:mg "tuple" = none
 bm:mg "dict" = none
 bK:mg "set" = none
 ab:mg "isinstance" = none
 bd:mg "all" = none
 bn:mg "ValueError" = none
end Sw
namespace L2
open PySem
theorem fsc{N ps:List Str}{sc:Scope}(h1:sc.kind = .function:=by rfl)(h2:sc.isCoroutine=false:=by rfl)(h3:sc.isGenerator=false:=by rfl)(h4:N.Nodup:=by decide +kernel)(h5:N.take ps.length=ps:=by rfl)(h6:∀x∈ps,sc.names.lookup x=some .local\/sc.names.lookup x=some .cell:=by decide +kernel)(h7:∀y∈sc.names,y.2≠ .free:=by decide +kernel):FnScope N ps sc:=⟨h1,h2,h3,h4,h5,h6,h7⟩
theorem Rm{j k:Nat}{A:Around}(h:Room k A)(e:j<=k:=by decide):Room j A:=h.mono e
theorem Y2{J:It}{xs:List V}{a:Addr}{H0:Hp}(as:AsSeq J xs a H0){g:TG}{tb:TS}{D:Ends}{σ:St}{H:Hp}(Pv:Nat->St->Hp->Prop)(h0:Pv 0 σ H)(hk:∀i σ H,i<=xs.length->Pv i σ H->KeepAt a H0 H)
  (hs:∀i σ H x,xs[i]?=some x->Pv i σ H->∀D':Ends,(∀σ' H',Pv (i+1) σ' H'->D'.nx σ' H')->D'.rt=D.rt->g x σ H fun σ2 H2=>tb D' σ2 H2) (hd:∀σ H,Pv xs.length σ H->D.nx σ H) :
  ∃W:Nat->Nat->St->Hp->Prop,(∃m,W 0 m σ H)/\∀i m σ H,W i m σ H ->
   (J.stop i H/\D.nx σ H)\/(J.go i H/\∃N:St->Hp->Prop,(∀σ' H',N σ' H'->∃m',m' < m/\W (i+1) m' σ' H')/\∀x H',J.yld i H x H'->g x σ H' fun σ2 H2=>tb { D with nx:=N,ct:=N,bk:=D.nx } σ2 H2) :=
 Rl as Pv h0 hk (fun i σ H x hx hp=>hs i σ H x hx hp _ (fun _ _ z=>z) rfl) hd
theorem P0{lo:Int}{n:Nat}{g:TG}{tb:TS}{D:Ends}{σ:St}{H:Hp}(Pv:Nat->St->Hp->Prop)(h0:Pv 0 σ H)
  (hs:∀i σ H,i<n->Pv i σ H->∀D':Ends,(∀σ' H',Pv (i+1) σ' H'->D'.nx σ' H')->D'.rt=D.rt->g (.int (lo+i)) σ H fun σ2 H2=>tb D' σ2 H2) (hd:∀σ H,Pv n σ H->D.nx σ H) :
  ∃W:Nat->Nat->St->Hp->Prop,(∃m,W 0 m σ H)/\∀i m σ H,W i m σ H ->
   ((Itr lo n).stop i H/\D.nx σ H)\/((Itr lo n).go i H/\∃N:St->Hp->Prop,(∀σ' H',N σ' H'->∃m',m' < m/\W (i+1) m' σ' H')/\∀x H',(Itr lo n).yld i H x H'->g x σ H' fun σ2 H2=>tb { D with nx:=N,ct:=N,bk:=D.nx } σ2 H2) :=
 Im Pv h0 (fun i σ H hi hp=>hs i σ H hi hp _ (fun _ _ z=>z) rfl) hd
theorem ex1{α:Type}{A C:α->Prop}{a:α}(e:A a)(h:C a):∃v,A v/\C v:=⟨a,e,h⟩
theorem K8{α0 α1 α2:Type}{A0 A1 A2 A3 A4 A5:α0->α1->α2->Prop}{a:α0}{b:α1}{c:α2}(h0:A0 a b c)(h1:A1 a b c)(h2:A2 a b c)(h3:A3 a b c)(h4:A4 a b c)(h5:A5 a b c):∃a b c,A0 a b c/\A1 a b c/\A2 a b c/\A3 a b c/\A4 a b c/\A5 a b c:=⟨a,b,c,h0,h1,h2,h3,h4,h5⟩
theorem B7{α0 α1:Type}{A0 A1 A2:α0->α1->Prop}{a:α0}{b:α1}(h0:A0 a b)(h1:A1 a b)(h2:A2 a b):∃a b,A0 a b/\A1 a b/\A2 a b:=⟨a,b,h0,h1,h2⟩
theorem B5{t u:TS}{D:Ends}{σ:St}{H:Hp}(h:∀N:St->Hp->Prop,(∀σ' H',u D σ' H'->N σ' H')->t { D with nx:=N } σ H):Sx t u D σ H:=h _ fun _ _ z=>z
theorem Ny{i:Nat}{v:V}{t u:TS}{D:Ends}{σ:St}{H:Hp}(h:∀N:St->Hp->Prop,(∀σ' H',u D σ' H'->N σ' H')->t { D with nx:=N } (σ.set i (some v)) H):w6 i v σ H (fun σ2 H2=>Sx t u D σ2 H2):=h _ fun _ _ z=>z
end L2
namespace Sw
open PySem L2
section
variable{P:Program}{w:World}{K:PySem.W.Frag}{mg:Str->Option Value}{base:Heap}
def Po(c:Nat):Bool:=decide (97<=c)&&decide (c<=122)
def E5(x:Str):Bool:=decide (1<=x.length)&&decide (x.length<=8)&&x.cps.toList.all Po
theorem Cy:("abcdefghijklmnopqrstuvwxyz":Str).cps.toList=List.range' 97 26:=by decide +kernel
theorem Pb(c:Nat):decide (c∈("abcdefghijklmnopqrstuvwxyz":Str).cps.toList)=Po c:=by
 rw[Cy];unfold Po;by_cases h1:97<=c
 .by_cases h2:c<=122
  .rw[AI (List.mem_range'_1.mpr (by omega)),AI h1,AI h2];rfl
  .rw[BD (fun z=>by have:=List.mem_range'_1.mp z;omega),BD h2,Bool.and_false]
 .rw[BD (fun z=>by have:=List.mem_range'_1.mp z;omega),BD h1,FI]
theorem Gf:FnScope ["thing"] ["thing"] (B3 s_is_name):=fsc
def Gc:Sp:=fun vs H Q _=>∃x,vs = [.str x]/\x.length<=1000/\∀H',Same H H'->Q (.bl (E5 x)) H'
theorem Fq(T:Tx K mg):FnOk P w K mg base CX0 1 T.aQ.f T.aQ.fd ["thing"] Gc:=by
 refine T.aQ.F.ok Gf (fun vs H Q E h=>?_) (fun cdv A outer s H vs Q E hr h=>?_)
 .obtain⟨x,rfl,_⟩:=h;rfl
 .obtain⟨x,rfl,hx,k⟩:=h;refine⟨_,(B0 (E7 (PW.pt (Bf (K7 (F6 (D0 (E2 K) T.ab B8 (A6 (pv 0) (A6 (J4 T.a0 Et) A8))))) (a7 (K7 (Mb Lu Lu A9 (D0 Ba T.aj G8 (A6 (pv 0) A8)) (Ot T.bk)))))) (B2 (B9 Ad)) C5)
   (B2 (B9 (D0 (Jw K) T.bd Ig (A6 (Q9 (N':=["letter"]) (cap:=[none]) (cl:=[]) (O2 trivial trivial) rfl (Qr (pv 0)) (fun _ _ _ _=>by exact⟨(pgC 0),E8,(D5 Jy (pv 0) (Tt T.bD) rfl)⟩)) A8))))),?_⟩
  have h64:x.length<=sizeLine:=by rw[sizeLine_eq];omega
  have hlen:x.cps.size=x.length:=rfl;refine ex1 rfl ⟨.str x, "str",_,true,rfl,.str x,rfl,ex1 rfl ?_⟩;refine R0 ?_;refine ex1 rfl ⟨x,rfl,h64,B7 rfl rfl (ex1 rfl ?_)⟩;refine l9 (fun c1=>?_) (fun c1=>?_)
  .have c1:(1:Int)<=(x.length:Int):=BS c1;refine B7 rfl rfl (ex1 rfl ?_);by_cases c2:(x.length:Int)<=8
   .rw[AI c2];refine R0 ?_;refine ex1 rfl ⟨x,rfl,fun D hD=>?_⟩;refine Bu (n:=x.cps.size) (fun i σ H'=>(∃v,σ = [v])/\Same H H'/\H' D=some (.lst ((x.cps.toList.take i).map fun c=>V.bl (Po c)))) ⟨⟨_,rfl⟩,Same.new hD,A7⟩ (fun i _ _ hi _=>hi) (fun _ _ _=>rfl) ?_ ?_
    .rintro i σ H1 v H' N hi ⟨⟨v0,rfl⟩,s1,e1⟩ ⟨rfl,c,hc,rfl⟩ hN;refine Cd ?_;refine ex1 rfl (B7 rfl rfl ⟨_,e1,?_,?_⟩)
     .rw[AB,AG,sizeLine_eq];omega
     .rw[PySem.StrLaws.found_one,Pb];refine hN _ _ ⟨⟨_,rfl⟩,s1.upd hD,?_⟩;rw[A7];have:x.cps.toList[i]?=some c:=by rw[BL];exact hc
      rw[List.take_add_one,this,A_];rfl
    .rintro σ H1 ⟨_,s1,e1⟩;refine⟨D,x.cps.toList.map Po,rfl,SqL.of ?_,?_⟩
     .rw[e1,<-AW,CD,AS];rfl
     .have e:(x.cps.toList.map Po).all id=E5 x:=by
       unfold E5;rw[AI (show 1<=x.length by omega),AI (show x.length<=8 by omega),List.all_map];rfl
      rw[e];exact k _ s1
   .rw[BD c2];refine U3 ?_;have e:E5 x=false:=by
     unfold E5;rw[BD (show ¬x.length<=8 by omega),Bool.and_false,FI]
    have:=k H (Same.refl H);rw[e]at this;exact this
  .have c1:¬(1:Int)<=(x.length:Int):=fun z=>c1 (AI z);refine ex1 rfl ?_;refine U3 ?_;have e:E5 x=false:=by
    unfold E5;rw[BD (show ¬1<=x.length by omega),FI,FI]
   have:=k H (Same.refl H);rw[e]at this;exact this
theorem D8{α:Type}{l:List α}{i:Nat}{x:α}(h:l[i]?=some x):l.take (i+1)=l.take i ++ [x]:=by
 rw[List.take_add_one,h];rfl
theorem O9{α:Type}{l:List α}{i:Nat}{x:α}(nd:l.Nodup)(h:l[i]?=some x):x∉l.take i:=by
 intro hm;obtain⟨j,hj,e⟩:=List.getElem_of_mem hm;have hj':j<i:=by rw[AG]at hj;omega
 rw[List.getElem_take]at e;obtain⟨hi,e'⟩:=AK.mp h;have:=(List.getElem_inj nd).mp (e.trans e'.symm);omega
def Co(ss:List Str):Prop:=(∀x∈ss,E5 x=true)/\ss.Nodup/\ss.length<=100
theorem Jc{x:Str}(h:E5 x=true):1<=x.length/\x.length<=8:=by
 unfold E5 at h;rw[CC,CC]at h;exact⟨BS h.1.1,BS h.1.2⟩
end
theorem Bm(ss:List Str):(ss.map V.str).all x6=true:=by
 rw[DM];intro v hv;obtain⟨x,_,rfl⟩:=BA.mp hv;rfl
theorem Jb(x:Str)(ss:List Str):inV (.str x) (ss.map V.str)=decide (x∈ss):=by
 unfold inV;rw[List.any_map]
 induction ss with
 | nil=>rfl
 | cons y r ih =>
  rw[EW,ih];show((y == x)||decide (x∈r))=decide (x∈y::r);by_cases e:x=y
  .subst e;simp
  .have:(y == x)=false:=by simpa using fun z=>e z.symm
   rw[this,Bool.false_or];by_cases h:x∈r
   .rw[AI h,AI (AY _ h)]
   .rw[BD h,BD (fun z=>(AN.mp z).elim e h)]
theorem O5{K:PySem.W.Frag}{H:Hp}{p:Addr}{x:Str}{ss:List Str}{Q:VK}(h:Sqs K H p (ss.map V.str))(q:Q (.bl (decide (x∈ss))) H):rIn K false (.str x) (.ref p) H Q :=
 ⟨p,_,rfl,h,rfl,Bm ss,by rw[AU (by decide),Jb];exact q⟩
theorem j8{K:PySem.W.Frag}{H:Hp}{p:Addr}{x:Str}{ss:List Str}{Q:VK}(h:Sqs K H p (ss.map V.str))(q:Q (.bl (!decide (x∈ss))) H):rIn K true (.str x) (.ref p) H Q :=
 ⟨p,_,rfl,h,rfl,Bm ss,by rw[BB rfl,Jb];exact q⟩
theorem Gk{α:Type}{J:It}{ys:List α}{r:α->V}(f:α->V){a D:Addr}{H:Hp}(as:AsSeq J (ys.map r) a H){tc:TT}{te:TE}{c:St}{v0:Option V}{Q:St->Hp->Prop}(p:α->Bool)(len:ys.length<=5000)(hD:H D=none)
  (ht:∀y∈ys,∀G,Same H G->∀M:Bool->Hp->Prop,(∀G',Same G G'->M (p y) G')->tc (some (r y)::c) G M) (he:∀y∈ys,∀G,Same H G->∀M:VK,(∀G',Same G G'->M (f y) G')->te (some (r y)::c) G M)
  (q:∀σ G,Same H G->G D=some (.lst ((ys.filter p).map f))->Q σ G):Ms (w6 0) tc (Gi D te) J (v0::c) (upd H D (.lst [])) Q:=by
 refine U6 as (fun i σ G=>(∃v,σ=v::c)/\Same H G/\G D=some (.lst (((ys.take i).filter p).map f))) ⟨⟨_,rfl⟩,Same.new hD,A7⟩ (fun i σ G _ h=>h.2.1.at a) ?_ ?_
 .rintro i σ G v N hx ⟨⟨v0,rfl⟩,sG,eG⟩ hN;rw[AH]at hx;obtain⟨y,hy,rfl⟩:=AR.mp hx;have my:=AL hy;refine ht y my G sG _ fun G' s'=>?_;have eG:=s' _ _ eG;have sG:=sG.trans s';have hs:(ys.take (i+1)).filter p =(ys.take i).filter p++if p y=true then [y]else []:=by
   rw[D8 hy,List.filter_append,List.filter_cons,List.filter_nil]
  have hl:=List.length_filter_le p (ys.take i);rw[AG]at hl;refine l9 (fun c=>he y my G' sG _ fun G2 s2=>⟨_,s2 _ _ eG,by rw[AB,sizeLine_eq];omega,hN _ _ ⟨⟨_,rfl⟩,(sG.trans s2).upd hD,?_⟩⟩) (fun c=>hN _ _ ⟨⟨_,rfl⟩,sG,?_⟩)
  .rw[A7,hs,BB c,A_];rfl
  .rw[hs,AU c,CA];exact eG
 .rintro σ G ⟨_,sG,eG⟩;rw[AB,CD]at eG;exact q σ G sG eG
theorem Kr{K:PySem.W.Frag}{x:Str}{H:Hp}{Q:VK}(o:PySem.PyData.strOk x=true)(q:Q (.bl true) H):Ta K (.str x) (.str x) H Q:=by
 have e:Rp K H (.str x) (.str x):=by simp only[Rp]
 have p:Pl (.str x):=⟨by rw[PyData.canLay0];exact o,by rw[PyData.depth];decide⟩;exact⟨_,_,e,e,p,p,by rw[PySem.SeqAt.eqv_refl _ p.1];exact q⟩
def tyB(b:Bool):Value:=.type (bif b then "list" else "tuple")
theorem So{K:PySem.W.Frag}:∀b,PySem.W.kitOne K (tyB b) (.type "list")=some b
 | true=>rfl
 | false=>rfl
theorem Sj{K:PySem.W.Frag}:∀b,PySem.W.kitOne K (tyB b) (.type "tuple")=some !b
 | true=>rfl
 | false=>rfl
theorem Sf{K:PySem.W.Frag}:∀b,PySem.W.kitAny K (tyB b) (["list", "tuple"].map Value.type)=some true
 | true=>rfl
 | false=>rfl
theorem Rr(b:Bool):(!decide (V.bl b=V.bl b))=false:=congrArg _ (AI rfl)
def LT(b:Bool)(xs:List V):HO:=bif b then .lst xs else .tup xs
theorem Fv{K:PySem.W.Frag}{H:Hp}{l:Addr}{xs:List V}:∀{b:Bool},H l=some (LT b xs)->TyOf K H (.ref l) (tyB b)
 | true,h=>.lst h
 | false,h=>.tup h
theorem Ou{H:Hp}{l:Addr}{xs:List V}:∀{b:Bool},H l=some (LT b xs)->H l=some (.lst xs)\/H l=some (.tup xs)
 | true,h=>.inl h
 | false,h=>.inr h
def sqB(K:PySem.W.Frag)(b:Bool):Hp->Addr->List V->Prop:=bif b then SqL K else SqT K
theorem Gb{K:PySem.W.Frag}{H:Hp}{l:Addr}{xs:List V}:∀{b:Bool},H l=some (LT b xs)->sqB K b H l xs
 | true,h=>SqL.of h
 | false,h=>SqT.of h
theorem Mq{K:PySem.W.Frag}{H:Hp}{l:Addr}{xs:List V}{b:Bool}(h:H l=some (LT b xs)):Sqs K H l xs:=(Ou h).imp SqL.of SqT.of
theorem Qd{K:PySem.W.Frag}{H:Hp}{l m:Addr}{xs ys:List V}{R:It->Hp->Prop}:∀{b:Bool},H l=some (LT b xs)->H m=some (LT b ys)->R (Px (sqB K b) l m) H->Ul K R l m xs ys H
 | true,h,h',q=>.inl ⟨SqL.of h,SqL.of h',q⟩
 | false,h,h',q=>.inr ⟨SqT.of h,SqT.of h',q⟩
def Tm(K:PySem.W.Frag):List V->Hp->VK->Prop:=fun xs H Q=>Nu K xs H Q\/∃(x:V) (p:Addr) (ns:List String) (b:Bool) (T:String),xs = [x,.ref p]/\H p=some (.tup (ns.map V.ty))/\((x = .non/\T = "NoneType")\/∃i,x = .int i/\T = "int")/\PySem.W.kitAny K (.type T) (ns.map Value.type)=some b/\Q (.bl b) H
theorem Ec{X:Cx}(K:PySem.W.Frag)(hK:X.K=K:=by rfl):E3 X (.builtin "isinstance") (Tm K):=by
 subst hK;intro pins s σ H xs us Q I r h;rcases h with h | ⟨x,p,ns,b,T,rfl,hp,ht,he,q⟩
 .exact Lw X.K rfl pins s σ H xs us Q I r h
 obtain⟨u,v,rfl,ru,rv⟩:=r.two;cases rv;obtain⟨its,rv,⟨⟨oc,od,odt,osl⟩,ho,hc,n,hd⟩,hz⟩:=I.tuple (SqT.of hp);rw[Da rv]at hd;cases hc;cases hd;rcases ht with⟨rfl,rfl⟩ | ⟨i,rfl,rfl⟩
 .cases ru;exact PySem.W.kia_tup PySem.W.kitx_none I.kIn True.intro ho he (fun z=>nomatch z) fun tk=>⟨.bl b,H,I.tok _,rfl,q⟩
 .obtain⟨t,rfl⟩:=(show ∃t,u=Value.int i t from ru);exact PySem.W.kia_tup PySem.W.kitx_int I.kIn True.intro ho he (fun z=>nomatch z) fun tk=>⟨.bl b,H,I.tok _,rfl,q⟩
theorem Eu{K:PySem.W.Frag}{d:PyData}{v:V}{H:Hp}{Q:VK}(e:Rp K H d v)(o:PyData.canLay0 d=true)(z:d.depth<=1)(q:Q (.bl true) H):Ta K v v H Q:=by
 have p:Pl d:=⟨o,Nat.le_trans z (by decide)⟩;exact⟨_,_,e,e,p,p,by rw[PySem.SeqAt.eqv_refl _ p.1];exact q⟩
abbrev RW:Type:=Addr×Str×List V
def Rw(H:Hp)(q:RW):Prop:=H q.1=some (.tup (.str q.2.1::q.2.2))
structure RowsAt(H:Hp)(l:Addr)(rs:List RW):Prop where
 at_:H l=some (.lst (rs.map fun q=>V.ref q.1))
 row:∀q∈rs,Rw H q
theorem RowsAt.same{H H':Hp}{l:Addr}{rs:List RW}(h:RowsAt H l rs)(s:Same H H'):RowsAt H' l rs:=⟨s _ _ h.at_,fun q hq=>s _ _ (h.row q hq)⟩
def V2(rs:List RW):List Str:=rs.map fun q=>q.2.1
section
variable{P:Program}{w:World}{K:PySem.W.Frag}{mg:Str->Option Value}{base:Heap}
theorem V7:FnScope ["thing"] ["thing"] (B3 s_is_number):=fsc
def Ja:Sp:=fun vs H Q _=>∃i:Int,vs = [.int i]/\Q (.bl true) H
theorem At(T:Tx K mg):FnOk P w K mg base CX0 1 T.aG.f T.aG.fd ["thing"] Ja:=by
 have sc:=V7;refine T.aG.F.ok V7 (fun vs H Q E h=>?_) (fun cdv A outer s H vs Q E hr h=>?_)
 .obtain⟨i,rfl,_⟩:=h;rfl
 .obtain⟨i,rfl,q⟩:=h;refine⟨_,(B2 (B9 (F4 (D0 (E2 K) T.ab B8 (A6 (pv 0) (A6 (J4 T.aZ Ej) A8))) (J0 (Mh (D0 (E2 K) T.ab B8 (A6 (pv 0) (A6 (J4 T.aV y9) A8)))))))),?_⟩;refine ex1 rfl ⟨.int i, "int",_,true,rfl,.int i,rfl,ex1 rfl (U3 ?_)⟩;exact ex1 rfl ⟨.int i, "bool",_,false,rfl,.int i,rfl,ex1 rfl q⟩
theorem V5:FnScope ["thing"] ["thing"] (B3 s_is_listed):=fsc
def Hh:Sp:=fun vs H Q _=>∃(a:Addr) (b:Bool) (xs:List V),vs = [.ref a]/\H a=some (LT b xs)/\∀H',Same H H'->Q (.bl true) H'
theorem V1(T:Tx K mg):FnOk P w K mg base CX0 1 T.aC.f T.aC.fd ["thing"] Hh:=by
 have sc:=V5;refine T.aC.F.ok V5 (fun vs H Q E h=>?_) (fun cdv A outer s H vs Q E hr h=>?_)
 .obtain⟨a,b,xs,rfl,_⟩:=h;rfl
 .obtain⟨a,b,xs,rfl,hS,q⟩:=h;refine⟨_,(B2 (B9 (D0 (Ec K) T.ab B8 (A6 (pv 0) (A6 (J9 (A6 (J4 T.aB K9) (A6 (J4 T.aL Q5) A8))) A8))))),?_⟩;refine ex1 rfl ⟨by show 2<=sizeLine;decide,fun t ht=>?_⟩;have s1:=Same.new (o:=.tup [.ty "list",.ty "tuple"]) ht;have m1:=s1 _ _ hS;exact .inl ⟨.ref a,t,["list", "tuple"],_,true,rfl,A7,Fv m1,.inr ⟨a,_,rfl,Ou m1⟩,Sf b,q _ s1⟩
theorem W0:FnScope ["thing", "many"] ["thing", "many"] (B3 s_is_row_of):=fsc
def Kb:Sp:=fun vs H Q _=>∃(p:Addr) (xs:List V) (n:Int),vs = [.ref p,.int n]/\H p=some (.tup xs)/\(xs.length:Int)=n/\Q (.bl true) H
theorem J1(T:Tx K mg):FnOk P w K mg base CX0 1 T.ao.f T.ao.fd ["thing", "many"] Kb:=by
 have sc:=W0;refine T.ao.F.ok W0 (fun vs H Q E h=>?_) (fun cdv A outer s H vs Q E hr h=>?_)
 .obtain⟨p,xs,n,rfl,_⟩:=h;rfl
 .obtain⟨p,xs,n,rfl,hp,hn,q⟩:=h;refine⟨_,(B2 (B9 (F4 (D0 (E2 K) T.ab B8 (A6 (pv 0) (A6 (J4 T.aL Q5) A8))) (J0 (D5 Y8 (D0 (J5 K) T.aj G8 (A6 (pv 0) A8)) (pv 1) (C7 _)))))),?_⟩;refine ex1 rfl ⟨.ref p, "tuple",_,true,rfl,.tup hp,rfl,ex1 rfl (U3 ?_)⟩;refine ex1 rfl (B7 (a:=p) rfl (.inr (SqT.of hp)) (ex1 rfl ⟨rfl,?_⟩));rw[hn,AI rfl];exact q
theorem Z4:FnScope ["rows"] ["rows"] (B3 s_names_of):=fsc
def d7:Sp:=fun vs H Q _=>∃(l:Addr) (rs:List RW),vs = [.ref l]/\RowsAt H l rs/\rs.length<=1000/\∀m H',Same H H'->H m=none->H' m=some (.lst ((V2 rs).map V.str))->Q (.ref m) H'
theorem K0(T:Tx K mg):FnOk P w K mg base CX0 1 T.ak.f T.ak.fd ["rows"] d7:=by
 have sc:=Z4;refine T.ak.F.ok Z4 (fun vs H Q E h=>?_) (fun cdv A outer s H vs Q E hr h=>?_)
 .obtain⟨l,rs,rfl,_⟩:=h;rfl
 .obtain⟨l,rs,rfl,hR,len,q⟩:=h;refine⟨_,(B2 (B9 (Q9 (N':=["row"]) (cap:=[none]) (cl:=[]) (O2 trivial trivial) rfl (piL K (pv 0)) (fun _ _ _ _=>by exact⟨(pgC 0),E8,(C1 (ixT K) (pv 0) A9 (fun _ _=>rfl))⟩)))),?_⟩;refine ex1 rfl ⟨l,rfl,⟨_,SqL.of hR.at_⟩,fun D hD=>?_⟩;refine Gk (r:=fun q:RW=>V.ref q.1) (fun q=>V.str q.2.1) (asL (SqL.of hR.at_)) (fun _=>true) (by omega) hD (fun y my G sG M hM=>hM G fun b o e=>e) (fun y my G sG M hM=>?_) fun σ' G sG eG=>?_
  .exact ex1 rfl ⟨y.1,_,B7 rfl rfl ⟨SqT.of (sG _ _ (hR.row y my)),B6 (j:=0) rfl,hM G fun b o e=>e⟩⟩
  .refine q D G sG hD ?_;rw[eG,DI.mpr fun _ _=>rfl];unfold V2;rw[AS];rfl
theorem V4:FnScope ["rows"] ["rows"] (B3 s_begins_of):=fsc
theorem Bk(T:Tx K mg):FnOk P w K mg base CX0 2 T.aH.f T.aH.fd ["rows"] d7:=by
 have G_is_listed:=V1 (P:=P) (w:=w) (base:=base) T;have sc:=V4;refine T.aH.F.ok V4 (fun vs H Q E h=>?_) (fun cdv A outer s H vs Q E hr h=>?_)
 .obtain⟨l,rs,rfl,_⟩:=h;rfl
 .obtain⟨l,rs,rfl,hR,len,q⟩:=h;refine⟨_,(B2 (B9 (Q9 (N':=["row"]) (cap:=[none]) (cl:=[]) (O2 trivial trivial) rfl (piL K (pv 0)) (fun _ _ _ _=>by exact⟨(pgC 0),(x5 (PW.pt (Ij (F6 (C0 T.aC G_is_listed (Rm hr) (A6 (pv 0) A8))) (Ck (C4 Nh (D0 (J5 K) T.aj G8 (A6 (pv 0) A8)) A9 (C7 _)))))),(C1 (ixT K) (pv 0) A9 (fun _ _=>rfl))⟩)))),?_⟩;refine ex1 rfl ⟨l,rfl,⟨_,SqL.of hR.at_⟩,fun D hD=>?_⟩;refine Gk (r:=fun q:RW=>V.ref q.1) (fun q=>V.str q.2.1) (asL (SqL.of hR.at_)) (fun _=>true) (by omega) hD (fun y my G sG M hM=>?_) (fun y my G sG M hM=>?_) fun σ' G sG eG=>?_
  .have ey:=sG _ _ (hR.row y my);refine ex1 rfl ⟨y.1,false,_,rfl,ey,fun G2 s2=>⟨_,rfl,U3 ?_⟩⟩;refine ex1 rfl (B7 (a:=y.1) rfl (.inr (SqT.of (s2 _ _ ey))) (B7 rfl rfl (ex1 rfl ?_)));rw[AI (by rw[BO];omega)];exact hM G2 s2
  .exact ex1 rfl ⟨y.1,_,B7 rfl rfl ⟨SqT.of (sG _ _ (hR.row y my)),B6 (j:=0) rfl,hM G fun b o e=>e⟩⟩
  .refine q D G sG hD ?_;rw[eG,DI.mpr fun _ _=>rfl];unfold V2;rw[AS];rfl
theorem Y7:FnScope ["taken", "thing"] ["taken", "thing"] (B3 s_is_fresh):=fsc
def Lp(K:PySem.W.Frag):Sp:=fun vs H Q _=>∃(l:Addr) (ss:List Str) (x:Str),vs = [.ref l,.str x]/\SqL K H l (ss.map V.str)/\E5 x=true/\x∉ss/\∀H',Same H H'->Q (.bl true) H'
theorem Q2(T:Tx K mg):FnOk P w K mg base CX0 2 T.ay.f T.ay.fd ["taken", "thing"] (Lp K):=by
 have G_is_name:=Fq (P:=P) (w:=w) (base:=base) T;have sc:=Y7;refine T.ay.F.ok Y7 (fun vs H Q E h=>?_) (fun cdv A outer s H vs Q E hr h=>?_)
 .obtain⟨l,ss,x,rfl,_⟩:=h;rfl
 .obtain⟨l,ss,x,rfl,hS,hn,hx,q⟩:=h;refine⟨_,(B2 (B9 (F4 (C0 T.aQ G_is_name (Rm hr) (A6 (pv 1) A8)) (J0 (D5 (Dt K) (pv 1) (pv 0) rfl))))),?_⟩;have hl:=Jc hn;refine ex1 rfl ⟨x,rfl,by omega,fun H1 s1=>⟨_,rfl,?_⟩⟩;rw[hn];refine U3 (ex1 rfl (ex1 rfl (j8 (.inl ((s1.at l).seqL hS)) ?_)));rw[BD hx];exact q H1 s1
theorem q9:FnScope ["thing"] ["thing"] (B3 s_is_rank):=fsc
def Pm:Sp:=fun vs H Q _=>∃i:Int,vs = [.int i]/\0<=i/\i<=9/\Q (.bl true) H
theorem Gg(T:Tx K mg):FnOk P w K mg base CX0 2 T.aR.f T.aR.fd ["thing"] Pm:=by
 have G_is_number:=At (P:=P) (w:=w) (base:=base) T;have sc:=q9;refine T.aR.F.ok q9 (fun vs H Q E h=>?_) (fun cdv A outer s H vs Q E hr h=>?_)
 .obtain⟨i,rfl,_⟩:=h;rfl
 .obtain⟨i,rfl,h0,h9,q⟩:=h;refine⟨_,(B2 (B9 (F4 (C0 T.aG G_is_number (Rm hr) (A6 (pv 0) A8)) (J0 (Kx Lu Lu A9 (pv 0) (Ot T.bg)))))),?_⟩;refine ex1 rfl ⟨i,rfl,_,rfl,U3 ?_⟩;refine ex1 rfl (B7 rfl rfl (ex1 rfl ?_));rw[AI h0];refine U3 (B7 rfl rfl ?_);show Q (.bl (decide (i<=9))) H;rw[AI h9];exact q
theorem O0:FnScope ["names", "thing"] ["names", "thing"] (B3 s_are_speakers):=fsc
def Dd(K:PySem.W.Frag):Sp:=fun vs H Q _=>∃(l m:Addr) (ns ss:List Str),vs = [.ref l,.ref m]/\H l=some (.lst (ns.map V.str))/\H m=some (.lst (ss.map V.str))/\(∀x∈ss,x∈ns)/\ss.Nodup/\ss.length<=100/\∀H',Same H H'->Q (.bl true) H'
theorem Z8(T:Tx K mg):FnOk P w K mg base CX0 2 T.az.f T.az.fd ["names", "thing"] (Dd K):=by
 have G_is_listed:=V1 (P:=P) (w:=w) (base:=base) T;have sc:=O0;refine T.az.F.ok O0 (fun vs H Q E h=>?_) (fun cdv A outer s H vs Q E hr h=>?_)
 .obtain⟨l,m,ns,ss,rfl,_⟩:=h;rfl
 .obtain⟨l,m,ns,ss,rfl,hl,hm,sub,nd,len,q⟩:=h;refine⟨_,(B2 (B9 (F4 (C0 T.aC G_is_listed (Rm hr) (A6 (pv 1) A8)) (F4 (D0 (Jw K) T.bd Ig (A6 (Q9 (N':=["one", "names"]) (cap:=[none,some 0]) (cl:=[("names",_)]) (O2 ⟨⟨rfl,rfl,rfl,rfl⟩,trivial⟩ ⟨rfl,trivial⟩) rfl (piL K (pv 1)) (fun _ _ _ _=>by exact⟨(pgC 0),E8,(D5 (Ca K) (pv 0) (pv 1) rfl)⟩)) A8)) (J0 (D5 Y8 (D0 (Ph w) T.aj G8 (A6 (t6 (Pn K w) T.bK Qj (A6 (pv 1) A8)) A8)) (D0 (J5 K) T.aj G8 (A6 (pv 1) A8)) (C7 _))))))),?_⟩;refine ex1 rfl ⟨m,true,_,rfl,hm,fun H1 s1=>⟨_,rfl,U3 ?_⟩⟩;have l1:=s1 _ _ hl;have m1:=s1 _ _ hm;refine ex1 rfl ⟨m,rfl,⟨_,SqL.of m1⟩,fun D hD=>?_⟩;refine Gk (fun x=>V.bl (decide (x∈ns))) (asL (SqL.of m1)) (fun _=>true) (by omega) hD (fun y my G sG M hM=>hM G fun b o e=>e) (fun y my G sG M hM=>ex1 rfl (ex1 rfl (O5 (.inl (SqL.of (sG _ _ l1))) (hM G fun b o e=>e)))) fun σ' G sG eG=>?_;have eG:G D=some (.lst ((ss.map fun x=>decide (x∈ns)).map V.bl)):=by
   rw[eG,DI.mpr fun _ _=>rfl,AS];rfl
  have ea:((ss.map fun x=>decide (x∈ns)).all id)=true:=by
   rw[List.all_map,DM];exact fun x hx=>AI (sub x hx)
  refine⟨D,_,rfl,SqL.of eG,_,rfl,?_⟩;rw[ea];refine U3 ?_;have m2:=sG _ _ m1;refine ex1 rfl ⟨m,ss,rfl,.inl (SqL.of m2),nd,by omega,fun z hz=>?_⟩;have uz:=Same.new (o:=Pw w z ss) hz;refine⟨z,ss,rfl,A7,ex1 rfl (B7 (a:=m) rfl (.inl (SqL.of (uz _ _ m2))) ⟨rfl,?_⟩)⟩;rw[AB,AI rfl];exact q _ ((s1.trans sG).trans uz)
theorem P8:FnScope ["ahead", "row"] ["ahead", "row"] (B3 s_fits_people):=fsc
def Fd:Sp:=fun vs H Q _=>∃(l p:Addr) (rs:List RW) (n:Str) (r:Int),vs = [.ref l,.ref p]/\RowsAt H l rs/\rs.length<=1000/\H p=some (.tup [.str n,.int r])/\E5 n=true/\n∉V2 rs/\0<=r/\r<=9/\∀H',Same H H'->Q (.bl true) H'
theorem g7(T:Tx K mg):FnOk P w K mg base CX0 3 T.ah.f T.ah.fd ["ahead", "row"] Fd:=by
 have G_is_row_of:=J1 (P:=P) (w:=w) (base:=base) T;have G_names_of:=K0 (P:=P) (w:=w) (base:=base) T;have G_is_fresh:=Q2 (P:=P) (w:=w) (base:=base) T;have G_is_rank:=Gg (P:=P) (w:=w) (base:=base) T;have sc:=P8;refine T.ah.F.ok P8 (fun vs H Q E h=>?_) (fun cdv A outer s H vs Q E hr h=>?_)
 .obtain⟨l,p,rs,n,r,rfl,_⟩:=h;rfl
 .obtain⟨l,p,rs,n,r,rfl,hR,len,hp,hn,hx,r0,r9,q⟩:=h;refine⟨_,(B2 (B9 (F4 (C0 T.ao G_is_row_of (Rm hr) (A6 (pv 1) (A6 A9 A8))) (F4 (C0 T.ay G_is_fresh (Rm hr) (A6 (C0 T.ak G_names_of (Rm hr) (A6 (pv 0) A8)) (A6 (C1 (ixT K) (pv 1) A9 (fun _ _=>rfl)) A8))) (J0 (C0 T.aR G_is_rank (Rm hr) (A6 (C1 (ixT K) (pv 1) A9 (fun _ _=>rfl)) A8))))))),?_⟩;refine ex1 rfl ⟨p,_,_,rfl,hp,rfl,_,rfl,U3 ?_⟩;refine ex1 rfl ⟨l,rs,rfl,hR,len,fun m H1 s1 hm em=>?_⟩;refine ex1 rfl ⟨p,_,B7 rfl rfl ⟨SqT.of (s1 _ _ hp),B6 (j:=0) rfl,?_⟩⟩;refine⟨m,_,n,rfl,SqL.of em,hn,hx,fun H2 s2=>⟨_,rfl,U3 ?_⟩⟩;refine ex1 rfl ⟨p,_,B7 rfl rfl ⟨SqT.of (s2 _ _ (s1 _ _ hp)),B6 (j:=1) rfl,?_⟩⟩;exact⟨r,rfl,r0,r9,q H2 (s1.trans s2)⟩
theorem O3:FnScope ["people", "ahead", "row"] ["people", "ahead", "row"] (B3 s_fits_sayings):=fsc
def El:Sp:=fun vs H Q _=>∃(a l p m:Addr) (ps rs:List RW) (n kd:Str) (ss:List Str),vs = [.ref a,.ref l,.ref p]/\RowsAt H a ps/\ps.length<=1000/\RowsAt H l rs/\rs.length<=1000/\H p=some (.tup [.str n,.str kd,.ref m])/\H m=some (.lst (ss.map V.str))/\E5 n=true/\n∉V2 rs/\(kd = "fact"\/kd = "claim")/\(∀x∈ss,x∈V2 ps)/\ss.Nodup/\ss.length<=100/\∀H',Same H H'->Q (.bl true) H'
theorem d0(T:Tx K mg):FnOk P w K mg base CX0 3 T.aw.f T.aw.fd ["people", "ahead", "row"] El:=by
 have G_is_row_of:=J1 (P:=P) (w:=w) (base:=base) T;have G_names_of:=K0 (P:=P) (w:=w) (base:=base) T;have G_is_fresh:=Q2 (P:=P) (w:=w) (base:=base) T;have G_are_speakers:=Z8 (P:=P) (w:=w) (base:=base) T;have sc:=O3;refine T.aw.F.ok O3 (fun vs H Q E h=>?_) (fun cdv A outer s H vs Q E hr h=>?_)
 .obtain⟨a,l,p,m,ps,rs,n,kd,ss,rfl,_⟩:=h;rfl
 .obtain⟨a,l,p,m,ps,rs,n,kd,ss,rfl,hP,lp,hR,lr,hp,hm,hn,hx,hk,sub,nd,ls,q⟩:=h;refine⟨_,(B0 (E7 (PW.pt (Bf (K7 (F6 (C0 T.ao G_is_row_of (Rm hr) (A6 (pv 2) (A6 A9 A8))))) (a7 (K7 (F6 (C0 T.ay G_is_fresh (Rm hr) (A6 (C0 T.ak G_names_of (Rm hr) (A6 (pv 1) A8)) (A6 (C1 (ixT K) (pv 2) A9 (fun _ _=>rfl)) A8)))))))) (B2 (B9 Ad)) C5)
   (B2 (B9 (F4 (D5 (Ca K) (C1 (ixT K) (pv 2) A9 (fun _ _=>rfl)) (f8 T.bG) rfl) (J0 (C0 T.az G_are_speakers (Rm hr) (A6 (C0 T.ak G_names_of (Rm hr) (A6 (pv 0) A8)) (A6 (C1 (ixT K) (pv 2) A9 (fun _ _=>rfl)) A8)))))))),?_⟩
  refine ex1 rfl ⟨p,_,_,rfl,hp,rfl,_,rfl,R0 ?_⟩;refine ex1 rfl ⟨l,rs,rfl,hR,lr,fun m1 H1 s1 hm1 em=>?_⟩;refine ex1 rfl ⟨p,_,B7 rfl rfl ⟨SqT.of (s1 _ _ hp),B6 (j:=0) rfl,?_⟩⟩;refine⟨m1,_,n,rfl,SqL.of em,hn,hx,fun H2 s2=>⟨_,rfl,R0 ?_⟩⟩;have s2:=s1.trans s2;refine ex1 rfl ⟨p,_,B7 rfl rfl ⟨SqT.of (s2 _ _ hp),B6 (j:=1) rfl,?_⟩⟩;have hk':decide (kd∈(["fact", "claim"]:List Str))=true:=AI (by rcases hk with rfl | rfl<;>decide);dsimp only[tC];refine O5 (ss:=["fact", "claim"]) (.inr T.bH.sq) ?_;rw[hk'];refine⟨_,rfl,U3 ?_⟩;refine ex1 rfl ⟨a,ps,rfl,hP.same s2,lp,fun m2 H3 s3 hm2 em2=>?_⟩;have s3:=s2.trans s3;refine ex1 rfl ⟨p,_,B7 rfl rfl ⟨SqT.of (s3 _ _ hp),B6 (j:=2) rfl,?_⟩⟩;exact⟨m2,m,_,ss,rfl,em2,s3 _ _ hm,sub,nd,ls,fun H4 s4=>q H4 (s3.trans s4)⟩
theorem O7:FnScope ["sayings", "goals", "ahead", "row", "said"] ["sayings", "goals", "ahead", "row"] (B3 s_fits_strikes):=fsc
def En:Sp:=fun vs H Q _=>∃(a g l p:Addr) (ss rs:List RW) (gs:List Str) (n o t:Str),vs = [.ref a,.ref g,.ref l,.ref p]/\RowsAt H a ss/\ss.length<=1000/\H g=some (.lst (gs.map V.str))/\RowsAt H l rs/\rs.length<=1000/\H p=some (.tup [.str n,.str o,.str t])/\E5 n=true/\n∉V2 ss/\n∉V2 rs/\o∈V2 ss/\(t∈V2 ss\/t∈gs)/\∀H',Same H H'->Q (.bl true) H'
theorem Z0(T:Tx K mg):FnOk P w K mg base CX0 3 T.ax.f T.ax.fd ["sayings", "goals", "ahead", "row"] En:=by
 have G_is_row_of:=J1 (P:=P) (w:=w) (base:=base) T;have G_names_of:=K0 (P:=P) (w:=w) (base:=base) T;have G_is_fresh:=Q2 (P:=P) (w:=w) (base:=base) T;have sc:=O7;refine T.ax.F.ok O7 (fun vs H Q E h=>?_) (fun cdv A outer s H vs Q E hr h=>?_)
 .obtain⟨a,g,l,p,ss,rs,gs,n,o,t,rfl,_⟩:=h;rfl
 .obtain⟨a,g,l,p,ss,rs,gs,n,o,t,rfl,hS,ls,hg,hR,lr,hp,hn,hx1,hx2,ho,ht,q⟩:=h;refine⟨_,(B0 (C3 (i:=4) sc.nd rfl (.inl rfl) (C0 T.ak G_names_of (Rm hr) (A6 (pv 0) A8)))
   (B0 (E7 (PW.pt (Bf (K7 (F6 (C0 T.ao G_is_row_of (Rm hr) (A6 (pv 3) (A6 A9 A8))))) (a7 (K7 (F6 (C0 T.ay G_is_fresh (Rm hr) (A6 (D6 Y4 (pv 4) (C0 T.ak G_names_of (Rm hr) (A6 (pv 2) A8))) (A6 (C1 (ixT K) (pv 3) A9 (fun _ _=>rfl)) A8)))))))) (B2 (B9 Ad)) C5)
   (B2 (B9 (F4 (D5 (Ca K) (C1 (ixT K) (pv 3) A9 (fun _ _=>rfl)) (pv 4) rfl) (J0 (Tl (D5 (Ca K) (C1 (ixT K) (pv 3) A9 (fun _ _=>rfl)) (pv 4) rfl) (J0 (D5 (Ca K) (C1 (ixT K) (pv 3) A9 (fun _ _=>rfl)) (pv 1) rfl))))))))),?_⟩
  refine B5 fun N1 hN1=>?_;refine ex1 rfl ⟨a,ss,rfl,hS,ls,fun m1 H1 s1 hm1 em1=>?_⟩;refine hN1 _ _ (B5 fun N2 hN2=>?_);refine ex1 rfl ⟨p,_,_,rfl,s1 _ _ hp,rfl,_,rfl,R0 ?_⟩;refine ex1 rfl (ex1 rfl ⟨l,rs,rfl,hR.same s1,lr,fun m2 H2 s2 hm2 em2=>?_⟩);have em1:=s2 _ _ em1;have s2:=s1.trans s2;have lss:(V2 ss).length=ss.length:=by unfold V2;rw[AB]
  have lrs:(V2 rs).length=rs.length:=by unfold V2;rw[AB]
  refine⟨m1,m2,_,_,rfl,rfl,em1,em2,by rw[AB,AB,lss,lrs,sizeLine_eq];omega,fun m3 hm3=>?_⟩;have u3:=Same.new (o:=.lst ((V2 ss).map V.str ++(V2 rs).map V.str)) hm3;have s3:=s2.trans u3;refine ex1 rfl ⟨p,_,B7 rfl rfl ⟨SqT.of (s3 _ _ hp),B6 (j:=0) rfl,?_⟩⟩;refine⟨m3,V2 ss++V2 rs,n,rfl,SqL.of (by rw[A7,A_]),hn,fun z=>(AV.mp z).elim hx1 hx2,fun H4 s4=>⟨_,rfl,R0 ?_⟩⟩;have em1:=s4 _ _ (u3 _ _ em1);have s4:=s3.trans s4;refine hN2 _ _ ?_;refine ex1 rfl ⟨p,_,B7 rfl rfl ⟨SqT.of (s4 _ _ hp),B6 (j:=1) rfl,ex1 rfl (O5 (.inl (SqL.of em1)) ?_)⟩⟩;rw[AI ho];refine⟨_,rfl,U3 ?_⟩;refine ex1 rfl ⟨p,_,B7 rfl rfl ⟨SqT.of (s4 _ _ hp),B6 (j:=2) rfl,ex1 rfl (O5 (.inl (SqL.of em1)) ⟨_,rfl,l9 (fun c=>q _ s4) (fun c=>?_)⟩)⟩⟩;refine ex1 rfl ⟨p,_,B7 rfl rfl ⟨SqT.of (s4 _ _ hp),B6 (j:=2) rfl,ex1 rfl (O5 (.inl (SqL.of (s4 _ _ hg))) ?_)⟩⟩;rw[AI (ht.resolve_left fun z=>c (AI z))];exact q _ s4
end
def x4(ps:List PA2):List V:=ps.map fun q=>V.ref q.1
theorem j9{H H':Hp}{ps:List PA2}(s:Same H H')(h:∀q∈ps,P5 H q):∀q∈ps,P5 H' q:=fun q hq=>s _ _ (h q hq)
def pd(k:Str×Str):PyData:=.tuple [.str k.1,.str k.2]
theorem E9{x:Str}(h:E5 x=true):PySem.PyData.strOk x=true:=by
 unfold E5 at h;rw[CC]at h;unfold PySem.PyData.strOk;rw[<-Array.all_toList,DM];intro c hc;have:=(DM.mp h.2) c hc;unfold Po at this;rw[CC]at this;have:=BS this.2;exact AI (by omega)
theorem Y6{K:PySem.W.Frag}{H:Hp}{t:Addr}{k:Str×Str}(h:H t=some (.tup [.str k.1,.str k.2])):Rp K H (pd k) (.ref t):=by
 unfold pd;simp only[Rp,Rps];exact⟨t,_,rfl,SqT.of h,_,_,rfl,rfl,_,_,rfl,rfl,rfl⟩
theorem Bn{K:PySem.W.Frag}{H:Hp}:∀{ps:List PA2},(∀q∈ps,P5 H q)->Rps K H (ps.map fun q=>pd q.2) (x4 ps)
 | [],_=>by simp[Rps,x4]
 | q::r,h=>by
  show Rps K H (pd q.2::r.map fun q=>pd q.2) (V.ref q.1::x4 r);simp only[Rps];exact⟨_,_,rfl,Y6 (h q (BC ..)),Bn fun z hz=>h z (AY _ hz)⟩
theorem Ff{K:PySem.W.Frag}{H:Hp}{l:Addr}{ps:List PA2}(hl:H l=some (.lst (x4 ps)))(h:∀q∈ps,P5 H q):Rp K H (.list (ps.map fun q=>pd q.2)) (.ref l):=by
 simp only[Rp];exact⟨l,_,rfl,SqL.of hl,Bn h⟩
theorem Ql(a b:Str×Str):PyData.eqv (pd a) (pd b)=decide (a=b):=by
 unfold pd;rw[PyData.eqv,PyData.eqvAll,PyData.eqvAll,PyData.eqvAll,PyData.eqv,PyData.eqv];by_cases h1:a.1=b.1
 .by_cases h2:a.2=b.2
  .rw[AI (Prod.ext h1 h2),h1,h2];simp
  .rw[BD fun z=>h2 (congrArg Prod.snd z)];simp[h2]
 .rw[BD fun z=>h1 (congrArg Prod.fst z)];simp[h1]
theorem Z2(k:Str×Str):∀ps:List PA2,((ps.map fun q=>pd q.2).any fun z=>PyData.eqv z (pd k))=decide (k∈ps.map fun q=>q.2)
 | []=>rfl
 | q::r=>by
  rw[BQ,EW,Z2 k r,Ql,BQ];by_cases e:q.2=k
  .rw[AI e,Bool.true_or,AI (show k∈q.2::_ from by rw[<-e];exact BC ..)]
  .rw[BD e,Bool.false_or];by_cases h:k∈r.map fun q=>q.2
   .rw[AI h,AI (AY _ h)]
   .rw[BD h,BD fun z=>(AN.mp z).elim (fun z=>e z.symm) h]
theorem Iv{k:Str×Str}(h1:PySem.PyData.strOk k.1=true)(h2:PySem.PyData.strOk k.2=true):(pd k).canLay0=true:=by
 unfold pd;simp[PyData.canLay0,PyData.canLayAll0,h1,h2]
theorem Dn:∀{ps:List PA2},(∀q∈ps,PySem.PyData.strOk q.2.1=true/\PySem.PyData.strOk q.2.2=true)->PyData.canLayAll0 (ps.map fun q=>pd q.2)=true
 | [],_=>rfl
 | q::r,h=>by
  rw[BQ,PyData.canLayAll0,Iv (h q (BC ..)).1 (h q (BC ..)).2,Dn fun z hz=>h z (AY _ hz)];rfl
theorem Fj{K:PySem.W.Frag}{H:Hp}{t l:Addr}{k:Str×Str}{ps:List PA2}{Q:VK}(ht:H t=some (.tup [.str k.1,.str k.2]))(hl:H l=some (.lst (x4 ps)))(hp:∀q∈ps,P5 H q)
  (hk:PySem.PyData.strOk k.1=true/\PySem.PyData.strOk k.2=true) (hs:∀q∈ps,PySem.PyData.strOk q.2.1=true/\PySem.PyData.strOk q.2.2=true) (q:Q (.bl (!decide (k∈ps.map fun q=>q.2))) H):Pt K true (.ref t) (.ref l) H Q :=
 ⟨pd k,_,Y6 ht,.inl (Ff hl hp),⟨Iv hk.1 hk.2,by simp[pd,PyData.depth,PyData.depthAll]⟩,Dn hs,by rw[BB rfl,Z2];exact q⟩
section
variable{P:Program}{w:World}{K:PySem.W.Frag}{mg:Str->Option Value}{base:Heap}
theorem Op{H:Hp}{t l:Addr}{k:Str×Str}{ps:List PA2}{Q:VK}(ht:H t=some (.tup [.str k.1,.str k.2]))(hl:H l=some (.lst (x4 ps)))(hp:∀q∈ps,P5 H q)
  (hk:PySem.PyData.strOk k.1=true/\PySem.PyData.strOk k.2=true) (hs:∀q∈ps,PySem.PyData.strOk q.2.1=true/\PySem.PyData.strOk q.2.2=true) (q:Q (.bl (decide (k∈ps.map fun q=>q.2))) H):Pt K false (.ref t) (.ref l) H Q :=
 ⟨pd k,_,Y6 ht,.inl (Ff hl hp),⟨Iv hk.1 hk.2,by simp[pd,PyData.depth,PyData.depthAll]⟩,Dn hs,by rw[AU (by decide),Z2];exact q⟩
theorem R8:FnScope ["sayings", "ahead", "row", "said"] ["sayings", "ahead", "row"] (B3 s_fits_backs):=fsc
def Er:Sp:=fun vs H Q _=>∃(a l p:Addr) (ss:List RW) (bs:List PA2) (o t:Str),vs = [.ref a,.ref l,.ref p]/\RowsAt H a ss/\ss.length<=1000/\H l=some (.lst (x4 bs))/\(∀q∈bs,P5 H q)/\(∀q∈bs,E5 q.2.1=true/\E5 q.2.2=true)/\H p=some (.tup [.str o,.str t])/\E5 o=true/\E5 t=true/\(o,t)∉(bs.map fun q=>q.2)/\o∈V2 ss/\t∈V2 ss/\o≠t/\∀H',Same H H'->Q (.bl true) H'
theorem u9(T:Tx K mg):FnOk P w K mg base CX0 3 T.aE.f T.aE.fd ["sayings", "ahead", "row"] Er:=by
 have G_is_row_of:=J1 (P:=P) (w:=w) (base:=base) T;have G_names_of:=K0 (P:=P) (w:=w) (base:=base) T;have sc:=R8;refine T.aE.F.ok R8 (fun vs H Q E h=>?_) (fun cdv A outer s H vs Q E hr h=>?_)
 .obtain⟨a,l,p,ss,bs,o,t,rfl,_⟩:=h;rfl
 .obtain⟨a,l,p,ss,bs,o,t,rfl,hS,ls,hl,hb,nb,hp,no,nt,hx,ho,ht,ne,q⟩:=h;refine⟨_,(B0 (C3 (i:=3) sc.nd rfl (.inl rfl) (C0 T.ak G_names_of (Rm hr) (A6 (pv 0) A8)))
   (B0 (E7 (PW.pt (Bf (K7 (F6 (C0 T.ao G_is_row_of (Rm hr) (A6 (pv 2) (A6 A9 A8))))) (a7 (C4 (Ua K hr.units) (pv 2) (pv 1) rfl)))) (B2 (B9 Ad)) C5)
   (B2 (B9 (F4 (D5 (Ca K) (C1 (ixT K) (pv 2) A9 (fun _ _=>rfl)) (pv 3) rfl) (F4 (D5 (Ca K) (C1 (ixT K) (pv 2) A9 (fun _ _=>rfl)) (pv 3) rfl) (J0 (D5 Ls (C1 (ixT K) (pv 2) A9 (fun _ _=>rfl)) (C1 (ixT K) (pv 2) A9 (fun _ _=>rfl)) (C7 _))))))))),?_⟩
  refine B5 fun N1 hN1=>?_;refine ex1 rfl ⟨a,ss,rfl,hS,ls,fun m1 H1 s1 hm1 em1=>?_⟩;refine hN1 _ _ (B5 fun N2 hN2=>?_);have p1:=s1 _ _ hp;refine ex1 rfl ⟨p,_,_,rfl,p1,rfl,_,rfl,R0 ?_⟩;refine ex1 rfl (ex1 rfl (Op (k:=(o,t)) p1 (s1 _ _ hl) (j9 s1 hb) ⟨E9 no,E9 nt⟩ (fun q hq=>⟨E9 (nb q hq).1,E9 (nb q hq).2⟩) ?_));rw[BD hx];refine⟨_,rfl,R0 ?_⟩;refine hN2 _ _ ?_;refine ex1 rfl ⟨p,_,B7 rfl rfl ⟨SqT.of p1,B6 (j:=0) rfl,ex1 rfl (O5 (.inl (SqL.of em1)) ?_)⟩⟩;rw[AI ho];refine⟨_,rfl,U3 ?_⟩;refine ex1 rfl ⟨p,_,B7 rfl rfl ⟨SqT.of p1,B6 (j:=1) rfl,ex1 rfl (O5 (.inl (SqL.of em1)) ?_)⟩⟩;rw[AI ht];refine⟨_,rfl,U3 ?_⟩;refine ex1 rfl ⟨p,_,B7 rfl rfl ⟨SqT.of p1,B6 (j:=0) rfl,ex1 rfl ⟨p,_,B7 rfl rfl ⟨SqT.of p1,B6 (j:=1) rfl,rfl,?_⟩⟩⟩⟩;have e:(!decide (V.str o=V.str t))=true:=by rw[BD fun z=>ne (V.str.inj z)];rfl
  rw[e];exact q H1 s1
theorem Qq(xs:List V)(i:Nat)(h:i<=xs.length):S5 xs none (some (i:Int))=xs.take i:=by
 unfold S5;rw[HT.sIx_none,HT.sIx_nat,DH,Nat.sub_zero,DB h]
def Z3(base:Heap)(f:Addr)(sp:Sp):Sp:=fun vs H Q _=>∃(x:Str) (a:Addr) (as:List Addr),vs = [.str x,.ref a,.ref f]/\H a=some (.lst (as.map V.ref))/\as.length<=1000/\FnHere base H f /\
 (∀(i:Nat) (q:Addr),as[i]?=some q->∀(G:Hp) (l:Addr) (Q':VK),Same H G->G l=some (.lst ((as.take i).map V.ref))->(∀G',Same G G'->Q' (.bl true) G')->sp [.ref l,.ref q] G Q' E0)/\∀H',Same H H'->Q .non H'
theorem S0:FnScope ["part", "rows", "fits", "place", "row"] ["part", "rows", "fits"] (B3 s_check_part):=fsc
theorem F7(T:Tx K mg){f:Addr}{fd:FuncData}{k:Nat}{sp:Sp}(G_fits:FnOk P w K mg base CX0 k f fd ["ahead", "row"] sp)(hb_fits:Binds K fd ["ahead", "row"] []):FnOk P w K mg base CX0 (k+1) T.an.f T.an.fd ["part", "rows", "fits"] (Z3 base f sp):=by
 have sc:=S0;refine T.an.F.ok S0 (fun vs H Q E h=>?_) (fun cdv A outer s H vs Q E hr h=>?_)
 .obtain⟨x,a,as,rfl,_⟩:=h;rfl
 .obtain⟨x,a,as,rfl,ha,len,hf,hfit,q⟩:=h;refine⟨_,(B2 (P4 PassesOwn.never rfl (piE K T.bs (A6 (pv 1) A8)) (pgT K (n:=2) (C8 (D7 (i:=3) sc.nd rfl (.inl rfl)) (C8 (D7 (i:=4) sc.nd rfl (.inl rfl)) P9)))
   (B2 (E7 (K7 (F6 (Lx (i:=2) G_fits (hr.mono (Nat.le_refl _)) hb_fits (A6 (P2 (slL K) (pv 1) U0 (U4 (pv 3))) (A6 (pv 4) A8))))) (B2 Ef) C5)))),?_⟩
  refine ex1 rfl ⟨a,ex1 rfl ⟨SqL.of ha,Rf (n:=as.length) (fun i σ H1=>∃v3 v4,σ = [some (.str x),some (.ref a),some (.ref f),v3,v4]/\Same H H1) ⟨_,_,rfl,fun b o e=>e⟩ ?_ ?_ ?_ ?_⟩⟩
  .rintro i σ H1 hi ⟨v3,v4,rfl,s1⟩;exact⟨_,_,SqL.of (s1 _ _ ha),by rw[AH,AJ hi];rfl⟩
  .rintro σ H1 ⟨v3,v4,rfl,s1⟩;exact⟨_,SqL.of (s1 _ _ ha),by rw[AB]⟩
  .rintro i σ H1 v H' hi ⟨v3,v4,rfl,s1⟩ ⟨t,y,rfl,ht,rfl,hy⟩;have hy:=hy _ (SqL.of (s1 _ _ ha));have hi':as[i]?=some as[i]:=AJ hi;rw[AH,hi']at hy;cases hy;have ut:=s1.trans (Same.new (o:=.tup [.int (i:Int),.ref as[i]]) ht);refine⟨t,_,rfl,SqT.of A7,rfl,_,_,rfl,_,_,rfl,rfl,?_⟩;refine⟨rfl,hf.same ut,?_⟩;refine ex1 rfl (ex1 rfl ⟨_,rfl,a,_,rfl,SqL.of (ut _ _ ha),fun l hl=>?_⟩);have ul:=ut.trans (Same.new (o:=.lst (S5 (as.map V.ref) none (some (i:Int)))) hl);have el:(upd (upd H1 t (.tup [.int (i:Int),.ref as[i]])) l (.lst (S5 (as.map V.ref) none (some (i:Int))))) l=some (.lst ((as.take i).map V.ref)):=by rw[A7,Qq _ _ (by rw[AB];omega),DF]
   generalize upd (upd H1 t (.tup [.int (i:Int),.ref as[i]])) l (.lst (S5 (as.map V.ref) none (some (i:Int))))=H2 at ul el⊢;refine ex1 rfl ⟨hf.same ul,hfit i _ hi' H2 l _ ul el fun G' s'=>⟨_,rfl,R0 ?_⟩⟩;exact⟨_,_,rfl,ul.trans s'⟩
  .rintro σ H1 ⟨v3,v4,rfl,s1⟩;exact q H1 s1
end
abbrev PEr:Type:=Addr×Str×Int
abbrev SAr:Type:=Addr×Str×Str×Addr×List Str
abbrev STr:Type:=Addr×Str×Str×Str
def rP(q:PEr):RW:=(q.1,q.2.1,[.int q.2.2])
def rS(q:SAr):RW:=(q.1,q.2.1,[.str q.2.2.1,.ref q.2.2.2.1])
def rT(q:STr):RW:=(q.1,q.2.1,[.str q.2.2.1,.str q.2.2.2])
structure WRows(H:Hp)(a b c d:Addr)(pe:List PEr)(sa:List SAr)(st:List STr)(ba:List PA2):Prop where
 hp:RowsAt H a (pe.map rP)
 hs:RowsAt H b (sa.map rS)
 sp:∀q∈sa,H q.2.2.2.1=some (.lst (q.2.2.2.2.map V.str))
 ht:RowsAt H c (st.map rT)
 hb:H d=some (.lst (x4 ba))
 pb:∀q∈ba,P5 H q
theorem WRows.same{H H':Hp}{a b c d:Addr}{pe:List PEr}{sa:List SAr}{st:List STr}{ba:List PA2}(h:WRows H a b c d pe sa st ba)(s:Same H H'):WRows H' a b c d pe sa st ba :=
 ⟨h.hp.same s,h.hs.same s,fun q hq=>s _ _ (h.sp q hq),h.ht.same s,s _ _ h.hb,j9 s h.pb⟩
theorem WRows.keep{H H':Hp}{a b c d p:Addr}{ls:List (Pos×Str)}{pe:List PEr}{sa:List SAr}{st:List STr}{ba:List PA2}(h:WRows H a b c d pe sa st ba)(t:X4 H p ls)(k:∀z o,H z=some o->z≠p->H' z=some o):WRows H' a b c d pe sa st ba:=by
 obtain⟨ps,e,_⟩:=t;have kk:∀{z:Addr} {o:HO},H z=some o->o≠ .tbl ps->H' z=some o:=fun hz n=>k _ _ hz fun y=>by rw[y,e]at hz;cases hz;exact n rfl
 exact⟨⟨kk h.hp.at_ (by intro z;cases z),fun q hq=>kk (h.hp.row q hq) (by intro z;cases z)⟩,⟨kk h.hs.at_ (by intro z;cases z),fun q hq=>kk (h.hs.row q hq) (by intro z;cases z)⟩,fun q hq=>kk (h.sp q hq) (by intro z;cases z),⟨kk h.ht.at_ (by intro z;cases z),fun q hq=>kk (h.ht.row q hq) (by intro z;cases z)⟩,kk h.hb (by intro z;cases z),fun q hq=>kk (h.pb q hq) (by intro z;cases z)⟩
theorem WRows.keepX{H H':Hp}{a b c d x C dx:Addr}{fs:List (Str×V)}{pe:List PEr}{sa:List SAr}{st:List STr}{ba:List PA2}(h:WRows H a b c d pe sa st ba)(hx:H x=some (.ins C dx fs))(k:Sm [x] H H'):WRows H' a b c d pe sa st ba:=by
 have kk:∀{z:Addr} {o:HO},H z=some o->o≠ .ins C dx fs->H' z=some o:=fun hz n=>k _ _ hz fun y=>by rw[AE.mp y,hx]at hz;cases hz;exact n rfl
 exact⟨⟨kk h.hp.at_ (by intro z;cases z),fun q hq=>kk (h.hp.row q hq) (by intro z;cases z)⟩,⟨kk h.hs.at_ (by intro z;cases z),fun q hq=>kk (h.hs.row q hq) (by intro z;cases z)⟩,fun q hq=>kk (h.sp q hq) (by intro z;cases z),⟨kk h.ht.at_ (by intro z;cases z),fun q hq=>kk (h.ht.row q hq) (by intro z;cases z)⟩,kk h.hb (by intro z;cases z),fun q hq=>kk (h.pb q hq) (by intro z;cases z)⟩
theorem X7{H H':Hp}{p x C dx:Addr}{fs:List (Str×V)}{ls:List (Pos×Str)}(h:X4 H p ls)(hx:H x=some (.ins C dx fs))(k:Sm [x] H H'):X4 H' p ls:=by
 have kk:∀{z:Addr} {o:HO},H z=some o->o≠ .ins C dx fs->H' z=some o:=fun hz n=>k _ _ hz fun y=>by rw[AE.mp y,hx]at hz;cases hz;exact n rfl
 obtain⟨ps,e,t,q⟩:=h;exact⟨ps,kk e (by intro z;cases z),t,fun l hl=>(q l hl).imp id fun⟨c,e,hc⟩=>⟨c,e,kk hc (by intro z;cases z)⟩⟩
def nP(pe:List PEr):List Str:=pe.map fun q=>q.2.1
def nS(sa:List SAr):List Str:=sa.map fun q=>q.2.1
def nT(st:List STr):List Str:=st.map fun q=>q.2.1
structure WOk(pe:List PEr)(sa:List SAr)(st:List STr)(ba:List PA2):Prop where
 len:pe.length<=30/\sa.length<=30/\st.length<=30/\ba.length<=30
 pn:(nP pe).Nodup
 pm:∀q∈pe,E5 q.2.1=true/\0<=q.2.2/\q.2.2<=9
 sn:(nS sa++nT st).Nodup
 nm:∀x∈nS sa++nT st,E5 x=true
 kd:∀q∈sa,q.2.2.1 = "fact"\/q.2.2.1 = "claim"
 sk:∀q∈sa,(∀x∈q.2.2.2.2,x∈nP pe)/\q.2.2.2.2.Nodup/\q.2.2.2.2.length<=100
 tg:∀q∈st,q.2.2.1∈nS sa/\(q.2.2.2∈nS sa\/q.2.2.2∈nT st)
 bn:(ba.map fun q=>q.2).Nodup
 bk:∀q∈ba,q.2.1∈nS sa/\q.2.2∈nS sa/\q.2.1≠q.2.2
theorem Rk(pe:List PEr):V2 (pe.map rP)=nP pe:=by unfold V2 nP;rw[AS];rfl
theorem Fw(sa:List SAr):V2 (sa.map rS)=nS sa:=by unfold V2 nS;rw[AS];rfl
theorem Sk(st:List STr):V2 (st.map rT)=nT st:=by unfold V2 nT;rw[AS];rfl
theorem Z1{α:Type}{r:α->RW}{xs:List α}{i:Nat}{H G:Hp}{l:Addr}(h:∀q∈xs.map r,Rw H q)(s:Same H G)(el:G l=some (.lst (((xs.map fun x=>(r x).1).take i).map V.ref))):RowsAt G l ((xs.take i).map r):=by
 refine⟨?_,fun q hq=>s _ _ (h q ?_)⟩
 .rw[el,<-DF,AS,AS];rfl
 .obtain⟨x,hx,rfl⟩:=BA.mp hq;exact BA.mpr ⟨x,BH hx,rfl⟩
theorem Cm{α:Type}{r:α->RW}{xs:List α}:((xs.map r).map fun q=>V.ref q.1) =(xs.map fun x=>(r x).1).map V.ref:=by rw[AS,AS];rfl
def wfW(a b c d:Addr):List (Str×V):=[("people",.ref a),("sayings",.ref b),("strikes",.ref c),("backs",.ref d)]
def WeaveAt(C:Addr)(H:Hp)(x:Addr)(pe:List PEr)(sa:List SAr)(st:List STr)(ba:List PA2):Prop:=∃dx a b c d,H x=some (.ins C dx (wfW a b c d))/\WRows H a b c d pe sa st ba
theorem WeaveAt.same{C:Addr}{H H':Hp}{x:Addr}{pe:List PEr}{sa:List SAr}{st:List STr}{ba:List PA2}(h:WeaveAt C H x pe sa st ba)(s:Same H H'):WeaveAt C H' x pe sa st ba:=let⟨dx,a,b,c,d,e,w⟩:=h;⟨dx,a,b,c,d,s _ _ e,w.same s⟩
def WeaveNew(C:Addr)(H0 H:Hp)(x:Addr)(pe:List PEr)(sa:List SAr)(st:List STr)(ba:List PA2):Prop:=∃dx a b c d,H x=some (.ins C dx (wfW a b c d))/\WRows H a b c d pe sa st ba/\H0 a=none/\H0 b=none/\H0 c=none/\H0 d=none/\∀q∈sa,H0 q.2.2.2.1=none
theorem WeaveNew.at_{C:Addr}{H0 H:Hp}{x:Addr}{pe:List PEr}{sa:List SAr}{st:List STr}{ba:List PA2}(h:WeaveNew C H0 H x pe sa st ba):WeaveAt C H x pe sa st ba:=let⟨dx,a,b,c,d,e,w,_⟩:=h;⟨dx,a,b,c,d,e,w⟩
theorem none_of{L:List Addr}{H H':Hp}{z:Addr}(k:Sm L H H')(n:z∉L)(h:H' z=none):H z=none:=by
 cases y:H z with
 | none=>rfl
 | some o=>rw[k z o y n]at h;cases h
theorem E1{H H':Hp}{p:Addr}{ls:List (Pos×Str)}(h:X4 H p ls)(s:Same H H'):X4 H' p ls:=let⟨ps,e,t,q⟩:=h;⟨ps,s _ _ e,t,fun l hl=>(q l hl).imp id fun⟨c,e,hc⟩=>⟨c,e,s _ _ hc⟩⟩
def dS(q:SAr):Str×Str×List Str:=(q.2.1,q.2.2.1,q.2.2.2.2)
section
variable{P:Program}{w:World}{K:PySem.W.Frag}{mg:Str->Option Value}{base:Heap}
def Ep(f c:Addr)(q:Str)(ar:Arguments)(bd:Expr)(sco:Scope)(cl:List (Str×Addr))(g:V->V->Hp->VK->Prop):Sp:=fun vs H Q _=>∃u v,vs = [u,v]/\H f=some (LamO f c q ar bd sco cl)/\H c=some (CodeO c q)/\g u v H Q
theorem w4{f c:Addr}{q:Str}{ar:Arguments}{bd:Expr}{sco:Scope}{cl:List (Str×Addr)}{fr:List Str}{gs:List V}{k:Nat}{g:V->V->Hp->VK->Prop}(S:LamScope ("ahead" :: "row" :: fr) ["ahead", "row"] fr sco)(C:ClosV base cl fr gs)
  (hbody:∀(A:Around) (outer:List Env) (s:Shared) (H:Hp) (u v:V) (Q:VK),Room k (A.deeper (PySem.W.envX q sco s.heap.objs.size f (.ref c) cl))->g u v H Q ->
   ∃t,PE (Hf P w K mg base ("ahead" :: "row" :: fr) q sco f (.ref c) cl A outer s H) bd t/\t (some u::some v::gs.map some) H Q) :
  FnOk P w K mg base CX0 (k+1) f (PySem.W.kla_fn "<lambda>" q ar bd sco cl .none (.ref c) .none) ["ahead", "row"] (Ep f c q ar bd sco cl g):=by
 refine Qk S C (fun vs H Q E h=>?_) (fun vs H Q E h=>?_) fun A outer s H vs Q E hr h=>?_
 .obtain⟨u,v,rfl,_⟩:=h;rfl
 .obtain⟨u,v,rfl,h1,h2,_⟩:=h;exact⟨h1,h2⟩
 .obtain⟨u,v,rfl,_,_,h⟩:=h;exact hbody A outer s H u v Q hr h
theorem J6:FnScope ["self", "people", "sayings", "strikes", "backs", "goals"] ["self", "people", "sayings", "strikes", "backs"] (B3 s_Weave___init__):=fsc
def w9(C pt:Addr):Sp:=fun vs H Q _=>∃(x dx a b c d:Addr) (pe:List PEr) (sa:List SAr) (st:List STr) (ba:List PA2),vs = [.ref x,.ref a,.ref b,.ref c,.ref d]/\H x=some (.ins C dx [])/\WRows H a b c d pe sa st ba/\WOk pe sa st ba/\X4 H pt Q3 /\
 ∀(sa':List SAr) H',Sm [x,pt] H H'->X4 H' pt Q3->sa'.map dS=sa.map dS->WeaveNew C H H' x pe sa' st ba->Q .non H'
set_option maxHeartbeats 8000000 in
theorem t8(T:Tx K mg)(hB:base.BuiltinsAt mg T.ad):FnOk P w K mg base CX0 6 T.a9 T.a3 ["self", "people", "sayings", "strikes", "backs"] (w9 T.aa T.ad):=by
 have G_begins_of:=Bk (P:=P) (w:=w) (base:=base) T;have sc:=J6;refine T.ba.okC J6 (fun vs H Q E h=>?_) (fun cdv A outer s H vs Q E hcd hr h=>?_)
 .obtain⟨x,dx,a,b,c,d,pe,sa,st,ba,rfl,_⟩:=h;rfl
 .obtain⟨x,dx,a,b,c,d,pe,sa,st,ba,rfl,hx,hW,ok,hT,q⟩:=h;have hu:=Rs hr;refine⟨_,(B0 (K4 (Ey (k:=5) (fun _=>rfl) T.an (Rm hr) (A6 D4 (A6 (pv 1) (A6 (f8 T.ah.m) A8)))))
   (B0 (K4 (Ey (k:=5) (fun _=>rfl) T.an (Rm hr) (A6 D4 (A6 (pv 2) (A6 (Hc (ls:=Q3) T.aP hB (hcd.symm.trans T.aW) rfl rfl (by show ∀x:Str×NameKind,x∈_->x.2=NameKind.free->(B3 s_Weave___init__).names.lookup x.1=some NameKind.cell;decide +kernel) (by first | exact .head _ | exact .tail _ (.head _) | exact .tail _ (.tail _ (.head _))) (by decide +kernel)) A8)))))
   (B0 (C3 (i:=5) sc.nd rfl (.inr rfl) (C0 T.aH G_begins_of (Rm hr) (A6 (pv 3) A8)))
   (B0 (K4 (Ey (k:=5) (fun _=>rfl) T.an (Rm hr) (A6 D4 (A6 (pv 3) (A6 (Hc (ls:=Q3) T.aP hB (hcd.symm.trans T.aW) rfl rfl (by show ∀x:Str×NameKind,x∈_->x.2=NameKind.free->(B3 s_Weave___init__).names.lookup x.1=some NameKind.cell;decide +kernel) (by first | exact .head _ | exact .tail _ (.head _) | exact .tail _ (.tail _ (.head _))) (by decide +kernel)) A8)))))
   (B0 (K4 (Ey (k:=5) (fun _=>rfl) T.an (Rm hr) (A6 D4 (A6 (pv 4) (A6 (Hc (ls:=Q3) T.aP hB (hcd.symm.trans T.aW) rfl rfl (by show ∀x:Str×NameKind,x∈_->x.2=NameKind.free->(B3 s_Weave___init__).names.lookup x.1=some NameKind.cell;decide +kernel) (by first | exact .head _ | exact .tail _ (.head _) | exact .tail _ (.tail _ (.head _))) (by decide +kernel)) A8)))))
   (B0 (psF K (pv 0) (t6 (y7 K) T.aB K9 (A6 (pv 1) A8)))
   (B0 (psF K (pv 0) (Q9 (N':=["name", "kind", "speakers"]) (cap:=[none,none,none]) (cl:=[]) (O2 trivial trivial) rfl (piL K (pv 2)) (fun _ _ _ _=>by exact⟨(pgT K (n:=3) (C8 (pgC 0) (C8 (pgC 1) (C8 (pgC 2) P9)))),E8,(J9 (A6 (pv 0) (A6 (pv 1) (A6 (t6 (y7 K) T.aB K9 (A6 (pv 2) A8)) A8))))⟩)))
   (B0 (psF K (pv 0) (t6 (y7 K) T.aB K9 (A6 (pv 3) A8)))
   (B2 (psF K (pv 0) (t6 (y7 K) T.aB K9 (A6 (pv 4) A8)))))))))))),?_⟩
  obtain⟨lp,lsa,lst,lba⟩:=ok.len;refine B5 fun N1 hN1=>?_;have hWp:=hW.hp.at_;rw[Cm]at hWp;refine ex1 rfl fun base' cells kin=>⟨Z3 base' T.ah.f Fd,(F7 T (g7 T) T.ah.b).mono (by decide), "people",a,_,rfl,hWp,by rw[AB];omega,FnHere.def T.ah.F kin,fun i z hz G l Q' sG el hQ=>?_,fun H1 s1=>?_⟩
  .rw[AH]at hz;obtain⟨p,hp,rfl⟩:=AR.mp hz;have mp:=AL hp;obtain⟨p1,p2,p3⟩:=ok.pm p mp;refine⟨l,p.1,_,p.2.1,p.2.2,rfl,Z1 hW.hp.row sG el,by rw[AB,AG];omega,sG _ _ (hW.hp.row (rP p) (BA.mpr ⟨p,mp,rfl⟩)),p1,fun y=>?_,p2,p3,hQ⟩;rw[Rk]at y;unfold nP at y;rw[DF]at y;exact O9 ok.pn (by unfold nP;rw[AH,hp];rfl) y
  refine hN1 _ _ (B5 fun N2 hN2=>?_);have W1:=hW.same s1;have T1:=E1 hT s1;refine ex1 rfl ⟨T1,fun f cc H2 hf T2 hc2 hf2 nfp k2=>?_⟩;have W2:WRows H2 a b c d pe sa st ba:=W1.keep T1 k2;have hWs:=W2.hs.at_;rw[Cm]at hWs;refine fun base' cells kin=>⟨Z3 base' f (Ep f cc _ _ _ _ _ fun u v H Q=>El [.ref a,u,v] H Q E0),?F, "sayings",b,_,rfl,hWs,by rw[AB];omega,FnHere.lam hf2,fun i z hz G l Q' sG el hQ=>⟨_,_,rfl,sG _ _ hf2,sG _ _ hc2,?_⟩,fun H3 s3=>?_⟩
  case F =>
   refine F7 (k:=4) T (w4 (fr:=["people"]) (gs:=[.ref a]) ⟨rfl,rfl,rfl,rfl,by decide +kernel,by decide +kernel,by decide +kernel,by decide +kernel,by decide +kernel⟩ (cells.clos (by decide +kernel) (by decide +kernel) (by show ∀x∈_,(B3 s_Weave___init__).names.lookup x=some NameKind.cell;decide +kernel) rfl fun i x v h1 h2=>?_) fun A outer s H u v Q hr h=>⟨_,C0 T.aw (d0 T) (Rm hr) (A6 (pv 2) (A6 (pv 0) (A6 (pv 1) A8))),ex1 rfl (ex1 rfl (ex1 rfl h))⟩) (Binds.all fun us hl=>by match us,hl with | [_,_],_=>rfl)
   match i,h1,h2 with
   | 0,h1,h2=>cases h1;cases h2;exact⟨1,rfl,rfl⟩
   | n+1,h1,_=>cases h1
  .rw[AH]at hz;obtain⟨p,hp,rfl⟩:=AR.mp hz;have mp:=AL hp;obtain⟨sk1,sk2,sk3⟩:=ok.sk p mp;have hp':(nS sa)[i]?=some p.2.1:=by unfold nS;rw[AH,hp];rfl
   refine⟨a,l,p.1,p.2.2.2.1,_,_,p.2.1,p.2.2.1,p.2.2.2.2,rfl,W2.hp.same sG,by rw[AB];omega,Z1 W2.hs.row sG el,by rw[AB,AG];omega,sG _ _ (W2.hs.row (rS p) (BA.mpr ⟨p,mp,rfl⟩)),sG _ _ (W2.sp p mp),ok.nm _ (DU _ (AL hp')),fun y=>?_,ok.kd p mp,fun y hy=>by rw[Rk];exact sk1 y hy,sk2,sk3,hQ⟩;rw[Fw]at y;unfold nS at y;rw[DF]at y;exact O9 (CZ.mp ok.sn).1 hp' y
  refine hN2 _ _ (B5 fun N3 hN3=>?_);have W3:=W2.same s3;have T3:=E1 T2 s3;have k3:∀z o,H z=some o->z≠T.ad->H3 z=some o:=fun z o e n=>s3 _ _ (k2 z o (s1 _ _ e) n);clear hc2 hf2 W2 W1 T1 T2 k2 s1 s3 hWs hWp;refine ex1 rfl ⟨c,_,rfl,W3.ht,by rw[AB];omega,fun gg H4 s4 hgg egg=>?_⟩;rw[Sk]at egg;refine hN3 _ _ (B5 fun N4 hN4=>?_);have W4:=W3.same s4;have T4:=E1 T3 s4;refine ex1 rfl ⟨T4,fun f2 cc2 H5 hf T5 hc5 hf5 nfp k5=>?_⟩;have W5:WRows H5 a b c d pe sa st ba:=W4.keep T4 k5;have egg:H5 gg=some (.lst ((nT st).map V.str)):=k5 _ _ egg fun y=>by
   obtain⟨ps,e,_⟩:=T4;rw[y,e]at egg;cases egg
  have hWt:=W5.ht.at_;rw[Cm]at hWt;refine fun base' cells kin=>⟨Z3 base' f2 (Ep f2 cc2 _ _ _ _ _ fun u v H Q=>En [.ref b,.ref gg,u,v] H Q E0),?F2, "strikes",c,_,rfl,hWt,by rw[AB];omega,FnHere.lam hf5,fun i z hz G l Q' sG el hQ=>⟨_,_,rfl,sG _ _ hf5,sG _ _ hc5,?_⟩,fun H6 s6=>?_⟩
  case F2 =>
   refine F7 (k:=4) T (w4 (fr:=["sayings", "goals"]) (gs:=[.ref b,.ref gg]) ⟨rfl,rfl,rfl,rfl,by decide +kernel,by decide +kernel,by decide +kernel,by decide +kernel,by decide +kernel⟩ (cells.clos (by decide +kernel) (by decide +kernel) (by show ∀x∈_,(B3 s_Weave___init__).names.lookup x=some NameKind.cell;decide +kernel) rfl fun i x v h1 h2=>?_) fun A outer s H u v Q hr h=>⟨_,C0 T.ax (Z0 T) (Rm hr) (A6 (pv 2) (A6 (pv 3) (A6 (pv 0) (A6 (pv 1) A8)))),ex1 rfl (ex1 rfl (ex1 rfl (ex1 rfl h)))⟩) (Binds.all fun us hl=>by match us,hl with | [_,_],_=>rfl)
   match i,h1,h2 with
   | 0,h1,h2=>cases h1;cases h2;exact⟨2,rfl,rfl⟩
   | 1,h1,h2=>cases h1;cases h2;exact⟨5,rfl,rfl⟩
   | n+2,h1,_=>cases h1
  .rw[AH]at hz;obtain⟨p,hp,rfl⟩:=AR.mp hz;have mp:=AL hp;obtain⟨t1,t2⟩:=ok.tg p mp;have hp':(nT st)[i]?=some p.2.1:=by unfold nT;rw[AH,hp];rfl
   have mt:=AL hp';obtain⟨_,ndt,dis⟩:=CZ.mp ok.sn;refine⟨b,gg,l,p.1,_,_,nT st,p.2.1,p.2.2.1,p.2.2.2,rfl,W5.hs.same sG,by rw[AB];omega,sG _ _ egg,Z1 W5.ht.row sG el,by rw[AB,AG];omega,sG _ _ (W5.ht.row (rT p) (BA.mpr ⟨p,mp,rfl⟩)),ok.nm _ (BM _ mt),fun y=>?_,fun y=>?_,by rw[Fw];exact t1,by rw[Fw];exact t2,hQ⟩
   .rw[Fw]at y;exact dis _ y _ mt rfl
   .rw[Sk]at y;unfold nT at y;rw[DF]at y;exact O9 ndt hp' y
  refine hN4 _ _ (B5 fun N5 hN5=>?_);have W6:=W5.same s6;have T6:=E1 T5 s6;have k6:∀z o,H z=some o->z≠T.ad->H6 z=some o:=fun z o e n=>s6 _ _ (k5 z o (s4 _ _ (k3 z o e n)) n);clear hc5 hf5 W5 W4 T4 T5 k5 s4 s6 hWt W3 T3 k3 egg;refine ex1 rfl ⟨T6,fun f3 cc3 H7 hf T7 hc7 hf7 nfp k7=>?_⟩;have W7:WRows H7 a b c d pe sa st ba:=W6.keep T6 k7;refine fun base' cells kin=>⟨Z3 base' f3 (Ep f3 cc3 _ _ _ _ _ fun u v H Q=>Er [.ref b,u,v] H Q E0),?F3, "backs",d,ba.map fun q=>q.1,rfl,by rw[W7.hb];unfold x4;rw[AS];rfl,by rw[AB];omega,FnHere.lam hf7,fun i z hz G l Q' sG el hQ=>⟨_,_,rfl,sG _ _ hf7,sG _ _ hc7,?_⟩,fun H8 s8=>?_⟩
  case F3 =>
   refine F7 (k:=4) T (w4 (fr:=["sayings"]) (gs:=[.ref b]) ⟨rfl,rfl,rfl,rfl,by decide +kernel,by decide +kernel,by decide +kernel,by decide +kernel,by decide +kernel⟩ (cells.clos (by decide +kernel) (by decide +kernel) (by show ∀x∈_,(B3 s_Weave___init__).names.lookup x=some NameKind.cell;decide +kernel) rfl fun i x v h1 h2=>?_) fun A outer s H u v Q hr h=>⟨_,C0 T.aE (u9 T) (Rm hr) (A6 (pv 2) (A6 (pv 0) (A6 (pv 1) A8))),ex1 rfl (ex1 rfl (ex1 rfl h))⟩) (Binds.all fun us hl=>by match us,hl with | [_,_],_=>rfl)
   match i,h1,h2 with
   | 0,h1,h2=>cases h1;cases h2;exact⟨2,rfl,rfl⟩
   | n+1,h1,_=>cases h1
  .rw[AH]at hz;obtain⟨p,hp,rfl⟩:=AR.mp hz;have mp:=AL hp;obtain⟨b1,b2,b3⟩:=ok.bk p mp;have nmb:∀x∈nS sa,E5 x=true:=fun x hx=>ok.nm x (DU _ hx);have tk:∀q∈ba.take i,q∈ba:=fun q hq=>BH hq;refine⟨b,l,p.1,_,ba.take i,p.2.1,p.2.2,rfl,W7.hs.same sG,by rw[AB];omega,by rw[el,<-DF,AS];rfl,fun q hq=>sG _ _ (W7.pb q (tk q hq)),fun q hq=>⟨nmb _ (ok.bk q (tk q hq)).1,nmb _ (ok.bk q (tk q hq)).2.1⟩,sG _ _ (W7.pb p mp),nmb _ b1,nmb _ b2,fun y=>?_,by rw[Fw];exact b1,by rw[Fw];exact b2,b3,hQ⟩;rw[DF]at y;exact O9 ok.bn (by rw[AH,hp];rfl) y
  refine hN5 _ _ (B5 fun N6 hN6=>?_);have W8:=W7.same s8;have T8:=E1 T7 s8;have k8:∀z o,H z=some o->z≠T.ad->H8 z=some o:=fun z o e n=>s8 _ _ (k7 z o (k6 z o e n) n);clear hc7 hf7 W7 W6 T6 T7 k7 s8 k6;have xp:x≠T.ad:=fun y=>by
   obtain⟨ps,e,_⟩:=hT;rw[<-y,hx]at e;cases e
  have x8:=k8 _ _ hx xp;have new8:∀{z:Addr},H8 z=none->H z=none:=fun{z} h=>by
   cases y:H z with
   | none=>rfl
   | some o =>
    have ne:z≠T.ad:=fun e=>by
     obtain⟨ps,e8,_⟩:=T8;rw[e,e8]at h;cases h
    rw[k8 z o y ne]at h;cases h
  refine ex1 rfl ⟨a,_,rfl,.inl (SqL.of W8.hp.at_),fun l1 hl1=>?_⟩;have nx1:x≠l1:=B1 x8 hl1;refine ex1 rfl ⟨x,T.aa,dx,[],rfl,by rw[B4 nx1];exact x8,T.ai,T.aS,by decide,?_⟩;have nin:∀{b:Addr},b≠x->b∉[x]:=fun h z=>h (AE.mp z);have k9:Sm [x] H8 (upd (upd H8 l1 (.lst ((pe.map rP).map fun q=>V.ref q.1))) x (.ins T.aa dx (K5 "people" (.ref l1) []))):=(Sm.new (Sm.refl _ _) hl1).upd (by simp);have e9:(upd (upd H8 l1 (.lst ((pe.map rP).map fun q=>V.ref q.1))) x (.ins T.aa dx (K5 "people" (.ref l1) []))) l1=some (.lst ((pe.map rP).map fun q=>V.ref q.1)):=by rw[B4 nx1.symm,A7]
  have x9:(upd (upd H8 l1 (.lst ((pe.map rP).map fun q=>V.ref q.1))) x (.ins T.aa dx (K5 "people" (.ref l1) []))) x=some (.ins T.aa dx [("people",.ref l1)]):=by rw[A7];rfl
  refine hN6 _ _ ?_;show Sx _ _ _ _ (upd (upd H8 l1 (.lst ((pe.map rP).map fun q=>V.ref q.1))) x (.ins T.aa dx (K5 "people" (.ref l1) [])));generalize upd (upd H8 l1 (.lst ((pe.map rP).map fun q=>V.ref q.1))) x (.ins T.aa dx (K5 "people" (.ref l1) []))=H9 at k9 e9 x9⊢;have W9:=W8.keepX x8 k9;have T9:=X7 T8 x8 k9;refine B5 fun N7 hN7=>?_;refine ex1 rfl ⟨b,rfl,⟨_,SqL.of W9.hs.at_⟩,fun D hD=>?_⟩;refine U6 (asL (K:=K) (SqL.of W9.hs.at_)) (fun i σ G=>(∃v0 v1 v2,σ = [v0,v1,v2])/\Same H9 G/\∃sa':List SAr,RowsAt G D (sa'.map rS)/\(∀q∈sa',q.2.2.2.1≠D/\G q.2.2.2.1=some (.lst (q.2.2.2.2.map V.str))/\H9 q.2.2.2.1=none)/\sa'.map dS =(sa.take i).map dS)
   ⟨⟨_,_,_,rfl⟩,Same.new hD,[],⟨A7,fun q h=>absurd h AX⟩,fun q h=>absurd h AX,rfl⟩ (fun i σ G _ ⟨_,s1,_⟩=>s1.at b) ?_ ?_
  .rintro i σ G v N hv ⟨⟨v0,v1,v2,rfl⟩,sG,sa',RG,spG,dG⟩ hN;rw[AS,AH]at hv;obtain⟨p,hp,rfl⟩:=AR.mp hv;have mp:=AL hp;have li:=(AK.mp hp).1;have lsa':=congrArg List.length dG;rw[AB,AB,AG]at lsa';have ep:=sG _ _ (W9.hs.row (rS p) (BA.mpr ⟨p,mp,rfl⟩));have es:=sG _ _ (W9.sp p mp);refine⟨p.1,ex1 rfl ⟨SqT.of ep,rfl,_,ex1 rfl ⟨_,ex1 rfl (B7 rfl rfl ?_)⟩⟩⟩;dsimp only[Fr];refine U3 ?_;refine ex1 rfl (ex1 rfl (ex1 rfl ⟨p.2.2.2.1,_,rfl,.inl (SqL.of es),fun l hl=>⟨by show 3<=sizeLine;decide,fun t ht=>?_⟩⟩));have ul:=Same.new (o:=.lst (p.2.2.2.2.map V.str)) hl;have nlD:l≠D:=(B1 RG.at_ hl).symm;have ntD:t≠D:=(B1 (ul _ _ RG.at_) ht).symm;have ntl:l≠t:=B1 A7 ht;have el:(upd (upd G l (.lst (p.2.2.2.2.map V.str))) t (.tup [.str (rS p).2.1,.str p.2.2.1,.ref l])) l=some (.lst (p.2.2.2.2.map V.str)):=by rw[B4 ntl,A7]
   have et:(upd (upd G l (.lst (p.2.2.2.2.map V.str))) t (.tup [.str (rS p).2.1,.str p.2.2.1,.ref l])) t=some (.tup [.str (rS p).2.1,.str p.2.2.1,.ref l]):=A7;have ut:=ul.trans (Same.new (o:=.tup [.str (rS p).2.1,.str p.2.2.1,.ref l]) ht);generalize upd (upd G l (.lst (p.2.2.2.2.map V.str))) t (.tup [.str (rS p).2.1,.str p.2.2.1,.ref l])=G2 at el et ut⊢;have RG2:=RG.same ut;refine⟨_,RG2.at_,by rw[AB,AB,sizeLine_eq];omega,hN _ _ ⟨⟨_,_,_,rfl⟩,(sG.trans ut).upd hD,sa' ++ [(t,p.2.1,p.2.2.1,l,p.2.2.2.2)],⟨by rw[A7,A_,A_];rfl,fun z hz=>?_⟩,fun z hz=>?_,by rw[A_,dG,D8 hp,A_];rfl⟩⟩
   .rw[A_]at hz;rcases AV.mp hz with y | y
    .exact(B4 (X3 (RG2.row z y) RG2.at_ (by intro z;cases z))).trans (RG2.row z y)
    .rw[AE.mp y];exact(B4 ntD).trans et
   .rcases AV.mp hz with y | y
    .exact⟨(spG z y).1,(B4 (spG z y).1).trans (ut _ _ (spG z y).2.1),(spG z y).2.2⟩
    .rw[AE.mp y];exact⟨nlD,(B4 nlD).trans el,none_of sG.sm AX hl⟩
  .rintro σ G ⟨_,sG,sa',RG,spG,dG⟩;rw[AB,AB,CD]at dG;have x10:=sG _ _ x9;refine ex1 rfl ⟨x,T.aa,dx,_,rfl,x10,T.ai,T.ar,by simp,?_⟩;have k11:Sm [x] G (upd G x (.ins T.aa dx (K5 "sayings" (.ref D) [("people",.ref l1)]))):=(Sm.refl _ _).upd (by simp);have x11:(upd G x (.ins T.aa dx (K5 "sayings" (.ref D) [("people",.ref l1)]))) x=some (.ins T.aa dx [("people",.ref l1),("sayings",.ref D)]):=by rw[A7];rfl
   have W11:=(W9.same sG).keepX x10 k11;have T11:=X7 (E1 T9 sG) x10 k11;have kx:∀{z:Addr} {o:HO},G z=some o->z≠x->(upd G x (.ins T.aa dx (K5 "sayings" (.ref D) [("people",.ref l1)]))) z=some o:=fun e n=>(B4 n).trans e;have nxl:∀{z:Addr} {xs:List V},G z=some (.lst xs)->z≠x:=fun e=>X3 e x10 (by intro z;cases z);have nxt:∀{z:Addr} {xs:List V},G z=some (.tup xs)->z≠x:=fun e=>X3 e x10 (by intro z;cases z);have p11:=kx (sG _ _ e9) (nxl (sG _ _ e9));have R11:RowsAt (upd G x (.ins T.aa dx (K5 "sayings" (.ref D) [("people",.ref l1)]))) D (sa'.map rS):=⟨kx RG.at_ (nxl RG.at_),fun q hq=>kx (RG.row q hq) (nxt (RG.row q hq))⟩;have S11:∀q∈sa',(upd G x (.ins T.aa dx (K5 "sayings" (.ref D) [("people",.ref l1)]))) q.2.2.2.1=some (.lst (q.2.2.2.2.map V.str)):=fun q hq=>kx (spG q hq).2.1 (nxl (spG q hq).2.1);have m11:Sm [x] H8 (upd G x (.ins T.aa dx (K5 "sayings" (.ref D) [("people",.ref l1)]))):=(k9.trans sG.sm).trans k11;refine hN7 _ _ ?_;generalize upd G x (.ins T.aa dx (K5 "sayings" (.ref D) [("people",.ref l1)]))=H11 at x11 W11 T11 p11 R11 S11 m11⊢;have n9:∀{z:Addr},H9 z=none->H z=none:=fun{z} h=>new8 (none_of k9 (fun y=>by rw[AE.mp y,x9]at h;cases h) h);have nD:=n9 hD;have nS':∀q∈sa',H q.2.2.2.1=none:=fun q hq=>n9 (spG q hq).2.2;clear kx nxl nxt k11 W9 T9 RG spG x10 sG hD k9 e9 n9;refine B5 fun N8 hN8=>?_;refine ex1 rfl ⟨c,_,rfl,.inl (SqL.of W11.ht.at_),fun l2 hl2=>?_⟩;have nx2:x≠l2:=B1 x11 hl2;have nl2:=new8 (none_of m11 (fun y=>nx2 (AE.mp y).symm) hl2);refine ex1 rfl ⟨x,T.aa,dx,_,rfl,by rw[B4 nx2];exact x11,T.ai,T.as,by simp,?_⟩;have k12:Sm [x] H11 (upd (upd H11 l2 (.lst ((st.map rT).map fun q=>V.ref q.1))) x (.ins T.aa dx (K5 "strikes" (.ref l2) [("people",.ref l1),("sayings",.ref D)]))):=(Sm.new (Sm.refl _ _) hl2).upd (by simp);have e12:(upd (upd H11 l2 (.lst ((st.map rT).map fun q=>V.ref q.1))) x (.ins T.aa dx (K5 "strikes" (.ref l2) [("people",.ref l1),("sayings",.ref D)]))) l2=some (.lst ((st.map rT).map fun q=>V.ref q.1)):=by rw[B4 nx2.symm,A7]
   have x12:(upd (upd H11 l2 (.lst ((st.map rT).map fun q=>V.ref q.1))) x (.ins T.aa dx (K5 "strikes" (.ref l2) [("people",.ref l1),("sayings",.ref D)]))) x=some (.ins T.aa dx [("people",.ref l1),("sayings",.ref D),("strikes",.ref l2)]):=by rw[A7];rfl
   refine hN8 _ _ ?_;show Ty _ _ _ _ _ _ (upd (upd H11 l2 (.lst ((st.map rT).map fun q=>V.ref q.1))) x (.ins T.aa dx (K5 "strikes" (.ref l2) [("people",.ref l1),("sayings",.ref D)])));generalize upd (upd H11 l2 (.lst ((st.map rT).map fun q=>V.ref q.1))) x (.ins T.aa dx (K5 "strikes" (.ref l2) [("people",.ref l1),("sayings",.ref D)]))=H12 at k12 e12 x12⊢;have W12:=W11.keepX x11 k12;have T12:=X7 T11 x11 k12;have kx:∀{z:Addr} {o:HO},H11 z=some o->z≠x->H12 z=some o:=fun e n=>k12 _ _ e (nin n);have nxl:∀{z:Addr} {xs:List V},H11 z=some (.lst xs)->z≠x:=fun e=>X3 e x11 (by intro z;cases z);have nxt:∀{z:Addr} {xs:List V},H11 z=some (.tup xs)->z≠x:=fun e=>X3 e x11 (by intro z;cases z);have p12:=kx p11 (nxl p11);have R12:RowsAt H12 D (sa'.map rS):=⟨kx R11.at_ (nxl R11.at_),fun q hq=>kx (R11.row q hq) (nxt (R11.row q hq))⟩;have S12:∀q∈sa',H12 q.2.2.2.1=some (.lst (q.2.2.2.2.map V.str)):=fun q hq=>kx (S11 q hq) (nxl (S11 q hq));have m12:=m11.trans k12;clear kx nxl nxt p11 R11 S11 W11 T11 k12 m11 x11;refine ex1 rfl ⟨d,_,rfl,.inl (SqL.of W12.hb),fun l3 hl3=>?_⟩;have nx3:x≠l3:=B1 x12 hl3;have nl3:=new8 (none_of m12 (fun y=>nx3 (AE.mp y).symm) hl3);refine ex1 rfl ⟨x,T.aa,dx,_,rfl,by rw[B4 nx3];exact x12,T.ai,T.bl,by simp,?_⟩;have k13:Sm [x] H12 (upd (upd H12 l3 (.lst (x4 ba))) x (.ins T.aa dx (K5 "backs" (.ref l3) [("people",.ref l1),("sayings",.ref D),("strikes",.ref l2)]))):=(Sm.new (Sm.refl _ _) hl3).upd (by simp);have e13:(upd (upd H12 l3 (.lst (x4 ba))) x (.ins T.aa dx (K5 "backs" (.ref l3) [("people",.ref l1),("sayings",.ref D),("strikes",.ref l2)]))) l3=some (.lst (x4 ba)):=by rw[B4 nx3.symm,A7]
   have x13:(upd (upd H12 l3 (.lst (x4 ba))) x (.ins T.aa dx (K5 "backs" (.ref l3) [("people",.ref l1),("sayings",.ref D),("strikes",.ref l2)]))) x=some (.ins T.aa dx (wfW l1 D l2 l3)):=by rw[A7];rfl
   show Q .non (upd (upd H12 l3 (.lst (x4 ba))) x (.ins T.aa dx (K5 "backs" (.ref l3) [("people",.ref l1),("sayings",.ref D),("strikes",.ref l2)])));generalize upd (upd H12 l3 (.lst (x4 ba))) x (.ins T.aa dx (K5 "backs" (.ref l3) [("people",.ref l1),("sayings",.ref D),("strikes",.ref l2)]))=H13 at k13 e13 x13⊢;have kx:∀{z:Addr} {o:HO},H12 z=some o->z≠x->H13 z=some o:=fun e n=>k13 _ _ e (nin n);have nxl:∀{z:Addr} {xs:List V},H12 z=some (.lst xs)->z≠x:=fun e=>X3 e x12 (by intro z;cases z);have nxt:∀{z:Addr} {xs:List V},H12 z=some (.tup xs)->z≠x:=fun e=>X3 e x12 (by intro z;cases z);refine q sa' H13 (fun z o e n=>?_) (X7 T12 x12 k13) dG ⟨dx,l1,D,l2,l3,x13,⟨⟨kx p12 (nxl p12),fun q hq=>kx (W12.hp.row q hq) (nxt (W12.hp.row q hq))⟩,⟨kx R12.at_ (nxl R12.at_),fun q hq=>kx (R12.row q hq) (nxt (R12.row q hq))⟩,fun q hq=>kx (S12 q hq) (nxl (S12 q hq)),⟨kx e12 (nxl e12),fun q hq=>kx (W12.ht.row q hq) (nxt (W12.ht.row q hq))⟩,e13,fun q hq=>kx (W12.pb q hq) (nxt (W12.pb q hq))⟩,new8 hl1,nD,nl2,nl3,nS'⟩;have nz:z≠x/\z≠T.ad:=by simpa using n
   exact kx (m12 _ _ (k8 z o e nz.2) (nin nz.1)) nz.1
end
def Lf(rs:List RW)(n:Str):V:=match rs.find? fun q=>decide (q.2.1=n)with | some q=>.ref q.1 | none=>.non
theorem Nr{α:Type}{p:α->Bool}{xs:List α}{i:Nat}{y:α}(h:xs[i]?=some y)(no:∀q∈xs.take i,p q=false)(e:p y=true):xs.find? p=some y:=by
 induction xs generalizing i with
 | nil=>cases h
 | cons a r ih =>
  cases i with
  | zero=>cases h;rw[List.find?_cons_of_pos e]
  | succ i =>
   rw[List.take_succ_cons]at no;have na:=no a (BC ..);rw[List.find?_cons_of_neg (by rw[na];exact AM)];exact ih h fun q hq=>no q (AY _ hq)
def mx(ns:List Int):Int:=ns.foldr max 0
theorem Sa:∀ns:List Int,0<=mx ns
 | []=>Int.le_refl 0
 | a::r=>Int.le_trans (Sa r) (Int.le_max_right _ _)
theorem Ni:∀{ns:List Int} {a:Int},a∈ns->a<=mx ns
 | b::r,a,h=>by
  rcases AN.mp h with rfl | h
  .exact Int.le_max_left _ _
  .exact Int.le_trans (Ni h) (Int.le_max_right _ _)
theorem Jz:∀ns:List Int,mx ns=0\/mx ns∈ns
 | []=>.inl rfl
 | a::r=>by
  by_cases h:a<=mx r
  .have e:mx (a::r)=mx r:=Int.max_eq_right h;rw[e];exact(Jz r).imp id (AY _)
  .have e:mx (a::r)=a:=Int.max_eq_left (show mx r<=a by omega);rw[e];exact .inr (BC ..)
theorem Tp{ns:List Int}{m:Int}(h1:m∈ns)(h2:∀a∈ns,a<=m)(h0:∀a∈ns,0<=a):mx ns=m:=by
 have l:=Ni h1;have z:=h0 m h1;rcases Jz ns with e | e
 .omega
 .have:=h2 _ e;omega
def grt(pe:List PEr)(ss:List Str):Int:=mx ((pe.filter fun q=>decide (q.2.1∈ss)).map fun q=>q.2.2)
def Gj(pe:List PEr)(k:Str)(ss:List Str):Int:=if k = "fact" then grt pe ss+10 else grt pe ss
def U7(sa:List SAr)(n:Str):Option SAr:=sa.find? fun q=>decide (q.2.1=n)
def K6(st:List STr)(n:Str):Option STr:=st.find? fun q=>decide (q.2.1=n)
theorem Pq(sa:List SAr)(n:Str):Lf (sa.map rS) n=match U7 sa n with | some q=>.ref q.1 | none=>.non:=by
 unfold Lf U7;rw[List.find?_map];have e:((fun q:RW=>decide (q.2.1=n))∘rS)=fun q:SAr=>decide (q.2.1=n):=rfl;rw[e];cases sa.find? fun q:SAr=>decide (q.2.1=n)<;>rfl
theorem Qh(st:List STr)(n:Str):Lf (st.map rT) n=match K6 st n with | some q=>.ref q.1 | none=>.non:=by
 unfold Lf K6;rw[List.find?_map];have e:((fun q:RW=>decide (q.2.1=n))∘rT)=fun q:STr=>decide (q.2.1=n):=rfl;rw[e];cases st.find? fun q:STr=>decide (q.2.1=n)<;>rfl
def J2(pe:List PEr)(sa:List SAr)(st:List STr)(n:Str):Option Int:=(U7 sa (match K6 st n with | some q=>q.2.2.1 | none=>n)).map fun q=>Gj pe q.2.2.1 q.2.2.2.2
theorem Pf{α:Type}{J:It}{ys:List α}{r:α->V}(f:α->V)(p:α->Bool){a D:Addr}{H:Hp}(as:AsSeq J (ys.map r) a H){g:TG}{tc:TT}{te:TE}{σ0:St}{Q:St->Hp->Prop}(S:St->Prop)(h0:S σ0)(len:ys.length<=5000)(hD:H D=none)
  (he:∀y∈ys,∀σ G,S σ->Same H G->∀(M:St->VK) (N:St->Hp->Prop),(∀σ' G',S σ'->Same G G'->p y=true->M σ' (f y) G')->(∀σ' G',S σ'->Same G G'->p y=false->N σ' G')->g (r y) σ G fun σ2 H2=>tc σ2 H2 fun b H3=>if b=true then te σ2 H3 (M σ2)else N σ2 H3)
  (q:∀σ G,Same H G->G D=some (.lst ((ys.filter p).map f))->Q σ G):Ms g tc (Gi D te) J σ0 (upd H D (.lst [])) Q:=by
 refine U6 as (fun i σ G=>S σ/\Same H G/\G D=some (.lst (((ys.take i).filter p).map f))) ⟨h0,Same.new hD,A7⟩ (fun i σ G _ h=>h.2.1.at a) ?_ ?_
 .rintro i σ G v N hx ⟨hS,sG,eG⟩ hN;rw[AH]at hx;obtain⟨y,hy,rfl⟩:=AR.mp hx;have my:=AL hy;have hs:(ys.take (i+1)).filter p =(ys.take i).filter p++if p y=true then [y]else []:=by
   rw[D8 hy,List.filter_append,List.filter_cons,List.filter_nil]
  have hl:=List.length_filter_le p (ys.take i);rw[AG]at hl;refine he y my σ G hS sG (fun σ2 v H1=>∃ys,H1 D=some (HO.lst ys)/\ys.length<sizeLine/\N σ2 (upd H1 D (HO.lst (ys ++ [v])))) N (fun σ' G' hS' s' c=>⟨_,s' _ _ eG,?_,hN _ _ ⟨hS',(sG.trans s').upd hD,?_⟩⟩) fun σ' G' hS' s' c=>hN _ _ ⟨hS',sG.trans s',?_⟩
  .rw[AB,sizeLine_eq];omega
  .rw[A7,hs,BB c,A_];rfl
  .rw[hs,AU (by rw[c];exact AM),CA];exact s' _ _ eG
 .rintro σ G ⟨_,sG,eG⟩;rw[AB,CD]at eG;exact q σ G sG eG
section
variable{P:Program}{w:World}{K:PySem.W.Frag}{mg:Str->Option Value}{base:Heap}
theorem Ax:FnScope ["rows", "name", "row"] ["rows", "name"] (B3 s_row_of):=fsc
def Lr:Sp:=fun vs H Q _=>∃(l:Addr) (rs:List RW) (n:Str),vs = [.ref l,.str n]/\RowsAt H l rs/\rs.length<=1000/\Q (Lf rs n) H
theorem S4(T:Tx K mg):FnOk P w K mg base CX0 1 T.au.f T.au.fd ["rows", "name"] Lr:=by
 have sc:=Ax;refine T.au.F.ok Ax (fun vs H Q E h=>?_) (fun cdv A outer s H vs Q E hr h=>?_)
 .obtain⟨l,rs,n,rfl,_⟩:=h;rfl
 .obtain⟨l,rs,n,rfl,hR,len,q⟩:=h;refine⟨_,(B0 (P4 PassesOwn.never rfl (piL K (pv 0)) (D7 (i:=2) sc.nd rfl (.inl rfl))
   (B2 (E7 (C4 Y8 (C1 (ixT K) (pv 2) A9 (fun _ _=>rfl)) (pv 1) (C7 _)) (B2 (B9 (pv 2))) C5)))
   (B2 (B9 X2))),?_⟩
  refine B5 fun N1 hN1=>?_;refine ex1 rfl ⟨l,rfl,⟨_,SqL.of hR.at_⟩,Y2 (asL (SqL.of hR.at_)) (fun i σ G=>(∃v,σ = [some (.ref l),some (.str n),v])/\G=H/\∀q∈rs.take i,decide (q.2.1=n)=false) ?_ ?_ ?_ ?_⟩
  .exact⟨⟨_,rfl⟩,rfl,fun q h=>absurd h AX⟩
  .rintro i σ G _ ⟨_,rfl,_⟩ o e;exact e
  .rintro i σ G v hv ⟨⟨v0,rfl⟩,rfl,no⟩ D1 hD1 hrt;rw[AH]at hv;obtain⟨y,hy,rfl⟩:=AR.mp hv;have my:=AL hy;refine ex1 rfl ⟨y.1,_,B7 rfl rfl ⟨SqT.of (hR.row y my),B6 (j:=0) rfl,ex1 rfl ⟨rfl,_,rfl,l9 (fun h=>?_) (fun h=>?_)⟩⟩⟩
   .have e:y.2.1=n:=by simpa using h
    refine ex1 rfl ?_;rw[hrt];have er:Lf rs n = .ref y.1:=by
     unfold Lf;rw[Nr hy no (AI e)]
    rw[er]at q;exact q
   .have e:decide (y.2.1=n)=false:=by simpa using h
    refine hD1 _ _ ⟨⟨_,rfl⟩,rfl,fun z hz=>?_⟩;rw[D8 hy]at hz;rcases AV.mp hz with hz | hz
    .exact no z hz
    .rw[AE.mp hz];exact e
  .rintro σ G ⟨⟨v0,rfl⟩,rfl,no⟩;rw[AB,CD]at no;refine hN1 _ _ ?_;have er:Lf rs n = .non:=by
    unfold Lf;rw[List.find?_eq_none.mpr fun z hz=>by rw[no z hz];exact AM]
   rw[er]at q;exact q
theorem G9:FnScope ["weave", "saying", "name", "kind", "speakers", "greatest"] ["weave", "saying"] (B3 s_saying_strength):=fsc
def Gz(C:Addr):Sp:=fun vs H Q _=>∃(x t l:Addr) (pe:List PEr) (sa:List SAr) (st:List STr) (ba:List PA2) (n k:Str) (ss:List Str),vs = [.ref x,.ref t]/\WeaveAt C H x pe sa st ba/\pe.length<=30/\H t=some (.tup [.str n,.str k,.ref l])/\H l=some (.lst (ss.map V.str))/\(∀q∈pe,0<=q.2.2)/\∀H',Same H H'->Q (.int (Gj pe k ss)) H'
set_option maxHeartbeats 2000000 in
theorem I0(T:Tx K mg):FnOk P w K mg base CX0 1 T.ae.f T.ae.fd ["weave", "saying"] (Gz T.aa):=by
 have sc:=G9;refine T.ae.F.ok G9 (fun vs H Q E h=>?_) (fun cdv A outer s H vs Q E hr h=>?_)
 .obtain⟨x,t,l,pe,sa,st,ba,n,k,ss,rfl,_⟩:=h;rfl
 .obtain⟨x,t,l,pe,sa,st,ba,n,k,ss,rfl,⟨dx,a,b,c,d,hx,W⟩,l30,et,el,nn,q⟩:=h;refine⟨_,(B0 (Fc (pv 1) (pgT K (n:=3) (C8 (D7 (i:=2) sc.nd rfl (.inl rfl)) (C8 (D7 (i:=3) sc.nd rfl (.inl rfl)) (C8 (D7 (i:=4) sc.nd rfl (.inr rfl)) P9)))))
   (B0 (C3 (i:=5) sc.nd rfl (.inl rfl) (Pk K T.bc (A6 (Q9 (N':=["person", "rank", "speakers"]) (cap:=[none,none,some 4]) (cl:=[("speakers",_)]) (O2 ⟨⟨rfl,rfl,rfl,rfl⟩,trivial⟩ ⟨rfl,trivial⟩) rfl (piL K (peF K (pv 0))) (fun _ _ _ _=>by exact⟨(pgT K (n:=2) (C8 (pgC 0) (C8 (pgC 1) P9))),(x5 (C4 (Ca K) (pv 0) (pv 2) rfl)),(pv 1)⟩)) A8) A9))
   (B2 (B9 (Fe (C4 Y8 (pv 3) D4 (C7 _)) (D6 M9 (pv 5) (Ot T.bh)) (pv 5)))))),?_⟩
  refine B5 fun N1 hN1=>?_;refine ex1 rfl ⟨t,ex1 rfl ⟨SqT.of et,rfl,_,ex1 rfl ⟨_,ex1 rfl (B7 rfl rfl ?_)⟩⟩⟩;refine hN1 _ _ (B5 fun N2 hN2=>?_);refine ex1 rfl ⟨x,_,_,_,_,rfl,hx,T.ai,T.aS,rfl,a,rfl,⟨_,SqL.of W.hp.at_⟩,fun D hD=>?_⟩;have as1:=asL (K:=K) (SqL.of W.hp.at_);rw[AS]at as1;refine Pf (fun q:PEr=>V.int q.2.2) (fun q:PEr=>decide (q.2.1∈ss)) as1 (fun σ=>∃v0 v1,σ = [v0,v1,some (.ref l)]) ⟨_,_,rfl⟩ (by omega) hD ?_ fun σ H1 s1 e1=>?_
  .rintro y hy σ G ⟨v0,v1,rfl⟩ sG M N hM hN;have ey:=sG _ _ (W.hp.row (rP y) (BA.mpr ⟨y,hy,rfl⟩));refine⟨y.1,ex1 rfl ⟨SqT.of ey,rfl,_,ex1 rfl (B7 rfl rfl ?_)⟩⟩;refine ex1 rfl (ex1 rfl (O5 (x:=y.2.1) (.inl (SqL.of (sG _ _ el))) ⟨_,rfl,l9 (fun h=>ex1 rfl (hM _ _ ⟨_,_,rfl⟩ (fun _ _ z=>z) h)) (fun h=>hN _ _ ⟨_,_,rfl⟩ (fun _ _ z=>z) (DR.mpr h))⟩))
  have e1':H1 D=some (.lst (((pe.filter fun q=>decide (q.2.1∈ss)).map fun q=>q.2.2).map V.int)):=by rw[e1,AS];rfl
  have fin:∀m,m=grt pe ss->N2 [some (.ref x),some (.ref t),some (.str n),some (.str k),some (.ref l),some (.int m)] H1:=fun m em=>by
   refine hN2 _ _ ?_;have es:∀b:Bool,(b=true↔k = "fact")->Gj pe k ss=if b=true then m+10 else m:=fun b hb=>by
    unfold Gj;rw[<-em];by_cases h:k = "fact"
    .rw[BB h,BB (hb.mpr h)]
    .rw[AU h,AU fun z=>h (hb.mp z)]
   refine ex1 rfl ⟨rfl,_,rfl,l9 (fun h=>?_) (fun h=>?_)⟩
   .have e:k = "fact":=by simpa using h
    have:=q H1 s1;rw[es true ⟨fun _=>e,fun _=>rfl⟩,BB rfl]at this;exact ex1 rfl (B7 rfl rfl this)
   .have e:¬k = "fact":=by simpa using h
    have:=q H1 s1;rw[es false ⟨fun z=>(AM z).elim,fun z=>(e z).elim⟩,AU AM]at this;exact ex1 rfl this
  refine⟨D,_,0,rfl,rfl,SqL.of e1',fun e=>fin 0 ?_,fun m hm hle=>fin m ?_⟩
  .unfold grt;rw[e];rfl
  .refine(Tp hm hle fun z hz=>?_).symm;obtain⟨y,hy,rfl⟩:=BA.mp hz;exact nn y (EE.mp hy).1
theorem I9:FnScope ["weave", "name", "saying"] ["weave", "name"] (B3 s_saying_of):=fsc
def Ks(C:Addr):Sp:=fun vs H Q _=>∃(x:Addr) (pe:List PEr) (sa:List SAr) (st:List STr) (ba:List PA2) (n:Str) (y:SAr),vs = [.ref x,.str n]/\WeaveAt C H x pe sa st ba/\sa.length<=30/\U7 sa n=some y/\Q (.ref y.1) H
theorem Bg(T:Tx K mg):FnOk P w K mg base CX0 2 T.al.f T.al.fd ["weave", "name"] (Ks T.aa):=by
 have G_row_of:=S4 (P:=P) (w:=w) (base:=base) T;have sc:=I9;refine T.al.F.ok I9 (fun vs H Q E h=>?_) (fun cdv A outer s H vs Q E hr h=>?_)
 .obtain⟨x,pe,sa,st,ba,n,y,rfl,_⟩:=h;rfl
 .obtain⟨x,pe,sa,st,ba,n,y,rfl,⟨dx,a,b,c,d,hx,W⟩,l30,ey,q⟩:=h;refine⟨_,(B0 (C3 (i:=2) sc.nd rfl (.inl rfl) (C0 T.au G_row_of (Rm hr) (A6 (peF K (pv 0)) (A6 (pv 1) A8))))
   (B0 (E7 (C4 Dw (pv 2) X2 (C7 _)) (B2 Ef) C5)
   (B2 (B9 (pv 2))))),?_⟩
  refine B5 fun N1 hN1=>?_;refine ex1 rfl ⟨x,_,_,_,_,rfl,hx,T.ai,T.ar,rfl,ex1 rfl ⟨b,_,n,rfl,W.hs,by rw[AB];omega,?_⟩⟩;rw[Pq,ey];refine hN1 _ _ (B5 fun N2 hN2=>?_);exact ex1 rfl ⟨rfl,false,congrArg V.bl (BD fun z=>by cases z),R0 (hN2 _ _ (ex1 rfl q))⟩
theorem K2:FnScope ["weave", "name", "strike"] ["weave", "name"] (B3 s_strength):=fsc
def Jm(C:Addr):Sp:=fun vs H Q _=>∃(x:Addr) (pe:List PEr) (sa:List SAr) (st:List STr) (ba:List PA2) (n:Str) (v:Int),vs = [.ref x,.str n]/\WeaveAt C H x pe sa st ba/\(pe.length<=30/\sa.length<=30/\st.length<=30)/\(∀q∈pe,0<=q.2.2)/\J2 pe sa st n=some v/\∀H',Same H H'->Q (.int v) H'
set_option maxHeartbeats 2000000 in
theorem g6(T:Tx K mg):FnOk P w K mg base CX0 3 T.af.f T.af.fd ["weave", "name"] (Jm T.aa):=by
 have G_row_of:=S4 (P:=P) (w:=w) (base:=base) T;have G_saying_of:=Bg (P:=P) (w:=w) (base:=base) T;have G_saying_strength:=I0 (P:=P) (w:=w) (base:=base) T;have sc:=K2;refine T.af.F.ok K2 (fun vs H Q E h=>?_) (fun cdv A outer s H vs Q E hr h=>?_)
 .obtain⟨x,pe,sa,st,ba,n,v,rfl,_⟩:=h;rfl
 .obtain⟨x,pe,sa,st,ba,n,v,rfl,hW,⟨l1,l2,l3⟩,nn,ev,q⟩:=h;obtain⟨dx,a,b,c,d,hx,W⟩:=hW;have hW:WeaveAt T.aa H x pe sa st ba:=⟨dx,a,b,c,d,hx,W⟩;refine⟨_,(B0 (C3 (i:=2) sc.nd rfl (.inl rfl) (C0 T.au G_row_of (Rm hr) (A6 (peF K (pv 0)) (A6 (pv 1) A8))))
   (B0 (E7 (C4 Jo (pv 2) X2 (C7 _)) (B2 (B9 (C0 T.ae G_saying_strength (Rm hr) (A6 (pv 0) (A6 (C0 T.au G_row_of (Rm hr) (A6 (peF K (pv 0)) (A6 (C1 (ixT K) (pv 2) A9 (fun _ _=>rfl)) A8))) A8))))) C5)
   (B2 (B9 (C0 T.ae G_saying_strength (Rm hr) (A6 (pv 0) (A6 (C0 T.al G_saying_of (Rm hr) (A6 (pv 0) (A6 (pv 1) A8))) A8))))))),?_⟩
  refine B5 fun N1 hN1=>?_;refine ex1 rfl ⟨x,_,_,_,_,rfl,hx,T.ai,T.as,rfl,ex1 rfl ⟨c,_,n,rfl,W.ht,by rw[AB];omega,?_⟩⟩;rw[Qh];have fin:∀y:SAr,y∈sa->v=Gj pe y.2.2.1 y.2.2.2.2->Gz T.aa [.ref x,.ref y.1] H Q E0:=fun y my e =>
   ⟨x,y.1,y.2.2.2.1,pe,sa,st,ba,y.2.1,y.2.2.1,y.2.2.2.2,rfl,hW,l1,W.hs.row (rS y) (BA.mpr ⟨y,my,rfl⟩),W.sp y my,nn,by rw[<-e];exact q⟩
  unfold J2 at ev;refine hN1 _ _ (B5 fun N2 hN2=>?_);cases ek:K6 st n with
  | some z =>
   rw[ek]at ev;obtain⟨y,ey,evy⟩:=AR.mp ev;have mz:z∈st:=CL ek;have my:y∈sa:=CL ey;refine ex1 rfl ⟨rfl,true,congrArg (fun b=>V.bl !b) (BD fun z=>by cases z),U3 ?_⟩;refine ex1 rfl (ex1 rfl ⟨x,_,_,_,_,rfl,hx,T.ai,T.ar,rfl,ex1 rfl ⟨z.1,_,B7 rfl rfl ⟨SqT.of (W.ht.row (rT z) (BA.mpr ⟨z,mz,rfl⟩)),B6 (j:=1) rfl,b,_,z.2.2.1,rfl,W.hs,by rw[AB];omega,?_⟩⟩⟩);rw[Pq,ey];exact fin y my evy.symm
  | none =>
   rw[ek]at ev;obtain⟨y,ey,evy⟩:=AR.mp ev;have my:y∈sa:=CL ey;refine ex1 rfl ⟨rfl,false,congrArg (fun b=>V.bl !b) (AI rfl),R0 (hN2 _ _ ?_)⟩;exact ex1 rfl (ex1 rfl (ex1 rfl ⟨x,pe,sa,st,ba,n,y,rfl,hW,l2,ey,fin y my evy.symm⟩))
theorem Z5:FnScope ["weave"] ["weave"] (B3 s_counting):=fsc
def Kg(pe:List PEr)(sa:List SAr)(st:List STr):List STr:=st.filter fun q=>decide ((J2 pe sa st q.2.1).getD 0 ≥ (J2 pe sa st q.2.2.2).getD 0)
def Dj(C:Addr):Sp:=fun vs H Q _=>∃(x:Addr) (pe:List PEr) (sa:List SAr) (st:List STr) (ba:List PA2),vs = [.ref x]/\WeaveAt C H x pe sa st ba/\WOk pe sa st ba/\∀(l:Addr) (ms:List Str) H',Same H H'->H l=none->H' l=some (.lst (ms.map V.str))->ms.Perm (nT (Kg pe sa st))->ms.Pairwise leS->Q (.ref l) H'
theorem R1{α:Type}{f:α->Str}{xs:List α}{n:Str}(h:n∈xs.map f):∃y,xs.find? (fun q=>decide (f q=n))=some y/\y∈xs/\f y=n:=by
 cases e:xs.find? fun q=>decide (f q=n)with
 | some y=>exact⟨y,rfl,CL e,BS (List.find?_some (p:=fun q=>decide (f q=n)) e)⟩
 | none =>
  obtain⟨y,hy,e2⟩:=BA.mp h;exact absurd (AI e2) (List.find?_eq_none.mp e y hy)
theorem WOk.strong{pe:List PEr}{sa:List SAr}{st:List STr}{ba:List PA2}(h:WOk pe sa st ba){n:Str}(hn:n∈nS sa\/n∈nT st):∃v,J2 pe sa st n=some v:=by
 unfold J2;have say:∀m,m∈nS sa->∃v,(U7 sa m).map (fun q=>Gj pe q.2.2.1 q.2.2.2.2)=some v:=fun m hm=>by
  obtain⟨y,e,_⟩:=R1 (f:=fun q:SAr=>q.2.1) hm;exact⟨_,by unfold U7;rw[e];rfl⟩
 cases e:K6 st n with
 | some z=>exact say _ (h.tg z (CL e)).1
 | none =>
  refine say n (hn.resolve_right fun m=>?_);obtain⟨y,e2,_⟩:=R1 (f:=fun q:STr=>q.2.1) m;unfold K6 at e;rw[e2]at e;cases e
set_option maxHeartbeats 2000000 in
theorem Dq(T:Tx K mg):FnOk P w K mg base CX0 4 T.aM.f T.aM.fd ["weave"] (Dj T.aa):=by
 have G_strength:=g6 (P:=P) (w:=w) (base:=base) T;have sc:=Z5;refine T.aM.F.ok Z5 (fun vs H Q E h=>?_) (fun cdv A outer s H vs Q E hr h=>?_)
 .obtain⟨x,pe,sa,st,ba,rfl,_⟩:=h;rfl
 .obtain⟨x,pe,sa,st,ba,rfl,hW,ok,q⟩:=h;refine⟨_,(B2 (B9 (D0 (Ev K) T.a8 Ce (A6 (Q9 (N':=["name", "one", "goal", "weave"]) (cap:=[none,none,none,some 0]) (cl:=[("weave",_)]) (O2 ⟨⟨rfl,rfl,rfl,rfl⟩,trivial⟩ ⟨rfl,trivial⟩) rfl (piL K (peF K (pv 0))) (fun _ _ _ _=>by exact⟨(pgT K (n:=3) (C8 (pgC 0) (C8 (pgC 1) (C8 (pgC 2) P9)))),(x5 (C4 Pj (C0 T.af G_strength (Rm hr) (A6 (pv 3) (A6 (pv 0) A8))) (C0 T.af G_strength (Rm hr) (A6 (pv 3) (A6 (pv 2) A8))) (C7 _))),(pv 0)⟩)) A8)))),?_⟩;obtain⟨dx,a,b,c,d,hx,W⟩:=hW;have hW:WeaveAt T.aa H x pe sa st ba:=⟨dx,a,b,c,d,hx,W⟩;obtain⟨l1,l2,l3,l4⟩:=ok.len;refine ex1 rfl ⟨x,_,_,_,_,rfl,hx,T.ai,T.as,rfl,c,rfl,⟨_,SqL.of W.ht.at_⟩,fun D hD=>?_⟩;have as1:=asL (K:=K) (SqL.of W.ht.at_);rw[AS]at as1;refine Pf (fun q:STr=>V.str q.2.1) (fun q:STr=>decide ((J2 pe sa st q.2.1).getD 0 ≥ (J2 pe sa st q.2.2.2).getD 0)) as1 (fun σ=>∃v0 v1 v2,σ = [v0,v1,v2,some (.ref x)]) ⟨_,_,_,rfl⟩ (by omega) hD ?_ fun σ H1 s1 e1=>?_
  .rintro y hy σ G ⟨v0,v1,v2,rfl⟩ sG M N hM hN;have ey:=sG _ _ (W.ht.row (rT y) (BA.mpr ⟨y,hy,rfl⟩));obtain⟨v,hv⟩:=ok.strong (n:=y.2.1) (.inr (BA.mpr ⟨y,hy,rfl⟩));obtain⟨u,hu⟩:=ok.strong (n:=y.2.2.2) (ok.tg y hy).2;have nn:∀q∈pe,0<=q.2.2:=fun q hq=>(ok.pm q hq).2.1;refine⟨y.1,ex1 rfl ⟨SqT.of ey,rfl,_,ex1 rfl ⟨_,ex1 rfl (B7 rfl rfl ?_)⟩⟩⟩;refine ex1 rfl (ex1 rfl ⟨x,pe,sa,st,ba,y.2.1,v,rfl,hW.same sG,⟨l1,l2,l3⟩,nn,hv,fun G1 t1=>?_⟩);refine ex1 rfl (ex1 rfl ⟨x,pe,sa,st,ba,y.2.2.2,u,rfl,(hW.same sG).same t1,⟨l1,l2,l3⟩,nn,hu,fun G2 t2=>?_⟩);rw[hv,hu]at hM hN;exact B7 rfl rfl ⟨_,rfl,l9 (fun h=>ex1 rfl (hM _ _ ⟨_,_,_,rfl⟩ (t1.trans t2) h)) (fun h=>hN _ _ ⟨_,_,_,rfl⟩ (t1.trans t2) (DR.mpr h))⟩
  refine⟨D,nT (Kg pe sa st),rfl,SqL.of (by rw[e1];unfold nT Kg;rw[AS];rfl),fun l ms hl pm sr=>?_⟩;exact q l ms _ (s1.trans (Same.new hl)) (none_of s1.sm AX hl) A7 pm sr
end
def Mx(C:Addr)(H:Hp)(E:XK):Prop:=∀H' x,Same H H'->H x=none->H' x=some (XO x C none)->E (.ref C) none H'
section
variable{P:Program}{w:World}{K:PySem.W.Frag}{mg:Str->Option Value}{base:Heap}
def Lm(C B:Addr):Sp:=fun vs H Q E=>∃(x:Addr) (pe:List PEr) (sa:List SAr) (st:List STr) (ba:List PA2) (n:Str),vs = [.ref x,.str n]/\WeaveAt C H x pe sa st ba/\sa.length<=30/\U7 sa n=none/\Mx B H E
theorem Kq(T:Tx K mg):FnOk P w K mg base (CXe P w) 2 T.al.f T.al.fd ["weave", "name"] (Lm T.aa T.av):=by
 have G_row_of:=S4 (P:=P) (w:=w) (base:=base) T;have sc:=I9;refine T.al.F.okE I9 (fun vs H Q E h=>?_) (fun cdv A outer s H vs Q E hr h=>?_)
 .obtain⟨x,pe,sa,st,ba,n,rfl,_⟩:=h;rfl
 .obtain⟨x,pe,sa,st,ba,n,rfl,⟨dx,a,b,c,d,hx,W⟩,l30,ey,k⟩:=h;refine⟨_,(B0 (C3 (i:=2) sc.nd rfl (.inl rfl) (C0 T.au G_row_of (Rm hr) (A6 (peF K (pv 0)) (A6 (pv 1) A8))))
   (B0 (E7 (C4 Dw (pv 2) X2 (C7 _)) (B2 (Ht cxE.bx T.a5 T.bC rfl T.a6 (A6 D4 A8))) C5)
   (B2 (B9 (pv 2))))),?_⟩
  refine B5 fun N1 hN1=>?_;refine ex1 rfl ⟨x,_,_,_,_,rfl,hx,T.ai,T.ar,rfl,ex1 rfl ⟨b,_,n,rfl,W.hs,by rw[AB];omega,?_⟩⟩;rw[Pq,ey];refine hN1 _ _ (B5 fun N2 hN2=>?_);exact ex1 rfl ⟨rfl,true,congrArg V.bl (AI rfl),U3 ⟨by show 1<=sizeLine;decide,fun y hy=>k _ y (Same.new hy) hy A7⟩⟩
def Kz(C B:Addr):Sp:=fun vs H Q E=>∃(x:Addr) (pe:List PEr) (sa:List SAr) (st:List STr) (ba:List PA2) (n:Str),vs = [.ref x,.str n]/\WeaveAt C H x pe sa st ba/\(sa.length<=30/\st.length<=30)/\U7 sa n=none/\K6 st n=none/\Mx B H E
set_option maxHeartbeats 2000000 in
theorem Lc(T:Tx K mg):FnOk P w K mg base (CXe P w) 3 T.af.f T.af.fd ["weave", "name"] (Kz T.aa T.av):=by
 have G_row_of:=S4 (P:=P) (w:=w) (base:=base) T;have G_saying_of:=Kq (P:=P) (w:=w) (base:=base) T;have G_saying_strength:=I0 (P:=P) (w:=w) (base:=base) T;have sc:=K2;refine T.af.F.okE K2 (fun vs H Q E h=>?_) (fun cdv A outer s H vs Q E hr h=>?_)
 .obtain⟨x,pe,sa,st,ba,n,rfl,_⟩:=h;rfl
 .obtain⟨x,pe,sa,st,ba,n,rfl,hW,⟨l2,l3⟩,ey,ek,k⟩:=h;obtain⟨dx,a,b,c,d,hx,W⟩:=hW;have hW:WeaveAt T.aa H x pe sa st ba:=⟨dx,a,b,c,d,hx,W⟩;refine⟨_,(B0 (C3 (i:=2) sc.nd rfl (.inl rfl) (C0 T.au G_row_of (Rm hr) (A6 (peF K (pv 0)) (A6 (pv 1) A8))))
   (B0 (E7 (C4 Jo (pv 2) X2 (C7 _)) (B2 (B9 (C0 T.ae G_saying_strength (Rm hr) (A6 (pv 0) (A6 (C0 T.au G_row_of (Rm hr) (A6 (peF K (pv 0)) (A6 (C1 (ixT K) (pv 2) A9 (fun _ _=>rfl)) A8))) A8))))) C5)
   (B2 (B9 (C0 T.ae G_saying_strength (Rm hr) (A6 (pv 0) (A6 (Rn cxE.bx T.al G_saying_of (Rm hr) (A6 (pv 0) (A6 (pv 1) A8))) A8))))))),?_⟩
  refine B5 fun N1 hN1=>?_;refine ex1 rfl ⟨x,_,_,_,_,rfl,hx,T.ai,T.as,rfl,ex1 rfl ⟨c,_,n,rfl,W.ht,by rw[AB];omega,?_⟩⟩;rw[Qh,ek];refine hN1 _ _ (B5 fun N2 hN2=>?_);refine ex1 rfl ⟨rfl,false,congrArg (fun b=>V.bl !b) (AI rfl),R0 (hN2 _ _ ?_)⟩;exact ex1 rfl (ex1 rfl (ex1 rfl ⟨x,pe,sa,st,ba,n,rfl,hW,l2,ey,k⟩))
theorem V0:FnScope ["_law_ask", "_law_weave", "_law_name", "_law_caught", "_law_told", "error", "_law_others"] ["_law_ask", "_law_weave", "_law_name"] (B3 s_law_asked):=fsc
def Kl(S C B:Addr):Sp:=fun vs H Q _=>∃(x:Addr) (pe:List PEr) (sa:List SAr) (st:List STr) (ba:List PA2) (n:Str),vs = [.ref S,.ref x,.str n]/\WeaveAt C H x pe sa st ba/\(sa.length<=30/\st.length<=30)/\U7 sa n=none/\K6 st n=none /\
 ∀t H',Same H H'->H' t=some (.tup [.str "refused",.str "none such"])->Q (.ref t) H'
set_option maxHeartbeats 2000000 in
theorem Av(T:Tx K mg):FnOk P w K mg base CX0 4 T.aJ.f T.aJ.fd ["_law_ask", "_law_weave", "_law_name"] (Kl T.af.f T.aa T.av):=by
 have G__law_ask:=Lc (P:=P) (w:=w) (base:=base) T;have hk__law_ask:=T.af.F.kp;have hb__law_ask:=T.af.b;have sc:=V0;refine T.aJ.F.ok V0 (fun vs H Q E h=>?_) (fun cdv A outer s H vs Q E hr h=>?_)
 .obtain⟨x,pe,sa,st,ba,n,rfl,_⟩:=h;rfl
 .obtain⟨x,pe,sa,st,ba,n,rfl,hW,hl,ey,ek,q⟩:=h;refine⟨_,(B0 (C3 (i:=3) sc.nd rfl (.inl rfl) X2)
   (B0 (Nk (i:=5) (fun _ _ z=>z) rfl rfl sc.nd rfl rfl rfl T.bj T.bi (Nj (i:=4) sc.nd rfl (.inl rfl) (Hu (i:=0) (fun _ _ z=>z) G__law_ask (Rm hr) hk__law_ask hb__law_ask (A6 (pv 1) (A6 (pv 2) A8))))
   (fun _=>(B2 (C3 (i:=3) sc.nd rfl (.inl rfl) (pv 5)))))
   (B0 (E7 (C4 Dw (pv 3) X2 (C7 _)) (B2 (B9 (J9 (A6 D4 (A6 (pv 4) A8))))) C5)
   (@B0 _ _ _ _ _ (@C3 _ _ 6 _ _ _ _ sc.nd rfl (.inl rfl) (D0 (Fh K) T.ab B8 (A6 (pv 3) (A6 (J9 (A6 (f8 T.bw) (A6 (f8 T.bo) (A6 (f8 T.bt) (A6 (f8 T.bz) (A6 (f8 T.bu) (A6 (f8 T.bB) (A6 (f8 T.bx) A8)))))))) A8))) (by rfl) (by first | exact .inl rfl | exact .inr rfl | assumption))
   (B0 (E7 (PW.pt (Bf (K7 (F6 (D0 (Aq K) T.ab B8 (A6 (pv 3) (A6 (f8 T.a6) A8))))) (Bf (K7 (F6 (D0 (Aq K) T.ab B8 (A6 (pv 3) (A6 (J4 T.bn Ag) A8))))) (a7 (F6 (pv 6)))))) (B2 (B9 (J9 (A6 D4 (A6 D4 A8))))) C5)
   (B2 (B9 (J9 (A6 D4 (A6 D4 A8)))))))))),?_⟩
  refine B5 fun N1 hN1=>?_;refine hN1 _ _ (B5 fun N2 hN2=>?_);refine⟨rfl,ex1 rfl (ex1 rfl ⟨x,pe,sa,st,ba,n,rfl,hW,hl,ey,ek,fun H' y s' hy ey=>⟨T.av,T.bA,rfl,T.a5,T.aY,fun y' ey'=>?_⟩⟩)⟩;refine ex1 rfl (hN2 _ _ (B5 fun N3 hN3=>?_));refine ex1 rfl ⟨rfl,false,congrArg V.bl (BD fun z=>by cases z),R0 (hN3 _ _ (B5 fun N4 hN4=>?_))⟩;refine ex1 rfl ⟨by show 7<=sizeLine;decide,fun p hp=>?_⟩;have u6:=Same.new (o:=.tup ([T.a4,T.aX,T.a1,T.be,T.a2,T.bf,T.a7].map V.ref)) hp;have ey6:=u6 _ _ ey';refine⟨y',T.av,p,[T.a4,T.aX,T.a1,T.be,T.a2,T.bf,T.a7],false,rfl,A7,ey6,T.aT,T.aU,T.bp,?_⟩;refine hN4 _ _ (B5 fun N5 hN5=>?_);refine ex1 rfl ⟨y',T.av,_,_,true,rfl,rfl,ey6,T.aT,T.aU,T.bq,⟨_,rfl,R0 ?_⟩⟩;refine ex1 rfl ⟨y',T.av,_,_,true,rfl,rfl,ey6,T.aT,T.aU,T.br,⟨_,rfl,R0 ?_⟩⟩;refine ex1 rfl ⟨_,rfl,R0 (hN5 _ _ ?_)⟩;exact⟨by show 2<=sizeLine;decide,fun t ht=>q t _ ((s'.trans u6).trans (Same.new ht)) A7⟩
theorem i8:FnScope ["_law_cell", "_law_k", "_law_m"] ["_law_cell", "_law_k"] (B3 s_law_mix):=fsc
def Sd:Sp:=fun vs H Q _=>∃(cell k:Int),vs = [.int cell,.int k]/\0<=k/\k<=2000000/\∀m:Int,0<=m->m<1999999973->Q (.int m) H
theorem Gh(T:Tx K mg):FnOk P w K mg base CX0 1 T.aK.f T.aK.fd ["_law_cell", "_law_k"] Sd:=by
 have sc:=i8;refine T.aK.F.ok i8 (fun vs H Q E h=>?_) (fun cdv A outer s H vs Q E hr h=>?_)
 .obtain⟨c,k,rfl,_⟩:=h;rfl
 .obtain⟨cell,k,rfl,k0,k1,q⟩:=h;refine⟨_,(B0 (C3 (i:=2) sc.nd rfl (.inl rfl) (D6 By (D6 b7 (D6 M9 (D6 M9 (D6 By (pv 0) A9) (D6 b7 (D6 b7 (pv 1) (pv 1)) A9)) A9) A9) A9))
   (B2 (B9 (D6 By (D6 b7 (pv 2) (pv 2)) A9)))),?_⟩
  refine ex1 rfl (B7 rfl rfl ⟨(show(0:Int)<2147483629 by decide),ex1 rfl (ex1 rfl (B7 rfl rfl ⟨.inl ⟨by omega,by omega⟩,B7 rfl rfl ⟨.inr ⟨by decide,by decide⟩,B7 rfl rfl (B7 rfl rfl (B7 rfl rfl ⟨.inr ⟨by decide,by decide⟩,B7 rfl rfl ⟨(show(0:Int)<2147483647 by decide),?_⟩⟩))⟩⟩))⟩);generalize hm:(cell % 2147483629+k*k*7919+11)*48271 % 2147483647=m;have h1:0<=m:=by rw[<-hm];exact Int.emod_nonneg _ (by decide)
  have h2:m<2147483647:=by rw[<-hm];exact FD _ (by decide)
  exact⟨_,rfl,_,rfl,_,_,rfl,rfl,.inl ⟨by omega,by omega⟩,_,_,rfl,rfl,(show(0:Int)<1999999973 by decide),q _ (Int.emod_nonneg _ (by decide)) (FD _ (by decide))⟩
def LeftAt(H:Hp)(p:Addr)(c:Int):Prop:=∃a b:Int,H p=some (.lst [.int a,.int b,.int c])/\0<=c
theorem LeftAt.isS{H:Hp}{p:Addr}{c:Int}(h:LeftAt H p c):(H p).isSome=true:=by
 obtain⟨_,_,e,_⟩:=h;rw[e];rfl
theorem LeftAt.get{H:Hp}{p:Addr}{c:Int}(h:LeftAt H p c):H p=some ((H p).get h.isS):=(Option.some_get _).symm
theorem LeftAt.cast{H:Hp}{p:Addr}{c c':Int}(h:LeftAt H p c)(e:c=c'):LeftAt H p c':=e▸h
theorem LeftAt.upd{H:Hp}{p a:Addr}{c:Int}{o:HO}(h:LeftAt H p c)(n:p≠a):LeftAt (L2.upd H a o) p c:=by
 obtain⟨x,y,e,z⟩:=h;exact⟨x,y,by rw[B4 n];exact e,z⟩
theorem LeftAt.same{H H':Hp}{p:Addr}{c:Int}(h:LeftAt H p c)(s:Same H H'):LeftAt H' p c:=by
 obtain⟨x,y,e,z⟩:=h;exact⟨x,y,s _ _ e,z⟩
theorem Um(c:Bool):-(2^64) <(if c=true then(1:Int)else 0)/\(if c=true then(1:Int)else 0)<2^64:=by cases c<;>exact⟨by decide,by decide⟩
theorem d8:FnScope ["_law_script", "_law_k", "_law_cell"] ["_law_script", "_law_k"] (B3 s_law_left):=fsc
def Os(K:PySem.W.Frag):Sp:=fun vs H Q _=>∃(p:Addr) (xs:List Int) (k:Nat),vs = [.ref p,.int (k:Int)]/\SqL K H p (xs.map V.int)/\k<=1000/\∀l H',H l=none->Same H H'->LeftAt H' l 0->Q (.ref l) H'
theorem Dr(T:Tx K mg):FnOk P w K mg base CX0 1 T.aN.f T.aN.fd ["_law_script", "_law_k"] (Os K):=by
 have sc:=d8;refine T.aN.F.ok d8 (fun vs H Q E h=>?_) (fun cdv A outer s H vs Q E hr h=>?_)
 .obtain⟨p,xs,k,rfl,_⟩:=h;rfl
 .obtain⟨p,xs,k,rfl,hS,hk,q⟩:=h;refine⟨_,(B0 (C3 (i:=2) sc.nd rfl (.inl rfl) (Fe (C4 Tf (pv 1) (D0 (J5 K) T.aj G8 (A6 (pv 0) A8)) (C7 _)) (C1 (ixL K) (pv 0) (pv 1) (fun _ _=>rfl)) A9))
   (B2 (B9 (D9 (A6 (D6 b7 (D0 Ei T.bv Mi (A6 (pv 2) A8)) (t6 Bo T.aZ Ej (A6 (D5 Pj (D0 Ei T.bv Mi (A6 (pv 2) A8)) (D6 Qm A9 A9) (C7 _)) A8))) (A6 (D6 M9 (pv 2) (D6 b7 A9 (pv 1))) (A6 A9 A8))))))),?_⟩
  refine ex1 rfl (ex1 rfl (B7 (a:=p) rfl (.inl hS) (B7 rfl rfl (ex1 rfl ?_))));have at1:decide ((k:Int) <((xs.map V.int).length:Int))=true->∃c:Int,atI (xs.map V.int) (k:Int)=some (.int c):=fun c1=>by
   have c1:(k:Int) <((xs.map V.int).length:Int):=BS c1;rw[AB]at c1;have hk':xs[k]?=some (xs[k]'(by omega)):=AJ (by omega);exact⟨_,B6 (by rw[AH,hk'];rfl)⟩
  refine l9 (fun c1=>?_) (fun c1=>?_)
  .obtain⟨c,hc⟩:=at1 c1;refine ex1 rfl (ex1 rfl ⟨p,_,B7 rfl rfl ⟨hS,hc,?_⟩⟩)
   (repeat first | refine⟨_,rfl,?_⟩ | refine⟨_,_,rfl,rfl,?_⟩)
   refine⟨⟨by decide,by decide,by decide⟩,?_⟩
   (repeat first | refine⟨_,rfl,?_⟩ | refine⟨_,_,rfl,rfl,?_⟩)
   refine .inr ⟨_,rfl,?_⟩
   (repeat first | refine⟨_,rfl,?_⟩ | refine⟨_,_,rfl,rfl,?_⟩)
   refine⟨.inr ?_,?_⟩
   .exact Um _
   (repeat first | refine⟨_,rfl,?_⟩ | refine⟨_,_,rfl,rfl,?_⟩)
   refine⟨.inl ⟨by decide,by decide⟩,?_⟩
   (repeat first | refine⟨_,rfl,?_⟩ | refine⟨_,_,rfl,rfl,?_⟩)
   exact⟨by show 3<=sizeLine;decide,fun l hl=>q l _ hl (Same.new hl) ⟨_,_,A7,by decide⟩⟩
  .skip;(repeat first | refine⟨_,rfl,?_⟩ | refine⟨_,_,rfl,rfl,?_⟩)
   refine⟨⟨by decide,by decide,by decide⟩,?_⟩
   (repeat first | refine⟨_,rfl,?_⟩ | refine⟨_,_,rfl,rfl,?_⟩)
   refine .inr ⟨_,rfl,?_⟩
   (repeat first | refine⟨_,rfl,?_⟩ | refine⟨_,_,rfl,rfl,?_⟩)
   refine⟨.inr ?_,?_⟩
   .exact Um _
   (repeat first | refine⟨_,rfl,?_⟩ | refine⟨_,_,rfl,rfl,?_⟩)
   refine⟨.inl ⟨by decide,by decide⟩,?_⟩
   (repeat first | refine⟨_,rfl,?_⟩ | refine⟨_,_,rfl,rfl,?_⟩)
   exact⟨by show 3<=sizeLine;decide,fun l hl=>q l _ hl (Same.new hl) ⟨_,_,A7,by decide⟩⟩
theorem Y1:FnScope ["_law_left_here", "_law_many", "_law_digit"] ["_law_left_here", "_law_many"] (B3 s_law_pick):=fsc
def Pp:Sp:=fun vs H Q _=>∃(p:Addr) (c many:Int),vs = [.ref p,.int many]/\LeftAt H p c/\c<=1000000/\0<many/\many<=1000000 /\
 ∀(d:Nat) H',(d:Int)<many->Sm [p] H H'->LeftAt H' p (c+1)->Q (.int (d:Int)) H'
theorem G0(T:Tx K mg):FnOk P w K mg base CX0 2 T.ac.f T.ac.fd ["_law_left_here", "_law_many"] Pp:=by
 have G_law_mix:=Gh (P:=P) (w:=w) (base:=base) T;have sc:=Y1;refine T.ac.F.ok Y1 (fun vs H Q E h=>?_) (fun cdv A outer s H vs Q E hr h=>?_)
 .obtain⟨p,c,m,rfl,_⟩:=h;rfl
 .obtain⟨p,c,many,rfl,⟨a,b,e,c0⟩,c1,m0,m1,q⟩:=h;refine⟨_,(B0 (Fc (D6 M9 (C1 (ixL K) (pv 0) A9 (fun _ _=>rfl)) A9) (Ji (pv 0) A9 y8))
   (B0 (E7 (C4 Nh (C1 (ixL K) (pv 0) A9 (fun _ _=>rfl)) A9 (C7 _)) (B0 (C3 (i:=2) sc.nd rfl (.inl rfl) (D6 By (C1 (ixL K) (pv 0) A9 (fun _ _=>rfl)) (pv 1)))
   (B0 (Fc (D6 Hy (C1 (ixL K) (pv 0) A9 (fun _ _=>rfl)) (pv 1)) (Ji (pv 0) A9 y8))
   (B2 (B9 (pv 2))))) C5)
   (B2 (B9 (D6 By (D6 Hy (C0 T.aK G_law_mix (Rm hr) (A6 (C0 T.aK G_law_mix (Rm hr) (A6 (C1 (ixL K) (pv 0) A9 (fun _ _=>rfl)) (A6 (C1 (ixL K) (pv 0) A9 (fun _ _=>rfl)) A8))) (A6 (D6 M9 (C1 (ixL K) (pv 0) A9 (fun _ _=>rfl)) A9) A8))) A9) (pv 1)))))),?_⟩
  have nn:∀d:Int,0<=d->d<many->∀a' b',Q (.int d) (upd (upd H p (.lst [.int a,.int b,.int (c+1)])) p (.lst [.int a',.int b',.int (c+1)]))/\Q (.int d) (upd H p (.lst [.int a',.int b',.int (c+1)])):=fun d h0 h1 a' b'=>by
   obtain⟨n,rfl⟩:=Int.eq_ofNat_of_zero_le h0;exact⟨q n _ h1 (((Sm.refl _ _).upd (by simp)).upd (by simp)) ⟨a',b',A7,by omega⟩,q n _ h1 ((Sm.refl _ _).upd (by simp)) ⟨a',b',A7,by omega⟩⟩
  refine ex1 rfl ⟨p,_,B7 rfl rfl ⟨SqL.of e,rfl,B7 rfl rfl (ex1 rfl ⟨p,_,_,2,rfl,rfl,e,rfl,?_⟩)⟩⟩;refine ex1 rfl ⟨p,_,B7 rfl rfl ⟨SqL.of A7,rfl,B7 rfl rfl (ex1 rfl ?_)⟩⟩;refine l9 (fun h1=>?_) (fun h1=>?_)
  .have h1:(0:Int)<a:=BS h1;refine ex1 rfl ⟨p,_,B7 rfl rfl ⟨SqL.of A7,rfl,ex1 rfl (B7 rfl rfl ⟨m0,?_⟩)⟩⟩;refine ex1 rfl ⟨p,_,B7 rfl rfl ⟨SqL.of A7,rfl,ex1 rfl (B7 rfl rfl ⟨⟨m0,by omega⟩,ex1 rfl ⟨p,_,_,0,rfl,rfl,A7,rfl,?_⟩⟩)⟩⟩;exact⟨_,rfl,(nn _ (Int.emod_nonneg _ (by omega)) (FD _ m0) _ _).1⟩
  .refine ex1 rfl ⟨p,_,B7 rfl rfl ⟨SqL.of A7,rfl,ex1 rfl ⟨p,_,B7 rfl rfl ⟨SqL.of A7,rfl,_,ex1 rfl ⟨by omega,by omega,fun m2 h2 h3=>?_⟩⟩⟩⟩⟩;refine ex1 rfl ⟨p,_,B7 rfl rfl ⟨SqL.of A7,rfl,B7 rfl rfl ⟨_,ex1 rfl ⟨by omega,by omega,fun m3 h4 h5=>?_⟩⟩⟩⟩;refine B7 rfl rfl ⟨⟨by decide,by decide⟩,ex1 rfl (B7 rfl rfl ⟨m0,?_⟩)⟩;exact(nn _ (Int.emod_nonneg _ (by omega)) (FD _ m0) _ _).2
end
theorem six{d n:Nat}(h:d<n):seqIndex? (d:Int) n=some d:=by
 unfold seqIndex?;simp;omega
theorem erase_perm{α:Type}{l:List α}{i:Nat}{x:α}(h:l[i]?=some x):(x::l.eraseIdx i).Perm l:=ST.erase_perm h
theorem Aw{α β:Type}(f:α->β):∀(l:List α) (i:Nat),(l.map f).eraseIdx i =(l.eraseIdx i).map f
 | [],_=>rfl
 | _::_,0=>rfl
 | a::l,i+1=>by
  show f a ::(l.map f).eraseIdx i=f a ::(l.eraseIdx i).map f;rw[Aw f l i]
theorem names_of{all rest got:List Str}(pm:(rest++got).Perm all)(h1:∀x∈all,E5 x=true)(h2:all.Nodup)(h3:all.length<=100):Co got:=by
 refine⟨fun x hx=>h1 x (pm.mem_iff.mp (BM _ hx)),?_,?_⟩
 .exact(CZ.mp (pm.nodup_iff.mpr h2)).2.1
 .have:=pm.length_eq;rw[BF]at this;omega
theorem Li{all rest got:List Str}{d:Nat}{x:Str}(pm:(rest++got).Perm all)(h:rest[d]?=some x):(rest.eraseIdx d ++(got ++ [x])).Perm all:=by
 refine List.Perm.trans ?_ pm;rw[<-BE];refine BW.trans ?_;rw[<-BE];exact(erase_perm h).append_right got
theorem Sm1{p b:Addr}{H H':Hp}{o:HO}(h:Sm [p] H H')(e:H b=some o)(n:b≠p):H' b=some o:=h b o e fun z=>n (AE.mp z)
section
variable{P:Program}{w:World}{K:PySem.W.Frag}{mg:Str->Option Value}{base:Heap}
def all30:List Str:=["b", "aa", "zebra", "c", "quartzes", "ab", "m", "knows", "d", "mm", "likes", "z", "a", "ba", "abcdefgh", "y", "zz", "e", "x", "f", "g", "hh", "i", "jj", "k", "ll", "say", "strike", "fact", "back"]
abbrev txt20:Str := "b aa zebra c quartzes ab m knows d mm likes z a ba abcdefgh y zz e x f"
abbrev txt10:Str := "g hh i jj k ll say strike fact back"
abbrev txt8:Str := "b aa zebra cy quartzes eve m knows"
def all20:List Str:=["b", "aa", "zebra", "c", "quartzes", "ab", "m", "knows", "d", "mm", "likes", "z", "a", "ba", "abcdefgh", "y", "zz", "e", "x", "f"]
def all10:List Str:=["g", "hh", "i", "jj", "k", "ll", "say", "strike", "fact", "back"]
def all8:List Str:=["b", "aa", "zebra", "cy", "quartzes", "eve", "m", "knows"]
theorem On:Builtin.Str.partsBetween txt20 (Builtin.Str.occurrences txt20 " " 0 txt20.length (txt20.length+1)) (" ":Str).length=all20:=by decide +kernel
theorem Ow:Builtin.Str.partsBetween txt10 (Builtin.Str.occurrences txt10 " " 0 txt10.length (txt10.length+1)) (" ":Str).length=all10:=by decide +kernel
theorem Qg:Builtin.Str.partsBetween txt8 (Builtin.Str.occurrences txt8 " " 0 txt8.length (txt8.length+1)) (" ":Str).length=all8:=by decide +kernel
theorem all30_ok:(∀x∈all30,E5 x=true)/\all30.Nodup:=⟨by decide +kernel,by decide +kernel⟩
theorem Oh:Co all8:=⟨by decide +kernel,by decide +kernel,by decide⟩
theorem Oe:all20++all10=all30:=rfl
theorem Vc(Q:VK)(H:Hp)(h:∀l,H l=none->Q (.ref l) (upd H l (.lst (all20.map V.str)))):Eg (.str txt20) [.str " "] H Q:=⟨txt20, " ",all20,rfl,rfl,by decide +kernel,by decide +kernel,by decide +kernel,by decide +kernel,On,by decide +kernel,h⟩
theorem Vb(Q:VK)(H:Hp)(h:∀l,H l=none->Q (.ref l) (upd H l (.lst (all10.map V.str)))):Eg (.str txt10) [.str " "] H Q:=⟨txt10, " ",all10,rfl,rfl,by decide +kernel,by decide +kernel,by decide +kernel,by decide +kernel,Ow,by decide +kernel,h⟩
theorem sp8(Q:VK)(H:Hp)(h:∀l,H l=none->Q (.ref l) (upd H l (.lst (all8.map V.str)))):Eg (.str txt8) [.str " "] H Q:=⟨txt8, " ",all8,rfl,rfl,by decide +kernel,by decide +kernel,by decide +kernel,by decide +kernel,Qg,by decide +kernel,h⟩
theorem J8:FnScope ["_law_left_here", "_law_many", "_law_some", "_law_names", "_law_k"] ["_law_left_here", "_law_many"] (B3 s_law_many_names):=fsc
def t9:Sp:=fun vs H Q _=>∃(p:Addr) (c:Int) (many:Nat),vs = [.ref p,.int (many:Int)]/\LeftAt H p c/\c<=900000/\many<=30 /\
 ∀l (ss:List Str) H',H l=none->Sm [p] H H'->H' l=some (.lst (ss.map V.str))->ss.length=many->Co ss->LeftAt H' p (c+many)->Q (.ref l) H'
set_option maxHeartbeats 2000000 in
theorem U5(T:Tx K mg):FnOk P w K mg base CX0 3 T.ap.f T.ap.fd ["_law_left_here", "_law_many"] t9:=by
 have G_law_pick:=G0 (P:=P) (w:=w) (base:=base) T;have sc:=J8;refine T.ap.F.ok J8 (fun vs H Q E h=>?_) (fun cdv A outer s H vs Q E hr h=>?_)
 .obtain⟨p,c,m,rfl,_⟩:=h;rfl
 .obtain⟨p,c,many,rfl,hL,c1,m1,q⟩:=h;obtain⟨a0,b0,e0,c0⟩:=id hL;refine⟨_,(B0 (C3 (i:=2) sc.nd rfl (.inl rfl) (Me K PySem.F.plainAttrs_str PySem.F.slot_str_split PySem.F.type_str_split Ac D4 (A6 D4 A8)))
   (B0 (C3 (i:=2) sc.nd rfl (.inl rfl) (D6 Y4 (pv 2) (Me K PySem.F.plainAttrs_str PySem.F.slot_str_split PySem.F.type_str_split Ac D4 (A6 D4 A8))))
   (B0 (C3 (i:=3) sc.nd rfl (.inl rfl) (D9 A8))
   (B0 (P4 PassesOwn.never rfl (Pu T.aD (A6 (pv 1) A8)) (D7 (i:=4) sc.nd rfl (.inl rfl))
   (B2 (K4 (Me K PySem.F.plainAttrs_list PySem.F.slot_list_append PySem.F.type_list_append M8 (pv 3) (A6 (Me K PySem.F.plainAttrs_list PySem.F.slot_list_pop PySem.F.type_list_pop Ki (pv 2) (A6 (C0 T.ac G_law_pick (Rm hr) (A6 (pv 0) (A6 (D0 (J5 K) T.aj G8 (A6 (pv 2) A8)) A8))) A8)) A8)))))
   (B2 (B9 (pv 3))))))),?_⟩
  refine B5 fun N1 hN1=>?_;refine⟨rfl,?_⟩;dsimp only[Kw,tC,Tc];refine Vc _ _ fun a1 ha1=>?_;have u1:=Same.new (o:=.lst (all20.map V.str)) ha1;have e1:(upd H a1 (.lst (all20.map V.str))) a1=some (.lst (all20.map V.str)):=A7;generalize upd H a1 (.lst (all20.map V.str))=H1 at u1 e1⊢;refine hN1 _ _ (B5 fun N2 hN2=>?_);refine ex1 rfl ⟨rfl,?_⟩;dsimp only[Kw,tC,Tc];refine Vb _ _ fun a2 ha2=>?_;have u2:=Same.new (o:=.lst (all10.map V.str)) ha2;refine⟨a1,a2,_,_,rfl,rfl,u2 _ _ e1,A7,by rw[AB,AB];show 30<=sizeLine;decide,fun a ha=>?_⟩;have u3:=(u1.trans u2).trans (Same.new (o:=.lst (all20.map V.str++all10.map V.str)) ha);have ea:(upd (upd H1 a2 (.lst (all10.map V.str))) a (.lst (all20.map V.str++all10.map V.str))) a=some (.lst (all30.map V.str)):=by rw[A7,<-Oe,A_]
  have ha0:H a=none:=(u1.trans u2).free ha;generalize upd (upd H1 a2 (.lst (all10.map V.str))) a (.lst (all20.map V.str++all10.map V.str))=H2 at u3 ea⊢;clear u1 u2 e1 ha ha1 ha2;have ha:=ha0;have a1:=all30_ok.1;have a2:=all30_ok.2;have al:all30.length=30:=rfl;generalize all30=all at ea a1 a2 al;refine hN2 _ _ ?_;refine⟨CW _,fun b hb=>?_⟩;have hb':H b=none:=u3.free hb;have nab:a≠b:=B1 ea hb;have npa:p≠a:=B1 e0 ha;have npb:p≠b:=B1 e0 hb';refine ex1 rfl (ex1 rfl ⟨by omega,by omega,?_⟩);rw[EJ];refine P0 (fun i σ H1=>(∃v4,σ = [some (.ref p),some (.int (many:Int)),some (.ref a),some (.ref b),v4])/\Sm [p] H H1/\LeftAt H1 p (c+i)/\∃rest got:List Str,H1 a=some (.lst (rest.map V.str))/\H1 b=some (.lst (got.map V.str))/\(rest++got).Perm all/\got.length=i) ?_ ?_ ?_
  .refine⟨⟨_,rfl⟩,(u3.trans (Same.new hb)).sm,((hL.cast (by omega)).same u3).upd npb,all,[],by rw[B4 nab];exact ea,by rw[A7];rfl,by rw[CA],rfl⟩
  .rintro i σ H1 hi ⟨⟨v4,rfl⟩,k1,L1,rest,got,ea,eb,pm,hg⟩ D1 hD1 _;have hlen:rest.length=30-i:=by
    have:=pm.length_eq;rw[BF,hg,al]at this;omega
   refine ex1 rfl ⟨.inl ⟨rfl,_,SqL.of eb⟩,ex1 rfl ⟨.inl ⟨rfl,_,SqL.of ea⟩,ex1 rfl (ex1 rfl (B7 (a:=a) rfl (.inl (SqL.of ea)) (K8 (a:=p) (b:=c+i) rfl L1 (by omega) ?_ ?_ fun d H2 hd k2 L2=>?_)))⟩⟩
   .rw[AB];omega
   .rw[AB];omega
   rw[AB]at hd;have hd':d<rest.length:=by omega
   have hx:rest[d]?=some rest[d]:=AJ hd';have ea2:=Sm1 k2 ea npa.symm;have eb2:=Sm1 k2 eb npb.symm;refine⟨a,_,_,d,.str rest[d],rfl,rfl,ea2,by omega,by omega,six (by rw[AB];exact hd'),by rw[AH,hx];rfl,b,B7 rfl rfl ⟨by rw[B4 nab.symm];exact eb2,?_,?_⟩⟩
   .rw[AB,sizeLine_eq];omega
   refine hD1 _ _ ⟨⟨_,rfl⟩,?_,?_,rest.eraseIdx d,got ++ [rest[d]],?_,?_,Li pm hx,by rw[BF,hg];rfl⟩
   .exact((k1.trans k2).updN ha).updN hb'
   .exact((L2.cast (by omega)).upd npa).upd npb
   .rw[B4 nab,A7,Aw]
   .rw[A7,A_];rfl
  .rintro σ H1 ⟨⟨v4,rfl⟩,k1,L1,rest,got,ea,eb,pm,hg⟩;exact⟨_,rfl,q b got H1 hb' k1 eb hg (names_of pm a1 a2 (by omega)) L1⟩
end
theorem Ox{d:Nat}(h:d<12):∃r:Int,atI [V.int 0,.int 1,.int 1,.int 2,.int 5,.int 9,.int 3,.int 4,.int 6,.int 7,.int 8,.int 1] (d:Int)=some (.int r)/\0<=r/\r<=9:=by
 match d,h with
 | 0,_=>exact⟨0,rfl,by decide,by decide⟩
 | 1,_=>exact⟨1,rfl,by decide,by decide⟩
 | 2,_=>exact⟨1,rfl,by decide,by decide⟩
 | 3,_=>exact⟨2,rfl,by decide,by decide⟩
 | 4,_=>exact⟨5,rfl,by decide,by decide⟩
 | 5,_=>exact⟨9,rfl,by decide,by decide⟩
 | 6,_=>exact⟨3,rfl,by decide,by decide⟩
 | 7,_=>exact⟨4,rfl,by decide,by decide⟩
 | 8,_=>exact⟨6,rfl,by decide,by decide⟩
 | 9,_=>exact⟨7,rfl,by decide,by decide⟩
 | 10,_=>exact⟨8,rfl,by decide,by decide⟩
 | 11,_=>exact⟨1,rfl,by decide,by decide⟩
theorem LeftAt.neL{H:Hp}{p a:Addr}{c:Int}{xs:List V}(h:LeftAt H p c)(e:H a=some (.lst xs))(n:∀x y,xs≠[.int x,.int y,.int c]):a≠p:=fun z=>by
 obtain⟨x,y,e',_⟩:=h;rw[z,e']at e;cases e;exact n x y rfl
theorem LeftAt.neT{H:Hp}{p a:Addr}{c:Int}{xs:List V}(h:LeftAt H p c)(e:H a=some (.tup xs)):a≠p:=fun z=>by
 obtain⟨x,y,e',_⟩:=h;rw[z,e']at e;cases e
theorem LeftAt.neR{H:Hp}{p a:Addr}{c:Int}{as:List Addr}(h:LeftAt H p c)(e:H a=some (.lst (as.map V.ref))):a≠p:=h.neL e fun x y z=>by
 cases as with
 | nil=>cases z
 | cons b r=>cases z
theorem LeftAt.ne{H:Hp}{p a:Addr}{c:Int}{ss:List Str}(h:LeftAt H p c)(e:H a=some (.lst (ss.map V.str))):a≠p:=h.neL e fun x y z=>by
 cases ss with
 | nil=>cases z
 | cons b r=>cases z
theorem RowsAt.sm{H H':Hp}{l p:Addr}{c:Int}{rs:List RW}(h:RowsAt H l rs)(L:LeftAt H p c)(k:Sm [p] H H'):RowsAt H' l rs:=by
 have e:(rs.map fun q=>V.ref q.1) =(rs.map fun q=>q.1).map V.ref:=by rw[AS];rfl
 refine⟨Sm1 k h.at_ (L.neR (by rw[<-e];exact h.at_)),fun q hq=>Sm1 k (h.row q hq) (L.neT (h.row q hq))⟩
theorem RowsAt.snoc{H:Hp}{l t:Addr}{rs:List RW}{n:Str}{xs:List V}(h:RowsAt H l rs)(ht:H t=some (.tup (.str n::xs))):RowsAt (upd H l (.lst ((rs.map fun q=>V.ref q.1) ++ [.ref t]))) l (rs ++ [(t,n,xs)]):=by
 refine⟨by rw[A7,A_];rfl,fun q hq=>?_⟩;rcases AV.mp hq with z | z
 .exact(B4 (X3 (h.row q z) h.at_ (by intro y;cases y))).trans (h.row q z)
 .rw[AE.mp z];exact(B4 (X3 ht h.at_ (by intro y;cases y))).trans ht
section
variable{P:Program}{w:World}{K:PySem.W.Frag}{mg:Str->Option Value}{base:Heap}
theorem Q7:FnScope ["_law_left_here", "_law_many", "_law_some"] ["_law_left_here", "_law_many"] (B3 s_law_people):=fsc
def Jl:Sp:=fun vs H Q _=>∃(p:Addr) (c:Int) (many:Nat),vs = [.ref p,.int (many:Int)]/\LeftAt H p c/\c<=800000/\many<=8 /\
 ∀l (pe:List PEr) c' H',H l=none->Sm [p] H H'->RowsAt H' l (pe.map rP)->pe.length=many->(nP pe).Nodup->(∀q∈pe,E5 q.2.1=true/\0<=q.2.2/\q.2.2<=9)->c'<=c+500->LeftAt H' p c'->Q (.ref l) H'
set_option maxHeartbeats 2000000 in
theorem w8(T:Tx K mg):FnOk P w K mg base CX0 5 T.aF.f T.aF.fd ["_law_left_here", "_law_many"] Jl:=by
 have G_law_pick:=G0 (P:=P) (w:=w) (base:=base) T;have sc:=Q7;refine T.aF.F.ok Q7 (fun vs H Q E h=>?_) (fun cdv A outer s H vs Q E hr h=>?_)
 .obtain⟨p,c,m,rfl,_⟩:=h;rfl
 .obtain⟨p,c,many,rfl,hL,c1,m1,q⟩:=h;refine⟨_,(B0 (C3 (i:=2) sc.nd rfl (.inr rfl) (Me K PySem.F.plainAttrs_str PySem.F.slot_str_split PySem.F.type_str_split Ac D4 (A6 D4 A8)))
   (@B2 _ _ _ (@B9 _ _ _ _ (Q9 (N':=["_law_k", "_law_some", "_law_left_here"]) (cap:=[none,some 2,some 0]) (cl:=[("_law_some",_),("_law_left_here",_)]) (O2 ⟨⟨rfl,rfl,rfl,rfl⟩,⟨⟨rfl,rfl,rfl,rfl⟩,trivial⟩⟩ ⟨rfl,⟨rfl,trivial⟩⟩) rfl (Pu T.aD (A6 (pv 1) A8)) (fun _ _ _ _=>by exact⟨(pgC 0),E8,(@J9 _ _ _ _ _ (@A6 _ _ _ _ _ (C1 (ixL K) (pv 1) (pv 0) (fun _ _=>rfl)) (@A6 _ _ _ _ _ (@C1 _ _ _ _ _ _ _ (ixL K) (@D9 _ _ _ _ (@A6 _ _ _ _ _ A9 (@A6 _ _ _ _ _ A9 (@A6 _ _ _ _ _ A9 (@A6 _ _ _ _ _ A9 (@A6 _ _ _ _ _ A9 (@A6 _ _ _ _ _ A9 (@A6 _ _ _ _ _ A9 (@A6 _ _ _ _ _ A9 (@A6 _ _ _ _ _ A9 (@A6 _ _ _ _ _ A9 (@A6 _ _ _ _ _ A9 (@A6 _ _ _ _ _ A9 A8 (by rfl)) (by rfl)) (by rfl)) (by rfl)) (by rfl)) (by rfl)) (by rfl)) (by rfl)) (by rfl)) (by rfl)) (by rfl)) (by rfl))) (C0 T.ac G_law_pick (Rm hr) (A6 (pv 2) (A6 A9 A8))) (fun _ _=>rfl)) A8 (by rfl)) (by rfl)))⟩))))),?_⟩
  refine B5 fun N1 hN1=>?_;refine⟨rfl,?_⟩;dsimp only[Kw,tC,Tc];refine sp8 _ _ fun l hl=>?_;have ua:=Same.new (o:=.lst (all8.map V.str)) hl;have k1:Sm [p] H (upd H l (.lst (all8.map V.str))):=ua.sm;have e1:(upd H l (.lst (all8.map V.str))) l=some (.lst (all8.map V.str)):=A7;have L1:=hL.same ua;have N1':=Oh;have len1:all8.length=8:=rfl;have hc1:c<=c+400:=by omega
  generalize upd H l (.lst (all8.map V.str))=H1 at k1 e1 L1 ua⊢;generalize all8=ts at N1' len1 e1 hl⊢;obtain⟨c2,ec2⟩:∃c2,c2=c:=⟨_,rfl⟩;rw[<-ec2]at L1;refine hN1 _ _ ?_;refine ex1 rfl (ex1 rfl ⟨by omega,by omega,fun D hD=>?_⟩);rw[EJ];have l8:ts.length=8:=len1;have npD:p≠D:=B1 L1.get hD;have nlD:l≠D:=B1 e1 hD;have hD0:H D=none:=by
   cases z:H D with
   | none=>rfl
   | some o =>
    have:=k1 D o z (by simpa using npD.symm);rw[hD]at this;cases this
  refine Bu (n:=many) (fun i σ H2=>(∃v,σ = [v,some (.ref l),some (.ref p)])/\Sm [p] H H2/\H2 l=some (.lst (ts.map V.str))/\(∃c',c'<=c2+i/\LeftAt H2 p c')/\∃pe:List PEr,RowsAt H2 D (pe.map rP)/\nP pe=ts.take i/\∀q∈pe,0<=q.2.2/\q.2.2<=9) ?_ (fun i _ _ hi _=>hi) (fun _ _ _=>Nat.le_refl _) ?_ ?_
  .exact⟨⟨_,rfl⟩,k1.updN hD0,by rw[B4 nlD];exact e1,⟨_,by omega,L1.upd npD⟩,[],⟨A7,fun q h=>absurd h AX⟩,rfl,fun q h=>absurd h AX⟩
  .rintro i σ H2 v H' N hi ⟨⟨v0,rfl⟩,k2,e2,⟨c3,hc3,L3⟩,pe,R2,n2,r2⟩ ⟨rfl,rfl⟩ hN;have li:i<ts.length:=by omega
   have hi':ts[i]?=some ts[i]:=AJ li;have lpe:pe.length=i:=by
    have:=congrArg List.length n2;unfold nP at this;rw[AB,AG]at this;omega
   refine Cd ?_;rw[Int.zero_add];refine ex1 rfl (ex1 rfl ⟨l,_,B7 rfl rfl ⟨SqL.of e2,B6 (by rw[AH,hi'];rfl),?_⟩⟩);refine⟨by show 12<=sizeLine;decide,fun t ht=>?_⟩;have ut:=Same.new (o:=.lst [V.int 0,.int 1,.int 1,.int 2,.int 5,.int 9,.int 3,.int 4,.int 6,.int 7,.int 8,.int 1]) ht;refine ex1 rfl (K8 (a:=p) rfl (L3.same ut) (by omega) (by decide) (by decide) fun d H3 hd k3 L4=>?_);obtain⟨r,hr1,hr0,hr9⟩:=Ox (d:=d) (by omega);have e3:H3 t=some (.lst [V.int 0,.int 1,.int 1,.int 2,.int 5,.int 9,.int 3,.int 4,.int 6,.int 7,.int 8,.int 1]):=Sm1 k3 A7 (B1 L3.get ht).symm;refine⟨t,_,B7 rfl rfl ⟨SqL.of e3,hr1,by show 2<=sizeLine;decide,fun t2 ht2=>?_⟩⟩;have R3:=(R2.same ut).sm (L3.same ut) k3;have u2:=Same.new (o:=.tup [.str ts[i],.int r]) ht2;have R4:=R3.same u2;have e4:=Sm1 (k3.trans u2.sm) (ut _ _ e2) ((L3.same ut).ne (ut _ _ e2));have L5:=L4.same u2;have k4:Sm [p] H (upd H3 t2 (.tup [.str ts[i],.int r])):=(k2.trans ut.sm).trans (k3.trans u2.sm);have et:(upd H3 t2 (.tup [.str ts[i],.int r])) t2=some (.tup [.str ts[i],.int r]):=A7;generalize upd H3 t2 (.tup [.str ts[i],.int r])=H4 at R4 e4 L5 k4 et⊢;refine⟨_,R4.at_,by rw[AB,AB,sizeLine_eq];omega,hN _ _ ⟨⟨_,rfl⟩,k4.updN hD0,by rw[B4 nlD];exact e4,⟨_,by omega,L5.upd npD⟩,pe ++ [(t2,ts[i],r)],?_,?_,fun z hz=>?_⟩⟩
   .rw[A_];exact R4.snoc et
   .unfold nP at n2⊢;rw[A_,n2,D8 hi'];rfl
   .rcases AV.mp hz with y | y
    .exact r2 z y
    .rw[AE.mp y];exact⟨hr0,hr9⟩
  .rintro σ H2 ⟨⟨v0,rfl⟩,k2,e2,⟨c3,hc3,L3⟩,pe,R2,n2,r2⟩;have lpe:pe.length=many:=by
    have:=congrArg List.length n2;unfold nP at this;rw[AB,AG]at this;omega
   refine q D pe c3 H2 hD0 k2 R2 lpe (by rw[n2];exact N1'.2.1.sublist (CN _ _)) (fun z hz=>⟨N1'.1 _ (BH (i:=many) (by rw[<-n2];exact BA.mpr ⟨z,hz,rfl⟩)),r2 z hz⟩) (by omega) L3
end
theorem Nq{d:Nat}(h:d<4):∃r:Nat,r<=8/\atI [V.int 0,.int 1,.int 2,.int 8] (d:Int)=some (.int (r:Int)):=by
 match d,h with
 | 0,_=>exact⟨0,by decide,rfl⟩
 | 1,_=>exact⟨1,by decide,rfl⟩
 | 2,_=>exact⟨2,by decide,rfl⟩
 | 3,_=>exact⟨8,by decide,rfl⟩
theorem Ez(xs:List V)(i:Nat)(h:i<=xs.length):S5 xs (some (i:Int)) none=xs.drop i:=by
 unfold S5;rw[HT.sIx_none,HT.sIx_nat,DB h];exact CK (by rw[BR];exact Nat.le_refl _)
theorem Ai(xs:List V)(i:Nat):S5 xs none (some (i:Int))=xs.take i:=by
 unfold S5;rw[HT.sIx_none,HT.sIx_nat,DH,Nat.sub_zero];by_cases h:i<=xs.length
 .rw[DB h]
 .rw[Nat.min_eq_right (by omega),CD,CK (by omega)]
section
variable{P:Program}{w:World}{K:PySem.W.Frag}{mg:Str->Option Value}{base:Heap}
theorem L6:FnScope ["_law_left_here", "_law_people_here", "_law_names", "_law_many", "_law_at"] ["_law_left_here", "_law_people_here"] (B3 s_law_speakers):=fsc
def Iw:Sp:=fun vs H Q _=>∃(p a:Addr) (c:Int) (pe:List PEr),vs = [.ref p,.ref a]/\LeftAt H p c/\c<=800000/\RowsAt H a (pe.map rP)/\pe.length<=8/\(nP pe).Nodup /\
 ∀l (ss:List Str) c' H',H l=none->Sm [p] H H'->H' l=some (.lst (ss.map V.str))->(∀x∈ss,x∈nP pe)->ss.Nodup->ss.length<=8->c'<=c+4->LeftAt H' p c'->Q (.ref l) H'
set_option maxHeartbeats 2000000 in
theorem Y5(T:Tx K mg):FnOk P w K mg base CX0 3 T.aA.f T.aA.fd ["_law_left_here", "_law_people_here"] Iw:=by
 have G_law_pick:=G0 (P:=P) (w:=w) (base:=base) T;have sc:=L6;refine T.aA.F.ok L6 (fun vs H Q E h=>?_) (fun cdv A outer s H vs Q E hr h=>?_)
 .obtain⟨p,a,c,pe,rfl,_⟩:=h;rfl
 .obtain⟨p,a,c,pe,rfl,hL,c1,hR,len,nd,q⟩:=h;refine⟨_,(B0 (Ae (i:=2) (N':=["_law_row"]) (cap:=[none]) (cl:=[]) sc.nd rfl (.inl rfl) (O2 trivial trivial) rfl (piL K (pv 1)) (fun _ _ _ _=>by exact⟨(pgC 0),E8,(C1 (ixT K) (pv 0) A9 (fun _ _=>rfl))⟩))
   (B0 (Se (i:=3) (j:=4) rfl sc.nd rfl rfl (by decide) rfl rfl (A6 (C1 (ixL K) (D9 (A6 A9 (A6 A9 (A6 A9 (A6 A9 A8))))) (C0 T.ac G_law_pick (Rm hr) (A6 (pv 0) (A6 A9 A8))) (fun _ _=>rfl)) (A6 (C0 T.ac G_law_pick (Rm hr) (A6 (pv 0) (A6 (D0 (Gu rfl) T.bc Kd (A6 A9 (A6 (D0 (J5 K) T.aj G8 (A6 (pv 2) A8)) A8))) A8))) A8)) rfl)
   (B0 (E7 (C4 Nh (pv 3) A9 (C7 _)) (B2 (C3 (i:=3) sc.nd rfl (.inl rfl) (D6 M9 A9 (C0 T.ac G_law_pick (Rm hr) (A6 (pv 0) (A6 A9 A8)))))) C5)
   (B0 (E7 (C4 Y8 (C0 T.ac G_law_pick (Rm hr) (A6 (pv 0) (A6 A9 A8))) A9 (C7 _)) (B2 (K4 (Ts K PySem.F.plainAttrs_list PySem.F.slot_list_reverse PySem.F.type_list_reverse Fi (pv 2)))) C5)
   (B2 (B9 (P2 (slL K) (D6 Y4 (P2 (slL K) (pv 2) (U4 (pv 4)) U0) (P2 (slL K) (pv 2) U0 (U4 (pv 4)))) U0 (U4 (pv 3))))))))),?_⟩
  refine B5 fun N1 hN1=>?_;refine ex1 rfl ⟨a,rfl,⟨_,SqL.of hR.at_⟩,fun D hD=>?_⟩;refine Gk (r:=fun q:RW=>V.ref q.1) (fun q=>V.str q.2.1) (asL (SqL.of hR.at_)) (fun _=>true) (by rw[AB];omega) hD (fun y my G sG M hM=>hM G fun b o e=>e) (fun y my G sG M hM=>?_) fun σ' H1 s1 e1=>?_
  .exact ex1 rfl ⟨y.1,_,B7 rfl rfl ⟨SqT.of (sG _ _ (hR.row y my)),B6 (j:=0) rfl,hM G fun b o e=>e⟩⟩
  have e1:H1 D=some (.lst ((nP pe).map V.str)):=by
   rw[e1,DI.mpr fun _ _=>rfl,AS];unfold nP;rw[AS];rfl
  have L1:=hL.same s1;have lnp:(nP pe).length=pe.length:=by unfold nP;rw[AB]
  refine hN1 _ _ (B5 fun N2 hN2=>?_);refine⟨by show 4<=sizeLine;decide,fun t ht=>?_⟩;have ut:=Same.new (o:=.lst [V.int 0,.int 1,.int 2,.int 8]) ht;refine ex1 rfl (K8 (a:=p) rfl (L1.same ut) (by omega) (by decide) (by decide) fun d H2 hd k2 L2=>?_);obtain⟨r,hr8,hr1⟩:=Nq (d:=d) (by omega);have et:H2 t=some (.lst [V.int 0,.int 1,.int 2,.int 8]):=Sm1 k2 A7 (B1 L1.get ht).symm;have e2:=Sm1 k2 (ut _ _ e1) ((L1.same ut).ne (ut _ _ e1));have k2:Sm [p] H H2:=(s1.trans ut).sm.trans k2;refine⟨t,_,B7 rfl rfl ⟨SqL.of et,hr1,?_⟩⟩;refine ex1 rfl (ex1 rfl ⟨D,_,rfl,.inl (SqL.of e2),_,_,rfl,?_⟩);obtain⟨m,em,hm1,hm2⟩:∃m:Nat,(if(((nP pe).map V.str).length:Int)>1 then(((nP pe).map V.str).length:Int)else 1) =(m:Int)/\1<=m/\m<=8:=by
   rw[AB,lnp];by_cases h:(pe.length:Int)>1
   .rw[BB h];exact⟨pe.length,rfl,by omega,by omega⟩
   .rw[AU h];exact⟨1,rfl,by decide,by decide⟩
  have em2:m<=pe.length\/m=1:=by
   rw[AB,lnp]at em;by_cases h:(pe.length:Int)>1
   .rw[BB h]at em;exact .inl (by omega)
   .rw[AU h]at em;exact .inr (by omega)
  rw[em];refine K8 (a:=p) rfl L2 (by omega) (by omega) (by omega) fun d2 H3 hd2 k3 L3=>⟨_,_,rfl,hN2 _ _ ?_⟩;have e3:=Sm1 k3 e2 (L2.ne e2);have k3:=k2.trans k3;have hd2':d2<=pe.length:=by
   rcases em2 with z | z
   .omega
   .omega
  refine B5 fun N3 hN3=>?_;have rest:∀(r:Nat) (c4:Int) (G:Hp),r<=8->c4<=c+3->Sm [p] H G->G D=some (.lst ((nP pe).map V.str))->LeftAt G p c4->N3 [some (.ref p),some (.ref a),some (.ref D),some (.int (r:Int)),some (.int (d2:Int))] G:=fun r c4 G hr hc kG eG LG=>by
   refine hN3 _ _ (B5 fun N4 hN4=>?_);have rest2:∀(nl:List Str) (c5:Int) (G:Hp),nl.Perm (nP pe)->c5<=c+4->Sm [p] H G->G D=some (.lst (nl.map V.str))->LeftAt G p c5->N4 [some (.ref p),some (.ref a),some (.ref D),some (.int (r:Int)),some (.int (d2:Int))] G:=fun nl c5 G pm hc5 kG eG LG=>by
    have lnl:nl.length=pe.length:=by rw[pm.length_eq,lnp]
    refine hN4 _ _ ?_;refine ex1 rfl (ex1 rfl ⟨_,rfl,D,_,rfl,SqL.of eG,fun l1 hl1=>?_⟩);have u1:=Same.new (o:=.lst (S5 (nl.map V.str) (some (d2:Int)) none)) hl1;refine ex1 rfl (ex1 rfl ⟨_,rfl,D,_,rfl,SqL.of (u1 _ _ eG),fun l2 hl2=>?_⟩);have u2:=Same.new (o:=.lst (S5 (nl.map V.str) none (some (d2:Int)))) hl2;have f1:(upd (upd G l1 (.lst (S5 (nl.map V.str) (some (d2:Int)) none))) l2 (.lst (S5 (nl.map V.str) none (some (d2:Int))))) l1=some (.lst ((nl.drop d2).map V.str)):=u2 _ _ (by rw[A7,Ez _ _ (by rw[AB];omega),List.map_drop]);have f2:(upd (upd G l1 (.lst (S5 (nl.map V.str) (some (d2:Int)) none))) l2 (.lst (S5 (nl.map V.str) none (some (d2:Int))))) l2=some (.lst ((nl.take d2).map V.str)):=by rw[A7,Ai,DF]
    have u12:=u1.trans u2;generalize upd (upd G l1 (.lst (S5 (nl.map V.str) (some (d2:Int)) none))) l2 (.lst (S5 (nl.map V.str) none (some (d2:Int))))=G2 at f1 f2 u12⊢;refine⟨l1,l2,_,_,rfl,rfl,f1,f2,by rw[AB,AB,BR,AG,sizeLine_eq];omega,fun l3 hl3=>?_⟩;have u3:=Same.new (o:=.lst ((nl.drop d2).map V.str ++(nl.take d2).map V.str)) hl3;refine ex1 rfl ⟨_,rfl,l3,_,rfl,SqL.of A7,fun l4 hl4=>?_⟩;have u4:=u12.trans (u3.trans (Same.new (o:=.lst (S5 ((nl.drop d2).map V.str ++(nl.take d2).map V.str) none (some (r:Int)))) hl4));have pm2:(nl.drop d2++nl.take d2).Perm nl:=by
     have:=BW (l₁:=nl.drop d2) (l₂:=nl.take d2)
     rwa [BK]at this
    refine q l4 ((nl.drop d2++nl.take d2).take r) c5 _ ?_ (kG.trans u4.sm) (by rw[A7,Ai,<-A_,DF]) (fun x hx=>pm.mem_iff.mp (pm2.mem_iff.mp (BH hx))) ((pm2.nodup_iff.mpr (pm.nodup_iff.mpr nd)).sublist (CN _ _)) (by rw[AG];omega) hc5 (LG.same u4);cases z:H l4 with
    | none=>rfl
    | some o =>
     have n4:l4≠p:=(B1 ((LG.same u12).same u3).get hl4).symm;have:=(u12.trans u3) _ _ (kG l4 o z (by simpa using n4));rw[hl4]at this;cases this
   refine ex1 rfl (K8 (a:=p) rfl LG (by omega) (by decide) (by decide) fun d4 G2 hd4 k4 L4=>⟨rfl,_,rfl,?_⟩);have e4:=Sm1 k4 eG (LG.ne eG);have k4:=kG.trans k4;refine l9 (fun _=>?_) (fun _=>rest2 _ _ _ (List.Perm.refl _) (by omega) k4 e4 L4);refine ex1 rfl ⟨.inl ⟨rfl,_,SqL.of e4⟩,D,_,rfl,rfl,e4,?_⟩;have npD:p≠D:=B1 hL.get hD;exact rest2 (nP pe).reverse _ _ (List.reverse_perm _) (by omega) (k4.updN hD) (by rw[A7,List.map_reverse]) (L4.upd npD)
  refine ex1 rfl (B7 rfl rfl (ex1 rfl (l9 (fun h=>?_) (fun h=>rest r _ _ hr8 (by omega) k3 e3 L3))));refine ex1 rfl (K8 (a:=p) rfl L3 (by omega) (by decide) (by decide) fun d3 H4 hd3 k4 L4=>B7 rfl rfl ?_);have:=rest (1+d3) _ H4 (by omega) (by omega) (k3.trans k4) (Sm1 k4 e3 (L3.ne e3)) L4;rw[Int.natCast_add]at this;exact this
end
structure Sz(n0 n1 n2 n3:Nat):Prop where
 h0:n0<=8
 h1:n1<=12
 h2:n2<=12
 h3:n3<=12
 one:0<n3->0<n1
section
variable{P:Program}{w:World}{K:PySem.W.Frag}{mg:Str->Option Value}{base:Heap}
theorem X0:FnScope ["_law_left_here", "_law_most", "_law_way", "_law_some"] ["_law_left_here", "_law_most"] (B3 s_law_sizes):=fsc
def Ky:Sp:=fun vs H Q _=>∃(p:Addr) (c:Int),vs = [.ref p,.int 12]/\LeftAt H p c/\c<=800000 /\
 ∀l (n0 n1 n2 n3:Nat) c' H',H l=none->Sm [p] H H'->H' l=some (.lst [.int (n0:Int),.int (n1:Int),.int (n2:Int),.int (n3:Int)])->Sz n0 n1 n2 n3->c'<=c+5->LeftAt H' p c'->Q (.ref l) H'
set_option maxHeartbeats 2000000 in
theorem Bp(T:Tx K mg):FnOk P w K mg base CX0 3 T.aI.f T.aI.fd ["_law_left_here", "_law_most"] Ky:=by
 have G_law_pick:=G0 (P:=P) (w:=w) (base:=base) T;have sc:=X0;refine T.aI.F.ok X0 (fun vs H Q E h=>?_) (fun cdv A outer s H vs Q E hr h=>?_)
 .obtain⟨p,c,rfl,_⟩:=h;rfl
 .obtain⟨p,c,rfl,hL,c1,q⟩:=h;refine⟨_,(B0 (C3 (i:=2) sc.nd rfl (.inl rfl) (C0 T.ac G_law_pick (Rm hr) (A6 (pv 0) (A6 A9 A8))))
   (B0 (E7 (C4 Y8 (pv 2) A9 (C7 _)) (B2 (B9 (D6 Y4 (D9 (A6 (D6 Ia A9 (C0 T.ac G_law_pick (Rm hr) (A6 (pv 0) (A6 A9 A8)))) A8)) (Q9 (N':=["_law_k", "_law_most", "_law_left_here"]) (cap:=[none,some 1,some 0]) (cl:=[("_law_most",_),("_law_left_here",_)]) (O2 ⟨⟨rfl,rfl,rfl,rfl⟩,⟨⟨rfl,rfl,rfl,rfl⟩,trivial⟩⟩ ⟨rfl,⟨rfl,trivial⟩⟩) rfl (Pu T.aD (A6 A9 A8)) (fun _ _ _ _=>by exact⟨(pgC 0),E8,(D6 Ia (pv 1) (C0 T.ac G_law_pick (Rm hr) (A6 (pv 2) (A6 A9 A8))))⟩))))) C5)
   (B0 (E7 (C4 Y8 (pv 2) A9 (C7 _)) (B2 (B9 (D9 (A6 (C0 T.ac G_law_pick (Rm hr) (A6 (pv 0) (A6 A9 A8))) (A6 (C0 T.ac G_law_pick (Rm hr) (A6 (pv 0) (A6 A9 A8))) (A6 (C0 T.ac G_law_pick (Rm hr) (A6 (pv 0) (A6 A9 A8))) (A6 A9 A8))))))) C5)
   (@B0 _ _ _ _ _ (@C3 _ _ 3 _ _ _ _ sc.nd rfl (.inl rfl) (@D9 _ _ _ _ (@A6 _ _ _ _ _ (D9 (A6 A9 (A6 A9 (A6 A9 (A6 A9 A8))))) (@A6 _ _ _ _ _ (D9 (A6 A9 (A6 A9 (A6 A9 (A6 A9 A8))))) (@A6 _ _ _ _ _ (D9 (A6 A9 (A6 A9 (A6 A9 (A6 A9 A8))))) (@A6 _ _ _ _ _ (D9 (A6 A9 (A6 A9 (A6 A9 (A6 A9 A8))))) (@A6 _ _ _ _ _ (D9 (A6 A9 (A6 A9 (A6 A9 (A6 A9 A8))))) (@A6 _ _ _ _ _ (D9 (A6 A9 (A6 A9 (A6 A9 (A6 A9 A8))))) A8 (by rfl)) (by rfl)) (by rfl)) (by rfl)) (by rfl)) (by rfl))) (by rfl) (by first | exact .inl rfl | exact .inr rfl | assumption))
   (B2 (B9 (C1 (ixL K) (pv 3) (D6 Ia (pv 2) A9) (fun _ _=>rfl)))))))),?_⟩
  have new:∀{G:Hp} {l:Addr},Sm [p] H G->(∃c,LeftAt G p c)->G l=none->H l=none:=fun{G l} k ⟨c,L⟩ hl=>by
   cases z:H l with
   | none=>rfl
   | some o =>
    have:=k l o z (by simpa using (B1 L.get hl).symm);rw[hl]at this;cases this
  refine B5 fun N1 hN1=>?_;refine ex1 rfl (K8 (a:=p) rfl hL (by omega) (by decide) (by decide) fun d H1 hd k1 L1=>?_);refine hN1 _ _ (B5 fun N2 hN2=>?_);refine ex1 rfl ⟨rfl,ex1 rfl (l9 (fun c0=>?_) (fun c0=>?_))⟩
  .refine ex1 rfl (K8 (a:=p) rfl L1 (by omega) (by decide) (by decide) fun d1 H2 hd1 k2 L2=>B7 rfl rfl ⟨by show 1<=sizeLine;decide,fun l1 hl1=>?_⟩);have e8:((8:Int)-(d1:Int)) =((8-d1:Nat):Int):=by omega
   dsimp only;rw[e8];have u1:=Same.new (o:=.lst [.int ((8-d1:Nat):Int)]) hl1;have f1:(upd H2 l1 (.lst [.int ((8-d1:Nat):Int)])) l1=some (.lst [.int ((8-d1:Nat):Int)]):=A7;generalize upd H2 l1 (.lst [.int ((8-d1:Nat):Int)])=H3 at u1 f1⊢;have L3:=L2.same u1;have k3:=k1.trans (k2.trans u1.sm);refine ex1 rfl ⟨by decide,by decide,fun D hD=>?_⟩;have npD:p≠D:=B1 L3.get hD;have nlD:l1≠D:=B1 f1 hD;have npl:l1≠p:=(B1 L2.get hl1).symm;have hD0:=new k3 ⟨_,L3⟩ hD;refine Bu (n:=3) (fun i σ G=>(∃v,σ = [v,some (.int 12),some (.ref p)])/\Sm [p] H G/\LeftAt G p (c+2+i)/\G l1=some (.lst [.int ((8-d1:Nat):Int)])/\∃ds:List Nat,G D=some (.lst (ds.map fun n:Nat=>V.int (n:Int)))/\ds.length=i/\∀x∈ds,10<=x/\x<=12) ?_ (fun i _ _ hi _=>hi) (fun _ _ _=>Nat.le_refl _) ?_ ?_
   .exact⟨⟨_,rfl⟩,k3.updN hD0,(L3.cast (by omega)).upd npD,by rw[B4 nlD];exact f1,[],A7,rfl,fun x h=>absurd h AX⟩
   .rintro i σ G v G' N hi ⟨⟨v0,rfl⟩,kG,LG,fG,ds,eG,hl,hx⟩ ⟨rfl,rfl⟩ hN;refine Cd ?_;refine ex1 rfl (ex1 rfl (K8 (a:=p) rfl LG (by omega) (by decide) (by decide) fun d3 G2 hd3 k4 L4=>B7 rfl rfl ?_));have e12:((12:Int)-(d3:Int)) =((12-d3:Nat):Int):=by omega
    have eD:=Sm1 k4 eG npD.symm;refine⟨_,eD,by rw[AB,sizeLine_eq];omega,hN _ _ ⟨⟨_,rfl⟩,(kG.trans k4).updN hD0,(L4.cast (by omega)).upd npD,by rw[B4 nlD];exact Sm1 k4 fG npl,ds ++ [12-d3],?_,by rw[BF,hl];rfl,fun x hm=>?_⟩⟩
    .rw[A7,A_];dsimp only;rw[e12];rfl
    .rcases AV.mp hm with y | y
     .exact hx x y
     .rw[AE.mp y];omega
   .rintro σ G ⟨⟨v0,rfl⟩,kG,LG,fG,ds,eG,hl,hx⟩;refine⟨l1,D,_,_,rfl,rfl,fG,eG,by rw[AB,hl];show 1+3<=sizeLine;decide,fun l2 hl2=>?_⟩
    match ds,hl,hx with
    | [a,b,e],_,hx =>
     obtain⟨a1,a2⟩:=hx a (by simp);obtain⟨b1,b2⟩:=hx b (by simp);obtain⟨g1,g2⟩:=hx e (by simp);exact q l2 (8-d1) a b e _ _ (new kG ⟨_,LG⟩ hl2) (kG.trans (Same.new hl2).sm) A7 ⟨by omega,a2,b2,g2,fun _=>by omega⟩ (by omega) (LG.same (Same.new hl2))
  refine hN2 _ _ (B5 fun N3 hN3=>?_);refine ex1 rfl ⟨rfl,ex1 rfl (l9 (fun c1=>?_) (fun c1=>?_))⟩
  .refine ex1 rfl (K8 (a:=p) rfl L1 (by omega) (by decide) (by decide) fun d1 H2 hd1 k2 L2=>?_);refine ex1 rfl (K8 (a:=p) rfl L2 (by omega) (by decide) (by decide) fun d2 H3 hd2 k3 L3=>?_);refine ex1 rfl (K8 (a:=p) rfl L3 (by omega) (by decide) (by decide) fun d3 H4 hd3 k4 L4=>?_);have k:=k1.trans (k2.trans (k3.trans k4));refine⟨by show 4<=sizeLine;decide,fun l hl=>?_⟩;exact q l d1 d2 d3 0 _ _ (new k ⟨_,L4⟩ hl) (k.trans (Same.new hl).sm) A7 ⟨by omega,by omega,by omega,by omega,fun h=>absurd h (by omega)⟩ (by omega) (L4.same (Same.new hl))
  refine hN3 _ _ (B5 fun N4 hN4=>?_);refine⟨by show 4<=sizeLine;decide,fun l1 hl1=>?_⟩;have u1:=Same.new (o:=.lst [V.int 3,.int 4,.int 4,.int 0]) hl1;have e1:(upd H1 l1 (.lst [V.int 3,.int 4,.int 4,.int 0])) l1=some (.lst [V.int 3,.int 4,.int 4,.int 0]):=A7;generalize upd H1 l1 (.lst [V.int 3,.int 4,.int 4,.int 0])=G1 at u1 e1⊢;refine⟨by show 4<=sizeLine;decide,fun l2 hl2=>?_⟩;have u2:=Same.new (o:=.lst [V.int 3,.int 4,.int 5,.int 2]) hl2;have e2:(upd G1 l2 (.lst [V.int 3,.int 4,.int 5,.int 2])) l2=some (.lst [V.int 3,.int 4,.int 5,.int 2]):=A7;generalize upd G1 l2 (.lst [V.int 3,.int 4,.int 5,.int 2])=G2 at u2 e2⊢;refine⟨by show 4<=sizeLine;decide,fun l3 hl3=>?_⟩;have u3:=Same.new (o:=.lst [V.int 2,.int 3,.int 3,.int 2]) hl3;have e3:(upd G2 l3 (.lst [V.int 2,.int 3,.int 3,.int 2])) l3=some (.lst [V.int 2,.int 3,.int 3,.int 2]):=A7;generalize upd G2 l3 (.lst [V.int 2,.int 3,.int 3,.int 2])=G3 at u3 e3⊢;refine⟨by show 4<=sizeLine;decide,fun l4 hl4=>?_⟩;have u4:=Same.new (o:=.lst [V.int 4,.int 5,.int 5,.int 3]) hl4;have e4:(upd G3 l4 (.lst [V.int 4,.int 5,.int 5,.int 3])) l4=some (.lst [V.int 4,.int 5,.int 5,.int 3]):=A7;generalize upd G3 l4 (.lst [V.int 4,.int 5,.int 5,.int 3])=G4 at u4 e4⊢;refine⟨by show 4<=sizeLine;decide,fun l5 hl5=>?_⟩;have u5:=Same.new (o:=.lst [V.int 3,.int 3,.int 5,.int 1]) hl5;have e5:(upd G4 l5 (.lst [V.int 3,.int 3,.int 5,.int 1])) l5=some (.lst [V.int 3,.int 3,.int 5,.int 1]):=A7;generalize upd G4 l5 (.lst [V.int 3,.int 3,.int 5,.int 1])=G5 at u5 e5⊢;refine⟨by show 4<=sizeLine;decide,fun l6 hl6=>?_⟩;have u6:=Same.new (o:=.lst [V.int 2,.int 4,.int 4,.int 2]) hl6;have e6:(upd G5 l6 (.lst [V.int 2,.int 4,.int 4,.int 2])) l6=some (.lst [V.int 2,.int 4,.int 4,.int 2]):=A7;generalize upd G5 l6 (.lst [V.int 2,.int 4,.int 4,.int 2])=G6 at u6 e6⊢;refine⟨by show 6<=sizeLine;decide,fun l7 hl7=>?_⟩;have u7:=Same.new (o:=.lst [V.ref l1,.ref l2,.ref l3,.ref l4,.ref l5,.ref l6]) hl7;have e7:(upd G6 l7 (.lst [V.ref l1,.ref l2,.ref l3,.ref l4,.ref l5,.ref l6])) l7=some (.lst [V.ref l1,.ref l2,.ref l3,.ref l4,.ref l5,.ref l6]):=A7;generalize upd G6 l7 (.lst [V.ref l1,.ref l2,.ref l3,.ref l4,.ref l5,.ref l6])=G7 at u7 e7⊢;have v6:=u7;have v5:=u6.trans v6;have v4:=u5.trans v5;have v3:=u4.trans v4;have v2:=u3.trans v3;have v1:=u2.trans v2;have v0:=u1.trans v1;have k7:=k1.trans v0.sm;have L7:=L1.same v0;have n1:H l1=none:=new k1 ⟨_,L1⟩ hl1;have n2:H l2=none:=new (k1.trans u1.sm) ⟨_,(L1.same u1)⟩ hl2;have n3:H l3=none:=new (k1.trans (u1.trans u2).sm) ⟨_,(L1.same (u1.trans u2))⟩ hl3;have n4:H l4=none:=new (k1.trans ((u1.trans u2).trans u3).sm) ⟨_,(L1.same ((u1.trans u2).trans u3))⟩ hl4;have n5:H l5=none:=new (k1.trans (((u1.trans u2).trans u3).trans u4).sm) ⟨_,(L1.same (((u1.trans u2).trans u3).trans u4))⟩ hl5;have n6:H l6=none:=new (k1.trans ((((u1.trans u2).trans u3).trans u4).trans u5).sm) ⟨_,(L1.same ((((u1.trans u2).trans u3).trans u4).trans u5))⟩ hl6;refine hN4 _ _ ?_;have hd2:2<=d:=by
   have a0:d≠0:=fun z=>by subst z;exact absurd rfl (fun y=>c0 (AI y))
   have a1:d≠1:=fun z=>by subst z;exact absurd rfl (fun y=>c1 (AI y))
   omega
  refine ex1 rfl (ex1 rfl (B7 rfl rfl ?_));obtain⟨i,rfl⟩:∃i,d=i+2:=⟨d-2,by omega⟩;have ei:(((i+2:Nat):Int)-2) =(i:Int):=by omega
  dsimp only;rw[ei]
  match i,hd with
  | 0,_=>exact⟨l7,_,_,_,rfl,rfl,SqL.of e7,B6 (j:=0) rfl,q l1 3 4 4 0 _ _ n1 k7 (v1 _ _ e1) ⟨by decide,by decide,by decide,by decide,by decide⟩ (by omega) L7⟩
  | 1,_=>exact⟨l7,_,_,_,rfl,rfl,SqL.of e7,B6 (j:=1) rfl,q l2 3 4 5 2 _ _ n2 k7 (v2 _ _ e2) ⟨by decide,by decide,by decide,by decide,by decide⟩ (by omega) L7⟩
  | 2,_=>exact⟨l7,_,_,_,rfl,rfl,SqL.of e7,B6 (j:=2) rfl,q l3 2 3 3 2 _ _ n3 k7 (v3 _ _ e3) ⟨by decide,by decide,by decide,by decide,by decide⟩ (by omega) L7⟩
  | 3,_=>exact⟨l7,_,_,_,rfl,rfl,SqL.of e7,B6 (j:=3) rfl,q l4 4 5 5 3 _ _ n4 k7 (v4 _ _ e4) ⟨by decide,by decide,by decide,by decide,by decide⟩ (by omega) L7⟩
  | 4,_=>exact⟨l7,_,_,_,rfl,rfl,SqL.of e7,B6 (j:=4) rfl,q l5 3 3 5 1 _ _ n5 k7 (v5 _ _ e5) ⟨by decide,by decide,by decide,by decide,by decide⟩ (by omega) L7⟩
  | 5,_=>exact⟨l7,_,_,_,rfl,rfl,SqL.of e7,B6 (j:=5) rfl,q l6 2 4 4 2 _ _ n6 k7 (v6 _ _ e6) ⟨by decide,by decide,by decide,by decide,by decide⟩ (by omega) L7⟩
  | n+6,hd=>exact absurd hd (by omega)
end
def sd(ss:List Str):PyData:=.list (ss.map PyData.str)
theorem Dv{K:PySem.W.Frag}{H:Hp}:∀ss:List Str,Rps K H (ss.map PyData.str) (ss.map V.str)
 | []=>by simp[Rps]
 | x::r=>by
  simp only[BQ,Rps,Rp];exact⟨_,_,rfl,rfl,Dv r⟩
theorem Oq{K:PySem.W.Frag}{H:Hp}{l:Addr}{ss:List Str}(h:SqL K H l (ss.map V.str)):Rp K H (sd ss) (.ref l):=by
 unfold sd;simp only[Rp];exact⟨l,_,rfl,h,Dv ss⟩
theorem o0:∀ss:List Str,PyData.depthAll (ss.map PyData.str)<=1
 | []=>by simp[PyData.depthAll]
 | x::r=>by
  have:=o0 r;simp only[BQ,PyData.depthAll,PyData.depth];omega
theorem Dy:∀{ss:List Str},(∀x∈ss,PySem.PyData.strOk x=true)->PyData.canLayAll0 (ss.map PyData.str)=true
 | [],_=>rfl
 | x::r,h=>by
  rw[BQ,PyData.canLayAll0,Dy fun z hz=>h z (AY _ hz)];simp[PyData.canLay0,h x (BC ..)]
theorem Np{ss:List Str}(h:∀x∈ss,E5 x=true):Pl (sd ss):=by
 refine⟨?_,?_⟩
 .unfold sd;rw[PyData.canLay0];exact Dy fun x hx=>E9 (h x hx)
 .unfold sd;rw[PyData.depth];have:=o0 ss;omega
theorem Nw{K:PySem.W.Frag}{x y:V}{d:PyData}{H:Hp}{Q:VK}(h1:Rp K H d x)(h2:Rp K H d y)(p:Pl d)(q:Q (.bl false) H):Tn K x y H Q :=
 ⟨d,d,h1,h2,p,p,by rw[PySem.SeqAt.eqv_refl d p.1];exact q⟩
theorem Od:∀ds:List PyData,PyData.eqv (.list ds) (.list [])=ds.isEmpty
 | []=>by rw[PyData.eqv,PyData.eqvAll];rfl
 | _::_=>by rw[PyData.eqv,PyData.eqvAll];rfl
theorem Fu(ss:List Str):PyData.eqv (sd ss) (.list [])=ss.isEmpty:=by
 unfold sd;rw[Od];cases ss<;>rfl
theorem Ra:Pl (.list []):=⟨by simp[PyData.canLay0,PyData.canLayAll0],by simp[PyData.depth,PyData.depthAll]⟩
theorem Sc{K:PySem.W.Frag}{H:Hp}{l:Addr}(h:SqL K H l []):Rp K H (.list []) (.ref l):=by
 simp only[Rp];exact⟨l,_,rfl,h,by simp[Rps]⟩
theorem Nd{d:Nat}(h:d<3):∃k:Str,atI [V.str "claim",.str "claim",.str "fact"] (d:Int)=some (.str k)/\(k = "fact"\/k = "claim"):=by
 match d,h with
 | 0,_=>exact⟨"claim",rfl,.inr rfl⟩
 | 1,_=>exact⟨"claim",rfl,.inr rfl⟩
 | 2,_=>exact⟨"fact",rfl,.inl rfl⟩
section
variable{P:Program}{w:World}{K:PySem.W.Frag}{mg:Str->Option Value}{base:Heap}
theorem J3:FnScope ["_law_left_here", "_law_most", "_law_many", "_law_people_here", "_law_names", "_law_said", "_law_sayings", "_law_strikes", "_law_name", "_law_goals", "_law_backs", "_law_k", "_law_pair"] ["_law_left_here", "_law_most"] (B3 s_law_weave_rows):=fsc
def Lh:Sp:=fun vs H Q _=>∃(p:Addr) (c:Int),vs = [.ref p,.int 12]/\LeftAt H p c/\c<=700000 /\
 ∀r a b g d (pe:List PEr) (sa:List SAr) (st:List STr) (ba:List PA2) c' H',Sm [p] H H'->H' r=some (.lst [.ref a,.ref b,.ref g,.ref d])->WRows H' a b g d pe sa st ba->WOk pe sa st ba->LeftAt H' p c'->c'<=c+5000->Q (.ref r) H'
set_option maxHeartbeats 8000000 in
theorem S7(T:Tx K mg):FnOk P w K mg base CX0 6 T.aq.f T.aq.fd ["_law_left_here", "_law_most"] Lh:=by
 have G_law_pick:=G0 (P:=P) (w:=w) (base:=base) T;have G_law_sizes:=Bp (P:=P) (w:=w) (base:=base) T;have G_law_people:=w8 (P:=P) (w:=w) (base:=base) T;have G_law_many_names:=U5 (P:=P) (w:=w) (base:=base) T;have G_law_speakers:=Y5 (P:=P) (w:=w) (base:=base) T;have sc:=J3;refine T.aq.F.ok J3 (fun vs H Q E h=>?_) (fun cdv A outer s H vs Q E hr h=>?_)
 .obtain⟨p,c,rfl,_⟩:=h;rfl
 .obtain⟨p,c,rfl,hL,c0,q⟩:=h;refine⟨_,(B0 (C3 (i:=2) sc.nd rfl (.inl rfl) (C0 T.aI G_law_sizes (Rm hr) (A6 (pv 0) (A6 (pv 1) A8))))
   (B0 (C3 (i:=3) sc.nd rfl (.inr rfl) (C0 T.aF G_law_people (Rm hr) (A6 (pv 0) (A6 (C1 (ixL K) (pv 2) A9 (fun _ _=>rfl)) A8))))
   (B0 (C3 (i:=4) sc.nd rfl (.inl rfl) (C0 T.ap G_law_many_names (Rm hr) (A6 (pv 0) (A6 (D6 M9 (C1 (ixL K) (pv 2) A9 (fun _ _=>rfl)) (C1 (ixL K) (pv 2) A9 (fun _ _=>rfl))) A8))))
   (B0 (C3 (i:=5) sc.nd rfl (.inl rfl) (P2 (slL K) (pv 4) U0 (U4 (C1 (ixL K) (pv 2) A9 (fun _ _=>rfl)))))
   (B0 (Ae (i:=6) (N':=["_law_name", "_law_left_here", "_law_people_here"]) (cap:=[none,some 0,some 3]) (cl:=[("_law_people_here",_),("_law_left_here",_)]) sc.nd rfl (.inl rfl) (O2 ⟨⟨rfl,rfl,rfl,rfl⟩,⟨⟨rfl,rfl,rfl,rfl⟩,trivial⟩⟩ ⟨rfl,⟨rfl,trivial⟩⟩) rfl (piL K (pv 5)) (fun _ _ _ _=>by exact⟨(pgC 0),E8,(J9 (A6 (pv 0) (A6 (C1 (ixL K) (D9 (A6 D4 (A6 D4 (A6 D4 A8)))) (C0 T.ac G_law_pick (Rm hr) (A6 (pv 1) (A6 A9 A8))) (fun _ _=>rfl)) (A6 (C0 T.aA G_law_speakers (Rm hr) (A6 (pv 1) (A6 (pv 2) A8))) A8))))⟩))
   (B0 (C3 (i:=7) sc.nd rfl (.inl rfl) (D9 A8))
   (B0 (P4 PassesOwn.never rfl (piL K (P2 (slL K) (pv 4) (U4 (C1 (ixL K) (pv 2) A9 (fun _ _=>rfl))) U0)) (D7 (i:=8) sc.nd rfl (.inl rfl))
   (B2 (E7 (C4 (Rv K hr.units) (pv 5) (D9 A8) (C7 _)) (B0 (C3 (i:=9) sc.nd rfl (.inl rfl) (C1 (ixL K) (D9 (A6 (pv 5) (A6 (pv 5) (A6 (pv 4) A8)))) (C0 T.ac G_law_pick (Rm hr) (A6 (pv 0) (A6 A9 A8))) (fun _ _=>rfl)))
   (B2 (K4 (Me K PySem.F.plainAttrs_list PySem.F.slot_list_append PySem.F.type_list_append M8 (pv 7) (A6 (J9 (A6 (pv 8) (A6 (C1 (ixL K) (pv 5) (C0 T.ac G_law_pick (Rm hr) (A6 (pv 0) (A6 (D0 (J5 K) T.aj G8 (A6 (pv 5) A8)) A8))) (fun _ _=>rfl)) (A6 (C1 (ixL K) (pv 9) (C0 T.ac G_law_pick (Rm hr) (A6 (pv 0) (A6 (D0 (J5 K) T.aj G8 (A6 (pv 9) A8)) A8))) (fun _ _=>rfl)) A8)))) A8))))) C5)))
   (B0 (C3 (i:=10) sc.nd rfl (.inl rfl) (D9 A8))
   (B0 (P4 PassesOwn.never rfl (Pu T.aD (A6 (C1 (ixL K) (pv 2) A9 (fun _ _=>rfl)) A8)) (D7 (i:=11) sc.nd rfl (.inl rfl))
   (B0 (C3 (i:=12) sc.nd rfl (.inl rfl) (J9 (A6 (C1 (ixL K) (pv 5) (C0 T.ac G_law_pick (Rm hr) (A6 (pv 0) (A6 (D0 (J5 K) T.aj G8 (A6 (pv 5) A8)) A8))) (fun _ _=>rfl)) (A6 (C1 (ixL K) (pv 5) (C0 T.ac G_law_pick (Rm hr) (A6 (pv 0) (A6 (D0 (J5 K) T.aj G8 (A6 (pv 5) A8)) A8))) (fun _ _=>rfl)) A8))))
   (B2 (E7 (PW.pt (Ij (C4 Ls (C1 (ixT K) (pv 12) A9 (fun _ _=>rfl)) (C1 (ixT K) (pv 12) A9 (fun _ _=>rfl)) (C7 _)) (Ck (C4 (Ko K hr.units) (pv 12) (pv 10) rfl)))) (B2 (K4 (Me K PySem.F.plainAttrs_list PySem.F.slot_list_append PySem.F.type_list_append M8 (pv 10) (A6 (pv 12) A8)))) C5))))
   (B2 (B9 (D9 (A6 (pv 3) (A6 (pv 6) (A6 (pv 7) (A6 (pv 10) A8)))))))))))))))),?_⟩
  refine B5 fun N1 hN1=>?_;refine ex1 rfl (ex1 rfl ⟨p,c,rfl,hL,by omega,fun m n0 n1 n2 n3 c1 H1 hm k1 e1 Z hc1 L1=>?_⟩);have nmp:m≠p:=L1.neL e1 fun x y z=>by cases z
  refine hN1 _ _ (B5 fun N2 hN2=>?_);refine ex1 rfl (ex1 rfl ⟨m,_,B7 rfl rfl ⟨SqL.of e1,B6 (j:=0) rfl,?_⟩⟩);refine⟨p,c1,n0,rfl,L1,by omega,Z.h0,fun a pe c2 H2 ha k2 R2 len2 nd2 ok2 hc2 L2=>?_⟩;have e2:=Sm1 k2 e1 nmp;refine hN2 _ _ (B5 fun N3 hN3=>?_);refine ex1 rfl (ex1 rfl ⟨m,_,B7 rfl rfl ⟨SqL.of e2,B6 (j:=1) rfl,ex1 rfl ⟨m,_,B7 rfl rfl ⟨SqL.of e2,B6 (j:=2) rfl,B7 rfl rfl ?_⟩⟩⟩⟩);have e12:((n1:Int) +(n2:Int)) =((n1+n2:Nat):Int):=by omega
  dsimp only;rw[e12];have z1:=Z.h1;have z2:=Z.h2;have z3:=Z.h3;refine⟨p,c2,n1+n2,rfl,L2,by omega,by omega,fun nm ts H4 hnm k4 e4 len4 N4' L4=>?_⟩;have R4:=R2.sm L2 k4;have m4:=Sm1 k4 e2 nmp;have k4:=(k1.trans k2).trans k4;obtain⟨c4,hc4⟩:∃c4,c4=c2 +((n1+n2:Nat):Int):=⟨_,rfl⟩;rw[<-hc4]at L4;clear k1 k2 e1 e2 R2 L1 L2;refine hN3 _ _ (B5 fun N4 hN4=>?_);refine ex1 rfl (ex1 rfl ⟨m,_,B7 rfl rfl ⟨SqL.of m4,B6 (j:=1) rfl,_,rfl,nm,_,rfl,SqL.of e4,fun sq hsd=>?_⟩⟩);have us:=Same.new (o:=.lst (S5 (ts.map V.str) none (some (n1:Int)))) hsd;have e5:(upd H4 sq (.lst (S5 (ts.map V.str) none (some (n1:Int))))) sq=some (.lst ((ts.take n1).map V.str)):=by rw[A7,Ai,DF]
  generalize upd H4 sq (.lst (S5 (ts.map V.str) none (some (n1:Int))))=H5 at us e5⊢;have R5:=R4.same us;have m5:=us _ _ m4;have f5:=us _ _ e4;have L5:=L4.same us;have k5:=k4.trans us.sm;clear R4 m4 e4 L4 k4 us hsd;have lts:ts.length=n1+n2:=by omega
  refine hN4 _ _ (B5 fun N5 hN5=>?_);have l8:pe.length<=8:=by have:=Z.h0;omega
  have c5:c4<=c+1000:=by omega
  clear hc1 hc2 hc4;refine ex1 rfl ⟨sq,rfl,⟨_,SqL.of e5⟩,fun D hD=>?_⟩;have npD:p≠D:=B1 L5.get hD;refine U6 (asL (K:=K) (SqL.of e5)) (fun i σ G=>(∃v,σ = [v,some (.ref p),some (.ref a)])/\Sm [p] H5 G/\(∃c',c'<=c4+10*i/\LeftAt G p c')/\∃sa:List SAr,RowsAt G D (sa.map rS)/\(∀q∈sa,q.2.2.2.1≠D/\G q.2.2.2.1=some (.lst (q.2.2.2.2.map V.str))/\(q.2.2.1 = "fact"\/q.2.2.1 = "claim")/\(∀x∈q.2.2.2.2,x∈nP pe)/\q.2.2.2.2.Nodup/\q.2.2.2.2.length<=8)/\nS sa =(ts.take n1).take i)
   ⟨⟨_,rfl⟩,(Sm.refl _ _).updN hD,⟨_,by omega,L5.upd npD⟩,[],⟨A7,fun q h=>absurd h AX⟩,fun q h=>absurd h AX,rfl⟩ (fun i σ G _ ⟨_,kG,_⟩ o e=>kG sq o e (by simpa using L5.ne e5)) ?_ ?_
  .rintro i σ G v N hx ⟨⟨v0,rfl⟩,kG,⟨c6,hc6,LG⟩,sa,RG,spG,nG⟩ hN;rw[AH]at hx;obtain⟨x,hy,rfl⟩:=AR.mp hx;have hx:=hy;have li:=(AK.mp hx).1;rw[AG]at li;have lsa:sa.length=i:=by
    have:=congrArg List.length nG;unfold nS at this;rw[AB,AG,AG]at this;omega
   refine Cd (ex1 rfl ⟨by show 3<=sizeLine;decide,fun t ht=>?_⟩);have ut:=Same.new (o:=.lst [V.str "claim",.str "claim",.str "fact"]) ht;refine ex1 rfl (K8 (a:=p) rfl (LG.same ut) (by omega) (by decide) (by decide) fun dd G2 hd k2 L2=>?_);obtain⟨kd,hk1,hk2⟩:=Nd (d:=dd) (by omega);have et:G2 t=some (.lst [V.str "claim",.str "claim",.str "fact"]):=Sm1 k2 A7 (B1 LG.get ht).symm;refine⟨t,_,B7 rfl rfl ⟨SqL.of et,hk1,?_⟩⟩;have k2:=ut.sm.trans k2;have kG2:=kG.trans k2;refine ex1 rfl (ex1 rfl ⟨p,a,_,pe,rfl,L2,by omega,R5.sm L5 kG2,l8,nd2,fun l ss' c7 G3 hl k3 el sub nds lss hc7 L3=>⟨by show 3<=sizeLine;decide,fun t2 ht2=>?_⟩⟩);have u4:=Same.new (o:=.tup [.str x,.str kd,.ref l]) ht2;have k4:Sm [p] G (upd G3 t2 (.tup [.str x,.str kd,.ref l])):=k2.trans (k3.trans u4.sm);have R4:=RG.sm LG k4;have nlD:l≠D:=(B1 (RG.sm LG k2).at_ hl).symm;have e4:=u4 _ _ el;have L4:=L3.same u4;have et2:(upd G3 t2 (.tup [.str x,.str kd,.ref l])) t2=some (.tup [.str x,.str kd,.ref l]):=A7;generalize upd G3 t2 (.tup [.str x,.str kd,.ref l])=G4 at k4 R4 e4 L4 et2⊢;refine⟨_,R4.at_,by rw[AB,AB,sizeLine_eq];omega,hN _ _ ⟨⟨_,rfl⟩,(kG.trans k4).updN hD,⟨_,by omega,L4.upd npD⟩,sa ++ [(t2,x,kd,l,ss')],?_,fun z hz=>?_,?_⟩⟩
   .rw[A_];exact R4.snoc et2
   .rcases AV.mp hz with y | y
    .obtain⟨y1,y2,y3⟩:=spG z y;exact⟨y1,(B4 y1).trans (Sm1 k4 y2 (LG.ne y2)),y3⟩
    .rw[AE.mp y];exact⟨nlD,(B4 nlD).trans e4,hk2,sub,nds,lss⟩
   .unfold nS at nG⊢;rw[A_,nG,D8 hx];rfl
  .rintro σ G ⟨⟨v0,rfl⟩,kG,⟨c6,hc6,LG⟩,sa,RG,spG,nG⟩;rw[AB,CD]at nG;have c6':c6<=c+1200:=by
    rw[AB,AG]at hc6;omega
   clear hc6;have m6:=Sm1 kG m5 nmp;have R6:=R5.sm L5 kG;have f6:=Sm1 kG f5 (L5.ne f5);have e6:=Sm1 kG e5 (L5.ne e5);have k6:=k5.trans kG;clear m5 R5 f5 e5 kG k5;refine hN5 _ _ (B5 fun N6 hN6=>?_);refine⟨CW _,fun S hS=>?_⟩;have uS:=Same.new (o:=.lst []) hS;have eS:(upd G S (.lst [])) S=some (.lst []):=A7;have L7:=LG.same uS;have k7:Sm [p] G (upd G S (.lst [])):=uS.sm;have npS:p≠S:=B1 LG.get hS;generalize upd G S (.lst [])=H7 at eS L7 k7⊢;refine hN6 _ _ (B5 fun N7 hN7=>?_);have m7:=Sm1 k7 m6 nmp;have f7:=Sm1 k7 f6 (LG.ne f6);refine ex1 rfl (ex1 rfl ⟨m,_,B7 rfl rfl ⟨SqL.of m7,B6 (j:=1) rfl,_,rfl,nm,_,rfl,SqL.of f7,fun rs hrs=>?_⟩⟩);have ur:=Same.new (o:=.lst (S5 (ts.map V.str) (some (n1:Int)) none)) hrs;have e8:(upd H7 rs (.lst (S5 (ts.map V.str) (some (n1:Int)) none))) rs=some (.lst ((ts.drop n1).map V.str)):=by rw[A7,Ez _ _ (by rw[AB];omega),List.map_drop]
   have nrS:rs≠S:=(B1 eS hrs).symm;have nrp:rs≠p:=(B1 L7.get hrs).symm;have eS8:=ur _ _ eS;have L8:=L7.same ur;have k8:=k7.trans ur.sm;clear m7 f7 k7 L7 eS;generalize upd H7 rs (.lst (S5 (ts.map V.str) (some (n1:Int)) none))=H8 at e8 eS8 L8 k8⊢;refine⟨rs,rfl,⟨_,SqL.of e8⟩,Y2 (asL (SqL.of e8)) (fun i σ G'=>(∃v8 v9 v10 v11 v12,σ = [some (.ref p),some (.int 12),some (.ref m),some (.ref a),some (.ref nm),some (.ref sq),some (.ref D),some (.ref S),v8,v9,v10,v11,v12])/\Sm [p] G G'/\G' rs=some (.lst ((ts.drop n1).map V.str))/\(∃c',c'<=c6+3*i/\LeftAt G' p c')/\∃st:List STr,RowsAt G' S (st.map rT)/\nT st =(if ts.take n1 = []then []else(ts.drop n1).take i)/\∀q∈st,q.2.2.1∈ts.take n1/\q.2.2.2∈ts) ?_ ?_ ?_ ?_⟩
   .exact⟨⟨_,_,_,_,_,rfl⟩,k8,e8,⟨_,by omega,L8⟩,[],⟨eS8,fun q h=>absurd h AX⟩,by split<;>rfl,fun q h=>absurd h AX⟩
   .rintro i σ G' _ ⟨_,_,er,_⟩ o e;rw[e8]at e;cases e;exact er
   .rintro i σ G' y hy ⟨⟨v8,v9,v10,v11,v12,rfl⟩,kG',er,⟨c9,hc9,L9⟩,st,RS,nS',tS⟩ D1 hD1 _;rw[AH]at hy;obtain⟨x,hx,rfl⟩:=AR.mp hy;have li:=(AK.mp hx).1;rw[BR]at li;have f9:=Sm1 kG' f6 (LG.ne f6);have e9:=Sm1 kG' e6 (LG.ne e6);have R9:=RS.at_;refine ex1 rfl ⟨CW _,fun z hz=>?_⟩;have uz:=Same.new (o:=.lst []) hz;refine⟨Sw.sd (ts.take n1),.list [],Oq (SqL.of (uz _ _ e9)),Sc (SqL.of A7),Np (fun y hy=>N4'.1 y (BH hy)),Ra,?_⟩;rw[Fu];have LZ:=L9.same uz;have kZ:=kG'.trans uz.sm;have eZ:=uz _ _ e9;have fZ:=uz _ _ f9;have RZ:=RS.same uz;have rZ:=uz _ _ er;generalize upd G' z (.lst [])=GZ at LZ kZ eZ fZ RZ rZ uz⊢;refine⟨_,rfl,l9 (fun h=>?_) (fun h=>?_)⟩
    .have ne:ts.take n1≠[]:=fun y=>by rw[y]at h;exact absurd h (by decide)
     have lt1:1<=(ts.take n1).length:=List.length_pos_iff.mpr ne;have lt2:(ts.take n1).length<=ts.length:=by rw[AG];omega
     rw[AU ne]at nS';have lst:st.length=i:=by
      have:=congrArg List.length nS';unfold nT at this;rw[AB,AG,BR]at this;omega
     refine B5 fun M1 hM1=>?_;refine ex1 rfl (ex1 rfl (ex1 rfl ⟨by show 3<=sizeLine;decide,fun t ht=>?_⟩));have ut:=Same.new (o:=.lst [V.ref sq,.ref sq,.ref nm]) ht;refine ex1 rfl (K8 (a:=p) rfl (LZ.same ut) (by omega) (by decide) (by decide) fun dd G2 hdd k2 L2=>?_);have et:G2 t=some (.lst [V.ref sq,.ref sq,.ref nm]):=Sm1 k2 A7 (B1 LZ.get ht).symm;have k2:Sm [p] GZ G2:=ut.sm.trans k2;have e2:=Sm1 k2 eZ (LZ.ne eZ);have f2:=Sm1 k2 fZ (LZ.ne fZ);obtain⟨gl,gs,ga,ge,gm,g1⟩:∃(gl:Addr) (gs:List Str),atI [V.ref sq,.ref sq,.ref nm] (dd:Int)=some (.ref gl)/\G2 gl=some (.lst (gs.map V.str))/\(∀y∈gs,y∈ts)/\1<=gs.length/\gs.length<=30:=by
      match dd,hdd with
      | 0,_=>exact⟨sq,_,B6 (j:=0) rfl,e2,fun y hy=>BH hy,lt1,by omega⟩
      | 1,_=>exact⟨sq,_,B6 (j:=1) rfl,e2,fun y hy=>BH hy,lt1,by omega⟩
      | 2,_=>exact⟨nm,_,B6 (j:=2) rfl,f2,fun y hy=>hy,by omega,by omega⟩
      | n+3,hdd=>exact absurd hdd (by omega)
     refine⟨t,_,B7 rfl rfl ⟨SqL.of et,ga,hM1 _ _ ?_⟩⟩;have R2:=RZ.sm LZ k2;refine ex1 rfl ⟨.inl ⟨rfl,_,SqL.of R2.at_⟩,?_⟩;refine ex1 rfl (ex1 rfl (ex1 rfl (ex1 rfl ⟨sq,_,rfl,.inl (SqL.of e2),?_⟩)));rw[AB];refine K8 (a:=p) rfl L2 (by omega) (by omega) (by omega) fun d1 G3 hd1 k3 L3=>?_;have e3:=Sm1 k3 e2 (L2.ne e2);have hi1:(ts.take n1)[d1]?=some ((ts.take n1)[d1]'(by omega)):=AJ (by omega);refine⟨sq,_,B7 rfl rfl ⟨SqL.of e3,B6 (by rw[AH,hi1];rfl),?_⟩⟩;have g3:=Sm1 k3 ge (L2.ne ge);refine ex1 rfl (ex1 rfl (ex1 rfl ⟨gl,_,rfl,.inl (SqL.of g3),?_⟩));rw[AB];refine K8 (a:=p) rfl L3 (by omega) (by omega) (by omega) fun d2 G4 hd2 k4 L4=>?_;have g4:=Sm1 k4 g3 (L3.ne g3);have hi2:gs[d2]?=some (gs[d2]'(by omega)):=AJ (by omega);refine⟨gl,_,B7 rfl rfl ⟨SqL.of g4,B6 (by rw[AH,hi2];rfl),by show 3<=sizeLine;decide,fun t2 ht2=>?_⟩⟩;have mem1:=AL hi1;have mem2:=gm _ (AL hi2);generalize (ts.take n1)[d1]'(by omega)=o1 at mem1 ht2⊢;generalize gs[d2]'(by omega)=o2 at mem2 ht2⊢;have u5:=Same.new (o:=.tup [.str x,.str o1,.str o2]) ht2;have k5:Sm [p] GZ (upd G4 t2 (.tup [.str x,.str o1,.str o2])):=k2.trans (k3.trans (k4.trans u5.sm));have R5:=RZ.sm LZ k5;have r5:=Sm1 k5 rZ nrp;have L5':=L4.same u5;have et2:(upd G4 t2 (.tup [.str x,.str o1,.str o2])) t2=some (.tup [.str x,.str o1,.str o2]):=A7;generalize upd G4 t2 (.tup [.str x,.str o1,.str o2])=G5 at k5 R5 r5 L5' et2⊢;refine⟨S,_,_,rfl,rfl,R5.at_,by rw[AB,AB,sizeLine_eq];omega,hD1 _ _ ⟨⟨_,_,_,_,_,rfl⟩,(kZ.trans k5).updN hS,by rw[B4 nrS];exact r5,⟨_,by omega,L5'.upd npS⟩,st ++ [(t2,x,o1,o2)],?_,?_,fun z hz=>?_⟩⟩
     .rw[A_];exact R5.snoc et2
     .rw[AU ne];unfold nT at nS'⊢;rw[A_,nS',D8 hx];rfl
     .rcases AV.mp hz with y | y
      .exact tS z y
      .rw[AE.mp y];exact⟨mem1,mem2⟩
    .have e0:ts.take n1 = []:=by
      cases y:ts.take n1 with
      | nil=>rfl
      | cons b r=>rw[y]at h;exact absurd rfl h
     rw[BB e0]at nS';exact hD1 _ _ ⟨⟨_,_,_,_,_,rfl⟩,kZ,rZ,⟨_,by omega,LZ⟩,st,RZ,by rw[BB e0];exact nS',tS⟩
   .rintro σ G' ⟨⟨v8,v9,v10,v11,v12,rfl⟩,kG',er,⟨c9,hc9,L9⟩,st,RS,nS',tS⟩;rw[AB,BR]at hc9;have nT':nT st=if ts.take n1 = []then []else ts.drop n1:=by
     rw[nS',AB,CD]
    refine hN7 _ _ (B5 fun N8 hN8=>?_);refine⟨CW _,fun B hB=>?_⟩;have uB:=Same.new (o:=.lst []) hB;have eB:(upd G' B (.lst [])) B=some (.lst []):=A7;have LB:=L9.same uB;have kB:Sm [p] G' (upd G' B (.lst [])):=uB.sm;have npB:p≠B:=B1 L9.get hB;generalize upd G' B (.lst [])=H9 at eB LB kB⊢;refine hN8 _ _ (B5 fun N9 hN9=>?_);have m9:=Sm1 (kG'.trans kB) m6 nmp;refine ex1 rfl ⟨m,_,B7 rfl rfl ⟨SqL.of m9,B6 (j:=3) rfl,ex1 rfl ⟨by omega,by omega,?_⟩⟩⟩;rw[EJ];refine P0 (fun i σ F=>(∃v8 v9 v11 v12,σ = [some (.ref p),some (.int 12),some (.ref m),some (.ref a),some (.ref nm),some (.ref sq),some (.ref D),some (.ref S),v8,v9,some (.ref B),v11,v12])/\Sm [p] G' F/\(∃c',c'<=c9+2*i/\LeftAt F p c')/\∃ba:List PA2,F B=some (.lst (x4 ba))/\(∀q∈ba,P5 F q)/\ba.length<=i/\(ba.map fun q=>q.2).Nodup/\∀q∈ba,q.2.1∈ts.take n1/\q.2.2∈ts.take n1/\q.2.1≠q.2.2) ?_ ?_ ?_
    .exact⟨⟨_,_,_,_,rfl⟩,kB,⟨_,by omega,LB⟩,[],eB,fun q h=>absurd h AX,Nat.le_refl _,List.nodup_nil,fun q h=>absurd h AX⟩
    .rintro i σ F hi ⟨⟨v8,v9,v11,v12,rfl⟩,kF,⟨cF,hcF,LF⟩,ba,eF,pF,lF,nF,tF⟩ D1 hD1 _;have n1p:=Z.one (by omega);have lt1:(ts.take n1).length=n1:=by rw[AG];omega
     have kGF:=kG'.trans kF;have eq0:=Sm1 kGF e6 (LG.ne e6);refine Ny fun M1 hM1=>?_;refine ex1 rfl (ex1 rfl (ex1 rfl ⟨sq,_,rfl,.inl (SqL.of eq0),?_⟩));rw[AB,lt1];refine K8 (a:=p) rfl LF (by omega) (by omega) (by omega) fun d1 F1 hd1 k1 L1=>?_;have e1:=Sm1 k1 eq0 (LF.ne eq0);have hi1:(ts.take n1)[d1]?=some ((ts.take n1)[d1]'(by omega)):=AJ (by omega);refine⟨sq,_,B7 rfl rfl ⟨SqL.of e1,B6 (by rw[AH,hi1];rfl),?_⟩⟩;refine ex1 rfl (ex1 rfl (ex1 rfl ⟨sq,_,rfl,.inl (SqL.of e1),?_⟩));rw[AB];refine K8 (a:=p) rfl L1 (by omega) (by omega) (by omega) fun d2 F2 hd2 k2 L2=>?_;have e2:=Sm1 k2 e1 (L1.ne e1);have hi2:(ts.take n1)[d2]?=some ((ts.take n1)[d2]'(by omega)):=AJ (by omega);refine⟨sq,_,B7 rfl rfl ⟨SqL.of e2,B6 (by rw[AH,hi2];rfl),by show 2<=sizeLine;decide,fun t ht=>?_⟩⟩;have mem1:=AL hi1;have mem2:=AL hi2;generalize (ts.take n1)[d1]'(by omega)=o1 at mem1 ht⊢;generalize (ts.take n1)[d2]'(by omega)=o2 at mem2 ht⊢;have u3:=Same.new (o:=.tup [.str o1,.str o2]) ht;have k3:Sm [p] F (upd F2 t (.tup [.str o1,.str o2])):=k1.trans (k2.trans u3.sm);have L3:=L2.same u3;have et:(upd F2 t (.tup [.str o1,.str o2])) t=some (.tup [.str o1,.str o2]):=A7;have nBp:B≠p:=npB.symm;have eB3:=Sm1 k3 eF nBp;have pB3:∀q∈ba,P5 (upd F2 t (.tup [.str o1,.str o2])) q:=fun q hq=>Sm1 k3 (pF q hq) (LF.neT (pF q hq));generalize upd F2 t (.tup [.str o1,.str o2])=F3 at k3 L3 et eB3 pB3⊢;have nmt:∀y∈ts.take n1,E5 y=true:=fun y hy=>N4'.1 y (BH hy);refine hM1 _ _ ?_;have no:∀(v12:Option V),D1.nx [some (.ref p),some (.int 12),some (.ref m),some (.ref a),some (.ref nm),some (.ref sq),some (.ref D),some (.ref S),v8,v9,some (.ref B),some (.int (0 +(i:Int))),v12] F3:=fun v12=>hD1 _ _ ⟨⟨_,_,_,_,rfl⟩,kF.trans k3,⟨_,by omega,L3⟩,ba,eB3,pB3,by omega,nF,tF⟩;refine ex1 rfl ⟨t,_,B7 rfl rfl ⟨SqT.of et,B6 (j:=0) rfl,ex1 rfl ⟨t,_,B7 rfl rfl ⟨SqT.of et,B6 (j:=1) rfl,rfl,_,rfl,?_⟩⟩⟩⟩;refine l9 (fun h=>?_) (fun h=>no _);have ne12:o1≠o2:=fun y=>by rw[y]at h;exact absurd h (by simp)
     refine ex1 rfl (ex1 rfl (Fj (k:=(o1,o2)) et eB3 pB3 ⟨E9 (nmt _ mem1),E9 (nmt _ mem2)⟩ (fun q hq=>⟨E9 (nmt _ (tF q hq).1),E9 (nmt _ (tF q hq).2.1)⟩) ⟨_,rfl,l9 (fun h2=>?_) (fun h2=>no _)⟩));have nin:(o1,o2)∉ba.map fun q=>q.2:=by simpa using h2
     have lrb:(x4 ba).length=ba.length:=by unfold x4;rw[AB]
     refine ex1 rfl ⟨.inl ⟨rfl,_,SqL.of eB3⟩,ex1 rfl ⟨B,_,_,rfl,rfl,eB3,by rw[lrb,sizeLine_eq];omega,hD1 _ _ ⟨⟨_,_,_,_,rfl⟩,(kF.trans k3).updN hB,⟨_,by omega,L3.upd npB⟩,ba ++ [(t,o1,o2)],by rw[A7];unfold x4;rw[A_];rfl,fun q hq=>?_,by rw[BF];show _+1<=_;omega,?_,fun q hq=>?_⟩⟩⟩
     .rcases AV.mp hq with y | y
      .exact(B4 (X3 (pB3 q y) eB3 (by intro z;cases z))).trans (pB3 q y)
      .rw[AE.mp y];exact(B4 (X3 et eB3 (by intro z;cases z))).trans et
     .rw[A_];exact Jt nF nin
     .rcases AV.mp hq with y | y
      .exact tF q y
      .rw[AE.mp y];exact⟨mem1,mem2,ne12⟩
    .rintro σ F ⟨⟨v8,v9,v11,v12,rfl⟩,kF,⟨cF,hcF,LF⟩,ba,eF,pF,lF,nF,tF⟩;refine hN9 _ _ ?_;refine ex1 rfl (ex1 rfl (ex1 rfl (ex1 rfl ⟨by show 4<=sizeLine;decide,fun r hr=>?_⟩)));have kGF:=kG'.trans kF;have W:WRows F a D S B pe sa st ba:=⟨R6.sm LG kGF,RG.sm LG kGF,fun q hq=>Sm1 kGF (spG q hq).2.1 (LG.ne (spG q hq).2.1),RS.sm L9 kF,eF,pF⟩;have ur:=Same.new (o:=.lst [.ref a,.ref D,.ref S,.ref B]) hr;have lsa:sa.length=n1:=by
      have:=congrArg List.length nG;unfold nS at this;rw[AB,AG]at this;omega
     have lst:st.length<=n2:=by
      have:=congrArg List.length nT';unfold nT at this;rw[AB]at this;split at this
      .rw[this];exact CW _
      .rw[BR]at this;omega
     refine q r a D S B pe sa st ba cF _ (k6.trans (kGF.trans ur.sm)) A7 (W.same ur) ⟨⟨by omega,by omega,by omega,by omega⟩,nd2,ok2,?_,fun x hx=>?_,fun z hz=>(spG z hz).2.2.1,fun z hz=>⟨(spG z hz).2.2.2.1,(spG z hz).2.2.2.2.1,Nat.le_trans (spG z hz).2.2.2.2.2 (by decide)⟩,fun z hz=>?_,nF,fun z hz=>by rw[nG];exact tF z hz⟩ (LF.same ur) (by omega)
     .rw[nG,nT'];split
      .rename_i e0;rw[e0];exact List.nodup_nil
      .rw[BK];exact N4'.2.1
     .rw[nG,nT']at hx;refine N4'.1 x ?_;rcases AV.mp hx with y | y
      .exact BH y
      .split at y
       .cases y
       .exact CV y
     .obtain⟨z1,z2⟩:=tS z hz;rw[nG,nT'];refine⟨z1,?_⟩;have ne:ts.take n1≠[]:=fun y=>by rw[y]at z1;cases z1
      rw[AU ne];rw[<-BK n1 ts]at z2;exact AV.mp z2
end
theorem Tg{α:Type}{J:It}{ys:List α}{r:α->V}(f:α->V){a D:Addr}{H:Hp}(as:AsSeq J (ys.map r) a H){g:TG}{te:TE}{σ0:St}{Q:St->Hp->Prop}(S:St->Prop)(h0:S σ0)(len:ys.length<=5000)(hD:H D=none)
  (he:∀y∈ys,∀σ G,S σ->Same H G->∀(M:St->VK) (N:St->Hp->Prop),(∀σ' G',S σ'->Same G G'->M σ' (f y) G')->g (r y) σ G fun σ2 H2=>Fr σ2 H2 fun b H3=>if b=true then te σ2 H3 (M σ2)else N σ2 H3)
  (q:∀σ G,Same H G->G D=some (.lst (ys.map f))->Q σ G):Ms g Fr (Gi D te) J σ0 (upd H D (.lst [])) Q:=by
 refine U6 as (fun i σ G=>S σ/\Same H G/\G D=some (.lst ((ys.take i).map f))) ⟨h0,Same.new hD,A7⟩ (fun i σ G _ h=>h.2.1.at a) ?_ ?_
 .rintro i σ G v N hx ⟨hS,sG,eG⟩ hN;rw[AH]at hx;obtain⟨y,hy,rfl⟩:=AR.mp hx;have my:=AL hy;refine he y my σ G hS sG (fun σ2 v H1=>∃ys,H1 D=some (HO.lst ys)/\ys.length<sizeLine/\N σ2 (upd H1 D (HO.lst (ys ++ [v])))) N fun σ' G' hS' s'=>⟨_,s' _ _ eG,?_,hN _ _ ⟨hS',(sG.trans s').upd hD,?_⟩⟩
  .rw[AB,AG,sizeLine_eq];omega
  .rw[A7,D8 hy,A_];rfl
 .rintro σ G ⟨_,sG,eG⟩;rw[AB,CD]at eG;exact q σ G sG eG
theorem Du:∀{more acc:List (Key×V)},((acc++more).map fun k=>k.1).Nodup->Gp acc more=acc++more
 | [],acc,_=>by rw[CA];rfl
 | a::r,acc,h=>by
  have e:Ir acc a.1 a.2=acc ++ [a]:=by
   unfold Ir;rw[AU];intro z;obtain⟨k,hk,ek⟩:=List.any_eq_true.mp z;rw[A_]at h;exact(CZ.mp h).2.2 _ (BA.mpr ⟨k,hk,rfl⟩) _ (BA.mpr ⟨a,BC ..,rfl⟩) (BS ek)
  show Gp (Ir acc a.1 a.2) r=_;rw[e,Du (by rw[BE];exact h),BE];rfl
theorem Bs{α:Type}(f:α->Str)(g:α->V)(xs:List α)(n:Str):Fk (xs.map fun q=>((Sum.inr (f q):Key),g q)) (Sum.inr n) =(xs.find? fun q=>decide (f q=n)).map g:=by
 unfold Fk;rw[List.find?_map];have e:((fun kv:Key×V=>decide (kv.1=Sum.inr n))∘fun q:α=>((Sum.inr (f q):Key),g q))=fun q=>decide (f q=n):=by
  funext q;show decide ((Sum.inr (f q):Key)=Sum.inr n)=_;by_cases h:f q=n
  .rw[h,AI rfl,AI rfl]
  .rw[BD h,BD fun z=>h (Sum.inr.inj z)]
 rw[e];cases xs.find? fun q=>decide (f q=n)<;>rfl
theorem i9{α:Type}{f:α->Str}{g:α->V}{xs:List α}(h:(xs.map f).Nodup):Gp [] (xs.map fun q=>((Sum.inr (f q):Key),g q))=xs.map fun q=>((Sum.inr (f q):Key),g q):=by
 rw[Du]
 .rfl
 .rw[List.nil_append,AS];show(xs.map fun q=>(Sum.inr (f q):Key)).Nodup;have e:(xs.map fun q=>(Sum.inr (f q):Key)) =(xs.map f).map (Sum.inr:Str->Key):=by rw[AS];rfl
  rw[e];exact List.pairwise_map.mpr (h.imp fun h z=>h (Sum.inr.inj z))
theorem K3{α:Type}{f:α->Str}:∀{xs:List α},(xs.map f).Nodup->∀{a b:α},a∈xs->b∈xs->f a=f b->a=b
 | x::r,h,a,b,ha,hb,e=>by
  rw[BQ,CT]at h;rcases AN.mp ha with h1 | h1
  .rcases AN.mp hb with h2 | h2
   .rw[h1,h2]
   .exact absurd (BA.mpr ⟨b,h2,by rw[<-e,h1]⟩) h.1
  .rcases AN.mp hb with h2 | h2
   .exact absurd (BA.mpr ⟨a,h1,by rw[e,h2]⟩) h.1
   .exact K3 h.2 h1 h2 e
def Go(pe:List PEr)(s:Str):Int:=((pe.find? fun q=>decide (q.2.1=s)).map fun q=>q.2.2).getD 0
theorem Oi{pe:List PEr}{ss:List Str}(nd:(nP pe).Nodup)(sub:∀x∈ss,x∈nP pe)(nn:∀q∈pe,0<=q.2.2){m:Int}(hm:m∈(0:Int)::ss.map (Go pe))(hle:∀a∈(0:Int)::ss.map (Go pe),a<=m):grt pe ss=m:=by
 have rk:∀q∈pe,Go pe q.2.1=q.2.2:=fun q hq=>by
  obtain⟨y,e,my,ey⟩:=R1 (f:=fun q:PEr=>q.2.1) (xs:=pe) (n:=q.2.1) (BA.mpr ⟨q,hq,rfl⟩);have:y=q:=K3 (f:=fun q:PEr=>q.2.1) nd my hq ey;unfold Go;rw[e,this];rfl
 have m0:=hle 0 (BC ..);have ge:∀q∈pe,q.2.1∈ss->q.2.2<=grt pe ss:=fun q hq hs=>Ni (BA.mpr ⟨q,EE.mpr ⟨hq,AI hs⟩,rfl⟩);have g0:0<=grt pe ss:=Sa _;have l1:m<=grt pe ss:=by
  rcases AN.mp hm with rfl | h
  .exact g0
  .obtain⟨s,hs,rfl⟩:=BA.mp h;obtain⟨q,hq,rfl⟩:=BA.mp (sub s hs);rw[rk q hq];exact ge q hq hs
 have l2:grt pe ss<=m:=by
  rcases Jz ((pe.filter fun q=>decide (q.2.1∈ss)).map fun q=>q.2.2)with e | e
  .have:grt pe ss=0:=e;omega
  .obtain⟨q,hq,e⟩:=BA.mp e;obtain⟨hq,hs⟩:=EE.mp hq;have:=hle (Go pe q.2.1) (AY _ (BA.mpr ⟨q.2.1,BS hs,rfl⟩));rw[rk q hq]at this;have e:q.2.2=grt pe ss:=e;omega
 omega
section
variable{P:Program}{w:World}{K:PySem.W.Frag}{mg:Str->Option Value}{base:Heap}
theorem O4:FnScope ["_law_rows", "_law_name", "_law_ones", "_law_ranks", "_law_found", "_law_said", "_law_kind", "_law_speakers_here"] ["_law_rows", "_law_name"] (B3 s_law_strength):=fsc
def Nt:Sp:=fun vs H Q _=>∃(r a b c d:Addr) (pe:List PEr) (sa:List SAr) (st:List STr) (ba:List PA2) (n:Str) (v:Int),vs = [.ref r,.str n]/\H r=some (.lst [.ref a,.ref b,.ref c,.ref d])/\WRows H a b c d pe sa st ba/\WOk pe sa st ba/\J2 pe sa st n=some v/\∀H',Same H H'->Q (.int v) H'
set_option maxHeartbeats 4000000 in
theorem O1(T:Tx K mg):FnOk P w K mg base CX0 1 T.am.f T.am.fd ["_law_rows", "_law_name"] Nt:=by
 have sc:=O4;refine T.am.F.ok O4 (fun vs H Q E h=>?_) (fun cdv A outer s H vs Q E hr h=>?_)
 .obtain⟨r,a,b,c,d,pe,sa,st,ba,n,v,rfl,_⟩:=h;rfl
 .obtain⟨r,a,b,c,d,pe,sa,st,ba,n,v,rfl,er,W,ok,ev,q⟩:=h;have hu:=Rs hr;refine⟨_,(B0 (C3 (i:=2) sc.nd rfl (.inl rfl) (t6 Eh T.bm Kc (A6 (Q9 (N':=["_law_row"]) (cap:=[none]) (cl:=[]) (O2 trivial trivial) rfl (piL K (C1 (ixL K) (pv 0) A9 (fun _ _=>rfl))) (fun _ _ _ _=>by exact⟨(pgC 0),E8,(J9 (A6 (C1 (ixT K) (pv 0) A9 (fun _ _=>rfl)) (A6 (C1 (ixT K) (pv 0) A9 (fun _ _=>rfl)) A8)))⟩)) A8)))
   (B0 (C3 (i:=1) sc.nd rfl (.inl rfl) (Ll hu (pv 2) (pv 1) (pv 1) ⟨rfl,rfl,rfl,rfl⟩))
   (B0 (C3 (i:=3) sc.nd rfl (.inr rfl) (t6 Eh T.bm Kc (A6 (C1 (ixL K) (pv 0) A9 (fun _ _=>rfl)) A8)))
   (B0 (C3 (i:=4) sc.nd rfl (.inl rfl) A9)
   (B0 (P4 PassesOwn.never rfl (piL K (C1 (ixL K) (pv 0) A9 (fun _ _=>rfl))) (pgT K (n:=3) (C8 (D7 (i:=5) sc.nd rfl (.inl rfl)) (C8 (D7 (i:=6) sc.nd rfl (.inl rfl)) (C8 (D7 (i:=7) sc.nd rfl (.inl rfl)) P9))))
   (B2 (E7 (C4 Y8 (pv 5) (pv 1) (C7 _)) (B2 (C3 (i:=4) sc.nd rfl (.inl rfl) (D6 M9 (D0 (Pr K) T.bc Kd (A6 (D6 Y4 (D9 (A6 A9 A8)) (Q9 (N':=["_law_speaker", "_law_ranks"]) (cap:=[none,some 3]) (cl:=[("_law_ranks",_)]) (O2 ⟨⟨rfl,rfl,rfl,rfl⟩,trivial⟩ ⟨rfl,trivial⟩) rfl (piL K (pv 7)) (fun _ _ _ _=>by exact⟨(pgC 0),E8,(Nv hu (pv 1) (pv 0) (fun _ _=>rfl))⟩))) A8)) (D6 b7 A9 (t6 Bo T.aZ Ej (A6 (D5 Y8 (pv 6) D4 (C7 _)) A8)))))) C5)))
   (B2 (B9 (pv 4)))))))),?_⟩
  obtain⟨l1,l2,l3,l4⟩:=ok.len;refine B5 fun N1 hN1=>?_;refine ex1 rfl ⟨r,_,B7 rfl rfl ⟨SqL.of er,B6 (j:=2) rfl,c,rfl,⟨_,SqL.of W.ht.at_⟩,fun D hD=>?_⟩⟩;have as1:=asL (K:=K) (SqL.of W.ht.at_);rw[AS]at as1;refine U6 as1 (fun i σ G=>(∃v0,σ = [v0])/\Same H G/\∃ts:List (Addr×STr),G D=some (.lst (ts.map fun q=>V.ref q.1))/\(∀q∈ts,G q.1=some (.tup [.str q.2.2.1,.str q.2.2.2.1]))/\(ts.map fun q=>q.2)=st.take i) ⟨⟨_,rfl⟩,Same.new hD,[],A7,fun q h=>absurd h AX,rfl⟩ (fun i σ G _ h=>h.2.1.at c) ?_ ?_
  .rintro i σ G v N hx ⟨⟨v0,rfl⟩,sG,ts,eG,tG,mG⟩ hN;rw[AH]at hx;obtain⟨y,hy,rfl⟩:=AR.mp hx;have my:=AL hy;have ey:=sG _ _ (W.ht.row (rT y) (BA.mpr ⟨y,my,rfl⟩));have lts:=congrArg List.length mG;rw[AB,AG]at lts;refine Cd ?_;refine ex1 rfl ⟨y.1,_,B7 rfl rfl ⟨SqT.of ey,B6 (j:=0) rfl,ex1 rfl ⟨y.1,_,B7 rfl rfl ⟨SqT.of ey,B6 (j:=1) rfl,by show 2<=sizeLine;decide,fun t ht=>?_⟩⟩⟩⟩;have ut:=Same.new (o:=.tup [.str y.2.1,.str y.2.2.1]) ht;have ntD:t≠D:=(B1 eG ht).symm;refine⟨_,ut _ _ eG,by rw[AB,sizeLine_eq];omega,hN _ _ ⟨⟨_,rfl⟩,(sG.trans ut).upd hD,ts ++ [(t,y)],by rw[A7,A_];rfl,fun z hz=>?_,by rw[A_,mG,D8 hy];rfl⟩⟩;rcases AV.mp hz with z1 | z1
   .exact(B4 (X3 (tG z z1) eG (by intro z;cases z))).trans (ut _ _ (tG z z1))
   .rw[AE.mp z1];exact(B4 ntD).trans A7
  .rintro σ G ⟨_,sG,ts,eG,tG,mG⟩;rw[AB,CD]at mG;have lts:=congrArg List.length mG;rw[AB]at lts;refine⟨D,ts.map fun q=>(q.1,(Sum.inr q.2.2.1:Key),V.str q.2.2.2.1),rfl,by rw[AS];exact eG,fun z hz=>?_,by rw[AB];omega,fun o1 ho1=>?_⟩
   .obtain⟨y,hy,rfl⟩:=BA.mp hz;exact tG y hy
   have em:Gp [] ((ts.map fun q=>(q.1,(Sum.inr q.2.2.1:Key),V.str q.2.2.2.1)).map fun q=>q.2)=st.map fun q=>((Sum.inr q.2.1:Key),V.str q.2.2.1):=by
    rw[AS];have e:(ts.map ((fun q:Addr×Key×V=>q.2)∘fun q:Addr×STr=>(q.1,(Sum.inr q.2.2.1:Key),V.str q.2.2.2.1)))=st.map fun q:STr=>((Sum.inr q.2.1:Key),V.str q.2.2.1):=by rw[<-mG,AS];rfl
    rw[e];exact i9 (f:=fun q:STr=>q.2.1) (CZ.mp ok.sn).2.1
   rw[em];have u1:=Same.new (o:=.dK (st.map fun q:STr=>((Sum.inr q.2.1:Key),V.str q.2.2.1))) ho1;have f1:(upd G o1 (.dK (st.map fun q:STr=>((Sum.inr q.2.1:Key),V.str q.2.2.1)))) o1=some (.dK (st.map fun q:STr=>((Sum.inr q.2.1:Key),V.str q.2.2.1))):=A7;generalize upd G o1 (.dK (st.map fun q:STr=>((Sum.inr q.2.1:Key),V.str q.2.2.1)))=G1 at u1 f1⊢;have s1:=sG.trans u1;refine hN1 _ _ (B5 fun N2 hN2=>?_);obtain⟨m,hm⟩:∃m:Str,m=match K6 st n with | some q=>q.2.2.1 | none=>n:=⟨_,rfl⟩
   have eo:(Fk (st.map fun q:STr=>((Sum.inr q.2.1:Key),V.str q.2.2.1)) (Sum.inr n)).getD (.str n) = .str m:=by
    rw[Bs (fun q:STr=>q.2.1) (fun q=>V.str q.2.2.1),hm];unfold K6;cases st.find? fun q=>decide (q.2.1=n)<;>rfl
   have ev':(U7 sa m).map (fun q=>Gj pe q.2.2.1 q.2.2.2.2)=some v:=by
    rw[hm];unfold J2 at ev;cases e:K6 st n with
    | none=>rw[e]at ev;exact ev
    | some z=>rw[e]at ev;exact ev
   obtain⟨y,ey,evy⟩:=AR.mp ev';have my:y∈sa:=CL ey;have yn:y.2.1=m:=BS (List.find?_some (p:=fun q:SAr=>decide (q.2.1=m)) ey);refine ex1 rfl ⟨o1,rfl,.inl ⟨_,.inl f1⟩,ex1 rfl (ex1 rfl ⟨_,DGet.k (k:=Sum.inr n) f1,?_⟩)⟩;rw[eo];refine hN2 _ _ (B5 fun N3 hN3=>?_);have W1:=W.same s1;refine ex1 rfl ⟨r,_,B7 rfl rfl ⟨SqL.of (s1 _ _ er),B6 (j:=0) rfl,a,pe.map fun q=>(q.1,(Sum.inr q.2.1:Key),V.int q.2.2),rfl,?_,fun z hz=>?_,by rw[AB];omega,fun o2 ho2=>?_⟩⟩
   .rw[AS];have:=W1.hp.at_;rw[AS]at this;exact this
   .obtain⟨y,hy,rfl⟩:=BA.mp hz;exact W1.hp.row (rP y) (BA.mpr ⟨y,hy,rfl⟩)
   have em2:Gp [] ((pe.map fun q=>(q.1,(Sum.inr q.2.1:Key),V.int q.2.2)).map fun q=>q.2)=pe.map fun q:PEr=>((Sum.inr q.2.1:Key),V.int q.2.2):=by
    rw[AS];exact i9 (f:=fun q:PEr=>q.2.1) (g:=fun q:PEr=>V.int q.2.2) ok.pn
   rw[em2];have u2:=Same.new (o:=.dK (pe.map fun q:PEr=>((Sum.inr q.2.1:Key),V.int q.2.2))) ho2;have f2:(upd G1 o2 (.dK (pe.map fun q:PEr=>((Sum.inr q.2.1:Key),V.int q.2.2)))) o2=some (.dK (pe.map fun q:PEr=>((Sum.inr q.2.1:Key),V.int q.2.2))):=A7;generalize upd G1 o2 (.dK (pe.map fun q:PEr=>((Sum.inr q.2.1:Key),V.int q.2.2)))=G2 at u2 f2⊢;have s2:=s1.trans u2;have W2:=W1.same u2;refine hN3 _ _ (B5 fun N4 hN4=>hN4 _ _ (B5 fun N5 hN5=>?_));refine ex1 rfl ⟨r,_,B7 rfl rfl ⟨SqL.of (s2 _ _ er),B6 (j:=1) rfl,b,rfl,⟨_,SqL.of W2.hs.at_⟩,?_⟩⟩;have as2:=asL (K:=K) (SqL.of W2.hs.at_);rw[AS]at as2;refine Y2 as2 (fun i σ F=>(∃f v5 v6 v7,σ = [some (.ref r),some (.str m),some (.ref o1),some (.ref o2),some (.int f),v5,v6,v7]/\∀q∈sa.take i,q.2.1=m->f=Gj pe q.2.2.1 q.2.2.2.2)/\Same G2 F) ?_ ?_ ?_ ?_
   .exact⟨⟨_,_,_,_,rfl,fun q h=>absurd h AX⟩,fun _ _ e=>e⟩
   .rintro i σ F _ ⟨_,sF⟩;exact sF.at b
   .rintro i σ F v hv ⟨⟨f,v5,v6,v7,rfl,hf⟩,sF⟩ D1 hD1 _;rw[AH]at hv;obtain⟨y,hy,rfl⟩:=AR.mp hv;have my:=AL hy;have ey:=sF _ _ (W2.hs.row (rS y) (BA.mpr ⟨y,my,rfl⟩));have esp:=sF _ _ (W2.sp y my);obtain⟨sub,nds,len⟩:=ok.sk y my;refine⟨y.1,ex1 rfl ⟨SqT.of ey,rfl,_,ex1 rfl ⟨_,ex1 rfl (B7 rfl rfl ?_)⟩⟩⟩;refine ex1 rfl (ex1 rfl ⟨rfl,_,rfl,l9 (fun h=>?_) (fun h=>?_)⟩)
    .have e:y.2.1=m:=by
      have:V.str (rS y).2.1=V.str m:=BS h;cases this;rfl
     refine⟨by show 1<=sizeLine;decide,fun z hz=>?_⟩;have uz:=Same.new (o:=.lst [.int 0]) hz;have fz:(upd F z (.lst [.int 0])) z=some (.lst [.int 0]):=A7;generalize upd F z (.lst [.int 0])=F1 at uz fz⊢;refine ex1 rfl ⟨y.2.2.2.1,rfl,⟨_,SqL.of (uz _ _ esp)⟩,fun D2 hD2=>?_⟩;refine Tg (r:=V.str) (fun s:Str=>V.int (Go pe s)) (asL (K:=K) (SqL.of (uz _ _ esp))) (fun σ=>∃v0,σ = [v0,some (.ref o2)]) ⟨_,rfl⟩ (by omega) hD2 ?_ fun σ F2 t2 g2=>?_
     .rintro s' hs' σ F' ⟨v0,rfl⟩ sF' M N hM;dsimp only[Fr,w6];refine U3 ?_;obtain⟨x,ex,_⟩:=R1 (f:=fun q:PEr=>q.2.1) (sub s' hs');have dg:=DGet.k (k:=Sum.inr s') (sF' _ _ (uz _ _ (sF _ _ f2)));have er:Go pe s'=x.2.2:=by unfold Go;rw[ex];rfl
      rw[Bs (fun q:PEr=>q.2.1) (fun q=>V.int q.2.2),ex,Option.map_some,<-er]at dg;exact ex1 rfl (ex1 rfl ⟨o2,_,rfl,dg,hM _ _ ⟨_,rfl⟩ fun _ _ z=>z⟩)
     refine⟨z,D2,_,_,rfl,rfl,t2 _ _ fz,g2,?_,fun p hp=>?_⟩
     .rw[AB,sizeLine_eq];show 1+_<=_;omega
     have up:=Same.new (o:=.lst ([.int 0]++y.2.2.2.2.map fun s=>V.int (Go pe s))) hp;have fp:(upd F2 p (.lst ([.int 0]++y.2.2.2.2.map fun s=>V.int (Go pe s)))) p=some (.lst (((0:Int)::y.2.2.2.2.map (Go pe)).map V.int)):=by
      rw[A7,BQ,AS];rfl
     generalize upd F2 p (.lst ([.int 0]++y.2.2.2.2.map fun s=>V.int (Go pe s)))=F3 at up fp⊢;refine⟨p,_,rfl,SqL.of fp,List.cons_ne_nil _ _,fun M hM hle=>?_⟩;have eM:=Oi ok.pn sub (fun q hq=>(ok.pm q hq).2.1) hM hle;refine ex1 rfl ⟨rfl,.inr ⟨_,rfl,?_⟩⟩;refine B7 rfl rfl ?_;dsimp only;refine⟨.inl ⟨by decide,by decide⟩,?_⟩;refine⟨M,_,rfl,rfl,?_⟩;have ef:∀b:Bool,b=decide (V.str y.2.2.1=V.str "fact")->M+10 *(if b=true then 1 else 0)=Gj pe y.2.2.1 y.2.2.2.2:=fun b hb=>by
      unfold Gj;rw[eM,hb];by_cases h:y.2.2.1 = "fact"
      .rw[h,BB rfl,BB (AI rfl)];rfl
      .rw[AU h,AU fun z=>h (by have:=BS z;exact V.str.inj this)];omega
     have:=hD1 [some (.ref r),some (.str m),some (.ref o1),some (.ref o2),some (.int (Gj pe y.2.2.1 y.2.2.2.2)),some (.str y.2.1),some (.str y.2.2.1),some (.ref y.2.2.2.1)] F3 ⟨⟨_,_,_,_,rfl,fun q hq en=>?_⟩,((sF.trans uz).trans t2).trans up⟩
     .rw[<-ef _ rfl]at this;exact this
     .have mq:q∈sa:=BH hq;rw[K3 (f:=fun q:SAr=>q.2.1) (CZ.mp ok.sn).1 mq my (en.trans e.symm)]
    .have e:¬y.2.1=m:=fun z=>h (AI (by show V.str y.2.1=V.str m;rw[z]));refine hD1 _ _ ⟨⟨_,_,_,_,rfl,fun q hq en=>?_⟩,sF⟩;rw[D8 hy]at hq;rcases AV.mp hq with hq | hq
     .exact hf q hq en
     .rw[AE.mp hq]at en;exact absurd en e
   .rintro σ F ⟨⟨f,v5,v6,v7,rfl,hf⟩,sF⟩;rw[AB,CD]at hf;have:=q F (s2.trans sF);rw[<-evy,<-hf y my yn]at this;exact hN5 _ _ (ex1 rfl this)
theorem b9:FnScope ["_law_rows"] ["_law_rows"] (B3 s_law_live):=fsc
def Lb:Sp:=fun vs H Q _=>∃(r a b c d:Addr) (pe:List PEr) (sa:List SAr) (st:List STr) (ba:List PA2),vs = [.ref r]/\H r=some (.lst [.ref a,.ref b,.ref c,.ref d])/\WRows H a b c d pe sa st ba/\WOk pe sa st ba/\∀(l:Addr) (ms:List Str) H',Same H H'->H l=none->H' l=some (.lst (ms.map V.str))->ms.Perm (nT (Kg pe sa st))->ms.Pairwise leS->Q (.ref l) H'
set_option maxHeartbeats 2000000 in
theorem Cq(T:Tx K mg):FnOk P w K mg base CX0 2 T.aO.f T.aO.fd ["_law_rows"] Lb:=by
 have G_law_strength:=O1 (P:=P) (w:=w) (base:=base) T;have sc:=b9;refine T.aO.F.ok b9 (fun vs H Q E h=>?_) (fun cdv A outer s H vs Q E hr h=>?_)
 .obtain⟨r,a,b,c,d,pe,sa,st,ba,rfl,_⟩:=h;rfl
 .obtain⟨r,a,b,c,d,pe,sa,st,ba,rfl,er,W,ok,q⟩:=h;refine⟨_,(B2 (B9 (D0 (Ev K) T.a8 Ce (A6 (Q9 (N':=["_law_row", "_law_rows"]) (cap:=[none,some 0]) (cl:=[("_law_rows",_)]) (O2 ⟨⟨rfl,rfl,rfl,rfl⟩,trivial⟩ ⟨rfl,trivial⟩) rfl (piL K (C1 (ixL K) (pv 0) A9 (fun _ _=>rfl))) (fun _ _ _ _=>by exact⟨(pgC 0),(x5 (C4 Pj (C0 T.am G_law_strength (Rm hr) (A6 (pv 1) (A6 (C1 (ixT K) (pv 0) A9 (fun _ _=>rfl)) A8))) (C0 T.am G_law_strength (Rm hr) (A6 (pv 1) (A6 (C1 (ixT K) (pv 0) A9 (fun _ _=>rfl)) A8))) (C7 _))),(C1 (ixT K) (pv 0) A9 (fun _ _=>rfl))⟩)) A8)))),?_⟩;obtain⟨l1,l2,l3,l4⟩:=ok.len;refine ex1 rfl ⟨r,_,B7 rfl rfl ⟨SqL.of er,B6 (j:=2) rfl,c,rfl,⟨_,SqL.of W.ht.at_⟩,fun D hD=>?_⟩⟩;have as1:=asL (K:=K) (SqL.of W.ht.at_);rw[AS]at as1;refine Pf (fun q:STr=>V.str q.2.1) (fun q:STr=>decide ((J2 pe sa st q.2.1).getD 0 ≥ (J2 pe sa st q.2.2.2).getD 0)) as1 (fun σ=>∃v0,σ = [v0,some (.ref r)]) ⟨_,rfl⟩ (by omega) hD ?_ fun σ H1 s1 e1=>?_
  .rintro y hy σ G ⟨v0,rfl⟩ sG M N hM hN;have ey:=sG _ _ (W.ht.row (rT y) (BA.mpr ⟨y,hy,rfl⟩));obtain⟨v,hv⟩:=ok.strong (n:=y.2.1) (.inr (BA.mpr ⟨y,hy,rfl⟩));obtain⟨u,hu⟩:=ok.strong (n:=y.2.2.2) (ok.tg y hy).2;refine ex1 rfl (ex1 rfl ⟨y.1,_,B7 rfl rfl ⟨SqT.of ey,B6 (j:=0) rfl,r,a,b,c,d,pe,sa,st,ba,y.2.1,v,rfl,sG _ _ er,W.same sG,ok,hv,fun G1 t1=>?_⟩⟩);refine ex1 rfl (ex1 rfl ⟨y.1,_,B7 rfl rfl ⟨SqT.of (t1 _ _ ey),B6 (j:=2) rfl,r,a,b,c,d,pe,sa,st,ba,y.2.2.2,u,rfl,t1 _ _ (sG _ _ er),(W.same sG).same t1,ok,hu,fun G2 t2=>?_⟩⟩);rw[hv,hu]at hM hN;exact B7 rfl rfl ⟨_,rfl,l9 (fun h=>ex1 rfl ⟨y.1,_,B7 rfl rfl ⟨SqT.of (t2 _ _ (t1 _ _ ey)),B6 (j:=0) rfl,hM _ _ ⟨_,rfl⟩ (t1.trans t2) h⟩⟩) (fun h=>hN _ _ ⟨_,rfl⟩ (t1.trans t2) (DR.mpr h))⟩
  refine⟨D,nT (Kg pe sa st),rfl,SqL.of (by rw[e1];unfold nT Kg;rw[AS];rfl),fun l ms hl pm sr=>?_⟩;exact q l ms _ (s1.trans (Same.new hl)) (none_of s1.sm AX hl) A7 pm sr
theorem Z9:FnScope ["_law_found", "_law_due"] ["_law_found", "_law_due"] (B3 s_law_same):=fsc
def Ha:Sp:=fun _ _ _ _=>False
theorem Oa{f:Addr}{fd:FuncData}{ps:List Str}:FnOk P w K mg base CX0 0 f fd ps Ha:=⟨fun _ _ _ _ h=>h.elim,fun _ _ _ _ _ _ _ _ _ _ _ _ _ h=>h.elim⟩
def Do(S:Sp):Sp:=fun vs H Q _=>(∃a:Str,vs = [.str a,.str a]/\PySem.PyData.strOk a=true/\∀H',Same H H'->Q (.bl true) H')\/(∃v:V,vs = [v,v]/\(v = .non\/∃i,v = .int i)/\∀H',Same H H'->Q (.bl true) H') \/
 ∃(l m:Addr) (b:Bool) (xs ys:List V),vs = [.ref l,.ref m]/\H l=some (LT b xs)/\H m=some (LT b ys)/\xs.length=ys.length/\xs.length<=200 /\
  (∀(i:Nat) (x y:V) (H':Hp) (Q':VK) (E:XK),xs[i]?=some x->ys[i]?=some y->Same H H'->(∀H'',Same H' H''->Q' (.bl true) H'')->S [x,y] H' Q' E)/\∀H',Same H H'->Q (.bl true) H'
theorem V3(T:Tx K mg){n:Nat}{S:Sp}(G_law_same:FnOk P w K mg base CX0 n T.ag.f T.ag.fd ["_law_found", "_law_due"] S):FnOk P w K mg base CX0 (n+1) T.ag.f T.ag.fd ["_law_found", "_law_due"] (Do S):=by
 have sc:=Z9;refine T.ag.F.ok Z9 (fun vs H Q E h=>?_) (fun cdv A outer s H vs Q E hr h=>?_)
 .rcases h with⟨a,rfl,_⟩ | ⟨v,rfl,_⟩ | ⟨l,m,b,xs,ys,rfl,_⟩
  .rfl
  .rfl
  .rfl
 .refine⟨_,(B0 (E7 (F6 (D0 (Ec K) T.ab B8 (A6 (pv 1) (A6 (J9 (A6 (J4 T.aB K9) (A6 (J4 T.aL Q5) A8))) A8)))) (B0 (E7 (PW.pt (Bf (C4 Ls (D0 (E2 K) T.ab B8 (A6 (pv 0) (A6 (J4 T.aB K9) A8))) (D0 (E2 K) T.ab B8 (A6 (pv 1) (A6 (J4 T.aB K9) A8))) (C7 _)) (a7 (C4 Ls (D0 (E2 K) T.ab B8 (A6 (pv 0) (A6 (J4 T.aL Q5) A8))) (D0 (E2 K) T.ab B8 (A6 (pv 1) (A6 (J4 T.aL Q5) A8))) (C7 _))))) (B2 (B9 Ad)) C5)
   (B2 (B9 (F4 (D5 Y8 (D0 (J5 K) T.aj G8 (A6 (pv 0) A8)) (D0 (J5 K) T.aj G8 (A6 (pv 1) A8)) (C7 _)) (J0 (D0 (Jw K) T.bd Ig (A6 (Q9 (N':=["_law_one", "_law_other"]) (cap:=[none,none]) (cl:=[]) (O2 trivial trivial) rfl (Vk K T.bI (A6 (pv 0) (A6 (pv 1) A8))) (fun _ _ _ _=>by exact⟨(pgT K (n:=2) (C8 (pgC 0) (C8 (pgC 1) P9))),E8,(C0 T.ag G_law_same (hr.mono (Nat.le_refl _)) (A6 (pv 0) (A6 (pv 1) A8)))⟩)) A8))))))) C5)
   (B0 (E7 (PW.pt (Bf (C4 Dw (pv 1) X2 (C7 _)) (a7 (F6 (D0 (E2 K) T.ab B8 (A6 (pv 1) (A6 (J4 T.a0 Et) A8))))))) (B2 (B9 (F4 (D5 (Nm K hr.units) (pv 0) (pv 1) (C7 _)) (J0 (D5 Y8 (D0 (E2 K) T.ab B8 (A6 (pv 0) (A6 (J4 T.a0 Et) A8))) (D0 (E2 K) T.ab B8 (A6 (pv 1) (A6 (J4 T.a0 Et) A8))) (C7 _)))))) C5)
   (B0 (E7 (F6 (D0 (E2 K) T.ab B8 (A6 (pv 1) (A6 (J4 T.aV y9) A8)))) (B2 (B9 (F4 (D0 (E2 K) T.ab B8 (A6 (pv 0) (A6 (J4 T.aV y9) A8))) (J0 (D5 (Nm K hr.units) (pv 0) (pv 1) (C7 _)))))) C5)
   (B2 (B9 (F4 (D0 (E2 K) T.ab B8 (A6 (pv 0) (A6 (J4 T.aZ Ej) A8))) (F4 (Mh (D0 (E2 K) T.ab B8 (A6 (pv 0) (A6 (J4 T.aV y9) A8)))) (J0 (D5 (Nm K hr.units) (pv 0) (pv 1) (C7 _)))))))))),?_⟩
  rcases h with⟨b,rfl,ob,q⟩ | ⟨v,rfl,hv,q⟩ | ⟨l,m,b,xs,ys,rfl,hl,hm,el,len,hS,q⟩
  .refine ex1 rfl ⟨by show 2<=sizeLine;decide,fun t ht=>?_⟩;have s1:=Same.new (o:=.tup [.ty "list",.ty "tuple"]) ht;refine .inl ⟨.str b,t,["list", "tuple"],_,false,rfl,A7,.str b,.inl ⟨b,rfl⟩,rfl,?_⟩;generalize upd H t (.tup [.ty "list",.ty "tuple"])=H1 at s1⊢;refine ex1 rfl (R0 ?_);refine ex1 rfl ⟨rfl,ex1 rfl (R0 ?_)⟩;refine ex1 rfl ⟨.str b, "str",_,true,rfl,.str b,rfl,ex1 rfl (U3 ?_)⟩;refine ex1 rfl (ex1 rfl (Kr ob ⟨_,rfl,U3 ?_⟩));refine ex1 rfl ⟨.str b, "str",_,true,rfl,.str b,rfl,ex1 rfl ⟨.str b, "str",_,true,rfl,.str b,rfl,?_⟩⟩;exact⟨rfl,q _ s1⟩
  .refine ex1 rfl ⟨by show 2<=sizeLine;decide,fun t ht=>?_⟩;have s1:=Same.new (o:=.tup [.ty "list",.ty "tuple"]) ht;have t1:(upd H t (.tup [.ty "list",.ty "tuple"])) t=some (.tup (["list", "tuple"].map V.ty)):=A7;generalize upd H t (.tup [.ty "list",.ty "tuple"])=H1 at s1 t1⊢;rcases hv with rfl | ⟨i,rfl⟩
   .refine .inr ⟨.non,t,["list", "tuple"],false,_,rfl,t1,.inl ⟨rfl,rfl⟩,rfl,?_⟩;refine ex1 rfl (R0 ?_);refine ex1 rfl ⟨rfl,ex1 rfl (U3 ?_)⟩;refine ex1 rfl (ex1 rfl (Eu (d:=.none) (by simp only[Rp]) rfl (by rw[PyData.depth];decide) ⟨_,rfl,U3 ?_⟩));refine ex1 rfl ⟨.non, "str",_,false,rfl,.non,rfl,ex1 rfl ⟨.non, "str",_,false,rfl,.non,rfl,?_⟩⟩;exact⟨rfl,q _ s1⟩
   .refine .inr ⟨.int i,t,["list", "tuple"],false,_,rfl,t1,.inr ⟨i,rfl,rfl⟩,rfl,?_⟩;refine ex1 rfl (R0 ?_);refine ex1 rfl ⟨rfl,ex1 rfl (R0 ?_)⟩;refine ex1 rfl ⟨.int i, "str",_,false,rfl,.int i,rfl,ex1 rfl (R0 ?_)⟩;refine ex1 rfl ⟨.int i, "bool",_,false,rfl,.int i,rfl,ex1 rfl (R0 ?_)⟩;refine ex1 rfl ⟨.int i, "int",_,true,rfl,.int i,rfl,ex1 rfl (U3 ?_)⟩;refine ex1 rfl ⟨.int i, "bool",_,false,rfl,.int i,rfl,ex1 rfl (ex1 rfl (U3 ?_))⟩;exact ex1 rfl (ex1 rfl (Eu (d:=.int i) (by simp only[Rp]) rfl (by rw[PyData.depth];decide) (q _ s1)))
  .refine ex1 rfl ⟨by show 2<=sizeLine;decide,fun t ht=>?_⟩;have s1:=Same.new (o:=.tup [.ty "list",.ty "tuple"]) ht;have l1:=s1 _ _ hl;have m1:=s1 _ _ hm;refine .inl ⟨.ref m,t,["list", "tuple"],_,true,rfl,A7,Fv m1,.inr ⟨m,_,rfl,Ou m1⟩,Sf b,?_⟩;generalize upd H t (.tup [.ty "list",.ty "tuple"])=H1 at s1 l1 m1⊢;refine ex1 rfl (U3 ?_);refine ex1 rfl ⟨.ref l, "list",_,b,rfl,Fv l1,So b,ex1 rfl ⟨.ref m, "list",_,b,rfl,Fv m1,So b,rfl,?_⟩⟩;refine⟨false,congrArg V.bl (Rr b),R0 ?_⟩;refine ex1 rfl ⟨.ref l, "tuple",_,_,rfl,Fv l1,Sj b,ex1 rfl ⟨.ref m, "tuple",_,_,rfl,Fv m1,Sj b,rfl,?_⟩⟩;refine⟨false,congrArg V.bl (Rr !b),R0 ?_⟩;refine ex1 rfl (B7 (a:=l) rfl (Mq l1) (ex1 rfl (B7 (a:=m) rfl (Mq m1) ⟨rfl,ex1 rfl ?_⟩)));refine l9 (fun _=>?_) (fun h=>absurd (AI (congrArg (fun k:Nat=>V.int k) el)) h);refine ex1 rfl (ex1 rfl ⟨l,m,xs,ys,?_⟩);refine⟨rfl,Qd l1 m1 fun D hD=>?_⟩;refine Bu (n:=xs.length) (fun i σ H2=>(∃v0 v1,σ = [v0,v1])/\Same H1 H2/\H2 D=some (.lst ((List.replicate i true).map V.bl))) ⟨⟨_,_,rfl⟩,Same.new hD,A7⟩ ?_ ?_ ?_ ?_
   .rintro i σ H2 hi ⟨_,s2,_⟩;exact⟨_,_,_,_,Gb (s2 _ _ l1),Gb (s2 _ _ m1),Nat.le_of_eq el,AJ hi,AJ (el▸hi)⟩
   .rintro σ H2 ⟨_,s2,_⟩;exact⟨_,_,Gb (s2 _ _ l1),Gb (s2 _ _ m1),Nat.le_of_eq el,rfl⟩
   .rintro i σ H2 x H3 N hi ⟨⟨v0,v1,rfl⟩,s2,e2⟩ ⟨u,x,y,rfl,hu,rfl,hx,hy⟩ hN;have s3:=Same.new (o:=.tup [x,y]) hu;refine⟨u,ex1 rfl ⟨SqT.of A7,rfl,_,ex1 rfl (B7 rfl rfl ?_)⟩⟩;refine ex1 rfl (ex1 rfl (hS i x y _ _ _ (hx _ (Gb (s2 _ _ l1))) (hy _ (Gb (s2 _ _ m1))) ((s1.trans s2).trans s3) fun H4 s4=>?_));refine⟨_,s4 _ _ (s3 _ _ e2),by rw[AB,List.length_replicate,sizeLine_eq];omega,hN _ _ ⟨⟨_,_,rfl⟩,((s2.trans s3).trans s4).upd hD,?_⟩⟩;rw[A7,List.replicate_succ',A_];rfl
   .rintro σ H2 ⟨_,s2,e2⟩;have e:(List.replicate xs.length true).all id=true:=DM.mpr fun x hx=>(List.mem_replicate.mp hx).2;have q':Q (.bl ((List.replicate xs.length true).all id)) H2:=e.symm▸q _ (s1.trans s2);exact⟨D,_,rfl,SqL.of e2,q'⟩
end
theorem Mz{K:PySem.W.Frag}{H G:Hp}{u p:Addr}{xs:List V}{ls:List (Pos×Str)}(h:SqL K H u xs)(t:X4 H p ls)(k:Sm [p] H G):SqL K G u xs:=by
 obtain⟨ps,e,_⟩:=t;have kk:∀{o:HO},H u=some o->o≠ .tbl ps->G u=some o:=fun hz n=>k _ _ hz fun y=>by rw[AE.mp y,e]at hz;cases hz;exact n rfl
 rcases h with(h | ⟨o,h⟩) | h
 .exact .inl (.inl (kk h (by intro z;cases z)))
 .exact .inl (.inr ⟨o,kk h (by intro z;cases z)⟩)
 .exact .inr h
theorem Mm{sa sa':List SAr}(d:sa'.map dS=sa.map dS){q:SAr}(h:q∈sa'):∃q0∈sa,dS q0=dS q:=by
 have:dS q∈sa'.map dS:=BA.mpr ⟨q,h,rfl⟩;rw[d]at this;exact BA.mp this
theorem WOk.of_dS{pe:List PEr}{sa sa':List SAr}{st:List STr}{ba:List PA2}(h:WOk pe sa st ba)(d:sa'.map dS=sa.map dS):WOk pe sa' st ba:=by
 have e:nS sa'=nS sa:=by
  have:=congrArg (List.map fun q:Str×Str×List Str=>q.1) d;rw[AS,AS]at this;exact this
 have l:sa'.length=sa.length:=by
  have:=congrArg List.length d
  rwa [AB,AB]at this
 refine⟨by rw[l];exact h.len,h.pn,h.pm,by rw[e];exact h.sn,by rw[e];exact h.nm,fun q hq=>?_,fun q hq=>?_,by rw[e];exact h.tg,h.bn,by rw[e];exact h.bk⟩
 .obtain⟨q0,h0,e0⟩:=Mm d hq;have:=h.kd q0 h0;have e1:q0.2.2.1=q.2.2.1:=congrArg (fun z:Str×Str×List Str=>z.2.1) e0
  rwa [e1]at this
 .obtain⟨q0,h0,e0⟩:=Mm d hq;have:=h.sk q0 h0;have e1:q0.2.2.2.2=q.2.2.2.2:=congrArg (fun z:Str×Str×List Str=>z.2.2) e0
  rwa [e1]at this
theorem Ml(pe:List PEr)(sa:List SAr)(m:Str):((U7 sa m).map fun q=>Gj pe q.2.2.1 q.2.2.2.2) =((sa.map dS).find? fun d=>decide (d.1=m)).map fun d=>Gj pe d.2.1 d.2.2:=by
 unfold U7;rw[List.find?_map];have e:((fun d:Str×Str×List Str=>decide (d.1=m))∘dS)=fun q:SAr=>decide (q.2.1=m):=rfl;rw[e];cases sa.find? fun q:SAr=>decide (q.2.1=m)<;>rfl
theorem Mu{pe:List PEr}{sa sa':List SAr}{st:List STr}(d:sa'.map dS=sa.map dS)(n:Str):J2 pe sa' st n=J2 pe sa st n:=by
 unfold J2;rw[Ml,Ml,d]
theorem Ob{pe:List PEr}{sa sa':List SAr}{st:List STr}(d:sa'.map dS=sa.map dS):Kg pe sa' st=Kg pe sa st:=by
 unfold Kg;simp only[Mu d]
theorem Rc{x y:Str}(h:x.cps.toList=y.cps.toList):x=y:=by
 cases x;cases y;exact congrArg Str.mk (Array.toList_inj.mp h)
theorem Ly{x y:Str}(h1:leS x y)(h2:leS y x):x=y:=Rc (List.le_antisymm (as:=x.cps.toList) (bs:=y.cps.toList) h1 h2)
theorem Fy{a b:List Str}(h1:a.Pairwise leS)(h2:b.Pairwise leS)(h:a.Perm b):a=b:=List.Perm.eq_of_pairwise (fun _ _ _ _=>Ly) h1 h2 h
abbrev noNames:List Str:=["", "nobody", "zzzzzzzz"]
theorem Sn{k:Str×Str}(h1:PySem.PyData.strOk k.1=true)(h2:PySem.PyData.strOk k.2=true):Pl (pd k):=by
 refine⟨?_,?_⟩
 .unfold pd;simp[PyData.canLay0,PyData.canLayAll0,h1,h2]
 .unfold pd;simp[PyData.depth,PyData.depthAll]
theorem Am{α:Type}{f:α->Str}{xs:List α}{n:Str}(h:n∉xs.map f):xs.find? (fun q=>decide (f q=n))=none :=
 List.find?_eq_none.mpr fun q hq z=>h (BA.mpr ⟨q,hq,BS z⟩)
section
variable{P:Program}{w:World}{K:PySem.W.Frag}{mg:Str->Option Value}{base:Heap}
theorem Mn:FnScope ["_law_script", "_law_k", "_law_left_here", "_law_rows", "_law_weave", "_law_known", "_law_name", "_law_turn", "_law_found"] ["_law_script"] (B3 s_law):=fsc
def Ex(K:PySem.W.Frag)(pt:Addr):Sp:=fun vs H Q _=>∃(u:Addr) (xs:List Int),vs = [.ref u]/\SqL K H u (xs.map V.int)/\xs.length<=63/\X4 H pt Q3/\∀H',Q (.bl true) H'
set_option maxHeartbeats 8000000 in
theorem Sr(T:Tx K mg)(hB:base.BuiltinsAt mg T.ad){f:Addr}{fd:FuncData}(F:Fun K "law" "law" s_law f fd):FnOk P w K mg base CX0 9 f fd ["_law_script"] (Ex K T.ad):=by
 have G_law_left:=Dr (P:=P) (w:=w) (base:=base) T;have G_law_weave_rows:=S7 (P:=P) (w:=w) (base:=base) T;have G_strength:=g6 (P:=P) (w:=w) (base:=base) T;have G_law_strength:=O1 (P:=P) (w:=w) (base:=base) T;have G_law_asked:=Av (P:=P) (w:=w) (base:=base) T;have G_counting:=Dq (P:=P) (w:=w) (base:=base) T;have G_law_live:=Cq (P:=P) (w:=w) (base:=base) T;have G_law_same:FnOk P w K mg base CX0 2 T.ag.f T.ag.fd ["_law_found", "_law_due"] (Do (Do Ha)):=V3 T (V3 T Oa);have G_Weave___init__:=t8 (P:=P) (w:=w) T hB;have sc:=Mn;refine F.ok Mn (fun vs H Q E h=>?_) (fun cdv A outer s H vs Q E hr h=>?_)
 .obtain⟨u,xs,rfl,_⟩:=h;rfl
 .obtain⟨u,xs,rfl,hS,hlen,hT,q⟩:=h;refine⟨_,(B0 (P4 PassesOwn.never rfl (Pu T.aD (A6 (D6 M9 (D0 (Jp rfl) T.bJ Qe (A6 A9 (A6 (D0 (J5 K) T.aj G8 (A6 (pv 0) A8)) A8))) A9) A8)) (D7 (i:=1) sc.nd rfl (.inl rfl))
   (B0 (C3 (i:=2) sc.nd rfl (.inl rfl) (C0 T.aN G_law_left (Rm hr) (A6 (pv 0) (A6 (pv 1) A8))))
   (B0 (Fc (D6 M9 (C1 (ixL K) (pv 2) A9 (fun _ _=>rfl)) A9) (Ji (pv 2) A9 y8))
   (B0 (C3 (i:=3) sc.nd rfl (.inl rfl) (C0 T.aq G_law_weave_rows (Rm hr) (A6 (pv 2) (A6 A9 A8))))
   (B0 (C3 (i:=4) sc.nd rfl (.inl rfl) (Ov T.bF G_Weave___init__ (Rm hr) rfl T.bE T.bb .nil Oc (A6 (C1 (ixL K) (pv 3) A9 (fun _ _=>rfl)) (A6 (C1 (ixL K) (pv 3) A9 (fun _ _=>rfl)) (A6 (C1 (ixL K) (pv 3) A9 (fun _ _=>rfl)) (A6 (C1 (ixL K) (pv 3) A9 (fun _ _=>rfl)) A8))))))
   (B0 (Ae (i:=5) (N':=["_law_row"]) (cap:=[none]) (cl:=[]) sc.nd rfl (.inl rfl) (O2 trivial trivial) rfl (piL K (D6 Y4 (C1 (ixL K) (pv 3) A9 (fun _ _=>rfl)) (C1 (ixL K) (pv 3) A9 (fun _ _=>rfl)))) (fun _ _ _ _=>by exact⟨(pgC 0),E8,(C1 (ixT K) (pv 0) A9 (fun _ _=>rfl))⟩))
   (B0 (P4 PassesOwn.never rfl (piL K (pv 5)) (D7 (i:=6) sc.nd rfl (.inl rfl))
   (B2 (E7 (K7 (F6 (C0 T.ag G_law_same (Rm hr) (A6 (C0 T.af G_strength (Rm hr) (A6 (pv 4) (A6 (pv 6) A8))) (A6 (C0 T.am G_law_strength (Rm hr) (A6 (pv 3) (A6 (pv 6) A8))) A8))))) (B2 (B9 Ad)) C5)))
   (B0 (P4 PassesOwn.never rfl (piL K (D6 Y4 (Q9 (N':=["_law_row"]) (cap:=[none]) (cl:=[]) (O2 trivial trivial) rfl (piL K (C1 (ixL K) (pv 3) A9 (fun _ _=>rfl))) (fun _ _ _ _=>by exact⟨(pgC 0),E8,(C1 (ixT K) (pv 0) A9 (fun _ _=>rfl))⟩)) (D9 (A6 D4 (A6 D4 (A6 D4 A8)))))) (D7 (i:=6) sc.nd rfl (.inl rfl))
   (B2 (E7 (PW.pt (Ij (C4 (Dt K) (pv 6) (pv 5) rfl) (Ck (C4 (Rv K hr.units) (C0 T.aJ G_law_asked (Rm hr) (A6 (f8 T.af.m) (A6 (pv 4) (A6 (pv 6) A8)))) (J9 (A6 D4 (A6 D4 A8))) (C7 _))))) (B2 (B9 Ad)) C5)))
   (B2 (P4 PassesOwn.never rfl (Pu T.aD (A6 A9 A8)) (D7 (i:=7) sc.nd rfl (.inl rfl))
   (B0 (C3 (i:=8) sc.nd rfl (.inl rfl) (C0 T.aM G_counting (Rm hr) (A6 (pv 4) A8)))
   (B0 (E7 (K7 (F6 (C0 T.ag G_law_same (Rm hr) (A6 (pv 8) (A6 (C0 T.aO G_law_live (Rm hr) (A6 (pv 3) A8)) A8))))) (B2 (B9 Ad)) C5)
   (B2 (K4 (Me K PySem.F.plainAttrs_list PySem.F.slot_list_append PySem.F.type_list_append M8 (pv 8) (A6 D4 A8))))))))))))))))
   (B2 (B9 Ad))),?_⟩
  refine B5 fun N0 hN0=>?_;refine⟨_,rfl,u,_,rfl,.inl hS,_,_,rfl,?_⟩;have hz:∀l:Int,0<=l->∃z:Nat,(if l <(10:Int)then l else 10)+1 =(z:Int)/\z<=11:=fun l h0=>by
   by_cases h1:l <(10:Int)
   .rw[BB h1];exact⟨l.toNat+1,by omega,by omega⟩
   .rw[AU h1];exact⟨11,by decide,by decide⟩
  obtain⟨z,ez,hz⟩:=hz ((xs.map V.int).length:Int) (by omega);refine B7 rfl rfl (ex1 (a:=(z:Int)) (congrArg (fun t=>[V.int t]) ez) ⟨by omega,by omega,?_⟩);rw[EJ];refine P0 (fun i σ G=>(∃v1 v2 v3 v4 v5 v6 v7 v8,σ = [some (.ref u),v1,v2,v3,v4,v5,v6,v7,v8])/\Sm [T.ad] H G/\X4 G T.ad Q3) ?_ ?_ ?_
  .exact⟨⟨_,_,_,_,_,_,_,_,rfl⟩,Sm.refl _ _,hT⟩
  .rintro i σ F0 hi ⟨⟨v1,v2,v3,v4,v5,v6,v7,v8,rfl⟩,kF,TF⟩ D1 hD1 _;rw[Int.zero_add];refine Ny fun M1 hM1=>?_;refine ex1 rfl (ex1 rfl ⟨u,xs,i,rfl,Mz hS hT kF,by omega,fun p H1 hp s1 L1=>?_⟩);refine hM1 _ _ (B5 fun M2 hM2=>?_);obtain⟨la0,lb0,e1,_⟩:=L1;refine ex1 rfl ⟨p,_,B7 rfl rfl ⟨SqL.of e1,rfl,_,_,rfl,rfl,ex1 rfl ⟨p,_,_,1,rfl,rfl,e1,rfl,?_⟩⟩⟩;have s2:Same F0 (upd H1 p (.lst (List.set [V.int la0,V.int lb0,V.int 0] 1 (V.int (lb0+200))))):=s1.upd hp;have L2:LeftAt (upd H1 p (.lst (List.set [V.int la0,V.int lb0,V.int 0] 1 (V.int (lb0+200))))) p 0:=⟨la0,lb0+200,A7,Int.le_refl _⟩;have hp0:F0 p=none:=hp;generalize upd H1 p (.lst (List.set [V.int la0,V.int lb0,V.int 0] 1 (V.int (lb0+200))))=H2 at s2 L2⊢;refine hM2 _ _ (B5 fun M3 hM3=>?_);refine ex1 rfl ⟨p,0,rfl,L2,by omega,fun r a b g d pe sa st ba c' H3 k3 er W3 ok L3 hc3=>?_⟩;have s3:Same F0 H3:=fun b o e=>k3 b o (s2 b o e) (by simpa using B1 e hp0);clear L3 hc3 k3 s2 L2 e1 s1 hp;refine hM3 _ _ (B5 fun M4 hM4=>?_);refine ex1 rfl ⟨r,_,B7 rfl rfl ⟨SqL.of er,B6 (j:=0) rfl,ex1 rfl ⟨r,_,B7 rfl rfl ⟨SqL.of er,B6 (j:=1) rfl,ex1 rfl ⟨r,_,B7 rfl rfl ⟨SqL.of er,B6 (j:=2) rfl,ex1 rfl ⟨r,_,B7 rfl rfl ⟨SqL.of er,B6 (j:=3) rfl,?_⟩⟩⟩⟩⟩⟩⟩⟩;intro x dx nx ndx nex;have s0:Same H3 (upd (upd H3 dx (.own x)) x (.ins T.aa dx [])):=fun b o e=>by
    rw[B4 (B1 e nx),B4 (B1 e ndx)];exact e
   have TG:=E1 TF s3;refine⟨x,dx,a,b,g,d,pe,sa,st,ba,rfl,A7,W3.same s0,ok,E1 TG s0,fun sa2 H6 k6 T6 d6 W6=>⟨rfl,?_⟩⟩;have k46:∀z o,H3 z=some o->z≠T.ad->H6 z=some o:=fun z o e n=>k6 z o (s0 _ _ e) fun y=>by
    rcases AN.mp y with y | y
    .rw[y,nx]at e;cases e
    .exact n (AE.mp y)
   have S6:Sm [T.ad] F0 H6:=fun z o e n=>k46 z o (s3 _ _ e) fun y=>n (AE.mpr y);have V6:=W3.keep TG k46;have er6:H6 r=some (.lst [.ref a,.ref b,.ref g,.ref d]):=k46 _ _ er fun y=>by
    obtain⟨ps,e',_⟩:=TG;rw[y,e']at er;cases er
   have W6:=W6.at_;have ok6:=ok.of_dS d6;clear k46 k6 s0 TG W3 er s3 nx ndx nex;have nn:∀q∈pe,0<=q.2.2:=fun q hq=>(ok.pm q hq).2.1;obtain⟨l1,l2,l3,l4⟩:=ok.len;have l2':=ok6.len.2.1;refine hM4 _ _ (B5 fun M5 hM5=>?_);refine ex1 rfl ⟨r,_,B7 rfl rfl ⟨SqL.of er6,B6 (j:=1) rfl,ex1 rfl ⟨r,_,B7 rfl rfl ⟨SqL.of er6,B6 (j:=2) rfl,b,g,_,_,rfl,rfl,V6.hs.at_,V6.ht.at_,by rw[AB,AB,AB,AB,sizeLine_eq];omega,fun z hz=>?_⟩⟩⟩⟩;have uz:=Same.new (o:=.lst (((sa.map rS).map fun q=>V.ref q.1) ++(st.map rT).map fun q=>V.ref q.1)) hz;have fz:(upd H6 z (.lst (((sa.map rS).map fun q=>V.ref q.1) ++(st.map rT).map fun q=>V.ref q.1))) z=some (.lst ((sa.map rS++st.map rT).map fun q=>V.ref q.1)):=by rw[A7,A_]
   generalize upd H6 z (.lst (((sa.map rS).map fun q=>V.ref q.1) ++(st.map rT).map fun q=>V.ref q.1))=H7 at uz fz⊢;have Rz:RowsAt H7 z (sa.map rS++st.map rT):=⟨fz,fun q hq=>(AV.mp hq).elim (fun h=>uz _ _ (V6.hs.row q h)) fun h=>uz _ _ (V6.ht.row q h)⟩;refine⟨z,rfl,⟨_,SqL.of fz⟩,fun D hD=>?_⟩;refine Gk (r:=fun q:RW=>V.ref q.1) (fun q=>V.str q.2.1) (asL (SqL.of fz)) (fun _=>true) (by rw[BF,AB,AB];omega) hD (fun y my G sG M hM=>hM G fun b o e=>e) (fun y my G sG M hM=>?_) fun σ' H8 s8 e8=>?_
   .exact ex1 rfl ⟨y.1,_,B7 rfl rfl ⟨SqT.of (sG _ _ (Rz.row y my)),B6 (j:=0) rfl,hM G fun b o e=>e⟩⟩
   have e8:H8 D=some (.lst ((nS sa++nT st).map V.str)):=by
    rw[e8,DI.mpr fun _ _=>rfl,A_,A_,AS,AS];unfold nS nT;rw[AS,AS];rfl
   have s68:=uz.trans s8;have W8:=W6.same s68;have V8:=V6.same s68;have er8:=s68 _ _ er6;have T8:=E1 T6 s68;have S8:Sm [T.ad] F0 H8:=S6.trans s68.sm;clear s68 s8 uz fz Rz hD W6 V6 er6 T6 S6;refine hM5 _ _ (B5 fun M6 hM6=>?_);refine ex1 rfl ⟨D,rfl,⟨_,SqL.of e8⟩,Y2 (asL (SqL.of e8)) (fun i' σ G=>(∃v6 v7 v8,σ = [some (.ref u),some (.int (i:Int)),some (.ref p),some (.ref r),some (.ref x),some (.ref D),v6,v7,v8])/\Same H8 G) ?_ ?_ ?_ ?_⟩
   .exact⟨⟨_,_,_,rfl⟩,fun _ _ e=>e⟩
   .rintro i' σ G _ ⟨_,sG⟩;exact sG.at D
   .rintro i' σ G v hv ⟨⟨v6,v7,v8,rfl⟩,sG⟩ D2 hD2 _;rw[AH]at hv;obtain⟨n,hn,rfl⟩:=AR.mp hv;have mn:=AV.mp (AL hn);obtain⟨v,hv⟩:=ok.strong mn;have hv2:=(Mu d6 n).trans hv;exact ex1 rfl (ex1 rfl ⟨x,pe,sa2,st,ba,n,v,rfl,W8.same sG,⟨l1,l2',l3⟩,nn,hv2,fun G1 t1=>ex1 rfl (ex1 rfl ⟨r,a,b,g,d,pe,sa,st,ba,n,v,rfl,t1 _ _ (sG _ _ er8),(V8.same sG).same t1,ok,hv,fun G2 t2=>.inr (.inl ⟨.int v,rfl,.inr ⟨_,rfl⟩,fun G3 t3=>⟨_,rfl,R0 (hD2 _ _ ⟨⟨_,_,_,rfl⟩,((sG.trans t1).trans t2).trans t3⟩)⟩⟩)⟩)⟩)
   .rintro σ G ⟨⟨v6,v7,v8,rfl⟩,sG⟩;have W9:=W8.same sG;have V9:=V8.same sG;have er9:=sG _ _ er8;have e9:=sG _ _ e8;have T9:=E1 T8 sG;have S9:Sm [T.ad] F0 G:=S8.trans sG.sm;clear W8 V8 er8 e8 T8 S8 sG;refine hM6 _ _ (B5 fun M7 hM7=>?_);refine ex1 rfl ⟨r,_,B7 rfl rfl ⟨SqL.of er9,B6 (j:=0) rfl,a,rfl,⟨_,SqL.of V9.hp.at_⟩,fun E hE=>?_⟩⟩;refine Gk (r:=fun q:RW=>V.ref q.1) (fun q=>V.str q.2.1) (asL (SqL.of V9.hp.at_)) (fun _=>true) (by rw[AB];omega) hE (fun y my G sG M hM=>hM G fun b o e=>e) (fun y my G sG M hM=>?_) fun σ' HA sA eA=>?_
    .exact ex1 rfl ⟨y.1,_,B7 rfl rfl ⟨SqT.of (sG _ _ (V9.hp.row y my)),B6 (j:=0) rfl,hM G fun b o e=>e⟩⟩
    have eA:HA E=some (.lst ((nP pe).map V.str)):=by
     rw[eA,DI.mpr fun _ _=>rfl,AS];unfold nP;rw[AS];rfl
    refine⟨by show 3<=sizeLine;decide,fun y hy=>?_⟩;have uy:=Same.new (o:=.lst [.str (Str.ofString ""),.str (Str.ofString "nobody"),.str (Str.ofString "zzzzzzzz")]) hy;refine⟨E,y,_,_,rfl,rfl,uy _ _ eA,A7,by rw[AB,sizeLine_eq];unfold nP;rw[AB];show _+3<=_;omega,fun c hc=>?_⟩;have uc:=Same.new (o:=.lst ((nP pe).map V.str ++ [.str (Str.ofString ""),.str (Str.ofString "nobody"),.str (Str.ofString "zzzzzzzz")])) hc;have fc:(upd (upd HA y (.lst [.str (Str.ofString ""),.str (Str.ofString "nobody"),.str (Str.ofString "zzzzzzzz")])) c (.lst ((nP pe).map V.str ++ [.str (Str.ofString ""),.str (Str.ofString "nobody"),.str (Str.ofString "zzzzzzzz")]))) c=some (.lst ((nP pe++noNames).map V.str)):=by rw[A7,A_];rfl
    have sB:=sA.trans (uy.trans uc);generalize upd (upd HA y (.lst [.str (Str.ofString ""),.str (Str.ofString "nobody"),.str (Str.ofString "zzzzzzzz")])) c (.lst ((nP pe).map V.str ++ [.str (Str.ofString ""),.str (Str.ofString "nobody"),.str (Str.ofString "zzzzzzzz")]))=HB at fc sB⊢;refine⟨c,rfl,⟨_,SqL.of fc⟩,Y2 (asL (SqL.of fc)) (fun i' σ G'=>(∃v6 v7 v8,σ = [some (.ref u),some (.int (i:Int)),some (.ref p),some (.ref r),some (.ref x),some (.ref D),v6,v7,v8])/\Same G G'/\G' c=some (.lst ((nP pe++noNames).map V.str))) ?_ ?_ ?_ ?_⟩
    .exact⟨⟨_,_,_,rfl⟩,sB,fc⟩
    .rintro i' σ G' _ ⟨_,_,f'⟩ o e;rw[fc]at e;cases e;exact f'
    .rintro i' σ G' v hv ⟨⟨v6,v7,v8,rfl⟩,sG,f'⟩ D2 hD2 _;rw[AH]at hv;obtain⟨n,hn,rfl⟩:=AR.mp hv;refine ex1 rfl (ex1 rfl (j8 (.inl (SqL.of (sG _ _ e9))) ⟨_,rfl,?_⟩));refine l9 (fun h=>?_) (fun h=>R0 (hD2 _ _ ⟨⟨_,_,_,rfl⟩,sG,f'⟩));have nin:n∉nS sa++nT st:=by simpa using h
     have eS:nS sa2=nS sa:=by
      have:=congrArg (List.map fun q:Str×Str×List Str=>q.1) d6;rw[AS,AS]at this;exact this
     have n1:U7 sa2 n=none:=Am (f:=fun q:SAr=>q.2.1) fun z=>nin (DU _ (by rw[<-eS];exact z));have n2:K6 st n=none:=Am (f:=fun q:STr=>q.2.1) fun z=>nin (BM _ z);refine ex1 rfl (ex1 rfl ⟨x,pe,sa2,st,ba,n,rfl,W9.same sG,⟨l2',l3⟩,n1,n2,fun t G1 t1 et=>⟨by show 2<=sizeLine;decide,fun t2 ht2=>?_⟩⟩);have u2:=Same.new (o:=.tup [.str (Str.ofString "refused"),.str (Str.ofString "none such")]) ht2;exact Nw (d:=pd ("refused", "none such")) (Y6 (u2 _ _ et)) (Y6 A7) (Sn (by decide +kernel) (by decide +kernel)) ⟨_,rfl,R0 (hD2 _ _ ⟨⟨_,_,_,rfl⟩,(sG.trans t1).trans u2,u2 _ _ (t1 _ _ f')⟩)⟩
    .rintro σ G' ⟨⟨v6,v7,v8,rfl⟩,sG,_⟩;refine hM7 _ _ ?_;have WX:=W9.same sG;have VX:=V9.same sG;have erX:=sG _ _ er9;have TX:=E1 T9 sG;have SX:Sm [T.ad] F0 G':=S9.trans sG.sm;refine ex1 rfl ⟨by decide,by decide,?_⟩;refine P0 (n:=2) (fun i' σ G2=>(∃v6 v7 v8,σ = [some (.ref u),some (.int (i:Int)),some (.ref p),some (.ref r),some (.ref x),some (.ref D),v6,v7,v8])/\Same G' G2) ?_ ?_ ?_
     .exact⟨⟨_,_,_,rfl⟩,fun _ _ e=>e⟩
     .rintro i' σ G2 hi' ⟨⟨v6,v7,v8,rfl⟩,s2⟩ D2 hD2 _;refine Ny fun A1 hA1=>?_;refine ex1 rfl ⟨x,pe,sa2,st,ba,rfl,WX.same s2,ok6,fun l ms G3 t3 hl el pm sr=>?_⟩;refine hA1 _ _ (B5 fun A2 hA2=>?_);refine ex1 rfl (ex1 rfl ⟨r,a,b,g,d,pe,sa,st,ba,rfl,t3 _ _ (s2 _ _ erX),(VX.same s2).same t3,ok,fun l' ms' G4 t4 hl' el' pm' sr'=>?_⟩);rw[Ob d6]at pm;have em:ms'=ms:=Fy sr' sr (pm'.trans pm.symm);subst em;have lm:ms'.length<=30:=by
       rw[pm'.length_eq];unfold nT Kg;rw[AB];exact Nat.le_trans (List.length_filter_le _ _) l3
      have okm:∀y∈ms',PySem.PyData.strOk y=true:=fun y hy=>by
       obtain⟨z,hz,rfl⟩:=BA.mp (pm'.mem_iff.mp hy);exact E9 (ok.nm _ (BM _ (BA.mpr ⟨z,(EE.mp hz).1,rfl⟩)))
      refine .inr (.inr ⟨l,l',true,ms'.map V.str,ms'.map V.str,rfl,t4 _ _ el,el',rfl,by rw[AB];omega,fun j y1 y2 Hx Q' E' h1 h2 sx hQ=>?_,fun G5 t5=>⟨_,rfl,R0 (hA2 _ _ ?_)⟩⟩)
      .rw[h1]at h2;cases h2;rw[AH]at h1;obtain⟨y,hy,rfl⟩:=AR.mp h1;exact .inl ⟨y,rfl,okm y (AL hy),hQ⟩
      .have el5:=t5 _ _ (t4 _ _ el);refine ex1 rfl ⟨.inl ⟨rfl,_,SqL.of el5⟩,l,_,_,rfl,rfl,el5,by rw[AB,sizeLine_eq];omega,hD2 _ _ ⟨⟨_,_,_,rfl⟩,(((s2.trans t3).trans t4).trans t5).upd (none_of s2.sm AX hl)⟩⟩
     .rintro σ G2 ⟨⟨v6,v7,v8,rfl⟩,s2⟩;exact hD1 _ _ ⟨⟨_,_,_,_,_,_,_,_,rfl⟩,kF.trans (SX.trans s2.sm),E1 TX s2⟩
  .rintro σ G _;exact hN0 _ _ (q G)
end
section
variable{K:PySem.W.Frag}{h:Heap}{mg:Str->Option Value}
def fn_mk{x:Str}{st:Stmt}{ps:List Str}{f:Addr}{oc:Value}{od an:Option Addr}{osl:Array (Option Value)}{kV doc pm cdv ct:Value}(X:K.In h)(G:h.Ns mainGlobals mg)(a:PySem.W.nsIn K mainGlobals x=some (some (.ref f)))
  (l:K.lookup f=some ⟨oc,od,.func (PySem.W.fnOf x x (O6 st) (F9 st) (B3 st) .none kV doc pm an cdv ct),osl⟩) (c:PySem.W.codeIn K cdv x=true) (k:PySem.W.keepIn K (.ref f)=true)
  (hb:∀(kV doc pm:Value) (an:Option Addr) (cdv ct:Value) (us:List Value),us.length=ps.length->bindArgs (PySem.W.fnOf x x (O6 st) (F9 st) (B3 st) .none kV doc pm an cdv ct) ⟨us,[]⟩=pure (ps.zip us)):Fn K mg x st ps :=
 ⟨f,_,fun_mk l c k,(fun_mk l c k).binds hb,PySem.W.mg_of X G a⟩
theorem str_mk{x z:Str}{v:Value}(X:K.In h)(G:h.Ns mainGlobals mg)(a:PySem.W.nsIn K mainGlobals x=some (some v))(e:∃t,v = .str z t):∃t,mg x=some (.str z t):=by
 obtain⟨t,rfl⟩:=e;exact⟨t,PySem.W.mg_of X G a⟩
theorem int_mk{x:Str}{z:Int}{v:Value}(X:K.In h)(G:h.Ns mainGlobals mg)(a:PySem.W.nsIn K mainGlobals x=some (some v))(e:∃t,v = .int z t):∃t,mg x=some (.int z t):=by
 obtain⟨t,rfl⟩:=e;exact⟨t,PySem.W.mg_of X G a⟩
theorem len1{us:List Value}(h:us.length=1):∃a,us = [a]:=List.length_eq_one_iff.mp h
theorem len2{us:List Value}(h:us.length=2):∃a b,us = [a,b]:=by
 cases us with
 | nil=>cases h
 | cons a r=>obtain⟨b,rfl⟩:=len1 (Nat.succ.inj h);exact⟨a,b,rfl⟩
theorem len3{us:List Value}(h:us.length=3):∃a b c,us = [a,b,c]:=by
 cases us with
 | nil=>cases h
 | cons a r=>obtain⟨b,c,rfl⟩:=len2 (Nat.succ.inj h);exact⟨a,b,c,rfl⟩
theorem len4{us:List Value}(h:us.length=4):∃a b c d,us = [a,b,c,d]:=by
 cases us with
 | nil=>cases h
 | cons a r=>obtain⟨b,c,d,rfl⟩:=len3 (Nat.succ.inj h);exact⟨a,b,c,d,rfl⟩
theorem len5{us:List Value}(h:us.length=5):∃a b c d e,us = [a,b,c,d,e]:=by
 cases us with
 | nil=>cases h
 | cons a r=>obtain⟨b,c,d,e,rfl⟩:=len4 (Nat.succ.inj h);exact⟨a,b,c,d,e,rfl⟩
theorem ni_mk{C:Addr}(h:PySem.W.findIn K (.ref C) "__init__" = some (some (.builtin "ValueError.__init__"))):PySem.W.findIn K (.ref C) "__init__" = some (some (.builtin "ValueError.__init__")):=h
def Rh(vs:Array Value)(c p:Addr):Bool:=decide (vs[11]?=some (.ref p)) &&(match vs.getD 18 .none with | .str _ _=>true | _=>false) &&(match vs.getD 7 .none with | .int _ _=>true | _=>false) &&(match vs.getD 9 .none with | .bool _=>true | _=>false) &&(match vs.getD 10 .none with | .int _ _=>true | _=>false)&&decide (c≠p)&&decide (mainGlobals≠p)
theorem tab_mk{c p:Addr}{od:Option Addr}{vs:Array Value}{sl:Array (Option Value)}(l:K.lookup c=some ⟨.type "code",od,.fields vs,sl⟩)(e1:vs.getD 11 .none = .ref p)(e:Rh vs c p=true):TabAt K mg c p:=by
 unfold Rh at e;simp only[CC,decide_eq_true_eq]at e;obtain⟨⟨⟨⟨⟨⟨e11,e18⟩,e7⟩,e9⟩,e10⟩,ne1⟩,ne2⟩:=e;have h18:∃a t,vs.getD 18 .none = .str a t:=by cases q:vs.getD 18 .none<;>rw[q]at e18<;>first | exact⟨_,_,rfl⟩ | cases e18
 have h7:∃a t,vs.getD 7 .none = .int a t:=by cases q:vs.getD 7 .none<;>rw[q]at e7<;>first | exact⟨_,_,rfl⟩ | cases e7
 have h9:∃a,vs.getD 9 .none = .bool a:=by cases q:vs.getD 9 .none<;>rw[q]at e9<;>first | exact⟨_,rfl⟩ | cases e9
 have h10:∃a t,vs.getD 10 .none = .int a t:=by cases q:vs.getD 10 .none<;>rw[q]at e10<;>first | exact⟨_,_,rfl⟩ | cases e10
 obtain⟨f18,t18,h18⟩:=h18;obtain⟨f7,t7,h7⟩:=h7;obtain⟨f9,h9⟩:=h9;obtain⟨f10,t10,h10⟩:=h10;exact⟨fun g k=>⟨_,vs,f18,t18,f7,t7,f9,f10,t10,k _ _ l,rfl,rfl,e11,e1,h18,h7,h9,h10,ne1⟩,ne2⟩
theorem noattr_mk{C:Addr}{f:Str}(h:PySem.W.findIn K (.ref C) f=some none):NoAttr K C f:=h
end
theorem all_mk{l:PySem.W.OpenLaw}{w:World}{K:PySem.W.Frag}{h:Heap}{mg:Str->Option Value}{fa f pt:Addr}{oc:Value}{od an:Option Addr}{osl:Array (Option Value)}{kV doc pm cdv ct:Value}(X:K.In h)(G:h.Ns mainGlobals mg)(hfa:mg "law" = some (.ref fa))
  (T:Tx K mg) (a:PySem.W.nsIn K mainGlobals "law" = some (some (.ref f))) (lk:K.lookup f=some ⟨oc,od,.func (PySem.W.fnOf "law" "law" (O6 s_law) (F9 s_law) (B3 s_law) .none kV doc pm an cdv ct),osl⟩) (c:PySem.W.codeIn K cdv "law" = true) (k:PySem.W.keepIn K (.ref f)=true) (ep:T.ad=pt) (np:K.lookup pt=none) :
  (∀p∈[pt],isCodeTable h p)/\(∀p∈[pt],K.lookup p=none)/\∃fd:FuncData,(∀(s:Shared) (v:Value),BindsTo s fd ⟨[v],[]⟩ [("_law_script",v)])/\∀base:Heap,K.In base->base.Ns mainGlobals mg->(∀p∈[pt],base.BuiltinsAt mg p)->FnOk l.prog w K mg base CX0 9 fa fd ["_law_script"] (Ex K pt):=by
 subst ep;have e:=hfa.symm.trans (PySem.W.mg_of X G a);cases e;refine⟨fun p hp=>?_,fun p hp=>by rw[AE.mp hp];exact np,PySem.W.fnOf "law" "law" (O6 s_law) (F9 s_law) (B3 s_law) .none kV doc pm an cdv ct,fun s v=>.of_eq rfl,fun base _ _ hB=>Sr T (hB _ (AE.mpr rfl)) (fun_mk lk c k)⟩;obtain⟨o,vs,_,_,_,_,_,_,_,e1,e2,e3,e4,_⟩:=T.aP.hd h X;rw[AE.mp hp];exact⟨_,o,vs,e1,e2,e3,e4⟩
theorem walk{l:PySem.W.OpenLaw}{q:Program}{loose:List Str}{XP:(Str->Option Value)->Heap->Prop}{YP:World->Heap->Prop}{d:DefRec}{K:Params->PySem.W.Frag}{pt:Addr}(hn:l.most=some 63)(hdf:d.params.defaults = [])
  (hY:∀(w:World) (h:Heap),YP w h->(K w.params).In h) (hYt:∀(w:World) (h:Heap),YP w h->∀p∈[pt],h.get? p=some (PySem.W.tabObj #[]))
  (F:∀(w:World) (mg:Str->Option Value) (fa:Addr) (h:Heap),(K w.params).In h->h.Ns mainGlobals mg->mg d.name=some (.ref fa) ->
   (∀p∈[pt],isCodeTable h p)/\(∀p∈[pt],(K w.params).lookup p=none)/\∃fd:FuncData,(∀(s:Shared) (u:Value),BindsTo s fd ⟨[u],[]⟩ [("_law_script",u)])/\∀base:Heap,(K w.params).In base->base.Ns mainGlobals mg->(∀p∈[pt],base.BuiltinsAt mg p)->FnOk l.prog w (K w.params) mg base CX0 9 fa fd ["_law_script"] (Ex (K w.params) pt)) :
  PySem.W.WalkO q loose XP YP l.row.toRowW d [] (fun f vs=>PySem.call f vs) :=
 L2.walk_ofT (n:=63) (k:=9) (x := "_law_script") (ts:=[pt]) (sp:=fun w=>Ex (K w.params) pt) hn (by decide) hdf ⟨rfl,by decide,by decide⟩ hY hYt F (fun _ _ a ns hl hT hS=>⟨a,ns,rfl,hS,hl,⟨#[],hT pt (AE.mpr rfl),trivial,fun _ _=>.inl rfl⟩,fun _=>rfl⟩)
end Sw
open PySem PySem.W PyProof.Rows
set_option maxRecDepth 100000 in
set_option maxHeartbeats 0 in
theorem PySem.Challenge.cw_strikeweave_k57_strengths_holds : PySem.Challenge.rw_strikeweave_k57_strengths.Holds := by
 w_on;o_law;k_head;(case hw=>w_witness2)
 k_fill
 refine Sw.walk (l:=PySem.Challenge.rw_strikeweave_k57_strengths) rfl rfl (fun w h Y=>PySem.W.km_in_of Y) (fun w h Y=>PySem.W.km_tabs_of Y) ?F
 case F =>
  intro w mg fa h KX G hmg;refine' Sw.all_mk KX G hmg (Sw.Tx.mk (Sw.fn_mk KX G ?a1 ?l2 ?c3 ?k4 (fun _ _ _ _ _ _ us hl=>by obtain⟨a,rfl⟩:=Sw.len1 hl;rfl))
   (Sw.fn_mk KX G ?a5 ?l6 ?c7 ?k8 (fun _ _ _ _ _ _ us hl=>by obtain⟨a,rfl⟩:=Sw.len1 hl;rfl))
   (Sw.fn_mk KX G ?a9 ?l10 ?c11 ?k12 (fun _ _ _ _ _ _ us hl=>by obtain⟨a,b,rfl⟩:=Sw.len2 hl;rfl))
   (Sw.fn_mk KX G ?a13 ?l14 ?c15 ?k16 (fun _ _ _ _ _ _ us hl=>by obtain⟨a,rfl⟩:=Sw.len1 hl;rfl))
   (Sw.fn_mk KX G ?a17 ?l18 ?c19 ?k20 (fun _ _ _ _ _ _ us hl=>by obtain⟨a,b,c,rfl⟩:=Sw.len3 hl;rfl))
   (Sw.fn_mk KX G ?a21 ?l22 ?c23 ?k24 (fun _ _ _ _ _ _ us hl=>by obtain⟨a,rfl⟩:=Sw.len1 hl;rfl))
   (Sw.fn_mk KX G ?a25 ?l26 ?c27 ?k28 (fun _ _ _ _ _ _ us hl=>by obtain⟨a,rfl⟩:=Sw.len1 hl;rfl))
   (Sw.fn_mk KX G ?a29 ?l30 ?c31 ?k32 (fun _ _ _ _ _ _ us hl=>by obtain⟨a,b,rfl⟩:=Sw.len2 hl;rfl))
   (Sw.fn_mk KX G ?a33 ?l34 ?c35 ?k36 (fun _ _ _ _ _ _ us hl=>by obtain⟨a,b,c,rfl⟩:=Sw.len3 hl;rfl))
   (Sw.fn_mk KX G ?a37 ?l38 ?c39 ?k40 (fun _ _ _ _ _ _ us hl=>by obtain⟨a,b,c,d,rfl⟩:=Sw.len4 hl;rfl))
   (Sw.fn_mk KX G ?a41 ?l42 ?c43 ?k44 (fun _ _ _ _ _ _ us hl=>by obtain⟨a,b,c,rfl⟩:=Sw.len3 hl;rfl))
   (Sw.fn_mk KX G ?a45 ?l46 ?c47 ?k48 (fun _ _ _ _ _ _ us hl=>by obtain⟨a,b,rfl⟩:=Sw.len2 hl;rfl))
   (Sw.fn_mk KX G ?a49 ?l50 ?c51 ?k52 (fun _ _ _ _ _ _ us hl=>by obtain⟨a,rfl⟩:=Sw.len1 hl;rfl))
   (Sw.fn_mk KX G ?a53 ?l54 ?c55 ?k56 (fun _ _ _ _ _ _ us hl=>by obtain⟨a,b,rfl⟩:=Sw.len2 hl;rfl))
   (Sw.fn_mk KX G ?a57 ?l58 ?c59 ?k60 (fun _ _ _ _ _ _ us hl=>by obtain⟨a,b,rfl⟩:=Sw.len2 hl;rfl))
   (Sw.fn_mk KX G ?a61 ?l62 ?c63 ?k64 (fun _ _ _ _ _ _ us hl=>by obtain⟨a,b,rfl⟩:=Sw.len2 hl;rfl))
   (Sw.fn_mk KX G ?a65 ?l66 ?c67 ?k68 (fun _ _ _ _ _ _ us hl=>by obtain⟨a,b,rfl⟩:=Sw.len2 hl;rfl))
   (Sw.fn_mk KX G ?a69 ?l70 ?c71 ?k72 (fun _ _ _ _ _ _ us hl=>by obtain⟨a,b,rfl⟩:=Sw.len2 hl;rfl))
   (Sw.fn_mk KX G ?a73 ?l74 ?c75 ?k76 (fun _ _ _ _ _ _ us hl=>by obtain⟨a,rfl⟩:=Sw.len1 hl;rfl))
   (Sw.fn_mk KX G ?a77 ?l78 ?c79 ?k80 (fun _ _ _ _ _ _ us hl=>by obtain⟨a,b,rfl⟩:=Sw.len2 hl;rfl))
   (Sw.fn_mk KX G ?a81 ?l82 ?c83 ?k84 (fun _ _ _ _ _ _ us hl=>by obtain⟨a,b,rfl⟩:=Sw.len2 hl;rfl))
   (Sw.fn_mk KX G ?a85 ?l86 ?c87 ?k88 (fun _ _ _ _ _ _ us hl=>by obtain⟨a,b,rfl⟩:=Sw.len2 hl;rfl))
   (Sw.fn_mk KX G ?a89 ?l90 ?c91 ?k92 (fun _ _ _ _ _ _ us hl=>by obtain⟨a,b,rfl⟩:=Sw.len2 hl;rfl))
   (Sw.fn_mk KX G ?a93 ?l94 ?c95 ?k96 (fun _ _ _ _ _ _ us hl=>by obtain⟨a,b,rfl⟩:=Sw.len2 hl;rfl))
   (Sw.fn_mk KX G ?a97 ?l98 ?c99 ?k100 (fun _ _ _ _ _ _ us hl=>by obtain⟨a,b,rfl⟩:=Sw.len2 hl;rfl))
   (Sw.fn_mk KX G ?a101 ?l102 ?c103 ?k104 (fun _ _ _ _ _ _ us hl=>by obtain⟨a,b,rfl⟩:=Sw.len2 hl;rfl))
   (Sw.fn_mk KX G ?a105 ?l106 ?c107 ?k108 (fun _ _ _ _ _ _ us hl=>by obtain⟨a,b,rfl⟩:=Sw.len2 hl;rfl))
   (Sw.fn_mk KX G ?a109 ?l110 ?c111 ?k112 (fun _ _ _ _ _ _ us hl=>by obtain⟨a,b,rfl⟩:=Sw.len2 hl;rfl))
   (Sw.fn_mk KX G ?a113 ?l114 ?c115 ?k116 (fun _ _ _ _ _ _ us hl=>by obtain⟨a,b,rfl⟩:=Sw.len2 hl;rfl))
   (Sw.fn_mk KX G ?a117 ?l118 ?c119 ?k120 (fun _ _ _ _ _ _ us hl=>by obtain⟨a,rfl⟩:=Sw.len1 hl;rfl))
   (Sw.fn_mk KX G ?a121 ?l122 ?c123 ?k124 (fun _ _ _ _ _ _ us hl=>by obtain⟨a,b,c,rfl⟩:=Sw.len3 hl;rfl))
   _
   ⟨?g126,?g127,?g128,?g129⟩
   (PySem.W.mg_of KX G ?q125)
   (Sw.noattr_mk ?n130)
   (Sw.noattr_mk ?n131)
   (Sw.noattr_mk ?n132)
   (Sw.noattr_mk ?n133)
   _
   _
   (L2.fun_mk ?l136 ?c137 ?k138)
   (L2.Fun.binds (L2.fun_mk ?l136 ?c137 ?k138) (fun _ _ _ _ _ _ us hl=>by obtain⟨a,b,c,d,e,rfl⟩:=Sw.len5 hl;rfl))
   ⟨?g139,?a134,?i135,?k140⟩
   _
   _
   (Sw.tab_mk ?l142 ?r143 ?r144)
   ?r141
   _
   _
   (L2.xc_mk ?l146 ?t147 ?k148 ?g149 ?g150)
   (PySem.W.mg_of KX G ?q145)
   _
   _
   (L2.xc_mk ?l152 ?t153 ?k154 ?g155 ?g156)
   (PySem.W.mg_of KX G ?q151)
   _
   _
   (L2.xc_mk ?l158 ?t159 ?k160 ?g161 ?g162)
   (PySem.W.mg_of KX G ?q157)
   _
   _
   (L2.xc_mk ?l164 ?t165 ?k166 ?g167 ?g168)
   (PySem.W.mg_of KX G ?q163)
   _
   _
   (L2.xc_mk ?l170 ?t171 ?k172 ?g173 ?g174)
   (PySem.W.mg_of KX G ?q169)
   _
   _
   (L2.xc_mk ?l176 ?t177 ?k178 ?g179 ?g180)
   (PySem.W.mg_of KX G ?q175)
   _
   _
   (L2.xc_mk ?l182 ?t183 ?k184 ?g185 ?g186)
   (PySem.W.mg_of KX G ?q181)
   _
   _
   (L2.xc_mk ?l188 ?t189 ?k190 ?g191 ?g192)
   (PySem.W.mg_of KX G ?q187)
   _
   _
   (L2.xc_mk ?l194 ?t195 ?k196 ?g197 ?g198)
   (PySem.W.mg_of KX G ?q193)
   ⟨?g199,?g200,?g201,?g202⟩
   ⟨?g203,?g204,?g205,?g206,L2.kit_same _ _⟩
   ?u207
   ?w208
   ?w209
   ?w210
   (Sw.noattr_mk ?n211)
   (Sw.noattr_mk ?n212)
   _
   _
   (L2.fun_mk ?l215 ?c216 ?k217)
   (L2.Fun.binds (L2.fun_mk ?l215 ?c216 ?k217) (fun _ _ _ _ _ _ us hl=>by obtain⟨a,b,c,rfl⟩:=Sw.len3 hl;rfl))
   ⟨?a213,?i214,?k217⟩
   ⟨?g218,?g219,?g220,?g221⟩
   ⟨?g222,?g223,?g224,?g225,L2.kit_same _ _⟩
   ?u226
   ?w227
   ?w228
   ?w229
   (Sw.ni_mk ?g230)
   (Sw.str_mk KX G ?v231 ?e232)
   (Sw.int_mk KX G ?v233 ?e234)
   _
   (PySem.W.mg_of KX G ?v235)
   (L2.gtup_mk ?l236 ?y237)
   (Sw.int_mk KX G ?v238 ?e239)
   (Sw.int_mk KX G ?v240 ?e241)
   (PySem.W.mg_none_of KX G ?z242)
   (PySem.W.mg_none_of KX G ?z243)
   (PySem.W.mg_none_of KX G ?z244)
   (PySem.W.mg_none_of KX G ?z245)
   (PySem.W.mg_none_of KX G ?z246)
   (PySem.W.mg_none_of KX G ?z247)
   (PySem.W.mg_none_of KX G ?z248)
   (PySem.W.mg_none_of KX G ?z249)
   (PySem.W.mg_none_of KX G ?z250)
   (PySem.W.mg_none_of KX G ?z251)
   (PySem.W.mg_none_of KX G ?z252)
   (PySem.W.mg_none_of KX G ?z253)
   (PySem.W.mg_none_of KX G ?z254)
   (PySem.W.mg_none_of KX G ?z255)
   (PySem.W.mg_none_of KX G ?z256)
   (PySem.W.mg_none_of KX G ?z257)
   (PySem.W.mg_none_of KX G ?z258)
   (PySem.W.mg_none_of KX G ?z259)) ?aL ?lL ?cL ?kL ?rP ?tP
  case a1|l2|c3|k4|a5|l6|c7|k8|a9|l10|c11|k12|a13|l14|c15|k16|a17|l18|c19|k20|a21|l22|c23|k24|a25|l26|c27|k28|a29|l30|c31|k32|a33|l34|c35|k36|a37|l38|c39|k40|a41|l42|c43|k44|a45|l46|c47|k48|a49|l50|c51|k52|a53|l54|c55|k56|a57|l58|c59|k60|a61|l62|c63|k64|a65|l66|c67|k68|a69|l70|c71|k72|a73|l74|c75|k76|a77|l78|c79|k80|a81|l82|c83|k84|a85|l86|c87|k88|a89|l90|c91|k92|a93|l94|c95|k96|a97|l98|c99|k100|a101|l102|c103|k104|a105|l106|c107|k108|a109|l110|c111|k112|a113|l114|c115|k116|a117|l118|c119|k120|a121|l122|c123|k124|q125|g126|g127|g128|g129|n130|n131|n132|n133|a134|i135|l136|c137|k138|g139|k140=>k_is
  case r141=>rfl
  case l142=>k_is
  case r143=>rfl
  case r144=>rfl
  case q145|l146=>k_is
  case t147=>kernel_rfl
  case k148|g149|g150|q151|l152=>k_is
  case t153=>kernel_rfl
  case k154|g155|g156|q157|l158=>k_is
  case t159=>kernel_rfl
  case k160|g161|g162|q163|l164=>k_is
  case t165=>kernel_rfl
  case k166|g167|g168|q169|l170=>k_is
  case t171=>kernel_rfl
  case k172|g173|g174|q175|l176=>k_is
  case t177=>kernel_rfl
  case k178|g179|g180|q181|l182=>k_is
  case t183=>kernel_rfl
  case k184|g185|g186|q187|l188=>k_is
  case t189=>kernel_rfl
  case k190|g191|g192|q193|l194=>k_is
  case t195=>kernel_rfl
  case k196|g197|g198|g199|g200|g201|g202|g203|g204|g205|g206=>k_is
  case u207=>kernel_rfl
  case w208=>kit_is
  case w209=>kit_is
  case w210=>kit_is
  case n211|n212|a213|i214|l215|c216|k217|g218|g219|g220|g221|g222|g223|g224|g225=>k_is
  case u226=>kernel_rfl
  case w227=>kit_is
  case w228=>kit_is
  case w229=>kit_is
  case g230|v231=>k_is
  case e232=>exact⟨_,rfl⟩
  case v233=>k_is
  case e234=>exact⟨_,rfl⟩
  case v235|l236=>k_is
  case y237=>exact⟨_,_,_,_,rfl,rfl⟩
  case v238=>k_is
  case e239=>exact⟨_,rfl⟩
  case v240=>k_is
  case e241=>exact⟨_,rfl⟩
  case z242|z243|z244|z245|z246|z247|z248|z249|z250|z251|z252|z253|z254|z255|z256|z257|z258|z259|aL|lL|cL|kL=>k_is
  case rP=>rfl
  case tP=>kernel_rfl
