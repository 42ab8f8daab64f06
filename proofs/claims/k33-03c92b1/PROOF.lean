import PyProof.Rows.All
import Wide.All
import OpenK.AllK
import Wide.FinOn
import PyProof.Rows.SortShellK
import KE.KSortTup
import Lean
import PyProof.EqAt
import PyProof.EqKinds
import PyProof.TupleCall
import PyProof.SetRoads
import PyProof.DictRoadsH
import PyProof.IsRules
import PyProof.CollectWalk
import PyProof.FactsAll.set
import PyProof.NeData
import PyProof.P3In
import PyProof.TupleOfSeq
import PyProof.ZipIter
import PyProof.Rows.ZipGen
import KE.KDictOf
import PyProof.AttrMissHeap
import PyProof.Rows.SumAny
import PyProof.DictIter
import PyProof.DictWalks
import PyProof.DictValues
import PyProof.ListRange
import PyProof.ListStr
import PyProof.DictTruth
import PySem.Challenge.RW_strikeweave_k33_outright_ones_and_no_oth
set_option autoImplicit false
set_option genSizeOf false
set_option genSizeOfSpec false
set_option bootstrap.genMatcherCode false
set_option compiler.extract_closed false
set_option linter.all false
set_option maxRecDepth 100000
abbrev VN:=@PySem.W.Frag
def VO:=@False.elim
def VP:=@True.intro
def VQ:=@Nat.le_refl
def VR:=@Nat.le_trans
def VS:=@PySem.F.plainAttrs_list
def VT:=@PySem.F.slot_list_append
def VU:=@PySem.F.type_list_append
def VW:=@PySem.F.slot_list_index
def VX:=@PySem.F.type_list_index
def VY:=@PySem.F.plain_min_loop
def VZ:=@PySem.W.mg_none_of
def V_:=@PySem.F.slot_tuple_add
def WA:=@PySem.F.entry_tuple_add
def WB:=@PySem.F.entry_min_loop
def WC:=@PyProof.Rows.callWith_type1
def WD:=@PySem.W.kia_one
def WE:=@PySem.W.kia_tup
section
open PySem PySem.Spec PyProof.Rows
abbrev A1:=@List
abbrev A2:=Value
abbrev A3:=Addr
def PySem.W.Fast:=Nat where
 tw17326373845403679113:=A3
 tw16308591790329001548:=A3
 tw3768480958365237526:=A3
 tw16098007580034308547:=A3
 tw14756509871675362116:=A3
 tw14818900960616575294:=A3
 tw9697179066218852843:=A3
 tw10124997037272735312:=A3
 tw2008077359387893202:=A3
 tw7485239447063560484:=A3
 tw14248725175967241052:=A3
 tw431725392474341229:=A3
 tw15262259396954138857:=A3
 tw14467069994914621097:=A3
 tw9928680799197894473:=A3
 tw14894933458453850704:=A3
 tw5510879710329845800:=A3
 tw4480738258637305123:=A3
 tw17310868812264901798:=A3
 tw11759149401576603017:=A3
 tw7730270922581479888:=A3
 tw15821240268599393959:=A3
 tw158797294843438475:=A3
 tw17090452410316004245:=A3
 tw7743558093359019549:=A3
 tw6491220420015320090:=A3
 tw12254217936664459896:=A3
 tw15393362364662293905:=A3
 tw12241704672590203089:=A3
 tw6890250383112592528:=A3
 tw1153208591081600097:=A3
 tw2553021166732393845:=A3
 tw2880482815761020594:=A3
 tw1543409770956975695:=A3
 tw3451221603783633126:=A3
 tw17138758551075085468:=A3
 tw1184457444240823290:=A3
 tw5462390252934747160:=A3
 tw14444748574627272370:=A3
 tw14958025362248605021:=A3
 tw6401442253312997879:=A3
 tw5184581404188065207:=A3
 tw16373816430506109981:=A3
 tw329381255216264330:=A3
 tw1081721007788421201:=A3
 tw1999179024507122126:=A3
 tw9296570529871440572:=A3
 tw3158622457346906990:=A3
 tw3035728422240276745:=A3
 tw10673393095102754222:=A3
 tw14791025746160576311:=A3
 tw3546220416317888097:=A3
 tw8847504052359503950:=A3
 tw10798819387790607514:=A3
 tw3280673962241122131:=A3
 tw1679707324314003062:=A3
 tw7183660392628314762:=A3
 tw3468401927786004431:=A3
 tw9615933137928397106:=A3
 tw1089432176527133993:=A3
 tw13323932949124033489:=A3
 tw4349484747000049087:=A3
 tw15805126493250005346:=A3
 tw17068150109654800949:=A3
 tw11212493609161541495:=A3
 tw6414075703134432648:=A3
 tw3146028358681711458:=A3
 tw7023167131124202919:=A3
 tw15964501582861380142:=A3
 tw8193562479306916943:=A3
 tw6984834737032073043:=A3
 tw10074380082257018430:=A3
 tw15031280242599885216:=A3
 tw11603392120470723305:=A3
 tw13262285548725619087:=A3
 tw9501522361990013078:=A3
 tw7377628580068641325:=A3
 tw14598134515316504777:=A3
 tw18148054932828728894:=A3
 tw16784460382138785562:=A3
 tw16344851775336454235:=A3
 tw16288120209056885818:=A3
 tw2713445687583810820:=A3
 tw17375263144914963460:=A3
 tw7075727433301335598:=A3
 tw4362090801844324142:=A3
 tw12859658871344311723:=A3
 tw15438111247217975959:=A3
 tw6532219967989154343:=A3
 tw11720277651205985536:=A3
 tw10006055014082590367:=A3
 tw15150748656422819134:=A3
 tw16215061956806013234:=A3
 tw14627464658210588427:=A3
 tw14602082767457482730:=A3
 tw17139389806029406609:=A3
 tw7741206425081739240:=A3
 tw13824593664644576411:=A3
 tw2303040190603757606:=A3
 tw10899442757548389040:=A3
 tw3836114160236077014:=A3
 tw3180357852969315681:=A3
 tw12869279783594215686:=A3
 tw14805878141380721790:=A3
 tw18291469598211698931:=A3
 tw6964736302562214735:=A3
 tw9518019767619102440:=A3
 tw4569401611936739918:=A3
 tw12455842846986956853:=A3
 tw12072189777520615255:=A3
 tw17627346997718672087:=A3
 tw5039098676591526106:=A3
 tw11041204974216444357:=A3
 tw2172691579241632824:=A3
 tw14156270159359747519:=A3
 tw11003735768561270767:=A3
 tw2186017588010617699:=A3
 tw16136970542453930455:=A3
 tw15304246081572897183:=A3
 tw12246805452105719706:=A3
 tw11762351864232438955:=A3
 tw5856618967730391302:=A3
 tw18337848746944061965:=A3
 tw5076678252572208558:=A3
 tw4222399810531196113:=A3
 tw12341770576503778400:=A3
 tw16174230259593528282:=A3
 tw14681180227603609884:=A3
 tw18252865780094721435:=A3
 tw10127229621660146147:=A3
 tw3429164360641869612:=A3
 tw8051389119979777577:=A3
 tw7327240133618470009:=A3
 tw18380974954136679554:=A3
 tw9522848565842480328:=A3
 tw16992464336921314897:=A3
 tw751476213331810447:=A3
 tw7661929292187433223:=A3
 tw10193951560303009657:=A3
 tw10892345099562365952:=A3
 tw13440105853919224232:=A3
 tw18205246816144723096:=A3
 tw12234694360048778627:=A3
 tw3974142747580060052:=A3
 tw15465899828624499713:=A3
 tw11681496602707125580:=A3
 tw5854216244344409043:=A3
 tw14945581644607491578:=A3
 tw5527087251562143101:=A3
 tw8596754211285873068:=A3
 tw16595374009860211228:=A3
 tw16762963873929022858:=A3
 tw14192715850230753:=A3
 tw17056618747908910600:=A3
 tw350547446001753436:=A3
 tw16379960851974596459:=A3
 tw714316588369273144:=A3
 tw10254106954588919703:=A3
 tw6692494882080978490:=A3
 tw7313658915498167365:=A3
 tw610288430189344406:=A3
 tw5160686417688616806:=A3
 tw1863811919709739386:=A3
 tw6294879941631758593:=A3
 tw626418006752132402:=A3
 tw4103477983413460055:=A3
 tw14959015436446197093:=A3
 tw12809172141368677246:=A3
 tw5907501992234925680:=A3
 tw5506922933760899765:=A3
 tw14965504183334901841:=A3
 tw5205264354677115530:=A3
 tw7137527855227807955:=A3
 tw12626863260089665695:=A3
 tw7192167772669628128:=A3
 tw11823868231519584549:=A3
 tw11406233313281425546:=A3
 tw13171963673643771614:=A3
 tw8876858853831666035:=A3
 tw16830118014356459431:=A3
 tw11623000689435880800:=A3
 tw9365817262268951567:=A3
 tw13959764113488219533:=A3
 tw4451378867880840027:=A3
 tw9072471426135592916:=A3
 tw10360641417132155175:=A3
 tw1435438461117531388:=A3
 tw1803157834743068890:=A3
 tw7761564794448268320:=A3
 tw9963488600989876966:=A3
 tw17780098983809244733:=A3
 tw3404312838675841204:=A3
 tw3972143613405137306:=A3
 tw11453811122952522160:=A3
 tw3087621689276767798:=A3
 tw1554792702922047377:=A3
 tw12991729892676045636:=A3
 tw12324990025748005948:=A3
 tw15395954313310486780:=A3
 tw1025943588596363028:=A3
 tw2312840539360172962:=A3
 tw2029291949287848534:=A3
 tw16630067889832854260:=A3
 tw4349749551328743265:=A3
 tw5201784579637361099:=A3
 tw12671243968895050933:=A3
 tw18174557907806330648:=A3
 tw16628665286124853052:=A3
 tw11692322333596927566:=A3
 tw4875931542103088372:=A3
 tw2252578259793567151:=A3
 tw15967093420195042275:=A3
 tw18445601339962564837:=A3
 tw13087000113473389019:=A3
 tw13513286778364513829:=A3
 tw8129954537581255760:=A3
 tw1879366171709651908:=A3
 tw110953549904527258:=A3
 tw7710539853345684826:=A3
 tw13838307716546749246:=A3
 tw5906300569159518480:=A3
 tw4617366076070816014:=A3
 tw15702407744587009279:=A3
 tw16592824299033835261:=A3
abbrev A4:=Shared
abbrev A5:=@Option
abbrev A7:=Program
abbrev CM:=@Array
abbrev CW:=Keyed
abbrev F8:=World
abbrev IQ:=SortSt
abbrev IU:=Heap
abbrev IW:=Expr
abbrev IY:=Around
abbrev JC:=FuncData
abbrev JD:=Stmt
abbrev JI:=SetTable
abbrev JR:=SortKind
abbrev JX:=Scope
abbrev KQ:=NameKind
abbrev RM:=Env
end
section
open PySem PySem.Spec PyProof.Rows
def AA:=@wpAny_bind
def AB:=@List.length_map
def AC:=@List.getElem?_eq_getElem
def AD:=@Heap.get?_push_of_some
def AE:=@List.getElem?_eq_some_iff
def AF:=@wpAny_pure
def AG:=@List.mem_singleton
def AH:=@Heap.lt_size
def AI:=@List.getElem?_map
def AJ:=@List.mem_map
def AK:=@List.mem_cons
def AL:=@List.size_toArray
def AM:=@List.mem_of_getElem?
def AN:=@if_neg
def AO:=@Heap.get?_push_size
def AQ:=@if_pos
def AR:=@List.map_append
def AS:=@List.length_take
def AU:=@List.getD_eq_getElem?_getD
def AV:=@Nat.ne_of_lt
def AW:=@List.length_append
def AX:=@decide_eq_true
def AY:=@Bool.false_eq_true
def AZ:=@List.map_cons
def A_:=@List.mem_append
def BA:=@decide_eq_false
def BB:=@List.not_mem_nil
def BC:=@Option.map_eq_some_iff
def BD:=@Bool.false_ne_true
def BE:=@List.mem_filter
def BF:=@Array.length_toList
def BG:=@List.mem_cons_of_mem
def BH:=@Nat.lt_of_lt_of_le
def BI:=@decide_eq_true_iff
def BJ:=@Option.some.inj
def BK:=@List.length_cons
def BL:=@Bool.and_eq_true
def BM:=@List.append_assoc
def BN:=@List.mem_cons_self
def BO:=@List.mem_append_right
def BP:=@Nat.eq_of_testBit_eq
def BQ:=@Bool.eq_false_iff
def BR:=@Array.toList_append
def BS:=@wpAny_holding
def BT:=@List.mem_range
def BU:=@Bool.eq_iff_iff
def BV:=@List.map_map
def BW:=@Array.getElem?_toList
def BX:=@Nat.testBit_or
def BZ:=@of_decide_eq_true
def B_:=@List.take_append_drop
def CA:=@List.take_length
def CB:=@List.length_filter_le
def CC:=@wpAny_field
def CD:=@List.append_nil
def CF:=@Nat.testBit_and
def CG:=@List.pairwise_map
def CH:=@Nat.zero_testBit
def CI:=@wpAny_mono
def CJ:=@wpAny_seqItems
def CK:=@List.mem_of_mem_take
def CL:=@wpAny_ite_false
def CN:=@Bool.or_eq_true
def CO:=@Nat.le_add_right
def CP:=@wpAny_loadPart'
def CQ:=@Nat.testBit_two_pow
def CS:=@Heap.get?_update_other
def CT:=@if_false
def CU:=@List.length_range
def CV:=@List.mem_iff_getElem?
def CY:=@Nat.zero_le
def CZ:=@Array.getD_eq_getD_getElem?
def C_:=@List.pairwise_append
def DA:=@Nat.testBit_zero
def DB:=@wpAny_truthy_bool
def DC:=@List.nodup_cons
def DD:=@Int.toNat_natCast
def DE:=@List.getElem?_append_right
def DF:=@Heap.size_push
def DG:=@List.perm_append_comm
def DH:=@wpAny_callSpecial?_slot
def DI:=@List.getElem?_append_left
def DJ:=@List.length_drop
def DK:=@wpAny_call_entry
def DL:=@List.take_of_length_le
def DM:=@List.filterMap_cons_some
def DN:=@wpAny_setField_rec
def DP:=@List.filter_sublist
def DQ:=@List.filter_cons
def DR:=@Nat.testBit_succ
def DT:=@Nat.lt_succ_of_lt
def DU:=@Nat.le_of_lt
def DV:=@List.getElem?_take_of_lt
def DW:=@Nat.zero_lt_succ
def DX:=@Nat.testBit_two_pow_self
def DY:=@List.Perm.append_left
def DZ:=@Array.toList_push
def D_:=@List.filter_append
def EA:=@List.Perm.append_right
def EB:=@List.drop_eq_getElem_cons
def EC:=@Array.getElem?_eq_getElem
def ED:=@List.replicate_succ
def EE:=@Heap.SameBut.update
def EF:=@List.nodup_append
def EG:=@List.getElem?_eq_none
def EH:=@Heap.get?_update_self
def EI:=@Nat.lt_irrefl
def EJ:=@Nat.zero_add
def EK:=@Nat.lt_of_le_of_ne
def EL:=@wpAny_rule
def EM:=@wpAny_Call_Name_kw
def EN:=@List.mem_of_mem_drop
def EO:=@Nat.le_succ
def EQ:=@List.pairwise_singleton
def ER:=@wpAny_pyIter_zip
def ES:=@List.take_sublist
def ET:=@List.drop_zero
def EU:=@wpAny_newTuple
def EV:=@wpAny_newObj_type
def EW:=@Bool.false_and
def EX:=@Nat.add_le_add_left
def EY:=@List.filterMap_cons
def EZ:=@List.filter_eq_self
def E_:=@List.length_nil
def FA:=@List.range_succ
def FB:=@List.extract_eq_take_drop
def FC:=@Nat.lt_succ_self
def FD:=@List.all_eq_true
def FE:=@if_true
def FF:=@Option.isSome_iff_exists
def FG:=@List.filterMap_cons_none
def FH:=@Array.toList_extract
def FI:=@List.mem_append_left
def FJ:=@Bool.not_eq_true'
def FK:=@List.flatten_cons
def FM:=@Nat.min_eq_left
def FN:=@List.find?_cons
def FO:=@List.forIn_cons
def FP:=@List.drop_eq_nil_of_le
def FQ:=@Bool.not_true
def FR:=@Heap.size_update
def FS:=@List.drop_drop
def FT:=@Int.emod_lt_of_pos
def FU:=@List.nodup_nil
def FV:=@List.perm_ext_iff_of_nodup
def FW:=@List.getElem?_toArray
def FX:=@Classical.byContradiction
def FY:=@wpAny_passesOwn
def FZ:=@List.of_mem_zip
def F_:=@codeAny_builtin
def GA:=@wpAny_updateSeq
def GB:=@List.drop_sublist
def GC:=@List.mem_iff_getElem
def GD:=@Array.toList_reverse
def GE:=@List.ext_getElem?
def GF:=@wpAny_pyIter_list
def GG:=@wpAny_setState_of
def GH:=@List.cons.inj
def GI:=@List.Pairwise.imp_of_mem
def GJ:=@List.map_congr_left
def GK:=@List.map_eq_nil_iff
def GL:=@Array.size_map
def GM:=@List.getElem_mem
def GN:=@List.nodup_range
def GO:=@wpAny_tryCatch
def GP:=@wpAny_letGo
def GQ:=@Nat.eq_zero_of_not_pos
def GR:=@List.getElem?_drop
def GS:=@Array.size_extract
def GT:=@List.zip_cons_cons
def GU:=@wpAny_nextOf_list_item
def GV:=@Int.emod_nonneg
def GW:=@Nat.not_lt_zero
def GX:=@List.filter_nil
def GY:=@wpAny_attempt
def GZ:=@wpAny_newList
def G_:=@wpAny_standAt
def HA:=@List.any_cons
def HB:=@List.length_replicate
def HC:=@Nat.lt_of_succ_lt
def HD:=@Nat.testBit_two_pow_sub_one
def HE:=@List.drop_take
def HF:=@List.Perm.refl
def HG:=@Array.getElem?_eq_some_iff
def HH:=@wpAny_updateSeq_pair
def HI:=@List.map_nil
def HJ:=@List.pairwise_iff_getElem
def HK:=@List.getElem?_zip_eq_some
def HL:=@List.reverse_append
def HM:=@Array.size_setIfInBounds
def HN:=@List.lt_trans
def HP:=@wpAny_onRaise
def HQ:=@List.sum_cons
def HR:=@List.idxOf_lt_length_iff
def HS:=@Nat.zero_lt_one
def HU:=@wpAny_specialOf
def HV:=@Array.forIn_toList
def HW:=@wpAny_pyIter_tuple
def HX:=@Option.bind_eq_some_iff
def HY:=@List.getElem?_cons_zero
def HZ:=@Nat.testBit_mod_two_pow
def H_:=@List.take_take
def IA:=@Heap.get?_push_ne
def IB:=@List.lt_irrefl
def IC:=@List.getElem?_set_self
def ID:=@Nat.le_of_eq
def IE:=@Bool.and_false
def IG:=@wpAny_ite_true
def IH:=@List.drop_of_length_le
def II:=@Nat.lt_or_ge
def IJ:=@Nat.succ_le_succ
def IK:=@wpAny_eqBool_str
def IL:=@List.lookup_cons
def IM:=@List.any_eq_true
def IP:=@Bool.or_false
end
noncomputable section
namespace TS
def zBr{k x l r:Nat}(h:l<r)(a:r-l<=k-x):(l+r) / 2-l<=k-(x+1) :=
 VR (Nat.le_pred_of_lt (Nat.sub_lt_sub_right ((Nat.le_div_iff_mul_le (by decide)).mpr (by rw[Nat.mul_two];exact EX (DU h) l)) ((Nat.div_lt_iff_lt_mul (by decide)).mpr (by rw[Nat.mul_two];exact Nat.add_lt_add_right h r)))) (Nat.pred_le_pred a)
def Yz{n x l r m:Nat}(h:l<=m)(a:r-l<=n-x):r-(m+1)<=n-(x+1):=VR (Nat.sub_le_sub_left (IJ h) r) (Nat.pred_le_pred a)
def zCr{k x l r:Nat}(h:l<r)(a:r-l<=k-x):r-((l+r) / 2+1)<=k-(x+1) :=
 Yz ((Nat.le_div_iff_mul_le (by decide)).mpr (by rw[Nat.mul_two];exact EX (DU h) l)) a
def zFu{n x l r:Nat}(h:l<r)(a:r-l<=n-x):l +(r-l) / 2-l<=n-(x+1):=by
 rw[Nat.add_sub_cancel_left];exact VR (Nat.le_pred_of_lt (Nat.div_lt_self (Nat.sub_pos_of_lt h) (by decide))) (Nat.pred_le_pred a)
def zLa{lo x q k:Nat}(h:q+1<=x)(a:lo+x-(q+1)<=k):x-(q+1)<=k-lo:=Nat.le_sub_of_add_le' (by rw[Nat.add_sub_assoc h]at a;exact a)
open PySem PyProof.Rows
def kk(κ:KeyKind)(p:CW):κ.α:=(κ.keyOf p.1).getD κ.dflt
def SH(κ:KeyKind)(p:CW):Prop:=∃a,κ.keyOf p.1=some a
def le(κ:KeyKind)(p q:CW):Prop:=κ.kle (kk κ p) (kk κ q)
def LQ(κ:KeyKind)(l:A1 CW):Prop:=l.Pairwise (le κ)
structure RU(prog:A7)(w:F8)(A:IY)(s:A4)(κ:KeyKind)(kd:JR):Prop where
 lt:∀(x y:A2) (a b:κ.α) (Q:Bool->A4->Prop) (E:A2->A4->Prop),κ.keyOf x=some a->κ.keyOf y=some b->Q (κ.blt a b) s->wpAny (model prog w) A (keyLt' kd x y) Q E s
section
variable{prog:A7}{w:F8}{A:IY}{E:A2->A4->Prop}{s:A4}{κ:KeyKind}{kd:JR}
theorem Go(C:RU prog w A s κ kd){st:IQ}{x y:CW}{Q:A5 Bool->IQ->Prop}(e:kindOf st=kd)(f:SH κ x)(g:SH κ y)
  (h:Q (some (κ.blt (kk κ x) (kk κ y))) st):wpS (model prog w) A E s (lt' x y) Q st:=by
 obtain⟨a,c⟩:=f;obtain⟨b,d⟩:=g;have i:kk κ x=a:=by unfold kk;rw[c];rfl
 have j:kk κ y=b:=by unfold kk;rw[d];rfl
 rw[i,j]at h;rw[lt'_eq];refine wpS_bind (wpS_get ?_);rw[e];refine wpS_bind (wpS_lift (GY (C.lt x.1 y.1 a b _ _ c d ⟨rfl,?_⟩)));exact wpS_pure h
theorem E4{st:IQ}{a:CM CW}{i:Nat}{p:CW}{Q:CW->IQ->Prop}(hi:a[i]?=some p)(h:Q p st):wpS (model prog w) A E s (elem' a i) Q st:=by
 rw[elem'_eq,hi];exact wpS_pure h
def V5:Bool->CW->CM CW->Nat->Nat->Nat->StateT IQ Sem (A5 Nat):=sortPriv% PySem.Builtin.gallop
def UC(left:Bool)(a:CW)(b:CM CW)(bs:Nat)(i:Nat):StateT IQ Sem (A5 Bool):=do
 let x <-elem' b (bs+i)
 if left then lt' x a else return(<-lt' a x).map (!·)
theorem Pt(left:Bool)(c:CW)(d:CM CW)(bs n b:Nat):V5 left c d bs n b =(do
  let mut la:=0
  let mut a:=1
  let mut lo:=0
  let mut hi:=0
  let some g <-UC left c d bs b | return none
  if g then
   let e:=n-b
   for _ in [0:n] do
    if a ≥ e then break
    let some f <-UC left c d bs (b+a) | return none
    if !f then break
    la:=a
    a:=2*a+1
   lo:=b+la+1
   hi:=b+min a e
  else
   let e:=b+1
   for _ in [0:n] do
    if a ≥ e then break
    let some h <-UC left c d bs (b-a) | return none
    if h then break
    la:=a
    a:=2*a+1
   lo:=b+1-min a e
   hi:=b-la
  for _ in [0:n] do
   if lo ≥ hi then break
   let m:=lo +(hi-lo) / 2
   let some f <-UC left c d bs m | return none
   if f then lo:=m+1 else hi:=m
  return some hi):=rfl
def PB(κ:KeyKind)(left:Bool)(a:CW)(p:CW):Bool:=if left then κ.blt (kk κ p) (kk κ a)else !κ.blt (kk κ a) (kk κ p)
theorem zCq(C:RU prog w A s κ kd){st:IQ}{left:Bool}{b p:CW}{c:CM CW}{bs i:Nat}{Q:A5 Bool->IQ->Prop}(d:kindOf st=kd)(a:SH κ b)(e:SH κ p)(hi:c[bs+i]?=some p)
  (h:Q (some (PB κ left b p)) st):wpS (model prog w) A E s (UC left b c bs i) Q st:=by
 unfold UC;refine wpS_bind (E4 hi ?_);cases left with
 | true=>exact Go C d e a h
 | false =>
  simp only[AY,CT];refine wpS_bind (Go C d a e ?_);exact wpS_pure h
theorem Qd(C:RU prog w A s κ kd){st:IQ}{left:Bool}{L:CW}{O:CM CW}{bs n g:Nat}{Q:A5 Nat->IQ->Prop}(hk:kindOf st=kd)(R:SH κ L)
  (P:Nat->Bool) (hP:∀i,i<n->∃p,O[bs+i]?=some p/\SH κ p/\PB κ left L p=P i) (o:∀i j,i<=j->j<n->P j=true->P i=true) (T:g<n)
  (h:∀k,k<=n->(∀i,i<k->P i=true)->(∀i,k<=i->i<n->P i=false)->Q (some k) st):wpS (model prog w) A E s (V5 left L O bs n g) Q st:=by
 have B:∀{a:IQ} {i:Nat} {Q:A5 Bool->IQ->Prop},a=st->i<n->Q (some (P i)) a->wpS (model prog w) A E s (UC left L O bs i) Q a:=by
  intro a i Q e hi q;subst e;obtain⟨p,U,V,W⟩:=hP i hi;exact zCq C hk R V U (by rw[W];exact q)
 have m:∀i j,i<=j->j<n->P i=false->P j=false:=by
  intro i j X hj hi;cases e:P j with
  | false=>rfl
  | true=>rw[o i j X hj e]at hi;cases hi
 rw[Pt];dsimp only;refine wpS_bind (B rfl T ?_);dsimp only;have S:∀{lo hi:Nat} {f:Nat->(A5 (A5 Nat)×Nat×Nat)->StateT IQ Sem (ForInStep (A5 (A5 Nat)×Nat×Nat))},
   (∀x l h,wpS (model prog w) A E s (f x (none,l,h)) (λr a=>a=st/\(if h<=l then r = .done (none,l,h)else if P (l +(h-l) / 2)=true then r = .yield (none,l +(h-l) / 2+1,h)else r = .yield (none,l,l +(h-l) / 2))) st\/¬(h<=l\/l +(h-l) / 2<n)) ->
   lo<=hi->hi<=n->(∀i,i<lo->P i=true)->(∀i,hi<=i->i<n->P i=false) ->
   wpS (model prog w) A E s (forIn [0:n] (none,lo,hi) f) (λc a=>a=st/\∃k,c =(none,k,k)/\k<=n/\(∀i,i<k->P i=true)/\(∀i,k<=i->i<n->P i=false)) st:=by
  intro lo hi f hf U V W h4;refine wpS_forRange (I:=λx c a=>a=st/\∃l r,c =(none,l,r)/\l<=r/\r<=n/\r-l<=n-x/\(∀i,i<l->P i=true)/\(∀i,r<=i->i<n->P i=false)) ?_ ?_ ⟨rfl,lo,hi,rfl,U,V,by lia,W,h4⟩
  .rintro x c a _ hx ⟨rfl,l,r,rfl,hl,K,Y,M,N⟩;have Z:r<=l\/l +(r-l) / 2<n:=by lia
   rcases hf x l r with q | q
   .refine wpS_mono q λz st2 ⟨e,F⟩=>?_;subst e;by_cases b:r<=l
    .rw[AQ b]at F;subst F;have:l=r:=by lia
     subst this;exact⟨rfl,l,rfl,K,M,N⟩
    .rw[AN b]at F;cases u:P (l +(r-l) / 2)with
     | true =>
      rw[AQ u]at F;subst F;exact⟨rfl,_,_,rfl,by lia,by lia,Yz (CO ..) Y,λi hi=>o i (l +(r-l) / 2) (by lia) (by lia) u,N⟩
     | false =>
      rw[AN (by rw[u];exact BD)]at F;subst F;exact⟨rfl,_,_,rfl,by lia,by lia,zFu (Nat.lt_of_not_le b) Y,M,λi G y=>m (l +(r-l) / 2) i G y u⟩
   .exact absurd Z q
  .rintro c a ⟨rfl,l,r,rfl,hl,K,Y,M,N⟩;have:l=r:=by lia
   subst this;exact⟨rfl,l,rfl,K,M,N⟩
 cases K:P g with
 | true =>
  rw[AQ rfl];refine wpS_bind (wpS_mono (wpS_forRange (I:=λx c a=>a=st/\∃la d,c =(none,la,d)/\la<d/\x+1<=d/\g+la<n/\P (g+la)=true)
   (Q:=λc a=>a=st/\∃la d,c =(none,la,d)/\la<d/\g+la<n/\P (g+la)=true/\(n-g<=d\/(g+d<n/\P (g+d)=false))) ?st ?en ⟨rfl,0,1,rfl,by lia,by lia,by lia,K⟩) ?po)
  case en =>
   rintro c a ⟨rfl,la,d,rfl,D,a2,v,t⟩;exact⟨rfl,la,d,rfl,D,v,t,.inl (by lia)⟩
  case st =>
   rintro x c a _ hx ⟨rfl,la,d,rfl,D,a2,v,t⟩;dsimp only;by_cases b:d ≥ n-g
   .rw[AQ b];exact wpS_pure ⟨rfl,la,d,rfl,D,v,t,.inl b⟩
   .rw[AN b];refine wpS_bind (B rfl (show g+d<n by lia) ?_);cases u:P (g+d)with
    | true=>exact wpS_pure ⟨rfl,d,2*d+1,rfl,by lia,by lia,by lia,u⟩
    | false=>exact wpS_pure ⟨rfl,la,d,rfl,D,v,t,.inr ⟨by lia,u⟩⟩
  case po =>
   rintro c a ⟨rfl,la,d,rfl,D,v,t,H⟩;dsimp only;refine wpS_bind (wpS_mono (S (lo:=g+la+1) (hi:=g+min d (n-g)) (λx l J=>by
    dsimp only;by_cases b:J<=l
    .refine .inl ?_;rw[AQ b];exact wpS_pure ⟨rfl,by rw[AQ b]⟩
    .by_cases hn:l +(J - l) / 2<n
     .refine .inl ?_;rw[AN b];refine wpS_bind (B rfl hn ?_);dsimp only;cases u:P (l +(J - l) / 2)with
      | true =>
       simp only[FE];exact wpS_pure ⟨rfl,by rw[AN b]⟩
      | false =>
       simp only[AY,CT];exact wpS_pure ⟨rfl,by rw[AN b]⟩
     .exact .inr (by lia)) (by lia) (by lia) (λi hi=>o i (g+la) (by lia) v t) λi G y=>?_) λc a ⟨e,k,e2,b1,b2,b3⟩=>?_)
   .rcases H with H | ⟨H,a6⟩
    .lia
    .exact m (g+d) i (by lia) y a6
   .subst e e2;exact wpS_pure (h k b1 b2 b3)
 | false =>
  rw[AN BD];refine wpS_bind (wpS_mono (wpS_forRange (I:=λx c a=>a=st/\∃la d,c =(none,la,d)/\la<d/\x+1<=d/\la<=g/\P (g-la)=false)
   (Q:=λc a=>a=st/\∃la d,c =(none,la,d)/\la<d/\la<=g/\P (g-la)=false/\(g+1<=d\/(d<=g/\P (g-d)=true))) ?st ?en ⟨rfl,0,1,rfl,by lia,by lia,by lia,K⟩) ?po)
  case en =>
   rintro c a ⟨rfl,la,d,rfl,D,a2,v,t⟩;exact⟨rfl,la,d,rfl,D,v,t,.inl (by lia)⟩
  case st =>
   rintro x c a _ hx ⟨rfl,la,d,rfl,D,a2,v,t⟩;dsimp only;by_cases b:d ≥ g+1
   .rw[AQ b];exact wpS_pure ⟨rfl,la,d,rfl,D,v,t,.inl b⟩
   .rw[AN b];refine wpS_bind (B rfl (show g-d<n by lia) ?_);cases u:P (g-d)with
    | false=>exact wpS_pure ⟨rfl,d,2*d+1,rfl,by lia,by lia,by lia,u⟩
    | true=>exact wpS_pure ⟨rfl,la,d,rfl,D,v,t,.inr ⟨by lia,u⟩⟩
  case po =>
   rintro c a ⟨rfl,la,d,rfl,D,v,t,H⟩;dsimp only;refine wpS_bind (wpS_mono (S (lo:=g+1-min d (g+1)) (hi:=g-la) (λx l J=>by
    dsimp only;by_cases b:J<=l
    .refine .inl ?_;rw[AQ b];exact wpS_pure ⟨rfl,by rw[AQ b]⟩
    .by_cases hn:l +(J - l) / 2<n
     .refine .inl ?_;rw[AN b];refine wpS_bind (B rfl hn ?_);dsimp only;cases u:P (l +(J - l) / 2)with
      | true =>
       simp only[FE];exact wpS_pure ⟨rfl,by rw[AN b]⟩
      | false =>
       simp only[AY,CT];exact wpS_pure ⟨rfl,by rw[AN b]⟩
     .exact .inr (by lia)) (by lia) (by lia) (λi hi=>?_) λi G y=>m (g-la) i (by lia) y t) λc a ⟨e,k,e2,b1,b2,b3⟩=>?_)
   .rcases H with H | ⟨H,a6⟩
    .lia
    .exact o i (g-d) (by lia) (by lia) a6
   .subst e e2;exact wpS_pure (h k b1 b2 b3)
end
end TS
namespace TS
open PySem PyProof.Rows
section
variable{κ:KeyKind}
theorem SX(p:CW):le κ p p:=KeyOrd.kle_refl _
theorem JQ{p q r:CW}(h1:le κ p q)(h2:le κ q r):le κ p r:=KeyOrd.kle_trans h1 h2
structure ML(κ:KeyKind)(a b:A1 CW)(o:A1 CW)(i j:Nat):Prop where
 perm:o.Perm (a.take i++b.take j)
 sor:LQ κ o
 la:∀x∈o,∀y∈a.drop i,le κ x y
 lb:∀x∈o,∀y∈b.drop j,le κ x y
theorem ML.sym{a b o:A1 CW}{i j:Nat}(m:ML κ a b o i j):ML κ b a o j i:=⟨m.perm.trans DG,m.sor,m.lb,m.la⟩
theorem Ik{l:A1 CW}(k:Nat)(h:LQ κ l):∀x∈l.take k,∀y∈l.drop k,le κ x y:=by
 have a:LQ κ (l.take k++l.drop k):=by rw[B_];exact h
 exact(C_.mp a).2.2
theorem ML.addA{a b o:A1 CW}{i j:Nat}(m:ML κ a b o i j)(e:LQ κ a)(k:Nat)(f:∀y∈(a.drop i).take k,∀z∈b.drop j,le κ y z):ML κ a b (o ++(a.drop i).take k) (i+k) j:=by
 have d:LQ κ (a.drop i):=e.sublist (GB _ _);refine⟨?_,?_,λx hx y c=>?_,λx hx y c=>?_⟩
 .rw[List.take_add];refine(EA _ m.perm).trans ?_;rw[BM,BM];exact DY _ DG
 .refine C_.mpr ⟨m.sor,d.sublist (ES _ _),λx hx y c=>m.la x hx y (CK c)⟩
 .rw[<-FS]at c;rcases A_.mp hx with hx | hx
  .exact m.la x hx y (EN c)
  .exact Ik k d x hx y c
 .rcases A_.mp hx with hx | hx
  .exact m.lb x hx y c
  .exact f x hx y c
theorem ML.addB{a b o:A1 CW}{i j:Nat}(m:ML κ a b o i j)(c:LQ κ b)(k:Nat)(d:∀y∈(b.drop j).take k,∀z∈a.drop i,le κ y z):ML κ a b (o ++(b.drop j).take k) i (j+k) :=
 (m.sym.addA c k d).sym
theorem ML.endA{a b o:A1 CW}{i j:Nat}(m:ML κ a b o i j)(e:LQ κ a)(f:LQ κ b)(h:∀y∈a.drop i,∀z∈b.drop j,le κ y z):LQ κ (o++a.drop i++b.drop j)/\(o++a.drop i++b.drop j).Perm (a++b):=by
 refine⟨?_,?_⟩
 .refine C_.mpr ⟨C_.mpr ⟨m.sor,e.sublist (GB _ _),m.la⟩,f.sublist (GB _ _),λx hx y c=>?_⟩;rcases A_.mp hx with hx | hx
  .exact m.lb x hx y c
  .exact h x hx y c
 .have g:(o++a.drop i++b.drop j).Perm ((a.take i++b.take j)++a.drop i++b.drop j):=EA _ (EA _ m.perm);refine g.trans ?_;have d:((a.take i++b.take j)++a.drop i++b.drop j).Perm ((a.take i++a.drop i) ++(b.take j++b.drop j)):=by
   rw[BM,BM,BM];refine DY _ ?_;rw[<-BM,<-BM];exact EA _ DG
  rw[B_,B_]at d;exact d
theorem ML.endB{a b o:A1 CW}{i j:Nat}(m:ML κ a b o i j)(c:LQ κ a)(d:LQ κ b)(h:∀y∈b.drop j,∀z∈a.drop i,le κ y z):LQ κ (o++b.drop j++a.drop i)/\(o++b.drop j++a.drop i).Perm (a++b) :=
 ⟨(m.sym.endA d c h).1,(m.sym.endA d c h).2.trans DG⟩
structure MH(κ:KeyKind)(a b:A1 CW)(o:A1 CW)(i j:Nat):Prop where
 perm:o.Perm (a.drop i++b.drop j)
 sor:LQ κ o
 la:∀x∈o,∀y∈a.take i,le κ y x
 lb:∀x∈o,∀y∈b.take j,le κ y x
theorem MH.sym{a b o:A1 CW}{i j:Nat}(m:MH κ a b o i j):MH κ b a o j i:=⟨m.perm.trans DG,m.sor,m.lb,m.la⟩
theorem MH.addA{a b o:A1 CW}{i j:Nat}(m:MH κ a b o i j)(g:LQ κ a)(k:Nat)(d:k<=i)(h:∀y∈(a.take i).drop k,∀z∈b.take j,le κ z y):MH κ a b ((a.take i).drop k++o) k j:=by
 have f:LQ κ (a.take i):=g.sublist (ES _ _);have e:a.drop k =(a.take i).drop k++a.drop i:=by
  conv=>lhs;rw[<-B_ i a]
  rw[List.drop_append];by_cases l:i<=a.length
  .rw[AS,FM l,Nat.sub_eq_zero_of_le d,ET]
  .have:a.drop i = []:=FP (by lia);rw[this,List.drop_nil]
 have n:(a.take i).take k=a.take k:=by rw[H_,FM d]
 refine⟨?_,?_,λx hx y c=>?_,λx hx y c=>?_⟩
 .rw[e,BM];exact DY _ m.perm
 .exact C_.mpr ⟨f.sublist (GB _ _),m.sor,λx hx y c=>m.la y c x (EN hx)⟩
 .rw[<-n]at c;rcases A_.mp hx with hx | hx
  .exact Ik k f y c x hx
  .exact m.la x hx y (CK c)
 .rcases A_.mp hx with hx | hx
  .exact h x hx y c
  .exact m.lb x hx y c
theorem MH.addB{a b o:A1 CW}{i j:Nat}(m:MH κ a b o i j)(d:LQ κ b)(k:Nat)(c:k<=j)(e:∀y∈(b.take j).drop k,∀z∈a.take i,le κ z y):MH κ a b ((b.take j).drop k++o) i k :=
 (m.sym.addA d k c e).sym
theorem MH.endA{a b o:A1 CW}{i j:Nat}(m:MH κ a b o i j)(e:LQ κ a)(f:LQ κ b)(h:∀y∈a.take i,∀z∈b.take j,le κ y z):LQ κ (a.take i++b.take j++o)/\(a.take i++b.take j++o).Perm (a++b):=by
 refine⟨?_,?_⟩
 .refine C_.mpr ⟨C_.mpr ⟨e.sublist (ES _ _),f.sublist (ES _ _),h⟩,m.sor,λx hx y c=>?_⟩;rcases A_.mp hx with hx | hx
  .exact m.la y c x hx
  .exact m.lb y c x hx
 .have g:(a.take i++b.take j++o).Perm (a.take i++b.take j ++(a.drop i++b.drop j)):=DY _ m.perm;refine g.trans ?_;have d:(a.take i++b.take j ++(a.drop i++b.drop j)).Perm ((a.take i++a.drop i) ++(b.take j++b.drop j)):=by
   rw[BM,BM];refine DY _ ?_;rw[<-BM,<-BM];exact EA _ DG
  rw[B_,B_]at d;exact d
theorem MH.endB{a b o:A1 CW}{i j:Nat}(m:MH κ a b o i j)(c:LQ κ a)(d:LQ κ b)(h:∀y∈b.take j,∀z∈a.take i,le κ y z):LQ κ (b.take j++a.take i++o)/\(b.take j++a.take i++o).Perm (a++b) :=
 ⟨(m.sym.endA d c h).1,(m.sym.endA d c h).2.trans DG⟩
end
section
variable{prog:A7}{w:F8}{A:IY}{E:A2->A4->Prop}{s:A4}{κ:KeyKind}{kd:JR}
def Br(g:Nat):StateT IQ Sem Unit:=modify λs=>SortSt.mk' (kindOf s) (arrOf s) (pendingOf s) g (failedOf s)
def Et:CM CW->CM CW->StateT IQ Sem (CM CW):=sortPriv% PySem.Builtin.mergeLo
theorem Ki(a b:CM CW):Et a b =(do
  rule "list.sort.merge-lo"
  let d:=a.size+b.size
  let c (o:CM CW) (i j:Nat):=o++a.extract i a.size++b.extract j b.size
  let g (o:CM CW) (i j:Nat):=o++b.extract j b.size++a.extract i a.size
  let mut o:CM CW:=#[<-elem' b 0]
  let mut i:=0
  let mut j:=1
  if j == b.size then return c o i j
  if i+1 == a.size then return g o i j
  let mut mg:=gallopOf (<-get)
  for _ in [0:d] do
   let mut e:=0
   let mut f:=0
   for _ in [0:d] do
    let some h <-lt' (<-elem' b j) (<-elem' a i) | return c o i j
    if h then
     o:=o.push (<-elem' b j);j:=j+1;f:=f+1;e:=0
     if j == b.size then return c o i j
     if f ≥ mg then break
    else
     o:=o.push (<-elem' a i);i:=i+1;e:=e+1;f:=0
     if i+1 == a.size then return g o i j
     if e ≥ mg then break
   rule "list.sort.gallop"
   mg:=mg+1
   for _ in [0:d] do
    if mg>1 then mg:=mg-1
    Br mg
    let some k <-V5 false (<-elem' b j) a i (a.size-i) 0 | return c o i j
    e:=k
    if k>0 then
     o:=o++a.extract i (i+k);i:=i+k
     if i+1 == a.size then return g o i j
     if i == a.size then return c o i j
    o:=o.push (<-elem' b j);j:=j+1
    if j == b.size then return c o i j
    let some k <-V5 true (<-elem' a i) b j (b.size-j) 0 | return c o i j
    f:=k
    if k>0 then
     o:=o++b.extract j (j+k);j:=j+k
     if j == b.size then return c o i j
    o:=o.push (<-elem' a i);i:=i+1
    if i+1 == a.size then return g o i j
    if e<7&&f<7 then break
   mg:=mg+1
   Br mg
  unsupported "internal:list.sort.merge-bound"):=rfl
def Sm(st a:IQ):Prop:=kindOf a=kindOf st/\arrOf a=arrOf st/\pendingOf a=pendingOf st/\failedOf a=failedOf st
theorem Sm.refl(st:IQ):Sm st st:=⟨rfl,rfl,rfl,rfl⟩
theorem Y4{st st0:IQ}{g:Nat}{Q:Unit->IQ->Prop}(b:Sm st0 st)(h:∀a,Sm st0 a->Q () a):wpS (model prog w) A E s (Br g) Q st :=
 wpS_modify (h _ ⟨b.1,b.2.1,b.2.2.1,b.2.2.2⟩)
theorem Dj{l:A1 CW}{i k:Nat}{y:CW}(h:y∈(l.drop i).take k):∃t,t<k/\l[i+t]?=some y:=by
 obtain⟨t,a,e⟩:=GC.mp h;rw[AS,DJ]at a;refine⟨t,by lia,?_⟩;rw[List.getElem_take,List.getElem_drop]at e;rw[<-e];exact AC (by lia)
theorem Jr{l:A1 CW}{i:Nat}{y:CW}(h:y∈l.drop i):∃t,i+t<l.length/\l[i+t]?=some y:=by
 obtain⟨t,a,e⟩:=GC.mp h;rw[DJ]at a;refine⟨t,by lia,?_⟩;rw[List.getElem_drop]at e;rw[<-e];exact AC (by lia)
theorem Pm{l:A1 CW}{i:Nat}{y:CW}(h:y∈l.take i):∃t,t<i/\t<l.length/\l[t]?=some y:=by
 obtain⟨t,a,e⟩:=GC.mp h;rw[AS]at a;refine⟨t,by lia,by lia,?_⟩;rw[List.getElem_take]at e;rw[<-e];exact AC (by lia)
theorem Yy{l:A1 CW}{i k:Nat}{y:CW}(h:y∈(l.take i).drop k):∃t,k<=t/\t<i/\l[t]?=some y:=by
 obtain⟨t,b,a⟩:=Jr h;rw[AS]at b;rw[DV (by lia)]at a;exact⟨k+t,by lia,by lia,a⟩
theorem Ac{l:A1 CW}(h:LQ κ l){i j:Nat}{p q:CW}(a:i<=j)(b:l[i]?=some p)(c:l[j]?=some q):le κ p q:=by
 obtain⟨d,rfl⟩:=AE.mp b;obtain⟨e,rfl⟩:=AE.mp c;rcases Nat.lt_or_eq_of_le a with z | z
 .exact HJ.mp h i j d e z
 .subst z;exact SX _
theorem En{l:A1 CW}(h:LQ κ l){i:Nat}{p:CW}(a:l[i]?=some p):∀z∈l.drop i,le κ p z:=λz b=>by
 obtain⟨t,_,e⟩:=Jr b;exact Ac h (CO _ _) a e
theorem I7{a:CM CW}{i:Nat}{p:CW}:a[i]?=some p↔a.toList[i]?=some p:=by rw[BW]
theorem Z7{a:CM CW}{i:Nat}(h:i<a.size):∃p,a[i]?=some p:=⟨a[i],getElem?_pos a i h⟩
theorem Rs{l:A1 CW}{i:Nat}{p:CW}(h:l[i]?=some p):(l.drop i).take 1 = [p]:=by
 obtain⟨a,rfl⟩:=AE.mp h;rw[EB a];rfl
theorem Fj(a:CM CW)(i k:Nat):(a.extract i (i+k)).toList =(a.toList.drop i).take k:=by
 rw[FH,FB,Nat.add_sub_cancel_left]
theorem w4(a:CM CW)(i:Nat):(a.extract i a.size).toList=a.toList.drop i:=by
 rw[FH,FB,DL];rw[DJ,BF];exact VQ _
theorem u5(a:CM CW)(i:Nat):(a.extract 0 i).toList=a.toList.take i:=by
 rw[FH,FB,ET,Nat.sub_zero]
def Rm(κ:KeyKind)(a b r:CM CW):Prop:=LQ κ r.toList/\r.toList.Perm (a.toList++b.toList)
structure OC(κ:KeyKind)(a b:CM CW):Prop where
 sa:LQ κ a.toList
 sb:LQ κ b.toList
 ka:∀(i:Nat) p,a[i]?=some p->SH κ p
 kb:∀(i:Nat) p,b[i]?=some p->SH κ p
 na:1<=a.size
 nb:1<=b.size
 first:∀q,b[0]?=some q->∀z∈a.toList,le κ q z
 last:∀p,a[a.size-1]?=some p->∀z∈b.toList,le κ z p
section
variable{a b o:CM CW}{i j k:Nat}{p q:CW}
theorem OC.pushB(P:OC κ a b)(m:ML κ a.toList b.toList o.toList i j)(c:b[j]?=some q)(h:∀z∈a.toList.drop i,le κ q z):ML κ a.toList b.toList (o.push q).toList i (j+1):=by
 have d:=m.addB P.sb 1 (by rw[Rs (I7.mp c)];intro y e;rw[AG.mp e];exact h);rw[Rs (I7.mp c)]at d;rw[DZ];exact d
theorem OC.pushA(P:OC κ a b)(m:ML κ a.toList b.toList o.toList i j)(c:a[i]?=some p)(h:∀z∈b.toList.drop j,le κ p z):ML κ a.toList b.toList (o.push p).toList (i+1) j:=by
 have d:=m.addA P.sa 1 (by rw[Rs (I7.mp c)];intro y e;rw[AG.mp e];exact h);rw[Rs (I7.mp c)]at d;rw[DZ];exact d
theorem OC.extA(P:OC κ a b)(m:ML κ a.toList b.toList o.toList i j)(h:∀y∈(a.toList.drop i).take k,∀z∈b.toList.drop j,le κ y z):ML κ a.toList b.toList (o++a.extract i (i+k)).toList (i+k) j:=by
 rw[BR,Fj];exact m.addA P.sa k h
theorem OC.extB(P:OC κ a b)(m:ML κ a.toList b.toList o.toList i j)(h:∀y∈(b.toList.drop j).take k,∀z∈a.toList.drop i,le κ y z):ML κ a.toList b.toList (o++b.extract j (j+k)).toList i (j+k):=by
 rw[BR,Fj];exact m.addB P.sb k h
theorem OC.doneB(P:OC κ a b)(m:ML κ a.toList b.toList o.toList i j)(d:j=b.size):Rm κ a b (o++a.extract i a.size++b.extract j b.size):=by
 unfold Rm;rw[BR,BR,w4,w4];refine m.endA P.sa P.sb λy _ z c=>?_;rw[FP (by rw[BF];lia)]at c;exact absurd c (by simp)
theorem OC.doneA(P:OC κ a b)(m:ML κ a.toList b.toList o.toList i j)(hi:i=a.size):Rm κ a b (o++a.extract i a.size++b.extract j b.size):=by
 unfold Rm;rw[BR,BR,w4,w4];refine m.endA P.sa P.sb λy c z _=>?_;rw[FP (by rw[BF];lia)]at c;exact absurd c (by simp)
theorem OC.lastA(P:OC κ a b)(m:ML κ a.toList b.toList o.toList i j)(hi:i+1=a.size):Rm κ a b (o++b.extract j b.size++a.extract i a.size):=by
 unfold Rm;rw[BR,BR,w4,w4];refine m.endB P.sa P.sb λy d z f=>?_;obtain⟨t,g,c⟩:=Jr f;rw[BF]at g;have e:i+t=a.size-1:=by lia
 rw[e]at c;exact P.last z (I7.mpr c) y (EN d)
end
theorem Sm.knd{st a:IQ}(h:Sm st a){k:JR}(b:kindOf st=k):kindOf a=k:=h.1.trans b
theorem q9(C:RU prog w A s κ kd){st:IQ}{left:Bool}{d:CW}{b:CM CW}{bs n e:Nat}{Q:A5 Nat->IQ->Prop}(D:kindOf st=kd)(f:SH κ d)
  (hsz:bs+n<=b.size) (F:∀(i:Nat) p,b[i]?=some p->SH κ p) (G:∀(u v:Nat) p q,u<=v->v<n->b[bs+u]?=some p->b[bs+v]?=some q->le κ p q) (g:e<n)
  (h:∀k,k<=n->(∀(t:Nat) p,t<k->b[bs+t]?=some p->PB κ left d p=true)->(∀(t:Nat) p,k<=t->t<n->b[bs+t]?=some p->PB κ left d p=false)->Q (some k) st) :
  wpS (model prog w) A E s (V5 left d b bs n e) Q st:=by
 have c:∀t,t<n->∃p,b[bs+t]?=some p:=λt e=>Z7 (by lia);refine Qd C D f (λt=>match b[bs+t]? with | some p=>PB κ left d p | none=>false) (λi H=>?_) (λi j m y a=>?_) g λk o I J=>?_
 .obtain⟨p,a⟩:=c i H;exact⟨p,a,F _ p a,by rw[a]⟩
 .obtain⟨p,z⟩:=c i (by lia);obtain⟨q,B⟩:=c j y;rw[B]at a;rw[z];have l:=G i j p q m y z B;dsimp only at a⊢;unfold PB at a⊢;cases left with
  | true =>
   simp only[FE]at a⊢;exact KeyOrd.klt_of_kle_of_klt l a
  | false =>
   simp only[AY,CT,FJ]at a⊢;exact KeyOrd.kle_trans l a
 .refine h k o (λt p e a=>?_) λt p r x a=>?_
  .have:=I t e;rw[a]at this;exact this
  .have:=J t r x;rw[a]at this;exact this
theorem El{a p:CW}(h:PB κ false a p=true):le κ p a:=by
 unfold PB at h;show κ.blt (kk κ a) (kk κ p)=false;simpa using h
theorem Ci{a p:CW}(h:PB κ false a p=false):κ.klt (kk κ a) (kk κ p):=by
 unfold PB at h;show κ.blt (kk κ a) (kk κ p)=true;simpa using h
theorem Km{a p:CW}(h:PB κ true a p=true):κ.klt (kk κ p) (kk κ a):=by
 unfold PB at h;show κ.blt (kk κ p) (kk κ a)=true;simpa using h
theorem Fq{a p:CW}(h:PB κ true a p=false):le κ a p:=by
 unfold PB at h;show κ.blt (kk κ p) (kk κ a)=false;simpa using h
section
variable{α:Type}{Q:α->IQ->Prop}{st:IQ}
theorem U6{c:Prop}{_:Decidable c}{t e:StateT IQ Sem α}(h1:c->wpS (model prog w) A E s t Q st)(h2:¬c->wpS (model prog w) A E s e Q st):wpS (model prog w) A E s (if c then t else e) Q st:=by
 split
 .rename_i h;exact h1 h
 .rename_i h;exact h2 h
theorem P3{x y:Nat}{t e:StateT IQ Sem α}(h1:x=y->wpS (model prog w) A E s t Q st)(h2:x≠y->wpS (model prog w) A E s e Q st):wpS (model prog w) A E s (if(x == y)=true then t else e) Q st :=
 U6 (λh=>h1 (eq_of_beq h)) λh=>h2 λz=>h (beq_iff_eq.mpr z)
theorem Rx{c:Prop}{_:Decidable c}{t:StateT IQ Sem α}{F:Nat->StateT IQ Sem α}(x:Nat){y:Nat}(h:∀g,wpS (model prog w) A E s (F g) Q st)(e:t=F x):wpS (model prog w) A E s (if c then t else F y) Q st:=by
 subst e;exact U6 (λ_=>h _) λ_=>h _
theorem Fe{c:Prop}{_:Decidable c}{t:StateT IQ Sem α}{F:CM CW->Nat->StateT IQ Sem α}{o:CM CW}{i:Nat}(R:CM CW->Nat->Prop)(h:∀o i,R o i->wpS (model prog w) A E s (F o i) Q st)
  (a:(∀o i,R o i->wpS (model prog w) A E s (F o i) Q st)->c->wpS (model prog w) A E s t Q st) (b:¬c->R o i):wpS (model prog w) A E s (if c then t else F o i) Q st:=U6 (a h) λz=>h _ _ (b z)
end
theorem Vg{α β:Type}{h:Sem Unit}{i:StateT IQ Sem CW}{x0:CW}{b e:Prop}{_:Decidable b}{_:Decidable e}{j k:CW->StateT IQ Sem α}{d:CW->IQ->β}{n:Nat}{f:Nat->β->StateT IQ Sem (ForInStep β)}{g:β->StateT IQ Sem α}{Q:α->IQ->Prop}{st:IQ}
  (m:∀R:Unit->IQ->Prop,R () st->wpS (model prog w) A E s (liftM h:StateT IQ Sem Unit) R st) (o:∀R:CW->IQ->Prop,R x0 st->wpS (model prog w) A E s i R st) (h1:b->wpS (model prog w) A E s (j x0) Q st) (h2:¬b->e->wpS (model prog w) A E s (k x0) Q st)
  (p:¬b->¬e->wpS (model prog w) A E s (forIn [0:n] (d x0 st) f) (λc a=>wpS (model prog w) A E s (g c) Q a) st) :
  wpS (model prog w) A E s ((liftM h:StateT IQ Sem Unit) >>= λ_=>i >>= λx=>if b then j x else if e then k x else get >>= λa=>forIn [0:n] (d x a) f >>= g) Q st :=
 wpS_bind (m _ (wpS_bind (o _ (U6 h1 λl=>U6 (h2 l) λq=>wpS_bind (wpS_get (wpS_bind (p l q)))))))
def MR(κ:KeyKind)(a b:CM CW)(st:IQ){β:Type}(c:A5 (CM CW)×β)(d:IQ):Prop:=Sm st d/\∃r,c.1=some r/\Rm κ a b r
theorem MR.mk{a b r:CM CW}{st d:IQ}{β:Type}{c:β}(e:Sm st d)(h:Rm κ a b r):MR κ a b st (some r,c) d:=⟨e,r,rfl,h⟩
structure RF(κ:KeyKind)(a b:CM CW)(n:Nat)(o:CM CW)(i j:Nat):Prop where
 m:ML κ a.toList b.toList o.toList i j
 hi:i+1<a.size
 hj:j<b.size
 hn:n<=i+j
theorem RF.putB{a b o c:CM CW}{n i j:Nat}(h:RF κ a b n o i j)(m:ML κ a.toList b.toList c.toList i (j+1))(e:j+1≠b.size):RF κ a b (n+1) c i (j+1):=⟨m,h.hi,EK h.hj e,IJ h.hn⟩
theorem RF.putA{a b o c:CM CW}{n i j:Nat}(h:RF κ a b n o i j)(m:ML κ a.toList b.toList c.toList (i+1) j)(e:i+1+1≠a.size):RF κ a b (n+1) c (i+1) j:=⟨m,EK h.hi e,h.hj,by rw[Nat.add_right_comm];exact IJ h.hn⟩
theorem RF.mono{a b o:CM CW}{n c i j:Nat}(h:RF κ a b n o i j)(l:c<=n):RF κ a b c o i j:=⟨h.m,h.hi,h.hj,VR l h.hn⟩
def zLh(κ:KeyKind)(a b:CM CW)(st:IQ)(n:Nat)(c:A5 (CM CW)×CM CW×Nat×Nat×Nat)(d:IQ):Prop:=Sm st d/\∃o i j e,c =(none,o,i,j,e)/\RF κ a b n o i j
def QP(κ:KeyKind)(a b:CM CW)(st:IQ)(n:Nat)(c:A5 (CM CW)×CM CW×Nat×Nat×Nat×Nat)(d:IQ):Prop:=Sm st d/\∃o i j e f,c =(none,o,i,j,e,f)/\RF κ a b n o i j
def RG(κ:KeyKind)(a b:CM CW)(st:IQ)(n:Nat)(c:A5 (CM CW)×CM CW×Nat×Nat×Nat×Nat×Nat)(d:IQ):Prop:=Sm st d/\∃o i j e f g,c =(none,o,i,j,e,f,g)/\RF κ a b n o i j
theorem QP.mk{a b o:CM CW}{st c:IQ}{n i j d e:Nat}(f:Sm st c)(h:RF κ a b n o i j):QP κ a b st n (none,o,i,j,d,e) c:=⟨f,_,_,_,_,_,rfl,h⟩
theorem RG.mk{a b o:CM CW}{st c:IQ}{n i j mg d e:Nat}(f:Sm st c)(h:RF κ a b n o i j):RG κ a b st n (none,o,i,j,mg,d,e) c:=⟨f,_,_,_,_,_,_,rfl,h⟩
theorem Lg(C:RU prog w A s κ kd){st:IQ}{a b:CM CW}{Q:CM CW->IQ->Prop}(hk:kindOf st=kd)(P:OC κ a b)
  (h:∀r d,Sm st d->Rm κ a b r->Q r d):wpS (model prog w) A E s (Et a b) Q st:=by
 rw[Ki];obtain⟨b0,O⟩:=Z7 (a:=b) (i:=0) P.nb;have m0:ML κ a.toList b.toList (#[]:CM CW).toList 0 0:=⟨by simp,List.Pairwise.nil,λx hx=>absurd hx (by simp),λx hx=>absurd hx (by simp)⟩;have m1:ML κ a.toList b.toList (#[b0]:CM CW).toList 0 1:=by
  have:=P.pushB m0 O (by rw[ET];exact P.first b0 O);simpa using this
 apply Vg (x0:=b0) (λR z=>wpS_lift (EL ⟨rfl,z⟩)) (λR z=>E4 O z)
 case h1=>exact λS=>wpS_pure (h _ _ (Sm.refl _) (P.doneB m1 (eq_of_beq S)))
 case h2=>exact λ_ T=>wpS_pure (h _ _ (Sm.refl _) (P.lastA m1 (eq_of_beq T)))
 intro S T;have p1:RF κ a b 1 #[b0] 0 1:=⟨m1,EK P.na λz=>T (beq_iff_eq.mpr z),EK P.nb λz=>S (beq_iff_eq.mpr z),VQ _⟩;refine wpS_mono (wpS_forRange (I:=λx=>zLh κ a b st (x+1)) (Q:=MR κ a b st) ?st ?en ⟨Sm.refl _,_,_,_,_,rfl,p1⟩) ?po
 case po =>
  rintro⟨c1,c2⟩ d ⟨sm,r,e,Z⟩;cases e;exact wpS_pure (h r d sm Z)
 case en =>
  rintro c d ⟨sm,o,i,j,mg,rfl,p⟩;obtain⟨_,h1,h2,h3⟩:=p;exfalso;lia
 case st =>
  rintro x c d _ hx ⟨sm,o,i,j,mg,rfl,p⟩;refine wpS_bind (wpS_mono (wpS_forRange (I:=λ_=>QP κ a b st (x+1)) (Q:=λc d=>MR κ a b st c d\/QP κ a b st (x+1) c d) ?st1 ?en1 (QP.mk sm p)) ?po1)
  case en1=>exact λc st2 z=>.inr z
  case st1 =>
   rintro x2 c st2 _ _ ⟨f,o,i',j',ac,bc,rfl,N⟩;obtain⟨bj,l⟩:=Z7 (a:=b) (i:=j') N.hj;obtain⟨ai,n⟩:=Z7 (a:=a) (i:=i') (HC N.hi);refine wpS_bind (E4 l (wpS_bind (E4 n (wpS_bind (Go C (f.knd hk) (P.kb _ _ l) (P.ka _ _ n) ?_)))));refine U6 (λU=>wpS_bind (E4 l ?_)) λU=>wpS_bind (E4 n ?_)
   .have m3:=P.pushB N.m l λz H=>JQ (KeyOrd.kle_of_klt U) (En P.sa (I7.mp n) z H);refine P3 (λG=>wpS_pure (.inl (MR.mk f (P.doneB m3 G)))) λG=>?_;have D:=(N.putB m3 G).mono (EO _);exact U6 (λ_=>wpS_pure (.inr (QP.mk f D))) λ_=>wpS_pure (QP.mk f D)
   .have m3:=P.pushA N.m n λz H=>JQ (show le κ ai bj from BQ.mpr U) (En P.sb (I7.mp l) z H);refine P3 (λG=>wpS_pure (.inl (MR.mk f (P.lastA m3 G)))) λG=>?_;have D:=(N.putA m3 G).mono (EO _);exact U6 (λ_=>wpS_pure (.inr (QP.mk f D))) λ_=>wpS_pure (QP.mk f D)
  case po1 =>
   rintro⟨c1,c2⟩ st2 (⟨f,r,e,Z⟩ | ⟨f,o2,i2,j2,ac,bc,e,N⟩)
   .cases e;exact wpS_pure (MR.mk f Z)
   .cases e;refine wpS_bind (wpS_lift (EL ⟨rfl,?_⟩));refine wpS_bind (wpS_mono (wpS_forRange (I:=λx3=>RG κ a b st (x+1+x3)) (Q:=λc d=>MR κ a b st c d\/RG κ a b st (x+1+1) c d) ?st2 ?en2 (RG.mk f N)) ?po2)
    case en2 =>
     rintro c st3 ⟨F,o',i',j',mg',ac,bc,rfl,D⟩;refine .inr (RG.mk F (D.mono ?_));have:=P.na;lia
    case po2 =>
     rintro⟨c1,c2⟩ st3 (⟨F,r,e,Z⟩ | ⟨F,o',i',j',mg',ac,bc,e,D⟩)
     .cases e;exact wpS_pure (MR.mk F Z)
     .cases e;refine wpS_bind (Y4 F λst4 B=>?_);exact wpS_pure ⟨B,_,_,_,_,rfl,D⟩
    case st2 =>
     rintro x3 c st3 _ _ ⟨F,o3,V,j3,mg3,ac3,bc3,rfl,D⟩;obtain⟨bj,l⟩:=Z7 (a:=b) (i:=j3) D.hj;have hi3:V +(a.size-V)<=a.size:=by rw[Nat.add_sub_cancel' (DU (HC D.hi))];exact VQ _
     have hj3:=D.hj;apply Rx (mg3-1) (y:=mg3)
     case e=>exact rfl
     intro g;refine wpS_bind (Y4 F λst4 B=>?_);refine wpS_bind (E4 l (wpS_bind (q9 C (B.knd hk) (P.kb _ _ l) hi3 P.ka (λu v p q W _ G Y=>Ac P.sa (EX W _) (I7.mp G) (I7.mp Y)) (Nat.sub_pos_of_lt (HC D.hi)) λk hk1 k1 k2=>?_)));have m4:ML κ a.toList b.toList (o3++a.extract V (V+k)).toList (V+k) j3:=P.extA D.m λy hy z H=>by
      obtain⟨t,X,e⟩:=Dj hy;exact JQ (El (k1 t y X (I7.mpr e))) (En P.sb (I7.mp l) z H)
     have K:∀z∈a.toList.drop (V+k),le κ bj z:=λz H=>by
      obtain⟨t,X,e⟩:=Jr H;rw[BF]at X;exact KeyOrd.kle_of_klt (Ci (k2 (k+t) z (CO _ _) (by lia) (by rw[<-Nat.add_assoc];exact I7.mpr e)))
     apply Fe (o:=o3) (i:=V) (λo i=>RF κ a b (x+1+x3) o i j3/\∀z∈a.toList.drop i,le κ bj z)
     .rintro o4 i4 ⟨p4,K⟩;refine wpS_bind (E4 l ?_);have m5:=P.pushB p4.m l K;refine P3 (λe3=>wpS_pure (.inl (MR.mk B (P.doneB m5 e3)))) λe3=>?_;have L:=p4.putB m5 e3;generalize o4.push bj=o5 at m5 L⊢;generalize j3+1=j5 at m5 L⊢;obtain⟨ai,n⟩:=Z7 (a:=a) (i:=i4) (HC L.hi);refine wpS_bind (E4 n (wpS_bind (q9 C (B.knd hk) (P.ka _ _ n) (by rw[Nat.add_sub_cancel' (DU L.hj)];exact VQ _) P.kb (λu v p q W _ G Y=>Ac P.sb (EX W _) (I7.mp G) (I7.mp Y)) (Nat.sub_pos_of_lt L.hj) λk' hk1' k1' k2'=>?_)));have M:∀z∈b.toList.drop (j5+k'),le κ ai z:=λz H=>by
       obtain⟨t,X,e⟩:=Jr H;rw[BF]at X;exact Fq (k2' (k'+t) z (CO _ _) (by lia) (by rw[<-Nat.add_assoc];exact I7.mpr e))
      apply Fe (o:=o5) (i:=j5) (λo j=>RF κ a b (x+1+x3+1) o i4 j/\∀z∈b.toList.drop j,le κ ai z)
      .rintro o6 j6 ⟨p6,M⟩;refine wpS_bind (E4 n ?_);have m7:=P.pushA p6.m n M;refine P3 (λe5=>wpS_pure (.inl (MR.mk B (P.lastA m7 e5)))) λe5=>?_;have p7:=p6.putA m7 e5;exact U6 (λ_=>wpS_pure (.inr (RG.mk B (p7.mono (by lia))))) λ_=>wpS_pure (RG.mk B (p7.mono (by lia)))
      .intro hF J;have m6:ML κ a.toList b.toList (o5++b.extract j5 (j5+k')).toList i4 (j5+k'):=P.extB m5 λy hy z H=>by
        obtain⟨t,X,e⟩:=Dj hy;exact JQ (KeyOrd.kle_of_klt (Km (k1' t y X (I7.mpr e)))) (En P.sa (I7.mp n) z H)
       have hj5:=L.hj;exact P3 (λe4=>wpS_pure (.inl (MR.mk B (P.doneB m6 e4)))) λe4=>hF _ _ ⟨⟨m6,L.hi,by lia,VR L.hn (by lia)⟩,M⟩
      .intro J;have z0:k'=0:=GQ J;subst z0;exact⟨L,M⟩
     .intro hF J;have hi:=D.hi;exact P3 (λG=>wpS_pure (.inl (MR.mk B (P.lastA m4 G)))) λG=>P3 (λY=>wpS_pure (.inl (MR.mk B (P.doneA m4 Y)))) λY=>hF _ _ ⟨⟨m4,by lia,D.hj,VR D.hn (by lia)⟩,K⟩
     .intro J;have z0:k=0:=GQ J;subst z0;exact⟨D,K⟩
def Em:CM CW->CM CW->StateT IQ Sem (CM CW):=sortPriv% PySem.Builtin.mergeHi
theorem Kb(a b:CM CW):Em a b =(do
  rule "list.sort.merge-hi"
  let e:=a.size+b.size
  let d (o:CM CW) (i j:Nat):=a.extract 0 i++b.extract 0 j++o.reverse
  let h (o:CM CW) (i j:Nat):=b.extract 0 j++a.extract 0 i++o.reverse
  let mut i:=a.size-1
  let mut j:=b.size
  let mut o:CM CW:=#[<-elem' a i]
  if i == 0 then return d o i j
  if j == 1 then return h o i j
  let mut mg:=gallopOf (<-get)
  for _ in [0:e] do
   let mut f:=0
   let mut g:=0
   for _ in [0:e] do
    let some l <-lt' (<-elem' b (j-1)) (<-elem' a (i-1)) | return d o i j
    if l then
     i:=i-1;o:=o.push (<-elem' a i);f:=f+1;g:=0
     if i == 0 then return d o i j
     if f ≥ mg then break
    else
     j:=j-1;o:=o.push (<-elem' b j);g:=g+1;f:=0
     if j == 1 then return h o i j
     if g ≥ mg then break
   rule "list.sort.gallop"
   mg:=mg+1
   for _ in [0:e] do
    if mg>1 then mg:=mg-1
    Br mg
    let some c <-V5 false (<-elem' b (j-1)) a 0 i (i-1) | return d o i j
    let k:=i-c
    f:=k
    if k>0 then
     o:=o ++(a.extract c i).reverse;i:=c
     if i == 0 then return d o i j
    j:=j-1;o:=o.push (<-elem' b j)
    if j == 1 then return h o i j
    let some c <-V5 true (<-elem' a (i-1)) b 0 j (j-1) | return d o i j
    let k:=j-c
    g:=k
    if k>0 then
     o:=o ++(b.extract c j).reverse;j:=c
     if j == 1 then return h o i j
     if j == 0 then return d o i j
    i:=i-1;o:=o.push (<-elem' a i)
    if i == 0 then return d o i j
    if f<7&&g<7 then break
   mg:=mg+1
   Br mg
  unsupported "internal:list.sort.merge-bound"):=rfl
abbrev QF(κ:KeyKind)(a b o:CM CW)(i j:Nat):Prop:=MH κ a.toList b.toList o.toList.reverse i j
section
variable{a b o:CM CW}{i j k:Nat}{p q:CW}
theorem td1{l:A1 CW}{i:Nat}{p:CW}(hi:1<=i)(h:l[i-1]?=some p):(l.take i).drop (i-1) = [p]:=by
 rw[HE,show i-(i-1)=1 by lia];exact Rs h
theorem Jy(a:CM CW)(k i:Nat):(a.extract k i).toList =(a.toList.take i).drop k:=by
 rw[FH,FB,HE]
theorem Ga{l:A1 CW}(h:LQ κ l){i:Nat}{p:CW}(a:l[i-1]?=some p):∀z∈l.take i,le κ z p:=λz b=>by
 obtain⟨t,c,_,e⟩:=Pm b;exact Ac h (by lia) e a
theorem OC.hpA(P:OC κ a b)(m:QF κ a b o i j)(hi:1<=i)(c:a[i-1]?=some p)(h:∀z∈b.toList.take j,le κ z p):QF κ a b (o.push p) (i-1) j:=by
 have d:=m.addA P.sa (i-1) (by lia) (by rw[td1 hi (I7.mp c)];intro y e;rw[AG.mp e];exact h);rw[td1 hi (I7.mp c)]at d;unfold QF;rw[DZ,HL];exact d
theorem OC.hpB(P:OC κ a b)(m:QF κ a b o i j)(c:1<=j)(d:b[j-1]?=some q)(h:∀z∈a.toList.take i,le κ z q):QF κ a b (o.push q) i (j-1):=by
 have e:=m.addB P.sb (j-1) (by lia) (by rw[td1 c (I7.mp d)];intro y f;rw[AG.mp f];exact h);rw[td1 c (I7.mp d)]at e;unfold QF;rw[DZ,HL];exact e
theorem OC.heA(P:OC κ a b)(m:QF κ a b o i j)(c:k<=i)(h:∀y∈(a.toList.take i).drop k,∀z∈b.toList.take j,le κ z y):QF κ a b (o ++(a.extract k i).reverse) k j:=by
 unfold QF;rw[BR,GD,HL,List.reverse_reverse,Jy];exact m.addA P.sa k c h
theorem OC.heB(P:OC κ a b)(m:QF κ a b o i j)(c:k<=j)(h:∀y∈(b.toList.take j).drop k,∀z∈a.toList.take i,le κ z y):QF κ a b (o ++(b.extract k j).reverse) i k:=by
 unfold QF;rw[BR,GD,HL,List.reverse_reverse,Jy];exact m.addB P.sb k c h
theorem OC.hdA(P:OC κ a b)(m:QF κ a b o i j)(hi:i=0):Rm κ a b (a.extract 0 i++b.extract 0 j++o.reverse):=by
 unfold Rm;rw[BR,BR,GD,u5,u5];refine m.endA P.sa P.sb λy c z _=>?_;rw[hi,List.take_zero]at c;exact absurd c (by simp)
theorem OC.hdB(P:OC κ a b)(m:QF κ a b o i j)(d:j=0):Rm κ a b (a.extract 0 i++b.extract 0 j++o.reverse):=by
 unfold Rm;rw[BR,BR,GD,u5,u5];refine m.endA P.sa P.sb λy _ z c=>?_;rw[d,List.take_zero]at c;exact absurd c (by simp)
theorem OC.hfB(P:OC κ a b)(m:QF κ a b o i j)(g:j=1):Rm κ a b (b.extract 0 j++a.extract 0 i++o.reverse):=by
 unfold Rm;rw[BR,BR,GD,u5,u5];refine m.endB P.sa P.sb λy c z d=>?_;obtain⟨t,h,_,e⟩:=Pm c;have f:t=0:=by lia
 rw[f]at e;exact P.first y (I7.mpr e) z (CK d)
end
structure QE(κ:KeyKind)(a b:CM CW)(n:Nat)(o:CM CW)(i j:Nat):Prop where
 m:QF κ a b o i j
 hi:1<=i
 hj:2<=j
 ia:i<=a.size
 jb:j<=b.size
 hn:n+i+j<=a.size+b.size
theorem QE.putA{a b o c:CM CW}{n i j:Nat}(h:QE κ a b n o i j)(m:QF κ a b c (i-1) j)(e:i-1≠0):QE κ a b (n+1) c (i-1) j:=by
 obtain⟨_,g,d,k,f,l⟩:=h;exact⟨m,by lia,d,by lia,f,by lia⟩
theorem QE.putB{a b o c:CM CW}{n i j:Nat}(h:QE κ a b n o i j)(m:QF κ a b c i (j-1))(e:j-1≠1):QE κ a b (n+1) c i (j-1):=by
 obtain⟨_,d,g,f,k,l⟩:=h;exact⟨m,d,by lia,f,by lia,by lia⟩
theorem QE.mono{a b o:CM CW}{n c i j:Nat}(h:QE κ a b n o i j)(l:c<=n):QE κ a b c o i j:=⟨h.m,h.hi,h.hj,h.ia,h.jb,VR (Nat.add_le_add_right (Nat.add_le_add_right l _) _) h.hn⟩
theorem QE.la{a b o:CM CW}{n i j:Nat}(h:QE κ a b n o i j):i-1<a.size:=BH (Nat.sub_lt h.hi (HS)) h.ia
theorem QE.lb{a b o:CM CW}{n i j:Nat}(h:QE κ a b n o i j):j-1<b.size:=BH (Nat.sub_lt (HC h.hj) (HS)) h.jb
theorem QE.hj1{a b o:CM CW}{n i j:Nat}(h:QE κ a b n o i j):1<=j:=Nat.le_of_succ_le h.hj
def zKk(κ:KeyKind)(a b:CM CW)(st:IQ)(n:Nat)(c:A5 (CM CW)×Nat×Nat×CM CW×Nat)(d:IQ):Prop:=Sm st d/\∃i j o e,c =(none,i,j,o,e)/\QE κ a b n o i j
def QQ(κ:KeyKind)(a b:CM CW)(st:IQ)(n:Nat)(c:A5 (CM CW)×Nat×Nat×CM CW×Nat×Nat)(d:IQ):Prop:=Sm st d/\∃i j o e f,c =(none,i,j,o,e,f)/\QE κ a b n o i j
def RH(κ:KeyKind)(a b:CM CW)(st:IQ)(n:Nat)(c:A5 (CM CW)×Nat×Nat×CM CW×Nat×Nat×Nat)(d:IQ):Prop:=Sm st d/\∃i j o e f g,c =(none,i,j,o,e,f,g)/\QE κ a b n o i j
theorem QQ.mk{a b o:CM CW}{st c:IQ}{n i j d e:Nat}(f:Sm st c)(h:QE κ a b n o i j):QQ κ a b st n (none,i,j,o,d,e) c:=⟨f,_,_,_,_,_,rfl,h⟩
theorem RH.mk{a b o:CM CW}{st c:IQ}{n i j mg d e:Nat}(f:Sm st c)(h:QE κ a b n o i j):RH κ a b st n (none,i,j,o,mg,d,e) c:=⟨f,_,_,_,_,_,_,rfl,h⟩
theorem Jw(C:RU prog w A s κ kd){st:IQ}{a b:CM CW}{Q:CM CW->IQ->Prop}(hk:kindOf st=kd)(P:OC κ a b)
  (h:∀r f,Sm st f->Rm κ a b r->Q r f):wpS (model prog w) A E s (Em a b) Q st:=by
 rw[Kb];have hna:=P.na;have hnb:=P.nb;obtain⟨b0,U⟩:=Z7 (a:=a) (i:=a.size-1) (Nat.sub_lt hna HS);have m0:QF κ a b (#[]:CM CW) a.size b.size:=⟨by simp,List.Pairwise.nil,λx hx=>absurd hx (by simp),λx hx=>absurd hx (by simp)⟩;have m1:QF κ a b (#[b0]:CM CW) (a.size-1) b.size:=by
  have:=P.hpA m0 hna U (λz J=>P.last b0 U z (CK J));simpa using this
 apply Vg (x0:=b0) (λR z=>wpS_lift (EL ⟨rfl,z⟩)) (λR z=>E4 U z)
 case h1=>exact λN=>wpS_pure (h _ _ (Sm.refl _) (P.hdA m1 (eq_of_beq N)))
 case h2=>exact λ_ O=>wpS_pure (h _ _ (Sm.refl _) (P.hfB m1 (eq_of_beq O)))
 intro N O;have N:¬a.size-1=0:=λz=>N (beq_iff_eq.mpr z);have O:¬b.size=1:=λz=>O (beq_iff_eq.mpr z);have p1:QE κ a b 1 #[b0] (a.size-1) b.size:=⟨m1,by lia,by lia,by lia,by lia,by lia⟩;refine wpS_mono (wpS_forRange (I:=λx=>zKk κ a b st (x+1)) (Q:=MR κ a b st) ?st ?en ⟨Sm.refl _,_,_,_,_,rfl,p1⟩) ?po
 case po =>
  rintro⟨c1,c2⟩ f ⟨sm,r,e,hr⟩;cases e;exact wpS_pure (h r f sm hr)
 case en =>
  rintro c f ⟨sm,i,j,o,mg,rfl,p⟩;obtain⟨_,h1,h2,_,_,h3⟩:=p;exfalso;lia
 case st =>
  rintro x c f _ hx ⟨sm,i,j,o,mg,rfl,p⟩;refine wpS_bind (wpS_mono (wpS_forRange (I:=λ_=>QQ κ a b st (x+1)) (Q:=λc f=>MR κ a b st c f\/QQ κ a b st (x+1) c f) ?st1 ?en1 (QQ.mk sm p)) ?po1)
  case en1=>exact λc st2 z=>.inr z
  case st1 =>
   rintro x2 c st2 _ _ ⟨l,i',j',o,ac,bc,rfl,M⟩;obtain⟨bj,n⟩:=Z7 (a:=b) (i:=j' - 1) M.lb;obtain⟨ai,B⟩:=Z7 (a:=a) (i:=i' - 1) M.la;refine wpS_bind (E4 n (wpS_bind (E4 B (wpS_bind (Go C (l.knd hk) (P.kb _ _ n) (P.ka _ _ B) ?_)))));refine U6 (λV=>wpS_bind (E4 B ?_)) λV=>wpS_bind (E4 n ?_)
   .have m3:=P.hpA M.m M.hi B λz J=>JQ (Ga P.sb (I7.mp n) z J) (KeyOrd.kle_of_klt V);refine P3 (λH=>wpS_pure (.inl (MR.mk l (P.hdA m3 H)))) λH=>?_;have F:=(M.putA m3 H).mono (EO _);exact U6 (λ_=>wpS_pure (.inr (QQ.mk l F))) λ_=>wpS_pure (QQ.mk l F)
   .have m3:=P.hpB M.m M.hj1 n λz J=>JQ (Ga P.sa (I7.mp B) z J) (show le κ ai bj from BQ.mpr V);refine P3 (λH=>wpS_pure (.inl (MR.mk l (P.hfB m3 H)))) λH=>?_;have F:=(M.putB m3 H).mono (EO _);exact U6 (λ_=>wpS_pure (.inr (QQ.mk l F))) λ_=>wpS_pure (QQ.mk l F)
  case po1 =>
   rintro⟨c1,c2⟩ st2 (⟨l,r,e,hr⟩ | ⟨l,i2,j2,o2,ac,bc,e,M⟩)
   .cases e;exact wpS_pure (MR.mk l hr)
   .cases e;refine wpS_bind (wpS_lift (EL ⟨rfl,?_⟩));refine wpS_bind (wpS_mono (wpS_forRange (I:=λx3=>RH κ a b st (x+1+x3)) (Q:=λc f=>MR κ a b st c f\/RH κ a b st (x+1+1) c f) ?st2 ?en2 (RH.mk l M)) ?po2)
    case en2 =>
     rintro c st3 ⟨G,i',j',o',mg',ac,bc,rfl,F⟩;exact .inr (RH.mk G (F.mono (by lia)))
    case po2 =>
     rintro⟨c1,c2⟩ st3 (⟨G,r,e,hr⟩ | ⟨G,i',j',o',mg',ac,bc,e,F⟩)
     .cases e;exact wpS_pure (MR.mk G hr)
     .cases e;refine wpS_bind (Y4 G λst4 D=>?_);exact wpS_pure ⟨D,_,_,_,_,rfl,F⟩
    case st2 =>
     rintro x3 c st3 _ _ ⟨G,i3,j3,o3,mg3,ac3,bc3,rfl,F⟩;obtain⟨bj,n⟩:=Z7 (a:=b) (i:=j3-1) F.lb;apply Rx (mg3-1) (y:=mg3)
     case e=>exact rfl
     intro g;refine wpS_bind (Y4 G λst4 D=>?_);refine wpS_bind (E4 n (wpS_bind (q9 C (D.knd hk) (P.kb _ _ n) (by rw[EJ];exact F.ia) P.ka (λu v p q W _ H e2=>Ac P.sa (EX W _) (I7.mp H) (I7.mp e2)) (Nat.sub_lt F.hi HS) λk X k1 k2=>?_)));dsimp only;have m4:QF κ a b (o3 ++(a.extract k i3).reverse) k j3:=P.heA F.m X λy hy z J=>by
      obtain⟨t,Y,Z,e⟩:=Yy hy;exact JQ (Ga P.sb (I7.mp n) z J) (KeyOrd.kle_of_klt (Ci (k2 t y Y Z (by rw[EJ];exact I7.mpr e))))
     have S:∀z∈a.toList.take k,le κ z bj:=λz J=>by
      obtain⟨t,ht,_,e⟩:=Pm J;exact El (k1 t z ht (by rw[EJ];exact I7.mpr e))
     generalize hd:i3-k=d;apply Fe (o:=o3) (i:=i3) (λo i=>QE κ a b (x+1+x3) o i j3/\∀z∈a.toList.take i,le κ z bj)
     .rintro o4 i4 ⟨p4,S⟩;refine wpS_bind (E4 n ?_);have m5:=P.hpB p4.m p4.hj1 n S;refine P3 (λe3=>wpS_pure (.inl (MR.mk D (P.hfB m5 e3)))) λe3=>?_;have p5:=p4.putB m5 e3;generalize o4.push bj=o5 at m5 p5⊢;generalize j3-1=j5 at m5 p5⊢;obtain⟨ai,B⟩:=Z7 (a:=a) (i:=i4-1) p5.la;refine wpS_bind (E4 B (wpS_bind (q9 C (D.knd hk) (P.ka _ _ B) (by rw[EJ];exact p5.jb) P.kb (λu v p q W _ H e2=>Ac P.sb (EX W _) (I7.mp H) (I7.mp e2)) (Nat.sub_lt p5.hj1 HS) λk' K k1' k2'=>?_)));dsimp only;have T:∀z∈b.toList.take k',le κ z ai:=λz J=>by
       obtain⟨t,ht,_,e⟩:=Pm J;exact KeyOrd.kle_of_klt (Km (k1' t z ht (by rw[EJ];exact I7.mpr e)))
      generalize hd':j5-k'=d';apply Fe (o:=o5) (i:=j5) (λo j=>QE κ a b (x+1+x3+1) o i4 j/\∀z∈b.toList.take j,le κ z ai)
      .rintro o6 j6 ⟨p6,T⟩;refine wpS_bind (E4 B ?_);have m7:=P.hpA p6.m p6.hi B T;refine P3 (λe5=>wpS_pure (.inl (MR.mk D (P.hdA m7 e5)))) λe5=>?_;have p7:=p6.putA m7 e5;exact U6 (λ_=>wpS_pure (.inr (RH.mk D (p7.mono (by lia))))) λ_=>wpS_pure (RH.mk D (p7.mono (by lia)))
      .intro hF L;have m6:QF κ a b (o5 ++(b.extract k' j5).reverse) i4 k':=P.heB m5 K λy hy z J=>by
        obtain⟨t,Y,Z,e⟩:=Yy hy;exact JQ (Ga P.sa (I7.mp B) z J) (Fq (k2' t y Y Z (by rw[EJ];exact I7.mpr e)))
       obtain⟨_,h1,h2,h3,h4,h5⟩:=p5;exact P3 (λe4=>wpS_pure (.inl (MR.mk D (P.hfB m6 e4)))) λe4=>P3 (λe5=>wpS_pure (.inl (MR.mk D (P.hdB m6 e5)))) λe5=>hF _ _ ⟨⟨m6,h1,by lia,h3,VR K h4,by lia⟩,T⟩
      .intro L;have z0:k'=j5:=Nat.le_antisymm K (Nat.le_of_sub_eq_zero (hd'.trans (GQ L)));subst z0;exact⟨p5,T⟩
     .intro hF L;obtain⟨_,h1,h2,h3,h4,h5⟩:=F;exact P3 (λH=>wpS_pure (.inl (MR.mk D (P.hdA m4 H)))) λH=>hF _ _ ⟨⟨m4,by lia,h2,VR X h3,h4,by lia⟩,S⟩
     .intro L;have z0:k=i3:=Nat.le_antisymm X (Nat.le_of_sub_eq_zero (hd.trans (GQ L)));subst z0;exact⟨F,S⟩
def KD(l:A1 CW)(lo n:Nat):A1 CW:=(l.drop lo).take n
theorem Uf(m:A1 CW)(lo:Nat):∀(n:Nat) (a:CM CW),lo+n+m.length<=a.size ->
  ((m.zipIdx n).foldl (λa (x:CW×Nat)=>a.setIfInBounds (lo+x.2) x.1) a).size=a.size /\
  ∀t:Nat,((m.zipIdx n).foldl (λa (x:CW×Nat)=>a.setIfInBounds (lo+x.2) x.1) a)[t]?=if lo+n<=t/\t<lo+n+m.length then m[t-(lo+n)]? else a[t]?:=by
 induction m with
 | nil =>
  intro n a h;refine⟨rfl,λt=>?_⟩;rw[AN (by simp only[E_];lia)];rfl
 | cons p m d =>
  intro n a h;rw[BK]at h;rw[List.zipIdx_cons,List.foldl_cons];obtain⟨e,f⟩:=d (n+1) (a.setIfInBounds (lo+n) p) (by rw[HM];lia);refine⟨e.trans HM,λt=>?_⟩;rw[f t,BK];by_cases b:lo+n=t
  .subst b;rw[AN (by lia),AQ (by lia),Array.getElem?_setIfInBounds_self_of_lt (by lia),Nat.sub_self];rfl
  .by_cases c:lo +(n+1)<=t/\t<lo +(n+1)+m.length
   .rw[AQ c,AQ (by lia),show t-(lo+n) =(t-(lo +(n+1)))+1 by lia,List.getElem?_cons_succ]
   .rw[AN c,AN (by lia),Array.getElem?_setIfInBounds_ne b]
theorem Da(m:A1 CW)(lo:Nat)(a:CM CW)(h:lo+m.length<=a.size) :
  (m.zipIdx.foldl (λa (x:CW×Nat)=>a.setIfInBounds (lo+x.2) x.1) a).toList=a.toList.take lo++m++a.toList.drop (lo+m.length):=by
 obtain⟨e,c⟩:=Uf m lo 0 a (by lia);refine GE λt=>?_;rw[BW,c t];have b:(a.toList.take lo).length=lo:=by rw[AS,BF];lia
 by_cases d:t<lo
 .rw[AN (by lia),BM,DI (by lia),DV d,BW]
 .by_cases f:t<lo+m.length
  .rw[AQ (by lia),DI (by rw[AW];lia),DE (by lia),b];rfl
  .rw[AN (by lia),DE (by rw[AW];lia),AW,b,GR,BW];congr 1;lia
theorem Uq(l:A1 CW)(lo n:Nat):l=l.take lo++KD l lo n++l.drop (lo+n):=by
 unfold KD;rw[BM,<-FS,B_,B_]
theorem Lr(l:A1 CW)(lo n m:Nat):KD l lo (n+m)=KD l lo n++KD l (lo+n) m:=by
 unfold KD;rw[List.take_add,FS]
structure ME(κ:KeyKind)(l l':A1 CW)(lo n:Nat):Prop where
 perm:l'.Perm l
 front:l'.take lo=l.take lo
 back:l'.drop (lo+n)=l.drop (lo+n)
theorem ME.refl(l:A1 CW)(lo n:Nat):ME κ l l lo n:=⟨HF _,rfl,rfl⟩
theorem ME.seg_front{l a:A1 CW}{lo n:Nat}(h:ME κ l a lo n){u m:Nat}(b:u+m<=lo):KD a u m=KD l u m:=by
 have:∀x:A1 CW,KD x u m =((x.take lo).drop u).take m:=λx=>by
  unfold KD;rw[HE,H_,FM (by lia)]
 rw[this,this,h.front]
theorem ME.seg_back{l a:A1 CW}{lo n:Nat}(h:ME κ l a lo n){u m:Nat}(b:lo+n<=u):KD a u m=KD l u m:=by
 have:∀x:A1 CW,KD x u m =((x.drop (lo+n)).drop (u-(lo+n))).take m:=λx=>by
  unfold KD;rw[FS,show lo+n +(u-(lo+n))=u by lia]
 rw[this,this,h.back]
theorem ME.of{l z:A1 CW}{lo n:Nat}(hz:z.Perm (KD l lo n))(c:lo+n<=l.length):ME κ l (l.take lo++z++l.drop (lo+n)) lo n/\KD (l.take lo++z++l.drop (lo+n)) lo n=z:=by
 have a:(l.take lo).length=lo:=by rw[AS];lia
 have b:z.length=n:=by
  rw[hz.length_eq];unfold KD;rw[AS,DJ];lia
 refine⟨⟨?_,?_,?_⟩,?_⟩
 .conv=>rhs;rw[Uq l lo n]
  exact EA _ (DY _ hz)
 .rw[BM,List.take_append_of_le_length (by lia),DL (by lia)]
 .rw[List.drop_append,FP (by rw[AW];lia),List.nil_append,AW,a,b,Nat.sub_self,ET]
 .unfold KD;rw[BM,List.drop_append,FP (by lia),List.nil_append,a,Nat.sub_self,ET,List.take_append_of_le_length (by lia),DL (by lia)]
structure St(κ:KeyKind)(kd:JR)(a₀:CM CW)(st:IQ):Prop where
 perm:(arrOf st).toList.Perm a₀.toList
 kind:kindOf st=kd
 failed:failedOf st=none
theorem St.size{a₀:CM CW}{st:IQ}(h:St κ kd a₀ st):(arrOf st).size=a₀.size:=by
 have:=h.perm.length_eq;simpa using this
theorem St.has{a₀:CM CW}{st:IQ}(h:St κ kd a₀ st)(b:KeysOf κ a₀)(i:Nat)(p:CW)(e:(arrOf st)[i]?=some p):SH κ p :=
 b p (h.perm.mem_iff.mp (AM (I7.mp e)))
theorem Q3{l:A1 CW}{lo n t:Nat}(a:t<n):(KD l lo n)[t]?=l[lo+t]?:=by
 unfold KD;rw[DV a,GR]
theorem Ly(i:Nat):mergeAt' i =(do
  let u <-get
  let(some (b,c,f),some (e,d,_)):=((pendingOf u)[i]?,(pendingOf u)[i+1]?) | unsupported "internal:list.sort.pending"
  set (setPending u (((pendingOf u).setIfInBounds i (b,c+d,f)).eraseIdxIfInBounds (i+1)))
  let some k <-V5 false (<-elem' (arrOf u) e) (arrOf u) b c 0 | return false
  let(b,c):=(b+k,c-k)
  if c == 0 then return true
  let some d <-V5 true (<-elem' (arrOf u) (b+c-1)) (arrOf u) e d (d-1) | return false
  if d == 0 then return true
  let x:=(arrOf u).extract b e
  let y:=(arrOf u).extract e (e+d)
  let g <-if c<=d then Et x y else Em x y
  modify λv=>setArr v (g.toList.zipIdx.foldl (λa (z:CW×Nat)=>a.setIfInBounds (b+z.2) z.1) (arrOf v))
  return(failedOf (<-get)).isNone):=rfl
theorem zCz{st st2:IQ}{Q:PUnit->IQ->Prop}(h:Q ⟨⟩ st2):wpS (model prog w) A E s (set st2:StateT IQ Sem PUnit) Q st:=by
 unfold wpS;rw[StateT.run_set];exact AF ⟨rfl,h⟩
theorem Kv(C:RU prog w A s κ kd){a₀:CM CW}(L:KeysOf κ a₀){st:IQ}{i b c pw sb f pw2:Nat}{Q:Bool->IQ->Prop}(j:St κ kd a₀ st)
  (hi:(pendingOf st)[i]?=some (b,c,pw)) (hj:(pendingOf st)[i+1]?=some (sb,f,pw2)) (hsb:sb=b+c) (hsz:sb+f<=a₀.size) (hna:1<=c) (hnb:1<=f)
  (N:LQ κ (KD (arrOf st).toList b c)) (O:LQ κ (KD (arrOf st).toList sb f))
  (h:∀n,St κ kd a₀ n->ME κ (arrOf st).toList (arrOf n).toList b (c+f)->LQ κ (KD (arrOf n).toList b (c+f)) ->
   pendingOf n =((pendingOf st).setIfInBounds i (b,c+f,pw)).eraseIdxIfInBounds (i+1)->Q true n):wpS (model prog w) A E s (mergeAt' i) Q st:=by
 subst hsb;have hL:(arrOf st).toList.length=a₀.size:=by rw[BF];exact j.size
 have hsz':=j.size;rw[Ly];refine wpS_bind (wpS_get ?_);rw[hi,hj];dsimp only;refine wpS_bind (zCz ?_);obtain⟨R,D⟩:=Z7 (a:=arrOf st) (i:=b+c) (by lia);have S:∀u v p q,u<=v->v<c->(arrOf st)[b+u]?=some p->(arrOf st)[b+v]?=some q->le κ p q:=λu v p q H hv T F =>
  Ac N H (by rw[Q3 (by lia)];exact I7.mp T) (by rw[Q3 hv];exact I7.mp F)
 have U:∀u v p q,u<=v->v<f->(arrOf st)[b+c+u]?=some p->(arrOf st)[b+c+v]?=some q->le κ p q:=λu v p q H hv T F =>
  Ac O H (by rw[Q3 (by lia)];exact I7.mp T) (by rw[Q3 hv];exact I7.mp F)
 refine wpS_bind (E4 D (wpS_bind (q9 C j.kind (j.has L _ _ D) (by lia) (j.has L) S (by lia) λk hk1 k1 k2=>?_)));dsimp only;have V:∀z∈KD (arrOf st).toList (b+c) f,le κ R z:=λz I=>by
  obtain⟨t,l,e⟩:=Dj I;exact U 0 t R z (by lia) l D (I7.mpr e)
 have xk:∀x∈(KD (arrOf st).toList b c).take k,le κ x R:=λx hx=>by
  obtain⟨t,l,o,e⟩:=Pm hx;unfold KD at o;rw[AS]at o;rw[Q3 (by lia)]at e;exact El (k1 t x l (I7.mpr e))
 have kx:∀x∈(KD (arrOf st).toList b c).drop k,le κ R x:=λx hx=>by
  obtain⟨t,l,e⟩:=Jr hx;unfold KD at l;rw[AS]at l;rw[Q3 (by lia)]at e;exact KeyOrd.kle_of_klt (Ci (k2 (k+t) x (by lia) (by lia) (I7.mpr e)))
 have W:St κ kd a₀ (setPending st (((pendingOf st).setIfInBounds i (b,c+f,pw)).eraseIdxIfInBounds (i+1))):=⟨j.perm,j.kind,j.failed⟩;by_cases X:c-k=0
 .rw[AQ (by simpa using X)];have hkk:k=c:=by lia
  refine wpS_pure (h _ W (ME.refl _ _ _) ?_ rfl);show LQ κ (KD (arrOf st).toList b (c+f));rw[Lr];refine C_.mpr ⟨N,O,λx hx y hy=>JQ (xk x ?_) (V y hy)⟩;rw[DL (by unfold KD;rw[AS];lia)];exact hx
 rw[AN (by simpa using X)];obtain⟨M,J⟩:=Z7 (a:=arrOf st) (i:=b+k +(c-k)-1) (by lia);refine wpS_bind (E4 J (wpS_bind (q9 C W.kind (j.has L _ _ J) (by lia) (j.has L) U (by lia) λg Y k1' k2'=>?_)));dsimp only;have G:(arrOf st)[b +(c-1)]?=some M:=by rw[show b +(c-1)=b+k +(c-k)-1 by lia];exact J
 have K:∀x∈KD (arrOf st).toList b c,le κ x M:=λx hx=>by
  obtain⟨t,l,e⟩:=Dj hx;exact S t (c-1) x M (by lia) (by lia) (I7.mpr e) G
 have yk:∀y∈(KD (arrOf st).toList (b+c) f).take g,le κ y M:=λy hy=>by
  obtain⟨t,l,o,e⟩:=Pm hy;unfold KD at o;rw[AS]at o;rw[Q3 (by lia)]at e;exact KeyOrd.kle_of_klt (Km (k1' t y l (I7.mpr e)))
 have ky:∀y∈(KD (arrOf st).toList (b+c) f).drop g,le κ M y:=λy hy=>by
  obtain⟨t,l,e⟩:=Jr hy;unfold KD at l;rw[AS]at l;rw[Q3 (by lia)]at e;exact Fq (k2' (g+t) y (by lia) (by lia) (I7.mpr e))
 by_cases B:g=0
 .rw[AQ (by simpa using B)];refine wpS_pure (h _ W (ME.refl _ _ _) ?_ rfl);show LQ κ (KD (arrOf st).toList b (c+f));rw[Lr];refine C_.mpr ⟨N,O,λx hx y hy=>JQ (K x hx) (ky y ?_)⟩;rw[B,ET];exact hy
 rw[AN (by simpa using B)];have Z:((arrOf st).extract (b+k) (b+c)).toList =(KD (arrOf st).toList b c).drop k:=by
  rw[Jy];unfold KD;rw[HE,HE,FS];congr 1;lia
 have ey:((arrOf st).extract (b+c) (b+c+g)).toList =(KD (arrOf st).toList (b+c) f).take g:=by
  rw[Fj];unfold KD;rw[H_,FM Y]
 have P:OC κ ((arrOf st).extract (b+k) (b+c)) ((arrOf st).extract (b+c) (b+c+g)):=by
  refine⟨by rw[Z];exact N.sublist (GB _ _),by rw[ey];exact O.sublist (ES _ _),λt p e=>?_,λt p e=>?_,?_,?_,λq e z I=>?_,λp e z I=>?_⟩
  .have m:=AM (I7.mp e);rw[Z]at m;obtain⟨u,_,F⟩:=Dj (EN m);exact j.has L _ p (I7.mpr F)
  .have m:=AM (I7.mp e);rw[ey]at m;obtain⟨u,_,F⟩:=Dj (CK m);exact j.has L _ p (I7.mpr F)
  .rw[GS];lia
  .rw[GS];lia
  .have m:=I7.mp e;rw[ey,DV (by lia),Q3 (by lia)]at m;have:q=R:=by
    have:=I7.mp D;rw[Nat.add_zero,this]at m;exact(BJ m).symm
   subst this;rw[Z]at I;exact kx z I
  .have m:=I7.mp e;rw[Z,GS,GR,Q3 (by lia)]at m;have:p=M:=by
    have q:=I7.mp G;rw[show k +(min (b+c) (arrOf st).size-(b+k)-1)=c-1 by lia,q]at m;exact(BJ m).symm
   subst this;rw[ey]at I;exact yk z I
 have fin:∀(r:CM CW) (d:IQ),Sm (setPending st (((pendingOf st).setIfInBounds i (b,c+f,pw)).eraseIdxIfInBounds (i+1))) d->Rm κ ((arrOf st).extract (b+k) (b+c)) ((arrOf st).extract (b+c) (b+c+g)) r ->
   Q (failedOf (setArr d (r.toList.zipIdx.foldl (λa (z:CW×Nat)=>a.setIfInBounds (b+k+z.2) z.1) (arrOf d)))).isNone (setArr d (r.toList.zipIdx.foldl (λa (z:CW×Nat)=>a.setIfInBounds (b+k+z.2) z.1) (arrOf d))):=by
  rintro r d ⟨q1,q2,q3,q4⟩ ⟨r1,r2⟩;rw[Z,ey]at r2;have hrl:r.toList.length =(c-k)+g:=by
   rw[r2.length_eq,AW];unfold KD;rw[DJ,AS,AS,DJ,AS,DJ];lia
  have q2':arrOf d=arrOf st:=q2;have ef:failedOf (setArr d (r.toList.zipIdx.foldl (λa (z:CW×Nat)=>a.setIfInBounds (b+k+z.2) z.1) (arrOf d)))=none:=q4.trans j.failed;rw[ef];have el:=Da r.toList (b+k) (arrOf d) (by rw[q2'];lia);have eq:(r.toList.zipIdx.foldl (λa (z:CW×Nat)=>a.setIfInBounds (b+k+z.2) z.1) (arrOf d)).toList =(arrOf st).toList.take b ++((KD (arrOf st).toList b c).take k++r.toList ++(KD (arrOf st).toList (b+c) f).drop g) ++(arrOf st).toList.drop (b +(c+f)):=by
   rw[el,q2',hrl];have T:(arrOf st).toList.take (b+k) =(arrOf st).toList.take b ++(KD (arrOf st).toList b c).take k:=by
    unfold KD;rw[List.take_add,H_,FM hk1]
   have F:(arrOf st).toList.drop (b+k +(c-k+g)) =(KD (arrOf st).toList (b+c) f).drop g ++(arrOf st).toList.drop (b +(c+f)):=by
    unfold KD;rw[HE,FS,show b+k +(c-k+g)=b+c+g by lia]
    conv=>lhs;rw[<-B_ (f-g) ((arrOf st).toList.drop (b+c+g))]
    rw[FS,show b+c+g +(f-g)=b +(c+f) by lia]
   rw[T,F];simp only[BM]
  have hp:((KD (arrOf st).toList b c).take k++r.toList ++(KD (arrOf st).toList (b+c) f).drop g).Perm (KD (arrOf st).toList b (c+f)):=by
   rw[Lr];have a1:((KD (arrOf st).toList b c).take k++r.toList ++(KD (arrOf st).toList (b+c) f).drop g).Perm ((KD (arrOf st).toList b c).take k ++((KD (arrOf st).toList b c).drop k ++(KD (arrOf st).toList (b+c) f).take g) ++(KD (arrOf st).toList (b+c) f).drop g) :=
    EA _ (DY _ r2)
   refine a1.trans (List.Perm.of_eq ?_);rw[<-BM,B_,BM,B_]
  obtain⟨pa,ps⟩:=ME.of (κ:=κ) hp (by rw[hL];lia);have hs:LQ κ ((KD (arrOf st).toList b c).take k++r.toList ++(KD (arrOf st).toList (b+c) f).drop g):=by
   refine C_.mpr ⟨C_.mpr ⟨N.sublist (ES _ _),r1,λx hx y hy=>?_⟩,O.sublist (GB _ _),λx hx y hy=>?_⟩
   .rcases A_.mp (r2.mem_iff.mp hy)with hy | hy
    .exact JQ (xk x hx) (kx y hy)
    .exact JQ (xk x hx) (V y (CK hy))
   .rcases A_.mp hx with hx | hx
    .exact JQ (K x (CK hx)) (ky y hy)
    .rcases A_.mp (r2.mem_iff.mp hx)with hx | hx
     .exact JQ (K x (EN hx)) (ky y hy)
     .exact JQ (yk x hx) (ky y hy)
  refine h _ ⟨?_,q1.trans j.kind,q4.trans j.failed⟩ ?_ ?_ q3
  .show(r.toList.zipIdx.foldl (λa (z:CW×Nat)=>a.setIfInBounds (b+k+z.2) z.1) (arrOf d)).toList.Perm a₀.toList;rw[eq];exact pa.perm.trans j.perm
  .show ME κ (arrOf st).toList (r.toList.zipIdx.foldl (λa (z:CW×Nat)=>a.setIfInBounds (b+k+z.2) z.1) (arrOf d)).toList b (c+f);rw[eq];exact pa
  .show LQ κ (KD (r.toList.zipIdx.foldl (λa (z:CW×Nat)=>a.setIfInBounds (b+k+z.2) z.1) (arrOf d)).toList b (c+f));rw[eq,ps];exact hs
 by_cases hab:c-k<=g
 .rw[AQ hab];refine wpS_bind (Lg C W.kind P λr d q r1=>?_);exact wpS_bind (wpS_modify (wpS_bind (wpS_get (wpS_pure (fin r d q r1)))))
 .rw[AN hab];refine wpS_bind (Jw C W.kind P λr d q r1=>?_);exact wpS_bind (wpS_modify (wpS_bind (wpS_get (wpS_pure (fin r d q r1)))))
section
variable{prog:A7}{w:F8}{A:IY}{E:A2->A4->Prop}{s:A4}{κ:KeyKind}{kd:JR}{a₀:CM CW}
theorem Yg{xs:CM CW}{i:Nat}{p:CW}(h:xs[i]?=some p):KK κ xs i=kk κ p:=by unfold KK kk;rw[h]
def SI(κ:KeyKind)(xs:CM CW)(lo m:Nat):Prop:=∀i j,i<=j->j<m->κ.kle (KK κ xs (lo+i)) (KK κ xs (lo+j))
def NI(κ:KeyKind)(xs:CM CW)(lo m:Nat):Prop:=∀i j,i<=j->j<m->κ.kle (KK κ xs (lo+j)) (KK κ xs (lo+i))
theorem SI.sor{xs:CM CW}{lo m:Nat}(h:SI κ xs lo m):LQ κ (KD xs.toList lo m):=by
 refine HJ.mpr λi j a b c=>?_;unfold KD at a b;rw[AS]at a b;have d:xs[lo+i]?=some (KD xs.toList lo m)[i]:=by
  rw[I7,<-Q3 (n:=m) (by lia)];exact AC _
 have e:xs[lo+j]?=some (KD xs.toList lo m)[j]:=by
  rw[I7,<-Q3 (n:=m) (by lia)];exact AC _
 have:=h i j (by lia) (by lia);rw[Yg d,Yg e]at this;exact this
structure Lo(κ:KeyKind)(kd:JR)(a₀:CM CW)(st0:IQ)(lo n:Nat)(st:IQ):Prop where
 S:St κ kd a₀ st
 pend:pendingOf st=pendingOf st0
 out:∀t,t<lo\/lo+n<=t->(arrOf st)[t]? =(arrOf st0)[t]?
theorem Lo.part{st0 st:IQ}{lo n:Nat}(h:Lo κ kd a₀ st0 lo n st)(c:St κ kd a₀ st0):ME κ (arrOf st0).toList (arrOf st).toList lo n:=by
 refine⟨h.S.perm.trans c.perm.symm,GE λt=>?_,GE λt=>?_⟩
 .by_cases b:t<lo
  .rw[DV b,DV b,BW,BW];exact h.out t (.inl b)
  .rw[EG (by rw[AS];lia),EG (by rw[AS];lia)]
 .rw[GR,GR,BW,BW];exact h.out _ (.inr (by lia))
theorem Lo.mirror{st0 st:IQ}{lo n i j:Nat}(h:Lo κ kd a₀ st0 lo n st)(hi:lo<=i)(c:j<=lo+n)(d:lo+n<=a₀.size):Lo κ kd a₀ st0 lo n (setArr st (mirror (arrOf st) i j ((j-i) / 2))):=by
 refine⟨⟨(Array.perm_iff_toList_perm.mp (mirror_perm _ _ _ _)).trans h.S.perm,h.S.kind,h.S.failed⟩,h.pend,λt b=>?_⟩;show(PyProof.Rows.mirror (arrOf st) i j ((j-i) / 2))[t]?=_;have:=h.S.size;rw[getElem?_mirror_all (by lia),AN (by lia)];exact h.out t b
theorem S5(C:RU prog w A s κ kd)(e:KeysOf κ a₀){st:IQ}(b:St κ kd a₀ st){i j:Nat}{Q:A5 Bool->IQ->Prop}(hi:i<a₀.size)(f:j<a₀.size)
  (h:Q (some (κ.blt (KK κ (arrOf st) i) (KK κ (arrOf st) j))) st):wpS (model prog w) A E s (ltAt' i j) Q st:=by
 have:=b.size;obtain⟨p,c⟩:=Z7 (a:=arrOf st) (i:=i) (by lia);obtain⟨q,d⟩:=Z7 (a:=arrOf st) (i:=j) (by lia);rw[ltAt'_eq];refine wpS_bind (wpS_get ?_);refine wpS_bind (E4 c (wpS_bind (E4 d (Go C b.kind (b.has e _ _ c) (b.has e _ _ d) ?_))));rw[Yg c,Yg d]at h;exact h
theorem UW{st:IQ}{lo a b:Nat}{f:Nat->(A5 (A5 Nat)×Nat)->StateT IQ Sem (ForInStep (A5 (A5 Nat)×Nat))}{Q:(A5 (A5 Nat)×Nat)->IQ->Prop}
  (y:∀x n,1<=n->n<b->wpS (model prog w) A E s (f x (none,n)) (λr k=>k=st/\r=if κ.blt (KK κ (arrOf st) (lo+n)) (KK κ (arrOf st) (lo+n-1))=true then .done (none,n)else .yield (none,n+1)) st)
  (B:1<=a) (m:a<=b) (z:SI κ (arrOf st) lo a)
  (h:∀n,a<=n->n<=b->SI κ (arrOf st) lo n->(n=b\/κ.klt (KK κ (arrOf st) (lo+n)) (KK κ (arrOf st) (lo+n-1)))->Q (none,n) st):wpS (model prog w) A E s (forIn [a:b] (none,a) f) Q st:=by
 refine wpS_forRange (I:=λx c k=>k=st/\c =(none,x)/\SI κ (arrOf st) lo x) ?_ ?_ ⟨rfl,rfl,z⟩
 .rintro x c k o p ⟨rfl,rfl,g⟩;refine wpS_mono (y x x (by lia) p) λr l ⟨e,er⟩=>?_;subst e;cases d:κ.blt (KK κ (arrOf l) (lo+x)) (KK κ (arrOf l) (lo+x-1))
  .rw[d,AN BD]at er;subst er;refine⟨rfl,rfl,λi j q C=>?_⟩;by_cases t:j<x
   .exact g i j q t
   .have u:j=x:=by lia
    subst u;by_cases v:i=j
    .subst v;exact KeyOrd.kle_refl _
    .have:=g i (j-1) (by lia) (by lia);rw[show lo +(j-1)=lo+j-1 by lia]at this;exact KeyOrd.kle_trans this d
  .rw[d,AQ rfl]at er;subst er;exact h x o (by lia) g (.inr d)
 .rintro c k ⟨rfl,rfl,g⟩;rw[show max a b=b by lia]at g⊢;exact h b m (VQ _) g (.inl rfl)
theorem NI.step{xs e:CM CW}{lo x:Nat}(l:1<=x)(f:∀k,KK κ e k=KK κ xs k)(g:NI κ xs lo x)(h:κ.kle (KK κ xs (lo+x)) (KK κ xs (lo+x-1))):NI κ e lo (x+1):=by
 intro i j a m;rw[f,f];by_cases b:j<x
 .exact g i j a b
 .have c:j=x:=by lia
  subst c;by_cases d:i=j
  .subst d;exact KeyOrd.kle_refl _
  .have:=g i (j-1) (by lia) (by lia);rw[show lo +(j-1)=lo+j-1 by lia]at this;exact KeyOrd.kle_trans h this
abbrev DS:=A5 (A5 Nat)×Nat×Nat
theorem zGg{st0 st:IQ}{lo n d:Nat}(hsz:lo+d<=a₀.size){f:Nat->DS->StateT IQ Sem (ForInStep DS)}{Q:DS->IQ->Prop}
  (H:∀x n q b,1<=n->n<d->Lo κ kd a₀ st0 lo d b->wpS (model prog w) A E s (f x (none,n,q)) (λr st2 =>
   if κ.blt (KK κ (arrOf b) (lo+n)) (KK κ (arrOf b) (lo+n-1))=true then(st2=if q>0 then setArr b (mirror (arrOf b) (lo+n-(q+1)) (lo+n) ((lo+n-(lo+n-(q+1))) / 2))else b)/\r = .yield (none,n+1,0)
   else st2=b/\r=if κ.blt (KK κ (arrOf b) (lo+n-1)) (KK κ (arrOf b) (lo+n))=true then .done (none,n,q)else .yield (none,n+1,q+1)) b)
  (h1:1<=n) (z:n<=d) (J:Lo κ kd a₀ st0 lo d st) (K:NI κ (arrOf st) lo n)
  (h:∀m q b,Lo κ kd a₀ st0 lo d b->n<=m->m<=d->NI κ (arrOf b) lo m->q+1<=m->(∀i,m-(q+1)<=i->i<m->KK κ (arrOf b) (lo+i)=KK κ (arrOf b) (lo+m-1))->Q (none,m,q) b) :
  wpS (model prog w) A E s (forIn [n:d] (none,n,0) f) Q st:=by
 refine wpS_forRange (I:=λx c b=>∃q,c =(none,x,q)/\Lo κ kd a₀ st0 lo d b/\NI κ (arrOf b) lo x/\q+1<=x /\
   (∀i,x-(q+1)<=i->i<x->KK κ (arrOf b) (lo+i)=KK κ (arrOf b) (lo+x-1))) ?_ ?_ ⟨0,rfl,J,K,by lia,λi h1 M=>by congr 1;lia⟩
 .rintro x c b B C ⟨q,rfl,j,l,v,p⟩;have L:=j.S.size;refine wpS_mono (H x x q b (by lia) C j) λr st2 y=>?_;cases g:κ.blt (KK κ (arrOf b) (lo+x)) (KK κ (arrOf b) (lo+x-1))
  .rw[g,AN BD]at y;obtain⟨e,er⟩:=y;subst e;cases o:κ.blt (KK κ (arrOf st2) (lo+x-1)) (KK κ (arrOf st2) (lo+x))
   .rw[o,AN BD]at er;subst er;have t:KK κ (arrOf st2) (lo+x)=KK κ (arrOf st2) (lo+x-1):=KeyOrd.kle_antisymm o g;refine⟨q+1,rfl,j,NI.step (by lia) (λ_=>rfl) l o,by lia,λi D F=>?_⟩;rw[show lo +(x+1)-1=lo+x by lia];by_cases G:i=x
    .subst G;rfl
    .rw[t];exact p i (by lia) (by lia)
   .rw[o,AQ rfl]at er;subst er;exact h x q st2 j B (by lia) l v p
  .rw[g,AQ rfl]at y;obtain⟨e,er⟩:=y;subst er;have o:κ.kle (KK κ (arrOf b) (lo+x)) (KK κ (arrOf b) (lo+x-1)):=KeyOrd.kle_of_klt g;by_cases u:q>0
   .rw[AQ u]at e;subst e;refine⟨0,rfl,j.mirror (by lia) (by lia) hsz,NI.step (by lia) (KK_mirror_equal (by lia) λk D F=>?_) l o,by lia,λi D F=>by congr 1;lia⟩;have:=p (k-lo) (by lia) (by lia);rw[show lo +(k-lo)=k by lia]at this;exact this
   .rw[AN u]at e;subst e;exact⟨0,rfl,j,NI.step (by lia) (λ_=>rfl) l o,by lia,λi D F=>by congr 1;lia⟩
 .rintro c b ⟨q,rfl,j,l,v,p⟩;rw[show max n d=d by lia]at l v p⊢;exact h d q b j z (VQ _) l v p
theorem NI.turn{xs:CM CW}{lo n:Nat}(a:lo+n<=xs.size)(h:NI κ xs lo n):SI κ (mirror xs lo (lo+n) ((lo+n-lo) / 2)) lo n:=by
 intro i j b c;rw[KK_mirror a,KK_mirror a,AQ (by lia),AQ (by lia)];have:=h (n-1-j) (n-1-i) (by lia) (by lia);rw[show lo +(n-1-i)=lo +(lo+n)-1-(lo+i) by lia,show lo +(n-1-j)=lo +(lo+n)-1-(lo+j) by lia]at this;exact this
theorem Gq(C:RU prog w A s κ kd)(D:KeysOf κ a₀){st:IQ}{lo c:Nat}{Q:A5 Nat->IQ->Prop}(W:St κ kd a₀ st)(hsz:lo+c<=a₀.size)(h1:1<=c)
  (h:∀m b,Lo κ kd a₀ st lo c b->1<=m->m<=c->SI κ (arrOf b) lo m->Q (some m) b):wpS (model prog w) A E s (countRun' lo c) Q st:=by
 have X:Lo κ kd a₀ st lo c st:=⟨W,rfl,λ_ _=>rfl⟩;rw[countRun'_eq];dsimp only;refine wpS_bind (UW (κ:=κ) (lo:=lo) (λx n G H=>?_) (VQ 1) h1 (λi j p P=>by have:i=j:=(by lia);subst this;exact KeyOrd.kle_refl _) λn R T F Y=>?_)
 .dsimp only;refine wpS_bind (S5 C D W (by lia) (by lia) ?_);dsimp only;cases κ.blt (KK κ (arrOf st) (lo+n)) (KK κ (arrOf st) (lo+n-1))
  .exact wpS_pure ⟨rfl,rfl⟩
  .exact wpS_pure ⟨rfl,rfl⟩
 dsimp only;by_cases I:n=c
 .rw[AQ (by simpa using I)];exact wpS_pure (h n st X R T F)
 rw[AN (by simpa using I)];have U:κ.klt (KK κ (arrOf st) (lo+n)) (KK κ (arrOf st) (lo+n-1)):=Y.resolve_left I;have hz:=W.size;by_cases V:n>1
 .rw[AQ V];refine wpS_bind (S5 C D W (by lia) (by lia) ?_);dsimp only;cases J:κ.blt (KK κ (arrOf st) lo) (KK κ (arrOf st) (lo+n-1))with
  | true =>
   simp only[FE];exact wpS_pure (h n st X R T F)
  | false =>
   simp only[AY,CT];have r:∀k,lo<=k->k<lo+n->KK κ (arrOf st) k=KK κ (arrOf st) (lo+n-1):=by
    intro k hk1 hk2;have a1:=F 0 (k-lo) (by lia) (by lia);have a2:=F (k-lo) (n-1) (by lia) (by lia);rw[Nat.add_zero,show lo +(k-lo)=k by lia]at a1;rw[show lo +(k-lo)=k by lia,show lo +(n-1)=lo+n-1 by lia]at a2;exact KeyOrd.kle_antisymm a2 (KeyOrd.kle_trans J a1)
   have K:=KK_mirror_equal (κ:=κ) (xs:=arrOf st) (i:=lo) (j:=lo+n) (by lia) r;refine wpS_bind (wpS_reverse ?_);have L:=X.mirror (i:=lo) (j:=lo+n) (by lia) (by lia) hsz;have Z:NI κ (mirror (arrOf st) lo (lo+n) ((lo+n-lo) / 2)) lo (n+1):=by
    refine NI.step (by lia) K (λi j p P=>?_) (KeyOrd.kle_of_klt U);rw[r (lo+i) (by lia) (by lia),r (lo+j) (by lia) (by lia)];exact KeyOrd.kle_refl _
   refine wpS_bind (wpS_lift (EL ⟨rfl,?_⟩));refine wpS_bind (zGg (κ:=κ) (kd:=kd) (a₀:=a₀) (st0:=st) (lo:=lo) hsz (λx f q b G H t=>?_) (by lia) (by lia) L Z λm q b l hm1 u v y he=>?_)
   .dsimp only;refine wpS_bind (S5 C D t.S (by lia) (by lia) ?_);dsimp only;cases κ.blt (KK κ (arrOf b) (lo+f)) (KK κ (arrOf b) (lo+f - 1))
    .simp only[AY,CT];refine wpS_bind (S5 C D t.S (by lia) (by lia) ?_);dsimp only;cases κ.blt (KK κ (arrOf b) (lo+f - 1)) (KK κ (arrOf b) (lo+f))
     .exact wpS_pure ⟨rfl,rfl⟩
     .exact wpS_pure ⟨rfl,rfl⟩
    .simp only[FE];by_cases y:q>0
     .rw[AQ y,AQ y];exact wpS_bind (wpS_reverse (wpS_pure ⟨rfl,rfl⟩))
     .rw[AN y,AN y];exact wpS_pure ⟨rfl,rfl⟩
   .dsimp only;have hz3:=l.S.size;by_cases z:q>0
    .rw[AQ z];refine wpS_bind (wpS_reverse (wpS_bind (wpS_reverse ?_)));have g:=l.mirror (i:=lo+m-(q+1)) (j:=lo+m) (by lia) (by lia) hsz;have d:=g.mirror (i:=lo) (j:=lo+m) (by lia) (by lia) hsz;have hz4:=g.S.size;have M:NI κ (mirror (arrOf b) (lo+m-(q+1)) (lo+m) ((lo+m-(lo+m-(q+1))) / 2)) lo m:=by
      have K:=KK_mirror_equal (κ:=κ) (xs:=arrOf b) (i:=lo+m-(q+1)) (j:=lo+m) (by lia) (λk G H=>by
       have:=he (k-lo) (by lia) (by lia);rw[show lo +(k-lo)=k by lia]at this;exact this)
      intro i j p P;rw[K,K];exact v i j p P
     have N:=M.turn (κ:=κ) (lo:=lo) (n:=m) (by rw[mirror_size];lia);refine wpS_bind (UW (κ:=κ) (lo:=lo) (λx f G H=>?_) (by lia) u N λO B e o _=>wpS_pure (h O _ d (by lia) e o));dsimp only;refine wpS_bind (S5 C D d.S (by lia) (by lia) ?_);dsimp only;cases κ.blt (KK κ _ (lo+f)) (KK κ _ (lo+f - 1))
     .exact wpS_pure ⟨rfl,rfl⟩
     .exact wpS_pure ⟨rfl,rfl⟩
    .rw[AN z];refine wpS_bind (wpS_reverse ?_);have d:=l.mirror (i:=lo) (j:=lo+m) (by lia) (by lia) hsz;have N:=v.turn (κ:=κ) (lo:=lo) (n:=m) (by lia);refine wpS_bind (UW (κ:=κ) (lo:=lo) (λx f G H=>?_) (by lia) u N λO B e o _=>wpS_pure (h O _ d (by lia) e o));dsimp only;refine wpS_bind (S5 C D d.S (by lia) (by lia) ?_);dsimp only;cases κ.blt (KK κ _ (lo+f)) (KK κ _ (lo+f - 1))
     .exact wpS_pure ⟨rfl,rfl⟩
     .exact wpS_pure ⟨rfl,rfl⟩
 .rw[AN V];have hn1':n=1:=by lia
  have L:=X;have Z:NI κ (arrOf st) lo (n+1):=by
   refine NI.step (by lia) (λ_=>rfl) (λi j p P=>?_) (KeyOrd.kle_of_klt U);have:i=j:=by lia
   subst this;exact KeyOrd.kle_refl _
  refine wpS_bind (wpS_lift (EL ⟨rfl,?_⟩));refine wpS_bind (zGg (κ:=κ) (kd:=kd) (a₀:=a₀) (st0:=st) (lo:=lo) hsz (λx f q b G H t=>?_) (by lia) (by lia) L Z λm q b l hm1 u v y he=>?_)
  .dsimp only;refine wpS_bind (S5 C D t.S (by lia) (by lia) ?_);dsimp only;cases κ.blt (KK κ (arrOf b) (lo+f)) (KK κ (arrOf b) (lo+f - 1))
   .simp only[AY,CT];refine wpS_bind (S5 C D t.S (by lia) (by lia) ?_);dsimp only;cases κ.blt (KK κ (arrOf b) (lo+f - 1)) (KK κ (arrOf b) (lo+f))
    .exact wpS_pure ⟨rfl,rfl⟩
    .exact wpS_pure ⟨rfl,rfl⟩
   .simp only[FE];by_cases y:q>0
    .rw[AQ y,AQ y];exact wpS_bind (wpS_reverse (wpS_pure ⟨rfl,rfl⟩))
    .rw[AN y,AN y];exact wpS_pure ⟨rfl,rfl⟩
  .dsimp only;have hz3:=l.S.size;by_cases z:q>0
   .rw[AQ z];refine wpS_bind (wpS_reverse (wpS_bind (wpS_reverse ?_)));have g:=l.mirror (i:=lo+m-(q+1)) (j:=lo+m) (by lia) (by lia) hsz;have d:=g.mirror (i:=lo) (j:=lo+m) (by lia) (by lia) hsz;have hz4:=g.S.size;have M:NI κ (mirror (arrOf b) (lo+m-(q+1)) (lo+m) ((lo+m-(lo+m-(q+1))) / 2)) lo m:=by
     have K:=KK_mirror_equal (κ:=κ) (xs:=arrOf b) (i:=lo+m-(q+1)) (j:=lo+m) (by lia) (λk G H=>by
      have:=he (k-lo) (by lia) (by lia);rw[show lo +(k-lo)=k by lia]at this;exact this)
     intro i j p P;rw[K,K];exact v i j p P
    have N:=M.turn (κ:=κ) (lo:=lo) (n:=m) (by rw[mirror_size];lia);refine wpS_bind (UW (κ:=κ) (lo:=lo) (λx f G H=>?_) (by lia) u N λO B e o _=>wpS_pure (h O _ d (by lia) e o));dsimp only;refine wpS_bind (S5 C D d.S (by lia) (by lia) ?_);dsimp only;cases κ.blt (KK κ _ (lo+f)) (KK κ _ (lo+f - 1))
    .exact wpS_pure ⟨rfl,rfl⟩
    .exact wpS_pure ⟨rfl,rfl⟩
   .rw[AN z];refine wpS_bind (wpS_reverse ?_);have d:=l.mirror (i:=lo) (j:=lo+m) (by lia) (by lia) hsz;have N:=v.turn (κ:=κ) (lo:=lo) (n:=m) (by lia);refine wpS_bind (UW (κ:=κ) (lo:=lo) (λx f G H=>?_) (by lia) u N λO B e o _=>wpS_pure (h O _ d (by lia) e o));dsimp only;refine wpS_bind (S5 C D d.S (by lia) (by lia) ?_);dsimp only;cases κ.blt (KK κ _ (lo+f)) (KK κ _ (lo+f - 1))
    .exact wpS_pure ⟨rfl,rfl⟩
    .exact wpS_pure ⟨rfl,rfl⟩
theorem Lo.bubble{st0 st:IQ}{lo n b d:Nat}(h:Lo κ kd a₀ st0 lo n st)(h1:lo+d<=b)(h2:b<lo+n)(e:lo+n<=a₀.size):Lo κ kd a₀ st0 lo n (setArr st (bubble (arrOf st) b d)):=by
 refine⟨⟨(Array.perm_iff_toList_perm.mp (bubble_perm _ _ _)).trans h.S.perm,h.S.kind,h.S.failed⟩,h.pend,λt c=>?_⟩;show(PyProof.Rows.bubble (arrOf st) b d)[t]?=_;have:=h.S.size;rw[getElem?_bubble (by lia) d (by lia),AN (by lia),AN (by lia)];exact h.out t c
theorem Cr(C:RU prog w A s κ kd)(H:KeysOf κ a₀){st0 st:IQ}{lo g n v:Nat}{Q:Bool->IQ->Prop}(J:Lo κ kd a₀ st0 lo g st)(hsz:lo+g<=a₀.size)(U:n<=g)(K:v<=n)(L:SI κ (arrOf st) lo v)
  (h:∀b,Lo κ kd a₀ st0 lo g b->SI κ (arrOf b) lo n->Q true b):wpS (model prog w) A E s (binarySort' lo n v) Q st:=by
 rw[binarySort'_eq];refine wpS_bind (wpS_mono (wpS_forRange (I:=λk c b=>c =(none,())/\Lo κ kd a₀ st0 lo g b/\SI κ (arrOf b) lo (min k n))
  (Q:=λc b=>c =(none,())/\Lo κ kd a₀ st0 lo g b/\SI κ (arrOf b) lo n) ?step ?fin ?init) ?post)
 case post =>
  rintro c b ⟨rfl,m,f⟩;exact wpS_pure (h b m f)
 case init =>
  refine⟨rfl,J,λi j y M=>?_⟩;by_cases B:v=0
  .have:i=j:=by lia
   subst this;exact KeyOrd.kle_refl _
  .exact L i j y (by lia)
 case fin =>
  rintro c b ⟨N,m,f⟩;refine⟨N,m,?_⟩
  rwa [show min (max (max v 1) n) n=n by lia]at f
 case step =>
  rintro k c b O P ⟨rfl,m,f⟩;rw[show min k n=k by lia]at f;dsimp only;refine wpS_bind (wpS_mono (wpS_forRange (I:=λx c d=>d=b/\∃l r,c =(none,l,r)/\l<=r/\r<=k/\r-l<=k-x /\
    (∀i,i<l->κ.kle (KK κ (arrOf b) (lo+i)) (KK κ (arrOf b) (lo+k)))/\(∀i,r<=i->i<k->κ.klt (KK κ (arrOf b) (lo+k)) (KK κ (arrOf b) (lo+i))))
   (Q:=λc d=>d=b/\∃l r,c =(none,l,r)/\l<=k /\
    (∀i,i<l->κ.kle (KK κ (arrOf b) (lo+i)) (KK κ (arrOf b) (lo+k)))/\(∀i,l<=i->i<k->κ.klt (KK κ (arrOf b) (lo+k)) (KK κ (arrOf b) (lo+i)))) ?istep ?ifin ?iinit) ?ipost)
  case iinit=>exact⟨rfl,0,k,rfl,by lia,by lia,by lia,λi V=>by lia,λi B G=>by lia⟩
  case ifin =>
   rintro c d ⟨rfl,l,r,rfl,D,u,F,o,p⟩;have:l=r:=by lia
   subst this;exact⟨rfl,l,l,rfl,u,o,p⟩
  case istep =>
   rintro x c d _ R ⟨rfl,l,r,rfl,D,u,F,o,p⟩;dsimp only;by_cases t:l ≥ r
   .rw[AQ t];have:l=r:=by lia
    subst this;exact wpS_pure ⟨rfl,l,l,rfl,u,o,p⟩
   .rw[AN t];refine wpS_bind (S5 C H m.S (by lia) (by lia) ?_);dsimp only;cases q:κ.blt (KK κ (arrOf d) (lo+k)) (KK κ (arrOf d) (lo +(l+r) / 2))
    case true =>
     simp only[FE];refine wpS_pure ⟨rfl,l,(l+r) / 2,rfl,by lia,by lia,zBr (Nat.lt_of_not_le t) F,o,λi B G=>?_⟩;exact KeyOrd.klt_of_klt_of_kle q (f _ _ B G)
    case false =>
     simp only[AY,CT];refine wpS_pure ⟨rfl,(l+r) / 2+1,r,rfl,by lia,by lia,zCr (Nat.lt_of_not_le t) F,λi B=>?_,p⟩;exact KeyOrd.kle_trans (f i ((l+r) / 2) (by lia) (by lia)) (show κ.kle _ _ from q)
  case ipost =>
   rintro c d ⟨rfl,l,r,rfl,T,o,p⟩;have W:=m.S.size;show wpS _ _ _ _ (do moveDown' (lo+k) (lo+l);pure (ForInStep.yield (none,()))) _ _;rw[moveDown'_eq];refine wpS_bind (wpS_modify (wpS_pure ⟨rfl,m.bubble (by lia) (by lia) hsz,?_⟩));rw[show min (k+1) n=k+1 by lia];intro i j y M;show κ.kle (KK κ (bubble (arrOf d) (lo+k) (lo+k-(lo+l))) (lo+i)) (KK κ (bubble (arrOf d) (lo+k) (lo+k-(lo+l))) (lo+j));rw[KK_bubble (by lia) (by lia),KK_bubble (by lia) (by lia),show lo+k-(lo+k-(lo+l))=lo+l by lia];have e:∀z,1<=z->lo+z-1=lo +(z-1):=λz _=>by lia
   repeat' split
   all_goals first
    | (exfalso;lia)
    | exact KeyOrd.kle_refl _
    | exact o _ (by lia)
    | exact KeyOrd.kle_of_klt (p _ (by lia) (by lia))
    | exact f _ _ (by lia) (by lia)
    | (rw[e j (by lia)];exact KeyOrd.kle_of_klt (p _ (by lia) (by lia)))
    | (rw[e i (by lia)];exact o _ (by lia))
    | (rw[e j (by lia)];exact f _ _ (by lia) (by lia))
    | (rw[e i (by lia),e j (by lia)];exact f _ _ (by lia) (by lia))
    | (rw[e i (by lia)];exact f _ _ (by lia) (by lia))
end
abbrev Run:=Nat×Nat×Nat
def NS:A1 Run->Nat->Nat->Prop
 | [],a,b=>a=b
 | x::r,a,b=>x.1=a/\1<=x.2.1/\NS r (a+x.2.1) b
def NS.app:∀{i l2:A1 Run} {a b:Nat},NS (i++l2) a b↔∃c,NS i a c/\NS l2 c b
 | [],l2,a,b=>⟨λh=>⟨a,rfl,h⟩,λ⟨c,d,e⟩=>by have:a=c:=d;subst this;exact e⟩
 | x::r,l2,a,b=>by
  constructor
  .rintro⟨d,e,j⟩;obtain⟨c,f,g⟩:=NS.app.mp j;exact⟨c,⟨d,e,f⟩,g⟩
  .rintro⟨c,⟨d,e,f⟩,g⟩;exact⟨d,e,NS.app.mpr ⟨c,f,g⟩⟩
def NS.le:∀{l:A1 Run} {a b:Nat},NS l a b->a+l.length<=b
 | [],a,b,h=>by have:a=b:=h;subst this;simp
 | x::r,a,b,⟨d,e,c⟩=>by have:=NS.le c;rw[BK];lia
def NS.mem:∀{l:A1 Run} {a b:Nat} {x:Run},NS l a b->x∈l->a<=x.1/\x.1+x.2.1<=b
 | [],_,_,_,_,hx=>absurd hx (by simp)
 | y::r,a,b,x,⟨d,f,c⟩,hx=>by
  have g:=NS.le c;rcases AK.mp hx with e | hx
  .subst e;lia
  .have:=NS.mem c hx;lia
def zJi{l:A1 Run}{i:Nat}{x y:Run}(a:l[i]?=some x)(b:l[i+1]?=some y):l=l.take i++x::y::l.drop (i+2):=by
 obtain⟨c,rfl⟩:=AE.mp a;obtain⟨d,rfl⟩:=AE.mp b
 conv=>lhs;rw[<-B_ i l]
 rw[EB c,EB d]
def zHw{l:A1 Run}{i:Nat}{x y:Run}(z:Run)(a:l[i]?=some x)(b:l[i+1]?=some y):(l.set i z).eraseIdx (i+1)=l.take i++z::l.drop (i+2):=by
 obtain⟨d,_⟩:=AE.mp a;obtain⟨f,_⟩:=AE.mp b;have e:=zJi a b;have c:(l.take i).length=i:=by rw[AS];lia
 generalize l.take i=p at *;generalize l.drop (i+2)=q at *;subst e;rw[List.set_append_right _ _ (by lia),c,Nat.sub_self,List.eraseIdx_append_of_length_le (by lia),c,show i+1-i=1 by lia];rfl
section
variable{prog:A7}{w:F8}{A:IY}{E:A2->A4->Prop}{s:A4}{κ:KeyKind}{kd:JR}{a₀:CM CW}
structure RI(κ:KeyKind)(kd:JR)(a₀:CM CW)(lo:Nat)(st:IQ):Prop where
 S:St κ kd a₀ st
 cov:NS (pendingOf st).toList 0 lo
 sor:∀x∈(pendingOf st).toList,LQ κ (KD (arrOf st).toList x.1 x.2.1)
theorem Lx(C:RU prog w A s κ kd)(I:KeysOf κ a₀){st:IQ}{lo i:Nat}{Q:Bool->IQ->Prop}(R:RI κ kd a₀ lo st)(J:lo<=a₀.size)(hi:i+1 <(pendingOf st).size)
  (h:∀b,RI κ kd a₀ lo b->(pendingOf b).size+1 =(pendingOf st).size->ME κ (arrOf st).toList (arrOf b).toList 0 lo->Q true b):wpS (model prog w) A E s (mergeAt' i) Q st:=by
 obtain⟨⟨g,d,q⟩,u⟩:∃x,(pendingOf st)[i]?=some x:=⟨_,getElem?_pos _ i (by lia)⟩;obtain⟨⟨K,f,r⟩,n⟩:∃x,(pendingOf st)[i+1]?=some x:=⟨_,getElem?_pos _ (i+1) hi⟩;have j:(pendingOf st).toList[i]?=some (g,d,q):=by rw[BW];exact u
 have k:(pendingOf st).toList[i+1]?=some (K,f,r):=by rw[BW];exact n
 have e:=zJi j k;have c:=R.cov;rw[e]at c;obtain⟨v,B,L⟩:=NS.app.mp c;obtain⟨D,F,M,G,o⟩:=L;dsimp only at D F M G o;have N:=NS.le o;refine Kv C I R.S u n (by lia) (by lia) F G (R.sor _ (AM j)) (R.sor _ (AM k)) λb O p P T=>?_;have t:(pendingOf b).toList =(pendingOf st).toList.take i ++(g,d+f,q) ::(pendingOf st).toList.drop (i+2):=by
  rw[T,<-zHw (g,d+f,q) j k];simp
 refine h b ⟨O,?_,λx l=>?_⟩ ?_ ?_
 .rw[t];exact NS.app.mpr ⟨v,B,D,(by show 1<=d+f;lia),(by show NS _ (v +(d+f)) lo;rw[<-Nat.add_assoc];exact o)⟩
 .rw[t]at l;have m:∀y∈(pendingOf st).toList,(y.1+y.2.1<=g\/g +(d+f)<=y.1)->LQ κ (KD (arrOf b).toList y.1 y.2.1):=λy n ho=>by
   have:=R.sor y n;rcases ho with ho | ho
   .rw[p.seg_front ho];exact this
   .rw[p.seg_back ho];exact this
  rcases A_.mp l with hm | hm
  .have:=NS.mem B hm;exact m x (CK hm) (.inl (by lia))
  .rcases AK.mp hm with hm | hm
   .subst hm;exact P
   .have:=NS.mem o hm;exact m x (EN hm) (.inr (by lia))
 .have:=congrArg List.length t;rw[BF,AW,BK,AS,DJ,BF]at this;lia
 .have H:∀z:A1 CW,z.drop (0+lo) =(z.drop (g +(d+f))).drop (lo-(g +(d+f))):=λz=>by
   rw[FS];congr 1;lia
  exact⟨p.perm,rfl,by rw[H,H,p.back]⟩
theorem Bl{l:CM Run}{a:Nat}:(l.modify (l.size-1) λx=>(x.1,x.2.1,a)).toList.map (λx:Run=>(x.1,x.2.1))=l.toList.map λx:Run=>(x.1,x.2.1):=by
 refine GE λt=>?_;rw[AI,AI,BW,BW,Array.getElem?_modify];split
 .cases l[t]?<;>rfl
 .rfl
theorem NS.congr:∀{l c:A1 Run} {a b:Nat},c.map (λx:Run=>(x.1,x.2.1))=l.map (λx:Run=>(x.1,x.2.1))->NS l a b->NS c a b
 | [],[],_,_,_,h=>h
 | [],_::_,_,_,e,_=>by simp at e
 | _::_,[],_,_,e,_=>by simp at e
 | x::r,y::n,a,b,e,⟨f,g,i⟩=>by
  rw[AZ,AZ]at e;obtain⟨j,k⟩:=GH e;obtain⟨m,d⟩:=Prod.mk.inj j;exact⟨m.trans f,by rw[d];exact g,by rw[d];exact NS.congr k i⟩
theorem RI.congr{lo:Nat}{st:IQ}(R:RI κ kd a₀ lo st){p:CM Run}(e:p.toList.map (λx:Run=>(x.1,x.2.1)) =(pendingOf st).toList.map λx:Run=>(x.1,x.2.1)):RI κ kd a₀ lo (setPending st p):=by
 refine⟨⟨R.S.perm,R.S.kind,R.S.failed⟩,NS.congr e R.cov,λx b=>?_⟩;have:(x.1,x.2.1)∈(pendingOf st).toList.map λx:Run=>(x.1,x.2.1):=by
  rw[<-e];exact AJ.mpr ⟨x,b,rfl⟩
 obtain⟨y,c,d⟩:=AJ.mp this;obtain⟨f,g⟩:=Prod.mk.inj d;have:=R.sor y c;rw[f,g]at this;exact this
theorem j9(C:RU prog w A s κ kd)(v:KeysOf κ a₀){st:IQ}{Q:Unit->IQ->Prop}(hS:St κ kd a₀ st)(hp:pendingOf st = #[])
  (h:∀d,St κ kd a₀ d->LQ κ (arrOf d).toList->Q () d):wpS (model prog w) A E s sortRuns' Q st:=by
 rw[sortRuns'_eq];refine wpS_bind (wpS_get ?_);dsimp only;have hz:=hS.size;rw[hz];generalize minRun' a₀.size a₀.size 0=B;refine wpS_bind (wpS_mono (wpS_forRange (I:=λx c d=>∃lo,c =(none,lo)/\RI κ kd a₀ lo d/\lo<=a₀.size/\min x a₀.size<=lo)
  (Q:=λc d=>∃lo,c =(none,lo)/\RI κ kd a₀ lo d/\lo=a₀.size) ?st ?en ⟨0,rfl,⟨hS,by rw[hp];rfl,λx K=>by rw[hp]at K;exact absurd K (by simp)⟩,CY _,by lia⟩) ?po)
 case en =>
  rintro c d ⟨lo,rfl,R,P,h2⟩;exact⟨lo,rfl,R,by lia⟩
 case po =>
  rintro c d ⟨lo,rfl,R,rfl⟩;dsimp only;refine wpS_bind (wpS_mono (wpS_forRange (I:=λx c d=>c =(none,())/\RI κ kd a₀ a₀.size d/\(pendingOf d).size+x<=a₀.size+1)
   (Q:=λc d=>c =(none,())/\RI κ kd a₀ a₀.size d/\(pendingOf d).size<=1) ?st3 ?en3 ⟨rfl,R,?in3⟩) ?po3)
  case in3 =>
   have:=NS.le R.cov;rw[BF]at this;lia
  case en3 =>
   rintro c e ⟨rfl,R2,g⟩;exact⟨rfl,R2,by lia⟩
  case po3 =>
   rintro c e ⟨rfl,R2,g⟩;refine wpS_pure (h e R2.S ?_);have c:=R2.cov;have L:=R2.sor;have hz2:=R2.S.size;have M:(pendingOf e).toList.length<=1:=by rw[BF];exact g
   generalize (pendingOf e).toList=l at c L M
   match l,c,L,M with
   | [],c,_,_ =>
    have c':0=a₀.size:=c;have:(arrOf e).toList = []:=List.eq_nil_of_length_eq_zero (by rw[BF];lia);rw[this];exact List.Pairwise.nil
   | [x],⟨c1,c2,c3⟩,L,_ =>
    have c3':0+x.2.1=a₀.size:=c3;have:=L x (AG.mpr rfl);unfold KD at this;rw[c1,ET,DL (by rw[BF];lia)]at this;exact this
   | _::_::_,_,_,M=>exact absurd M (by simp)
  case st3 =>
   rintro x c e _ K ⟨rfl,R2,g⟩
   try dsimp only
   refine wpS_bind (wpS_get ?_);by_cases r:(pendingOf e).size<=1
   .rw[AQ r];exact wpS_pure ⟨rfl,R2,r⟩
   rw[AN r];refine wpS_bind (Lx C v R2 (VQ _) ?_ λst3 R3 e3 _=>?_)
   .have T:∀{c:Prop} [Decidable c] {n:Nat},(if c then n-1 else n)+1<=n+1:=by intro c _ n;split<;>lia
    exact Nat.lt_of_le_of_lt T (by lia)
   .simp only[FQ,AY,CT];exact wpS_pure ⟨rfl,R3,by lia⟩
 case st =>
  rintro x c d _ K ⟨lo,rfl,R,P,h2⟩;dsimp only;by_cases D:lo ≥ a₀.size
  .rw[AQ D];exact wpS_pure ⟨lo,rfl,R,by lia⟩
  rw[AN D];refine wpS_bind (Gq C v R.S (by lia) (by lia) λm e L2 hm1 hm2 t=>?_);dsimp only;by_cases F:m<B
  .rw[AQ F];refine wpS_bind (wpS_lift (EL ⟨rfl,?_⟩));refine wpS_bind (Cr C v L2 (by lia) (show min (a₀.size-lo) B<=a₀.size-lo by lia) (by lia) t λq O U=>?_);simp only[FQ,AY,CT];have hN:1<=min (a₀.size-lo) B/\min (a₀.size-lo) B<=a₀.size-lo:=by lia
   generalize min (a₀.size-lo) B=N at hN U⊢;have G:RI κ kd a₀ lo q:=by
    refine⟨O.S,by rw[O.pend];exact R.cov,λy k=>?_⟩;rw[O.pend]at k;have hc:=NS.mem R.cov k;rw[(O.part R.S).seg_front (by lia)];exact R.sor y k
   refine wpS_bind (wpS_get ?_);have i:∀(b:IQ),RI κ kd a₀ lo b->LQ κ (KD (arrOf b).toList lo N)->RI κ kd a₀ (lo+N) (setPending b ((pendingOf b).push (lo,N,0))):=λb f V=>by
    refine⟨⟨f.S.perm,f.S.kind,f.S.failed⟩,?_,λy k=>?_⟩
    .show NS ((pendingOf b).push (lo,N,0)).toList 0 (lo+N);rw[DZ];exact NS.app.mpr ⟨lo,f.cov,rfl,(by show 1<=N;lia),rfl⟩
    .have hy':y∈((pendingOf b).push (lo,N,0)).toList:=k;rw[DZ]at hy';rcases A_.mp hy' with hy' | hy'
     .exact f.sor y hy'
     .rw[AG.mp hy'];exact V
   cases W:(pendingOf q).back? with
   | none =>
    dsimp only;refine wpS_bind (wpS_modify (wpS_pure ⟨_,rfl,i _ G U.sor,by lia,by lia⟩))
   | some X =>
    obtain⟨H,u,pb⟩:=X;dsimp only;generalize power' a₀.size (2*H+u) (2*H+u+u+N) a₀.size=Y;refine wpS_bind (wpS_mono (wpS_forRange (I:=λx c b=>c =(none,())/\RI κ kd a₀ lo b/\ME κ (arrOf q).toList (arrOf b).toList 0 lo)
     (Q:=λc b=>c =(none,())/\RI κ kd a₀ lo b/\ME κ (arrOf q).toList (arrOf b).toList 0 lo) ?stc1 (λ_ _ z=>z) ⟨rfl,G,ME.refl _ _ _⟩) ?poc1)
    case stc1 =>
     rintro x' c b _ _ ⟨rfl,f,j⟩
     try dsimp only
     refine wpS_bind (wpS_get ?_);by_cases o:(pendingOf b).size>1
     .rw[AQ o];obtain⟨⟨u1,u2,Z⟩,hu⟩:∃y,(pendingOf b)[(pendingOf b).size-2]?=some y:=⟨_,getElem?_pos _ _ (by lia)⟩;rw[hu];dsimp only;by_cases p:Z<=Y
      .rw[AQ p];exact wpS_pure ⟨rfl,f,j⟩
      rw[AN p];refine wpS_bind (Lx C v f P (by lia) λst7 R7 _ J=>?_);simp only[FQ,AY,CT];exact wpS_pure ⟨rfl,R7,⟨J.perm.trans j.perm,rfl,J.back.trans j.back⟩⟩
     .rw[AN o];exact wpS_pure ⟨rfl,f,j⟩
    case poc1 =>
     rintro c b ⟨rfl,f,j⟩;dsimp only;refine wpS_bind (wpS_modify (wpS_bind (wpS_modify (wpS_pure ⟨_,rfl,i _ (f.congr Bl) ?_,by lia,by lia⟩))));show LQ κ (KD (arrOf b).toList lo N);rw[j.seg_back (by lia)];exact U.sor
  .rw[AN F];have G:RI κ kd a₀ lo e:=by
    refine⟨L2.S,by rw[L2.pend];exact R.cov,λy k=>?_⟩;rw[L2.pend]at k;have hc:=NS.mem R.cov k;rw[(L2.part R.S).seg_front (by lia)];exact R.sor y k
   refine wpS_bind (wpS_get ?_);have i:∀(b:IQ),RI κ kd a₀ lo b->LQ κ (KD (arrOf b).toList lo m)->RI κ kd a₀ (lo+m) (setPending b ((pendingOf b).push (lo,m,0))):=λb f V=>by
    refine⟨⟨f.S.perm,f.S.kind,f.S.failed⟩,?_,λy k=>?_⟩
    .show NS ((pendingOf b).push (lo,m,0)).toList 0 (lo+m);rw[DZ];exact NS.app.mpr ⟨lo,f.cov,rfl,(by show 1<=m;lia),rfl⟩
    .have hy':y∈((pendingOf b).push (lo,m,0)).toList:=k;rw[DZ]at hy';rcases A_.mp hy' with hy' | hy'
     .exact f.sor y hy'
     .rw[AG.mp hy'];exact V
   cases W:(pendingOf e).back? with
   | none =>
    dsimp only;refine wpS_bind (wpS_modify (wpS_pure ⟨_,rfl,i _ G t.sor,by lia,by lia⟩))
   | some X =>
    obtain⟨H,u,pb⟩:=X;dsimp only;generalize power' a₀.size (2*H+u) (2*H+u+u+m) a₀.size=Y;refine wpS_bind (wpS_mono (wpS_forRange (I:=λx c b=>c =(none,())/\RI κ kd a₀ lo b/\ME κ (arrOf e).toList (arrOf b).toList 0 lo)
     (Q:=λc b=>c =(none,())/\RI κ kd a₀ lo b/\ME κ (arrOf e).toList (arrOf b).toList 0 lo) ?stc2 (λ_ _ z=>z) ⟨rfl,G,ME.refl _ _ _⟩) ?poc2)
    case stc2 =>
     rintro x' c b _ _ ⟨rfl,f,j⟩
     try dsimp only
     refine wpS_bind (wpS_get ?_);by_cases o:(pendingOf b).size>1
     .rw[AQ o];obtain⟨⟨u1,u2,Z⟩,hu⟩:∃y,(pendingOf b)[(pendingOf b).size-2]?=some y:=⟨_,getElem?_pos _ _ (by lia)⟩;rw[hu];dsimp only;by_cases p:Z<=Y
      .rw[AQ p];exact wpS_pure ⟨rfl,f,j⟩
      rw[AN p];refine wpS_bind (Lx C v f P (by lia) λst7 R7 _ J=>?_);simp only[FQ,AY,CT];exact wpS_pure ⟨rfl,R7,⟨J.perm.trans j.perm,rfl,J.back.trans j.back⟩⟩
     .rw[AN o];exact wpS_pure ⟨rfl,f,j⟩
    case poc2 =>
     rintro c b ⟨rfl,f,j⟩;dsimp only;refine wpS_bind (wpS_modify (wpS_bind (wpS_modify (wpS_pure ⟨_,rfl,i _ (f.congr Bl) ?_,by lia,by lia⟩))));show LQ κ (KD (arrOf b).toList lo m);rw[j.seg_back (by lia)];exact t.sor
end
def kd1(κ:KeyKind)(v:A2):κ.α:=(κ.keyOf v).getD κ.dflt
def SU(a:A3)(s c:A4):Prop:=∀b o,b≠a->s.heap.get? b=some o->c.heap.get? b=some o
structure TC(prog:A7)(w:F8)(a:A3)(s:A4)(κ:KeyKind)(kd:JR)(vs:A1 A2):Prop where
 cmp:∀(A:IY) (s':A4),SU a s s'->RU prog w A s' κ kd
 key:∀v∈vs,∃k,κ.keyOf v=some k
 kind:2<=vs.length->∀(A:IY) (E:A2->A4->Prop) (s':A4) (Q:JR->A4->Prop),SU a s s'->Q kd s'->wpAny (model prog w) A (keyKind' vs.toArray) Q E s'
def VJ(κ:KeyKind)(vs:A1 A2)(out:CM A2):Prop:=out.toList.Perm vs/\out.toList.Pairwise λu v=>κ.kle (kd1 κ u) (kd1 κ v)
theorem Op{vs:A1 A2}{xs:CM CW}(a:xs.toList.Perm (pairsOf vs).toList)(b:LQ κ xs.toList):VJ κ vs (xs.map (·.2)):=by
 rw[pairsOf_toList]at a;have c:∀p∈xs.toList,p.1=p.2:=λp h=>(mem_zip_self (a.mem_iff.mp h)).1;have e:(xs.map (·.2)).toList=xs.toList.map (·.1):=by
  rw[Array.toList_map];exact GJ λp h=>(c p h).symm
 refine⟨?_,?_⟩
 .rw[e];have:=a.map Prod.fst
  rwa [List.map_fst_zip (VQ _)]at this
 .rw[e,CG];exact b
theorem Ej{a:A3}{vs:A1 A2}{n:Nat}{P:Fin->A4->Prop}(k:s.heap.get? a=some (seqObj "list" vs.toArray n))(hz:vs.length<=sizeLine)(K:TC prog w a s κ kd vs)
  (h:∀out:CM A2,VJ κ vs out->P (.done (.ret .none)) { s with heap:=sortedHeap s.heap a vs out }) :
  wpAny (model prog w) A (Builtin.«list.sort» ⟨[.ref a],[]⟩) P E s:=by
 rw[list_sort_plain];have m:a<s.heap.objs.size:=AH k;have i:vs.toArray.size=vs.length:=by simp
 refine AA (listItems_at k rfl ?_);refine AA (listUpdate_at k rfl ?_ (by rw[i];exact hz) (by simp));obtain⟨l,j⟩:∃l,(s.heap.update a (Obj.mapSeq λ_=>#[])).get? a=some (seqObj "list" #[] l):=⟨_,get?_update_seq k (λ_=>#[])⟩;refine AA (seqEpoch_at j rfl ?_);refine AA (EU ?_ (by simpa using hz));refine AA (GZ ?_);refine BS ?_;have d:(((s.heap.update a (Obj.mapSeq λ_=>#[])).push (seqObj "tuple" vs.toArray 0)).push (seqObj "list" #[] 0)).get? a=some (seqObj "list" #[] l):=by
  rw[IA _ _ _ (by rw[size_push',FR];exact AV (DT m)),IA _ _ _ (by rw[FR];exact AV m)];exact j
 show wpAny (model prog w) A _ P E { s with heap:=((s.heap.update a (Obj.mapSeq λ_=>#[])).push (seqObj "tuple" vs.toArray 0)).push (seqObj "list" #[] 0) };dsimp only;have q:SU a s { s with heap:=((s.heap.update a (Obj.mapSeq λ_=>#[])).push (seqObj "tuple" vs.toArray 0)).push (seqObj "list" #[] 0) }:=λb o r e =>
  AD _ (AD _ ((CS s.heap _ (Ne.symm r)).trans e))
 by_cases f:vs.toArray.size<2
 .rw[AQ f,AQ f];refine AA (AF ?_);rw[StateT.run_pure];refine AA (AF ?_);dsimp only;refine AA (seqEpoch_at d rfl ?_);refine AA (listUpdate_at d rfl ?_ (by simp) (by rw[GL];show(pairsOf vs).size<=_;rw[pairsOf_size];lia));simp only[bne_self_eq_false,AY,CT];refine AF (h _ (Op (κ:=κ) (xs:=pairsOf vs) (HF _) ?_));rw[pairsOf_toList];rw[i]at f
  match vs,f with
  | [],_=>exact List.Pairwise.nil
  | [v],_=>exact EQ _ _
  | _::_::_,f=>simp at f;lia
 .rw[AN f,AN f];refine AA (K.kind (by lia) A E _ _ q ?_);refine AA (CI (j9 (K.cmp A _ q) (a₀:=pairsOf vs) (st:=SortSt.mk' kd (vs.toArray.zip vs.toArray) #[] 7 none)
   (Q:=λ_ c=>St κ kd (pairsOf vs) c/\LQ κ (arrOf c).toList)
   (λp g=>?_) ⟨HF _,rfl,rfl⟩ rfl λc t u=>⟨t,u⟩) ?_ λ_ _ e=>e)
  .rw[pairsOf_toList]at g;exact K.key _ (mem_zip_self g).2
  rintro⟨⟨⟩,c⟩ y ⟨rfl,g,x⟩;dsimp only;refine AA (seqEpoch_at d rfl ?_);refine AA (listUpdate_at d rfl ?_ (by simp) (by rw[GL];show(arrOf c).size<=_;rw[g.size,pairsOf_size];lia));rw[show failedOf c=none from g.failed];simp only[bne_self_eq_false,AY,CT];exact AF (h _ (Op g.perm x))
theorem PX{x:A2}{Q:A2->A4->Prop}
  (g:wpAny (model prog w) A.in1 (collect x) (λvs s1=>s1.os=s.os/\vs.length<=sizeLine/\(∃(κ:KeyKind) (kd:JR),(∀d:A4,SU s1.heap.objs.size s1 d->TC prog w s1.heap.objs.size d κ kd vs) /\
   ∀(out:CM A2) (h':IU) (e:Nat),VJ κ vs out->(∀b o,s1.heap.get? b=some o->h'.get? b=some o)->h'.get? s1.heap.objs.size=some (seqObj "list" out e)->Q (.ref s1.heap.objs.size) { s1 with heap:=h' })) E s) :
  wpAny (model prog w) A (call (.builtin "sorted") [x]) Q E s:=by
 refine Calls.call_function_entry kind_sorted plain_sorted entry_sorted (args_sorted1 _) ?_;unfold Builtin.«sorted»;refine AA (m:=checkCount "sorted" 1 1 _) (AF ?_);refine AA (CI g (λvs s1 ⟨i,j,κ,kd,K,q⟩=>?_) λ_ _ z=>z);refine AA (GZ ?_);have a:(s1.heap.push (seqObj "list" vs.toArray 0)).get? s1.heap.objs.size=some (seqObj "list" vs.toArray 0):=AO _ rfl;show wpAny _ _ _ _ _ { s1 with heap:=s1.heap.push (seqObj "list" vs.toArray 0) };have k:SU s1.heap.objs.size s1 { s1 with heap:=s1.heap.push (seqObj "list" vs.toArray 0) }:=λb o _ e=>AD _ e;refine AA (BS (DK slot_list_sort ⟨_,a,rfl⟩ entry_list_sort (Ej (s:={ s1 with heap:=s1.heap.push (seqObj "list" vs.toArray 0) }) a j (K _ k) λout l=>⟨_,rfl,?_⟩) (args_list_sort _)));obtain⟨e,n⟩:=sortedHeap_at (h:=s1.heap.push (seqObj "list" vs.toArray 0)) (out:=out) a;refine AF ⟨_,rfl,q out _ e l (λb o f=>?_) n⟩;have c:=AH f;rw[sortedHeap_old (AV c) (by rw[size_push'];exact DT c)];exact AD _ f
theorem RX{a:A3}{vs:A1 A2}{ss:A1 Str}(b:StrsAre vs ss):TC prog w a s strKind oneType' vs:=by
 refine⟨λA c _=>⟨λx y k l Q E d e q=>?_⟩,λv f=>?_,λg A E c Q _ q=>?_⟩
 .rw[keyLt'_oneType];exact strKind_oneLt prog w A E c x y k l d e q
 .obtain⟨x,t,rfl⟩:=b.all v f;exact⟨_,rfl⟩
 .match vs,g,b with
  | v1::h::r,_,b =>
   rw[keyKind_strs b];exact AF q
def MC(a b:A1 Nat×A1 Nat):Bool:=decide (a.1<b.1)||(decide (a.1=b.1)&&decide (a.2<b.2))
theorem KB{a b:A1 Nat×A1 Nat}:MC a b=true↔a.1<b.1\/(a.1=b.1/\a.2<b.2):=by
 unfold MC;simp
theorem TX(a b:A1 Nat):a<b\/a=b\/b<a:=by
 by_cases h:a<b
 .exact .inl h
 .by_cases c:b<a
  .exact .inr (.inr c)
  .exact .inr (.inl (List.le_antisymm (List.not_lt.mp c) (List.not_lt.mp h)))
def So:A1 A2->A5 (A1 Nat×A1 Nat)
 | [.str x _,.str y _]=>some (x.cps.toList,y.cps.toList)
 | _=>none
def Uu(c:A2):Data->A5 (A1 Nat×A1 Nat)
 | .seq a _=>if c = .type "tuple" then So a.toList else none
 | _=>none
def OT(h:IU):A2->A5 (A1 Nat×A1 Nat)
 | .ref p=>(h.get? p).bind λo=>Uu o.cls o.data
 | _=>none
@[reducible] def pairKind(h:IU):KeyKind where
 α:=A1 Nat×A1 Nat
 blt:=MC
 irrefl a:=by
  rw[BQ];intro z;rcases KB.mp z with z | ⟨_,z⟩
  .exact IB _ z
  .exact IB _ z
 trans a b c e d:=by
  rw[KB]at *;rcases e with e | ⟨e,f⟩
  .rcases d with d | ⟨d,_⟩
   .exact .inl (HN e d)
   .exact .inl (d▸e)
  .rcases d with d | ⟨d,g⟩
   .exact .inl (e▸d)
   .exact .inr ⟨e.trans d,HN f g⟩
 negTrans a b c h:=by
  rw[KB]at h;simp only[KB];rcases h with h | ⟨h,i⟩
  .rcases TX a.1 b.1 with q | q | q
   .exact .inl (.inl q)
   .exact .inr (.inl (q▸h))
   .exact .inr (.inl (HN q h))
  .rcases TX a.1 b.1 with q | q | q
   .exact .inl (.inl q)
   .rcases TX a.2 b.2 with r | r | r
    .exact .inl (.inr ⟨q,r⟩)
    .exact .inr (.inr ⟨q▸h,r▸i⟩)
    .exact .inr (.inr ⟨q▸h,HN r i⟩)
   .exact .inr (.inl (h▸q))
 total a b e d:=by
  rw[BQ]at e d;rcases TX a.1 b.1 with q | q | q
  .exact absurd (KB.mpr (.inl q)) e
  .rcases TX a.2 b.2 with r | r | r
   .exact absurd (KB.mpr (.inr ⟨q,r⟩)) e
   .exact Prod.ext q r
   .exact absurd (KB.mpr (.inr ⟨q.symm,r⟩)) d
  .exact absurd (KB.mpr (.inl q)) d
 keyOf:=OT h
 dflt:=([],[])
def NN(h:IU)(v:A2)(x y:Str):Prop:=∃p o n t u,v = .ref p/\h.get? p=some o/\o.cls = .type "tuple"/\o.data = .seq #[.str x t,.str y u] n
theorem NN.key{h:IU}{v:A2}{x y:Str}(z:NN h v x y):OT h v=some (x.cps.toList,y.cps.toList):=by
 obtain⟨p,o,n,t,u,rfl,e,c,d⟩:=z;show(h.get? p).bind (λo=>Uu o.cls o.data)=_;rw[e];show Uu o.cls o.data=_;rw[d,c];unfold Uu;exact(AQ rfl).trans rfl
theorem zDu{l:A1 A2}{k:A1 Nat×A1 Nat}(e:So l=some k):∃x t y u,l = [.str x t,.str y u]:=by
 match l,e with
 | [.str x t,.str y u],_=>exact⟨x,t,y,u,rfl⟩
theorem Rz{h:IU}{v:A2}{k:A1 Nat×A1 Nat}(e:OT h v=some k):∃x y,NN h v x y:=by
 match v,e with
 | .ref p,e =>
  have g:(h.get? p).bind (λo=>Uu o.cls o.data)=some k:=e;obtain⟨o,i,b⟩:=HX.mp g;cases d:o.data with
  | seq f n =>
   rw[d]at b;have a:(if o.cls = .type "tuple" then So f.toList else none)=some k:=b;by_cases c:o.cls = .type "tuple"
   .rw[AQ c]at a;obtain⟨x,t,y,u,j⟩:=zDu a;refine⟨x,y,p,o,n,t,u,rfl,i,c,?_⟩;rw[d];have:f = #[.str x t,.str y u]:=by rw[<-Array.toList_inj,j]
    rw[this]
   .rw[AN c]at a;cases a
  | _=>rw[d]at b;cases b
theorem Nz{h:IU}{v:A2}{k:A1 Nat×A1 Nat}{x y:Str}(z:NN h v x y)(e:OT h v=some k):k =(x.cps.toList,y.cps.toList):=by
 rw[z.key]at e;exact(BJ e).symm
theorem RO{a:A3}{vs:A1 A2}{F:IU}(B:∀v∈vs,∃x y,NN F v x y)(C:∀b o,F.get? b=some o->b≠a/\s.heap.get? b=some o) :
  TC prog w a s (pairKind F) (tuples' true) vs:=by
 refine⟨λA G J=>⟨λx y k l Q E O P q=>?_⟩,λv K=>?_,λh2 A E G Q J q=>?_⟩
 .obtain⟨g,m,R⟩:=Rz O;obtain⟨f,i,S⟩:=Rz P;have Y:=Nz R O;have Z:=Nz S P;subst Y Z;obtain⟨px,ox,nx,t1,u1,rfl,U,_,d1⟩:=R;obtain⟨py,oy,ny,t2,u2,rfl,V,_,d2⟩:=S;have f1:=J _ _ (C _ _ U).1 (C _ _ U).2;have f2:=J _ _ (C _ _ V).1 (C _ _ V).2;refine PySem.W.kat_lt f1 d1 f2 d2 ?_;show PySem.W.KatLex prog w A true _ Q [(.str g t1,.str f t2),(.str m u1,.str i u2)] 0 G;refine PySem.W.kat_cons (IK (PySem.W.kat_go (λj=>?_) λj=>?_))
  .have j:g=f:=by simpa using j
   refine PySem.W.kat_yes (PySem.W.kat_cons (IK (PySem.W.kat_go (λh=>?_) λh=>?_)))
   .have h:m=i:=by simpa using h
    refine PySem.W.kat_yes (PySem.W.kat_nil ?_);have:MC (g.cps.toList,m.cps.toList) (f.cps.toList,i.cps.toList)=decide (2<2):=by
     rw[j,h];exact(pairKind F).irrefl (f.cps.toList,i.cps.toList)
    show Q (decide (2<2)) G;rw[<-this];exact q
   .refine PySem.W.kat_no (PySem.W.kat_one _ _ (lt_str ?_));have:MC (g.cps.toList,m.cps.toList) (f.cps.toList,i.cps.toList)=decide (m.cps.toList<i.cps.toList):=by
     rw[j];unfold MC;simp[IB]
    show Q (decide (m.cps.toList<i.cps.toList)) G;rw[<-this];exact q
  .have j:¬g=f:=by simpa using j
   refine PySem.W.kat_no (oneLt_str ?_);have L:¬g.cps.toList=f.cps.toList:=λz=>j (by cases g;cases f;simp at z;simp[z]);have:MC (g.cps.toList,m.cps.toList) (f.cps.toList,i.cps.toList)=decide (g.cps.toList<f.cps.toList):=by
    unfold MC;simp[L]
   rw[<-this];exact q
 .obtain⟨x,y,z⟩:=B v K;exact⟨_,z.key⟩
 .have hT:∀(H:A1 A2),(∀v∈H,∃x y,NN F v x y)->∃D,PySem.W.KatTups G.heap H D/\D.length=H.length/\∀v∈D,∃x t,v = .str x t:=by
   intro H
   induction H with
   | nil=>exact λ_=>⟨[],.nil,rfl,λv B=>by simp at B⟩
   | cons v r ih =>
    intro I;obtain⟨D,M,X,N⟩:=ih λu hu=>I u (BG _ hu);obtain⟨x,y,p,o,n,t,u,rfl,e,c,d⟩:=I v (BN ..);refine⟨.str x t::D,.cons (J _ _ (C _ _ e).1 (C _ _ e).2) c d rfl M,by simp[X],λz hz=>?_⟩;rcases AK.mp hz with rfl | hz
    .exact⟨x,t,rfl⟩
    .exact N z hz
  obtain⟨D,M,X,N⟩:=hT vs B;refine PySem.W.kat_kind (T:=.type "str") M (by lia) (λv B=>?_) (by rfl) q;obtain⟨x,t,rfl⟩:=N v B;exact .now
end
end TS
set_option Elab.async false
namespace L2
open PySem PySem.Spec PyProof.Rows
abbrev JH:=Sum Int Str
def Hv:JH->A2->Bool
 | .inl k,v=>Value.isInt k v
 | .inr x,v=>Value.isStrOf x v
def zKq(w:F8):JH->Int
 | .inl k=>hashInt k
 | .inr x=>hashStr w x
def I9:∀{k:JH} {v:A2},Hv k v=true->(∃i t,k=Sum.inl i/\v=Value.int i t)\/(∃x t,k=Sum.inr x/\v=Value.str x t)
 | .inl i,v,h=>by
  obtain⟨t,e⟩:=Value.isInt_shape (k:=i) (v:=v) h;exact .inl ⟨i,t,rfl,e⟩
 | .inr x,v,h=>by
  obtain⟨t,e⟩:=Value.isStrOf_shape (x:=x) (v:=v) h;exact .inr ⟨x,t,rfl,e⟩
def Vn(i:Int)(t:Tok):Hv (.inl i) (.int i t)=true:=by simp[Hv,Value.isInt]
def Uh(x:Str)(t:Tok):Hv (.inr x) (.str x t)=true:=by simp[Hv,Value.isStrOf]
def zEz(a b:Int):decide ((Sum.inl a:JH)=Sum.inl b) =(a == b):=by
 by_cases e:a=b
 .subst e;simp
 .have h:¬(Sum.inl a:JH)=Sum.inl b:=λq=>e (Sum.inl.inj q);rw[BA h];exact(beq_eq_false_iff_ne.mpr e).symm
def zGw(a b:Str):decide ((Sum.inr a:JH)=Sum.inr b)=decide (a=b):=by
 by_cases e:a=b
 .subst e;simp
 .have h:¬(Sum.inr a:JH)=Sum.inr b:=λq=>e (Sum.inr.inj q);rw[BA h,BA e]
def zEq(a:Int)(b:Str):decide ((Sum.inl a:JH)=Sum.inr b)=false:=BA (λq=>nomatch q)
def zFt(a:Str)(b:Int):decide ((Sum.inr a:JH)=Sum.inl b)=false:=BA (λq=>nomatch q)
def D0(prog:A7)(w:F8):PySem.KeyKind prog w JH where
 is:=Hv
 hash:=zKq w
 inj:=λv a b g f=>by
  rcases I9 g with⟨i,t,rfl,rfl⟩ | ⟨x,t,rfl,rfl⟩
  .rcases I9 f with⟨j,u,rfl,e⟩ | ⟨y,u,rfl,e⟩
   .injection e with c _;rw[c]
   .exact nomatch e
  .rcases I9 f with⟨j,u,rfl,e⟩ | ⟨y,u,rfl,e⟩
   .exact nomatch e
   .injection e with c _;rw[c]
 byValue:=λk v h=>by
  rcases I9 h with⟨i,t,rfl,rfl⟩ | ⟨x,t,rfl,rfl⟩<;>rfl
 pyHash:=λd h=>by
  rcases I9 d with⟨i,t,rfl,rfl⟩ | ⟨x,t,rfl,rfl⟩
  .exact wpAny_pyHash_int h
  .exact wpAny_pyHash_str h
 eqBool:=λl d h=>by
  rcases I9 l with⟨i,t,rfl,rfl⟩ | ⟨x,t,rfl,rfl⟩
  .rcases I9 d with⟨j,u,rfl,rfl⟩ | ⟨y,u,rfl,rfl⟩
   .rw[zEz]at h;exact wpAny_eqBool_int h
   .rw[zEq]at h;exact SeqAt.EqAt.int_str i t y u _ _ _ _ h
  .rcases I9 d with⟨j,u,rfl,rfl⟩ | ⟨y,u,rfl,rfl⟩
   .rw[zFt]at h;exact SeqAt.EqAt.str_int x t j u _ _ _ _ h
   .rw[zGw]at h;exact IK h
 «strs»:=λk x t v h=>by
  rcases I9 h with⟨i,u,rfl,e⟩ | ⟨y,u,rfl,e⟩
  .exact nomatch e
  .injection e with c _;subst c;cases v<;>rfl
def Lh(prog:A7)(w:F8)(i:Int)(t:Tok):(D0 prog w).is (.inl i) (.int i t)=true:=Vn i t
def Kg(prog:A7)(w:F8)(x:Str)(t:Tok):(D0 prog w).is (.inr x) (.str x t)=true:=Uh x t
inductive V where
 | non | bl (b:Bool) | int (i:Int) | str (x:Str) | byt (b:CM UInt8) | flt (b:UInt64) | ref (a:A3) | ty (n:String)
 deriving DecidableEq
def RelV:V->A2->Prop
 | .non,u=>u=Value.none
 | .bl b,u=>u=Value.bool b
 | .int i,u=>∃t,u=Value.int i t
 | .str x,u=>∃t,u=Value.str x t
 | .byt b,u=>∃t,u=Value.bytes b t
 | .flt b,u=>∃t,u=Value.float b t
 | .ref a,u=>u=Value.ref a
 | .ty n,u=>u=Value.type n
abbrev I_:A1 V->A1 A2->Prop:=Paired RelV
def I_.length{xs:A1 V}{us:A1 A2}(r:I_ xs us):xs.length=us.length:=Paired.length r
def I_.get:∀{xs:A1 V} {us:A1 A2} {i:Nat} {x:V},I_ xs us->xs[i]?=some x->∃u,us[i]?=some u/\RelV x u
 | _,_,_,_,.nil,e=>by simp at e
 | _,_,0,_,.cons r _,e=>by simp at e;subst e;exact⟨_,rfl,r⟩
 | _,_,i+1,x,.cons _ t,e=>by
  obtain⟨u,a,b⟩:=I_.get (i:=i) (x:=x) t (by simpa using e);exact⟨u,by simpa using a,b⟩
def I_.set{x:V}{u:A2}(r:RelV x u):∀{xs:A1 V} {us:A1 A2} (i:Nat),I_ xs us->I_ (xs.set i x) (us.set i u)
 | _,_,_,.nil=>.nil
 | _,_,0,.cons _ t=>.cons r t
 | _,_,i+1,.cons q t=>.cons q (I_.set r i t)
def I_.append:∀{xs a:A1 V} {us b:A1 A2},I_ xs us->I_ a b->I_ (xs++a) (us++b)
 | _,_,_,_,.nil,s=>s
 | _,_,_,_,.cons r t,s=>.cons r (I_.append t s)
def I_.take:∀{xs:A1 V} {us:A1 A2} (n:Nat),I_ xs us->I_ (xs.take n) (us.take n)
 | _,_,0,_=>.nil
 | _,_,_+1,.nil=>.nil
 | _,_,n+1,.cons r t=>.cons r (I_.take n t)
def I_.drop:∀{xs:A1 V} {us:A1 A2} (n:Nat),I_ xs us->I_ (xs.drop n) (us.drop n)
 | _,_,0,r=>r
 | _,_,_+1,.nil=>.nil
 | _,_,n+1,.cons _ t=>I_.drop n t
def NR:A5 V->A5 A2->Prop
 | some v,some u=>RelV v u
 | none,none=>True
 | _,_=>False
def KV{κ:Type}:A1 (κ×V)->A1 (κ×A2)->Prop:=Paired λ(p:κ×V) (q:κ×A2)=>p.1=q.1/\RelV p.2 q.2
def kV:JH->V
 | .inl i=>.int i
 | .inr x=>.str x
inductive HO where
 | lst (xs:A1 V)
 | tup (xs:A1 V)
 | dK (kvs:A1 (JH×V)) | dT (kvs:A1 (A1 JH×V))
 | set (S:Int->Bool) (n:Nat)
 | ins (C dx:A3) (fs:A1 (Str×V))
 | own (x:A3)
 | xd (fs:A1 (Str×V))
 | met (f x:A3)
 | rng (lo hi:Int)
 | frz (o:Obj) (u:HO)
 | tbl (ps:CM A2)
 | ext (φ:IU->Prop)
set_option genInjectivity false
abbrev Hp:=A3->A5 HO
def IT(H:Hp)(a:A3)(o:HO):Hp:=λb=>if b=a then some o else H b
def A9{H:Hp}{a:A3}{o:HO}:IT H a o a=some o:=by unfold IT;rw[AQ rfl]
def B6{H:Hp}{a b:A3}{o:HO}(h:b≠a):IT H a o b=H b:=by unfold IT;rw[AN h]
def S8{H:Hp}{a b:A3}{o u:HO}(h:H a=some o)(h':H b=some u)(d:o≠u):a≠b:=by
 intro e;subst e;rw[h]at h';exact d (BJ h')
def B2{H:Hp}{a b:A3}{o:HO}(h:H a=some o)(h':H b=none):a≠b:=by
 intro e;subst e;rw[h]at h';cases h'
section
variable(P:A7)(w:F8)
def JB(H:Hp)(h:IU)(a:A3):HO->Prop
 | .lst d=>d.length<=sizeLine/\∃(b:A1 A2) (n:Nat),I_ d b/\h.get? a=some { cls:=.type "list",data:=.seq b.toArray n }
 | .tup d=>d.length<=sizeLine/\∃b:A1 A2,I_ d b/\IsTup h a b.toArray
 | .dK c=>c.length<=sizeLine/\(a == sysModules)=false/\∃j,KV c j/\h.DictOf (D0 P w) a j
 | .dT c=>c.length<=sizeLine/\(a == sysModules)=false/\∃d:A1 (A1 JH×A3×A2),
   Paired (λ(p:A1 JH×V) (q:A1 JH×A3×A2)=>p.1=q.1/\H q.2.1=some (.tup (p.1.map kV))/\RelV p.2 q.2.2) c d /\
   ∃o k r,h.get? a=some o/\o.ExactDict/\o.data = .dict k r/\k.toList=d.map (entryOfKey (tupleKind (D0 P w)))/\(d.map (·.1)).Nodup
 | .set S n=>h.SetOf (intKind P w) a S n
 | .ins C i g=>H i=some (.own a)/\g.length<=1000/\i≠a/\h.get? a=some (PySem.W.instObj C i) /\
   ∃e,h.Ns1 i e/\(∀f,NR (g.lookup f) (e f))/\PySem.Within e (g.map (·.1))
 | .own _=>∃o,h.get? a=some o
 | .xd g=>∃e,h.Ns1 a e/\∀f,NR (g.lookup f) (e f)
 | .rng lo s=>∃t u v,h.get? a=some { cls:=.type "range",data:=.fields #[.int lo t,.int s u,.int 1 v] }
 | .frz o u=>h.get? a=some o/\JB H h a u
 | .tbl y=>h.get? a=some { cls:=.none,data:=.fields y }
 | .met f x=>h.get? a=some (PySem.W.methodObj (.ref f) (.ref x))
 | .ext φ=>φ h/\(∃o,h.get? a=some o)/\∀l m:IU,φ l->(∀o,l.get? a=some o->m.get? a=some o)->φ m
def NE(H:Hp)(h:IU):Prop:=∀a o,H a=some o->JB P w H h a o
end
section
variable{P:A7}{w:F8}{H H':Hp}{h h':IU}{a:A3}{o:HO}
theorem JB.lt(x:JB P w H h a o):a<h.objs.size:=by
 cases o with
 | lst c=>obtain⟨_,_,_,_,e⟩:=x;exact AH e
 | tup c=>obtain⟨_,_,_,p⟩:=x;exact p.lt
 | dK b=>obtain⟨_,_,_,_,o,_,_,e,_⟩:=x;exact AH e
 | dT b=>obtain⟨_,_,_,_,o,_,_,e,_⟩:=x;exact AH e
 | set S n=>obtain⟨o,_,_,_,e,_⟩:=x;exact AH e
 | ins C g d=>obtain⟨_,_,_,e,_⟩:=x;exact AH e
 | own y=>obtain⟨_,e⟩:=x;exact AH e
 | xd d=>obtain⟨_,⟨_,_,_,e,_⟩,_⟩:=x;exact AH e
 | rng lo i=>obtain⟨_,_,_,e⟩:=x;exact AH e
 | frz j u=>obtain⟨e,_⟩:=x;exact AH e
 | tbl k=>exact AH (show h.get? a=some _ from x)
 | met f y=>exact AH (show h.get? a=some _ from x)
 | ext φ=>obtain⟨_,⟨_,e⟩,_⟩:=x;exact AH e
theorem Paired.mapP{α β:Type}{F G:α->β->Prop}:∀{l₁:A1 α} {l₂:A1 β},Paired F l₁ l₂->(∀a b,F a b->G a b)->Paired G l₁ l₂
 | _,_,.nil,_=>.nil
 | _,_,.cons r t,f=>.cons (f _ _ r) (Paired.mapP t f)
theorem JB.stay(x:JB P w H h a o)(k:∀b u,(b=a\/H b=some (.own a))->h.get? b=some u->h'.get? b=some u)
  (D:∀b,H b=some (.own a)->H' b=some (.own a)) (E:∀b xs,H b=some (.tup xs)->H' b=some (.tup xs)):JB P w H' h' a o:=by
 induction o with
 | lst xs=>obtain⟨z,l,n,r,e⟩:=x;exact⟨z,l,n,r,k _ _ (.inl rfl) e⟩
 | tup xs=>obtain⟨z,l,r,g,e,c⟩:=x;exact⟨z,l,r,g,k _ _ (.inl rfl) e,c⟩
 | dK m=>obtain⟨z,y,F,r,g,i,j,e,c⟩:=x;exact⟨z,y,F,r,g,i,j,k _ _ (.inl rfl) e,c⟩
 | dT m =>
  obtain⟨z,y,xs,r,g,i,j,e,c⟩:=x;exact⟨z,y,xs,Paired.mapP r λp q z=>⟨z.1,E _ _ z.2.1,z.2.2⟩,g,i,j,k _ _ (.inl rfl) e,c⟩
 | set S n=>obtain⟨g,i,j,t,e,c⟩:=x;exact⟨g,i,j,t,k _ _ (.inl rfl) e,c⟩
 | ins C L G =>
  obtain⟨d,z,I,e,s,⟨A,i,j,J,c⟩,r⟩:=x;exact⟨D _ d,z,I,k _ _ (.inl rfl) e,s,⟨A,i,j,k _ _ (.inr d) J,c⟩,r⟩
 | own y=>obtain⟨g,e⟩:=x;exact⟨g,k _ _ (.inl rfl) e⟩
 | xd G=>obtain⟨s,⟨A,i,j,e,c⟩,r⟩:=x;exact⟨s,⟨A,i,j,k _ _ (.inl rfl) e,c⟩,r⟩
 | rng lo M=>obtain⟨t,u,v,e⟩:=x;exact⟨t,u,v,k _ _ (.inl rfl) e⟩
 | frz g u K=>obtain⟨e,q⟩:=x;exact⟨k _ _ (.inl rfl) e,K q⟩
 | tbl B =>
  have e:h.get? a=some { cls:=.none,data:=.fields B }:=x;show h'.get? a=some { cls:=.none,data:=.fields B };exact k a _ (.inl rfl) e
 | met f y =>
  have e:h.get? a=some (PySem.W.methodObj (.ref f) (.ref y)):=x;show h'.get? a=some (PySem.W.methodObj (.ref f) (.ref y));exact k a _ (.inl rfl) e
 | ext φ=>obtain⟨p,⟨o,e⟩,st⟩:=x;exact⟨st _ _ p λo q=>k _ _ (.inl rfl) q,⟨o,k _ _ (.inl rfl) e⟩,st⟩
theorem NE.lt(x:NE P w H h)(e:H a=some o):a<h.objs.size:=(x a o e).lt
theorem NE.fresh(x:NE P w H h)(e:h.objs.size<=a):H a=none:=by
 cases q:H a with
 | none=>rfl
 | some u=>exact absurd (BH (x.lt q) e) (EI _)
theorem NE.kept(x:NE P w H h)(k:∀b u,h.get? b=some u->h'.get? b=some u):NE P w H h':=λa o e =>
 (x a o e).stay (λb u _ q=>k b u q) (λ_ q=>q) λ_ _ q=>q
theorem NE.laid(x:NE P w H h)(k:∀b u,h.get? b=some u->h'.get? b=some u)(i:h.objs.size<=a)(d:JB P w (IT H a o) h' a o):NE P w (IT H a o) h':=λb u e=>by
 have f:=x.fresh i;by_cases g:b=a
 .subst g;rw[A9]at e;cases e;exact d
 .rw[B6 g]at e;exact(x b u e).stay (λc v _ q=>k c v q) (λc q=>by rw[B6 (B2 q f)];exact q) λc j q=>by rw[B6 (B2 q f)];exact q
end
def Rd(H:Hp)(a:A3)(u:HO):Prop:=H a=some u\/∃o,H a=some (.frz o u)
def Rd.ok{P:A7}{w:F8}{H:Hp}{h:IU}{a:A3}{u:HO}(r:Rd H a u)(x:NE P w H h):JB P w H h a u:=by
 rcases r with r | ⟨o,r⟩
 .exact x a u r
 .obtain⟨_,q⟩:=x a _ r;exact q
def VL:A5 HO->Prop
 | some (.lst _)=>True
 | some (.dK _)=>True
 | some (.dT _)=>True
 | some (.set _ _)=>True
 | some (.ins _ _ _)=>True
 | some (.ext _)=>True
 | _=>False
section
variable{P:A7}{w:F8}{H:Hp}{h h':IU}{x e:A3}{o':HO}
theorem NE.write(p:NE P w H h)(g:VL (H x))(n:e=x\/H e=some (.own x))(k:∀b u,b≠e->h.get? b=some u->h'.get? b=some u)(l:∃u,h'.get? e=some u)
  (m:JB P w (IT H x o') h' x o'):NE P w (IT H x o') h':=λb u q=>by
 have d:∀c y,H c=some (.own y)->c≠x:=λc y r z=>by subst z;rw[r]at g;exact g
 have f:∀c i,H c=some (.tup i)->c≠x:=λc i r z=>by subst z;rw[r]at g;exact g
 by_cases j:b=x
 .subst j;rw[A9]at q;cases q;exact m
 .rw[B6 j]at q;by_cases a:b=e
  .have o:H b=some (.own x):=by
    rcases n with z | z
    .exact absurd (a.trans z) j
    .rw[a];exact z
   rw[q]at o;cases o;obtain⟨v,s⟩:=l;exact⟨v,by rw[a];exact s⟩
  .refine(p b u q).stay (λc v hc r=>k c v ?_ r) (λc r=>by rw[B6 (d c b r)];exact r) λc i r=>by rw[B6 (f c i r)];exact r
   rcases hc with rfl | hc
   .exact a
   .rintro rfl;rcases n with z | z
    .exact d c b hc z
    .rw[hc]at z;cases z;exact j rfl
end
structure Un(fs ex:A1 A3)(H H':Hp)(h h':IU):Prop where
 keep:∀b o,h.get? b=some o->H b=none->b∉fs->b∉ex->h'.get? b=some o
 slot:∀b o,h.get? b=some o->H b=none->b∈fs->b∉ex->∃sl,h'.get? b=some { o with slots:=sl }
 free:∀b o,h.get? b=some o->H b=none->b∉ex->H' b=none
 there:∀b o,h.get? b=some o->b∉ex->∃o',h'.get? b=some o'
 tups:∀b xs,H b=some (.tup xs)->H' b=some (.tup xs)
 frzs:∀b o u,H b=some (.frz o u)->H' b=some (.frz o u)
 tbls:∀b ps,H b=some (.tbl ps)->∃more,H' b=some (.tbl (ps++more))
section
variable{fs fs' ex ex':A1 A3}{H H1 H2:Hp}{h h1 h2 h':IU}{a x e:A3}{o:HO}
theorem Un.any(u:Un fs ex H H1 h h1){b:A3}{ob:Obj}(q:h.get? b=some ob)(n:H b=none)(a:b∉ex):∃d,h1.get? b=some { ob with slots:=d }:=by
 by_cases c:b∈fs
 .exact u.slot b ob q n c a
 .exact⟨ob.slots,u.keep b ob q n c a⟩
theorem Un.kept(k:∀b u,h.get? b=some u->h'.get? b=some u):Un fs ex H H h h' :=
 ⟨λb a q _ _ _=>k b a q,λb a q _ _ _=>⟨a.slots,k b a q⟩,λ_ _ _ n _=>n,λb a q _=>⟨a,k b a q⟩,λ_ _ q=>q,λ_ _ _ q=>q,λ_ c q=>⟨#[],by rw[q];simp⟩⟩
theorem Un.refl:Un fs ex H H h h:=Un.kept λ_ _ q=>q
theorem Un.laid(k:∀b u,h.get? b=some u->h'.get? b=some u)(d:h.objs.size<=a)(c:H a=none):Un fs ex H (IT H a o) h h' where
 keep:=λb u q _ _ _=>k b u q
 slot:=λb u q _ _ _=>⟨u.slots,k b u q⟩
 free:=λb u q n _=>by rw[B6 (AV (BH (AH q) d))];exact n
 there:=λb u q _=>⟨u,k b u q⟩
 tups:=λb e q=>by rw[B6 (B2 q c)];exact q
 frzs:=λb u e q=>by rw[B6 (B2 q c)];exact q
 tbls:=λb f q=>⟨#[],by rw[B6 (B2 q c),q];simp⟩
theorem Un.write(c:VL (H x))(j:e=x\/H e=some (.own x))(k:∀b u,b≠e->h.get? b=some u->h'.get? b=some u)(d:∃u,h'.get? e=some u):Un fs ex H (IT H x o) h h':=by
 have g:∀b,H b=none->b≠x:=λb n z=>by subst z;rw[n]at c;exact c
 have i:∀b,H b=none->b≠e:=λb n z=>by
  subst z;rcases j with r | r
  .exact g b n r
  .rw[n]at r;cases r
 have f:∀b u,H b=some u->¬VL (some u)->b≠x:=λb u q l z=>by subst z;rw[q]at c;exact l c
 refine⟨λb u q n _ _=>k b u (i b n) q,λb u q n _ _=>⟨u.slots,k b u (i b n) q⟩,λb u q n _=>by rw[B6 (g b n)];exact n,λb u q _=>?_,
  λb m q=>by rw[B6 (f b _ q λz=>z)];exact q,λb u m q=>by rw[B6 (f b _ q λz=>z)];exact q,λb p q=>⟨#[],by rw[B6 (f b _ q λz=>z),q];simp⟩⟩
 by_cases a:b=e
 .subst a;exact d
 .exact⟨u,k b u a q⟩
end
def trk(h:IU)(H:Hp):A1 A3:=(List.range h.objs.size).filter λa=>(H a).isSome
def Vu(h:IU)(H:Hp):IU:=PySem.W.hideAll h (trk h H)
def Gh(h:IU)(H:Hp):(Vu h H).objs.size=h.objs.size:=PySem.W.hideAll_size _ _
def At{h:IU}{H:Hp}{b:A3}{o:Obj}(e:h.get? b=some o)(n:H b=none):(Vu h H).get? b=some o :=
 PySem.W.hideAll_get _ e λa=>by
  have q:(H b).isSome=true:=(BE.mp a).2;rw[n]at q;simp at q
def Ss{h:IU}{H:Hp}{b:A3}{o:Obj}(e:(Vu h H).get? b=some o):h.get? b=some o/\H b=none:=by
 have a:h.get? b=some o:=PySem.W.of_hideAll (trk h H) e;refine⟨a,?_⟩;cases q:H b with
 | none=>rfl
 | some x =>
  have c:b∈trk h H:=BE.mpr ⟨BT.mpr (AH a),by simp[q]⟩;have z:(Vu h H).get? b=none:=PySem.W.hideAll_none (trk h H) c;rw[z]at e;cases e
structure Mod(K:VN)(mg:Str->A5 A2)(base:IU):Prop where
 kin:K.In base
 glob:base.Ns mainGlobals mg
 blt:∃mb,base.Ns builtinsNs mb/\∀x:Str,x≠ "__name__"->mb x=bootBuiltins x
 nolimit:base.NoLimit
set_option genInjectivity false in
structure Cx where
 prog:A7
 w:F8
 K:VN
 mg:Str->A5 A2
 base:IU
 A:IY
 N:A1 Str
 s₀:A4
 H₀:Hp
 env:RM
 outer:A1 RM
 stack:A1 RM
 ex:A1 A3
 fn:Str->Bool
 calm:Bool
 pn:A1 (A3×Obj)
 xe:A2->A4->Prop
def RA(l:A1 RM):A1 A3:=l.filterMap (·.frame)
abbrev Cx.fs(X:Cx):A1 A3:=RA X.outer
def VE(a:JX)(x:Str):Prop:=a.names.lookup x=some .local\/a.names.lookup x=some .cell\/a.names.lookup x=some .free
def Loc(a:JX)(x:Str):Prop:=a.names.lookup x=some .local\/a.names.lookup x=some .cell
def zKz(a:RM)(h:IU)(m:Str->A5 A2)(x:Str)(u:A2):Prop :=
 (a.kindOf x=some .local/\m x=some u)\/((a.kindOf x=some .cell\/a.kindOf x=some .free)/\∃c,a.cells.lookup x=some c/\h.IsCell c (some u))
structure Cx.Ok(X:Cx):Prop where
 mod:Mod X.K X.mg X.base
 kind:X.env.scope.kind = .function
 glob:X.env.globals=mainGlobals
 blt:X.env.builtins=builtinsNs
 above:X.s₀.heap.objs.size<=X.env.locals
 inj:∀x y c,X.env.cells.lookup x=some c->X.env.cells.lookup y=some c->x=y
 has:∀x,(X.env.kindOf x=some .cell\/X.env.kindOf x=some .free)->∃c,X.env.cells.lookup x=some c
 cab:∀x c,X.fn x=true->X.env.cells.lookup x=some c->X.s₀.heap.objs.size<=c
 hd:X.calm=true->X.A.handled=none
 frames:X.A.frames=some X.stack
 stk:X.stack=X.outer\/(X.stack=X.env::X.outer/\X.env.frame=some X.env.locals)
 exf:∀b∈X.ex,b≠X.env.locals/\∀x c,X.env.cells.lookup x=some c->c≠b
 bs:∀b o,X.base.get? b=some o->X.s₀.heap.get? b=some o/\X.H₀ b=none
 bsz:X.base.objs.size<=X.s₀.heap.objs.size
 noex:∀b o,X.base.get? b=some o->b∉X.ex
 exfs:∀b∈X.ex,b∉X.fs
 funs:X.s₀.heap.FunFrames X.base X.outer
 frf:∀b∈X.fs,X.H₀ b=none
structure Inv(X:Cx)(pins:A1 (A3×Obj))(σ:A1 (A5 V))(H:Hp)(s:A4):Prop where
 ok:X.Ok
 os:s.os=X.s₀.os
 bare:AllBare s.gens
 base:Un X.fs X.ex X.H₀ H X.s₀.heap s.heap
 loc:∃m,s.heap.Ns X.env.locals m/\∀(i:Nat) (x:Str) (v:V),X.N[i]?=some x->σ[i]?=some (some v)->VE X.env.scope x->∃u,RelV v u/\zKz X.env s.heap m x u
 cell:∀x c,X.env.cells.lookup x=some c->∃v,s.heap.IsCell c v
 free:H X.env.locals=none
 freeC:∀x c,X.env.cells.lookup x=some c->H c=none
 pin:∀p∈X.pn++pins,s.heap.get? p.1=some p.2/\H p.1=none/\p.1≠X.env.locals/\p.1∉X.fs/\∀v,p.2.data≠ .cell v
 hok:NE X.prog X.w H s.heap
 len:σ.length=X.N.length
section
variable{X:Cx}{pins:A1 (A3×Obj)}{σ:A1 (A5 V)}{H H':Hp}{s:A4}{h':IU}
theorem Cx.Ok.nofr(a:X.Ok){b:A3}{o:Obj}(e:X.base.get? b=some o):b∉X.fs:=λc=>by
 have:=(a.funs.mem c).1;rw[e]at this;cases this
theorem Inv.bs(I:Inv X pins σ H s):∀b o,X.base.get? b=some o->s.heap.get? b=some o/\H b=none:=λb o e =>
 ⟨I.base.keep b o (I.ok.bs b o e).1 (I.ok.bs b o e).2 (I.ok.nofr e) (I.ok.noex b o e),I.base.free b o (I.ok.bs b o e).1 (I.ok.bs b o e).2 (I.ok.noex b o e)⟩
theorem Inv.bk(I:Inv X pins σ H s):∀b o,X.base.get? b=some o->s.heap.get? b=some o:=λb o e=>(I.bs b o e).1
theorem Inv.mod(I:Inv X pins σ H s):Mod X.K X.mg X.base:=I.ok.mod
theorem Inv.kIn(I:Inv X pins σ H s):X.K.In s.heap:=I.ok.mod.kin.keeps I.bk
theorem Inv.lt(I:Inv X pins σ H s):X.env.locals<s.heap.objs.size:=let⟨_,a,_⟩:=I.loc;a.lt
theorem Inv.sz(I:Inv X pins σ H s):X.s₀.heap.objs.size<=s.heap.objs.size:=VR I.ok.above (DU I.lt)
theorem Inv.nofs(I:Inv X pins σ H s){a:A3}(h:s.heap.objs.size<=a):a∉X.fs:=λb=>by
 obtain⟨_,o,c,_⟩:=I.ok.funs.mem b;exact absurd (BH (AH c) (VR I.sz h)) (EI _)
theorem Inv.cne(I:Inv X pins σ H s):∀x c,X.env.cells.lookup x=some c->c≠X.env.locals:=λx c e z=>by
 obtain⟨v,o,d,f⟩:=I.cell x c e;obtain⟨m,⟨g,h,i,a,b,_⟩,_⟩:=I.loc;rw[z,a]at d;cases d;rw[b]at f;cases f
theorem Inv.funs(I:Inv X pins σ H s):s.heap.FunFrames X.base X.outer:=by
 have a:∀(l:A1 RM),(∀b∈RA l,b∈X.fs)->X.s₀.heap.FunFrames X.base l->s.heap.FunFrames X.base l:=by
  intro l
  induction l with
  | nil=>intro _ _;trivial
  | cons h r i =>
   intro g j;obtain⟨k,⟨L,o,c,m,n,p⟩,q⟩:=j;have d:L∈X.fs:=g L (by unfold RA;rw[EY,c];exact BN);obtain⟨t,e⟩:=I.base.slot L o n (I.ok.frf L d) d λz=>I.ok.exfs L z d;exact⟨k,⟨L,_,c,m,e,p⟩,i (λb f=>g b (by unfold RA;rw[EY,c];exact BG _ f)) q⟩
 exact a X.outer (λ_ f=>f) I.ok.funs
theorem Inv.stack(I:Inv X pins σ H s):s.heap.FunFrames X.base X.stack:=by
 rcases I.ok.stk with e | ⟨e,a⟩
 .rw[e];exact I.funs
 .rw[e];obtain⟨m,b,_⟩:=I.loc;refine .cons (by rw[I.ok.kind];decide) a b ?_ I.funs;exact Heap.get?_none_of_le (VR I.ok.bsz I.ok.above)
theorem Inv.stkSub(I:Inv X pins σ H s):∀b∈RA X.stack,b∈X.env.locals::X.fs:=λb a=>by
 rcases I.ok.stk with e | ⟨e,c⟩
 .rw[e]at a;exact BG _ a
 .rw[e]at a;unfold RA at a;rw[EY,c]at a;exact a
theorem Inv.stkFree(I:Inv X pins σ H s):∀b∈RA X.stack,H b=none:=λb hb=>by
 rcases AK.mp (I.stkSub b hb)with e | hb
 .rw[e];exact I.free
 .obtain⟨_,o,a,_⟩:=I.ok.funs.mem hb;exact I.base.free b o a (I.ok.frf b hb) λz=>I.ok.exfs b z hb
theorem Inv.step{g':CM GenState}{t':Nat}{d':Drawn}{ch:A1 A3}(I:Inv X pins σ H s)
  (g:∀b∈ch,(b∈X.ex\/X.s₀.heap.objs.size<=b)/\b≠X.env.locals/\(∀x c,X.env.cells.lookup x=some c->c≠b)/\∀p∈X.pn++pins,p.1≠b)
  (h:∀b o,b≠X.env.locals->b∉X.fs->b∉ch->s.heap.get? b=some o->H b=none->h'.get? b=some o)
  (B:∀b o,b≠X.env.locals->b∈X.fs->b∉ch->s.heap.get? b=some o->H b=none->∃O,h'.get? b=some { o with slots:=O }) (f:∀b o,b∉ch->s.heap.get? b=some o->H b=none->H' b=none)
  (C:∀b o,b∉ch->s.heap.get? b=some o->∃F,h'.get? b=some F)
  (G:∀b xs,H b=some (.tup xs)->H' b=some (.tup xs)) (J:∀b o u,H b=some (.frz o u)->H' b=some (.frz o u)) (K:∀b N,H b=some (.tbl N)->∃more,H' b=some (.tbl (N++more)))
  (ns:∀m,s.heap.Ns X.env.locals m->h'.Ns X.env.locals m) (P:NE X.prog X.w H' h') (W:AllBare g') :
  Inv X pins σ H' { s with heap:=h',gens:=g',drawn:=d',toks:=t' }:=by
 have L:∀b o,X.s₀.heap.get? b=some o->b≠X.env.locals:=λb o e=>AV (BH (AH e) I.ok.above);have y:∀b o,X.s₀.heap.get? b=some o->b∉X.ex->b∉ch:=λb o e a D=>by
  rcases(g b D).1 with z | z
  .exact a z
  .exact absurd (BH (AH e) z) (EI _)
 have j:∀x c,X.env.cells.lookup x=some c->∀v,s.heap.IsCell c v->h'.IsCell c v:=λx c e v ⟨o,E,Q⟩=>by
  have t:c∉ch:=λz=>(g c z).2.2.1 x c e rfl;by_cases S:c∈X.fs
  .obtain⟨O,q⟩:=B c o (I.cne x c e) S t E (I.freeC x c e);exact⟨_,q,Q⟩
  .exact⟨o,h c o (I.cne x c e) S t E (I.freeC x c e),Q⟩
 refine⟨I.ok,I.os,W,⟨λb o e n D a=>?_,λb o e n D a=>?_,λb o e n a=>?_,λb o e a=>?_,λb xs e=>G b xs (I.base.tups b xs e),λb o xs e=>J b o xs (I.base.frzs b o xs e),λb N e=>?_⟩,?_,λx c e=>?_,?_,λx c e=>?_,λp T=>?_,P,I.len⟩
 .exact h b o (L b o e) D (y b o e a) (I.base.keep b o e n D a) (I.base.free b o e n a)
 .obtain⟨O,A⟩:=I.base.slot b o e n D a;obtain⟨R,M⟩:=B b _ (L b o e) D (y b o e a) A (I.base.free b o e n a);exact⟨R,M⟩
 .obtain⟨F,A⟩:=I.base.there b o e a;exact f b F (y b o e a) A (I.base.free b o e n a)
 .obtain⟨F,A⟩:=I.base.there b o e a;exact C b F (y b o e a) A
 .obtain⟨Y,A⟩:=I.base.tbls b N e;obtain⟨Z,M⟩:=K b _ A;exact⟨Y++Z,by rw[M,Array.append_assoc]⟩
 .obtain⟨m,hn,hl⟩:=I.loc;refine⟨m,ns m hn,λi x v A M e3=>?_⟩;obtain⟨u,r,l⟩:=hl i x v A M e3;refine⟨u,r,?_⟩;rcases l with l | ⟨k,c,e,z⟩
  .exact .inl l
  .exact .inr ⟨k,c,e,j x c e _ z⟩
 .obtain⟨v,z⟩:=I.cell x c e;exact⟨v,j x c e v z⟩
 .obtain⟨m,⟨o,_,_,E,_⟩,_⟩:=I.loc;exact f _ o (λz=>(g _ z).2.1 rfl) E I.free
 .obtain⟨v,o,E,Q⟩:=I.cell x c e;exact f c o (λz=>(g c z).2.2.1 x c e rfl) E (I.freeC x c e)
 .obtain⟨e,n,U,V,d⟩:=I.pin p T;have t:p.1∉ch:=λz=>(g p.1 z).2.2.2 p T rfl;exact⟨h p.1 p.2 U V t e n,f p.1 p.2 t e n,U,V,d⟩
theorem Inv.un{t':Nat}(I:Inv X pins σ H s)(u:Un X.fs [] H H' s.heap h')(c:NE X.prog X.w H' h'):Inv X pins σ H' { s with heap:=h',toks:=t' }:=by
 obtain⟨m,⟨o,l,p,h,r⟩,_⟩:=id I.loc;obtain⟨q,i⟩:=u.any h I.free (by simp);exact I.step (g':=s.gens) (d':=s.drawn) (ch:=[]) (λ_ z=>nomatch z) (λb o _ d _ e n=>u.keep b o e n d (by simp)) (λb o _ d _ e n=>u.slot b o e n d (by simp)) (λb o _ e n=>u.free b o e n (by simp)) (λb o _ e=>u.there b o e (by simp)) u.tups u.frzs u.tbls (λt j=>by
  obtain⟨v,f,g,a,k⟩:=j;rw[h]at a;cases a;exact⟨_,f,g,i,k⟩) c I.bare
theorem Inv.call{g':CM GenState}{t':Nat}{d':Drawn}{ch:A1 A3}(I:Inv X pins σ H s)(u:Un (RA X.stack) ch H H' s.heap h')(g:NE X.prog X.w H' h')(l:AllBare g')
  (d:∀b∈ch,(b∈X.ex\/X.s₀.heap.objs.size<=b)/\b≠X.env.locals/\(∀x c,X.env.cells.lookup x=some c->c≠b)/\∀p∈X.pn++pins,p.1≠b) :
  Inv X pins σ H' { s with heap:=h',gens:=g',drawn:=d',toks:=t' }:=by
 obtain⟨m,⟨o,y,A,k,r⟩,_⟩:=id I.loc;obtain⟨B,h⟩:=u.any k I.free λz=>(d _ z).2.1 rfl;exact I.step (ch:=ch) d (λb o h q a e n=>u.keep b o e n (λz=>(AK.mp (I.stkSub b z)).elim h q) a) (λb o _ _ a e n=>u.any e n a) (λb o a e n=>u.free b o e n a) (λb o a e=>u.there b o e a) u.tups u.frzs u.tbls (λC t=>by
  obtain⟨D,i,j,f,v⟩:=t;rw[k]at f;cases f;exact⟨_,i,j,h,v⟩) g l
theorem Inv.turned{t':Nat}{a:A3}(I:Inv X pins σ H s)(k:∀b o,b≠a->s.heap.get? b=some o->h'.get? b=some o)(h:H a=none)(g:a≠X.env.locals)
  (h1:a∈X.ex\/X.s₀.heap.objs.size<=a) (h2:∀x c,X.env.cells.lookup x=some c->c≠a) (i:∀p∈X.pn++pins,p.1≠a):Inv X pins σ H { s with heap:=h',toks:=t' }:=by
 have f:∀b u,H b=some u->b≠a:=λb u e z=>by rw[z,h]at e;cases e
 refine I.step (g':=s.gens) (d':=s.drawn) (ch:=[a]) (λb j=>?_) (λb o _ _ d e _=>k b o (λz=>d (by simp[z])) e) (λb o _ _ d e _=>⟨o.slots,k b o (λz=>d (by simp[z])) e⟩) (λ_ _ _ _ n=>n)
  (λb o d e=>⟨o,k b o (λz=>d (by simp[z])) e⟩) (λ_ _ e=>e) (λ_ _ _ e=>e) (λb A e=>⟨#[],by rw[e];simp⟩) (λm l=>?_) (λb u e=>?_) I.bare
 .have e:b=a:=by simpa using j
  subst e;exact⟨h1,g,h2,i⟩
 .obtain⟨o,t,w,y,r⟩:=l;exact⟨o,t,w,k _ o (Ne.symm g) y,r⟩
 .refine(I.hok b u e).stay (λc v d q=>k c v ?_ q) (λ_ q=>q) λ_ _ q=>q;rcases d with z | z
  .rw[z];exact f b u e
  .exact f c _ z
theorem Inv.tok(I:Inv X pins σ H s)(t:Nat):Inv X pins σ H { s with toks:=t }:=I.un (h':=s.heap) (t':=t) Un.refl I.hok
theorem Inv.kept{t':Nat}(I:Inv X pins σ H s)(k:∀b u,s.heap.get? b=some u->h'.get? b=some u):Inv X pins σ H { s with heap:=h',toks:=t' }:=I.un (Un.kept k) (I.hok.kept k)
theorem Inv.laid{a:A3}{o:HO}{t':Nat}(I:Inv X pins σ H s)(k:∀b u,s.heap.get? b=some u->h'.get? b=some u)(c:s.heap.objs.size<=a)(d:JB X.prog X.w (IT H a o) h' a o) :
  Inv X pins σ (IT H a o) { s with heap:=h',toks:=t' }:=I.un (Un.laid k c (I.hok.fresh c)) (I.hok.laid k c d)
theorem Inv.write{x e:A3}{o:HO}{t':Nat}(I:Inv X pins σ H s)(d:VL (H x))(f:e=x\/H e=some (.own x))(k:∀b u,b≠e->s.heap.get? b=some u->h'.get? b=some u)(a:∃u,h'.get? e=some u)
  (c:JB X.prog X.w (IT H x o) h' x o):Inv X pins σ (IT H x o) { s with heap:=h',toks:=t' }:=I.un (Un.write d f k a) (I.hok.write d f k a c)
theorem Inv.pins_of{a:A1 (A3×Obj)}(I:Inv X pins σ H s)(h:∀p∈a,s.heap.get? p.1=some p.2/\H p.1=none/\p.1≠X.env.locals/\p.1∉X.fs/\∀v,p.2.data≠ .cell v):Inv X a σ H s :=
 ⟨I.ok,I.os,I.bare,I.base,I.loc,I.cell,I.free,I.freeC,λp b=>(A_.mp b).elim (λz=>I.pin p (FI _ z)) (h p),I.hok,I.len⟩
theorem Nw{N:A1 Str}(c:N.Nodup){i j:Nat}{x:Str}(a:N[i]?=some x)(b:N[j]?=some x):i=j:=by
 obtain⟨f,d⟩:=AE.mp a;obtain⟨g,e⟩:=AE.mp b;exact(List.getElem_inj c).mp (d.trans e.symm)
theorem Iw{M:Model}{A:IY}{E:A2->A4->Prop}{i:Nat}{x:Str}{v:V}{u:A2}{Q:Unit->A4->Prop}(I:Inv X pins σ H s)(hN:X.N.Nodup)(hi:X.N[i]?=some x)(t:Loc X.env.scope x)(r:RelV v u)
  (h:∀W,Inv X pins (σ.set i (some v)) H W->(∃a,Heap.SameBut a s.heap W.heap/\(a=X.env.locals\/X.env.cells.lookup x=some a))->Q () W) (hf:X.fn x=true\/X.env.scope.names.lookup x=some .local:=by first | exact .inl rfl | exact .inr rfl | assumption):wpAny M A (storeName X.env x u) Q E s:=by
 obtain⟨m,Y,hl⟩:=id I.loc;have K:(X.env.scope.kind == .class||(X.env.scope.kind == .module&&X.env.locals != X.env.globals))=false:=by rw[I.ok.kind];rfl
 have hiσ:i<σ.length:=by rw[I.len];exact(AE.mp hi).1
 have D:=I.cne;have g:∀{a:A3} {h':IU},(∃o,s.heap.get? a=some o/\H a=none)->Heap.SameBut a s.heap h'->NE X.prog X.w H h':=fun{a h'} ha f b ob e=>by
  obtain⟨_,_,B⟩:=ha;refine(I.hok b ob e).stay (λc S hc q=>(f.2 c ?_).trans q) (λ_ q=>q) λ_ _ q=>q;rintro rfl;rcases hc with rfl | hc
  .rw[B]at e;cases e
  .rw[B]at hc;cases hc
 rcases t with hk | hk
 .refine wpAny_storeName_local hk Y (λh' Z f=>?_) K;obtain⟨oL,_,_,hoL,_⟩:=id Y;refine h _ ⟨I.ok,I.os,I.bare,⟨λb o e n F t=>?_,λb o e n F t=>?_,I.base.free,λb o e t=>?_,I.base.tups,I.base.frzs,I.base.tbls⟩,⟨_,Z,λj y v' l C e3=>?_⟩,λy c e=>?_,I.free,I.freeC,λp hp=>?_,g ⟨oL,hoL,I.free⟩ f,by simpa using I.len⟩ ⟨_,f,.inl rfl⟩
  .exact(f.2 b (AV (BH (AH e) I.ok.above))).trans (I.base.keep b o e n F t)
  .obtain⟨sl,l⟩:=I.base.slot b o e n F t;exact⟨sl,(f.2 b (AV (BH (AH e) I.ok.above))).trans l⟩
  .obtain⟨o',l⟩:=I.base.there b o e t;exact⟨o',(f.2 b (AV (BH (AH e) I.ok.above))).trans l⟩
  .by_cases G:j=i
   .subst G;rw[hi]at l;cases l;rw[IC hiσ]at C;cases C;exact⟨u,r,.inl ⟨hk,by simp⟩⟩
   .rw[List.getElem?_set_ne (Ne.symm G)]at C;obtain⟨u',r',q⟩:=hl j y v' l C e3;refine⟨u',r',?_⟩;rcases q with⟨k,e⟩ | ⟨k,c,e,z⟩
    .refine .inl ⟨k,?_⟩;have:y≠x:=λe=>G (Nw hN l (e▸hi));simp[this,e]
    .exact .inr ⟨k,c,e,z.sameBut f (D y c e)⟩
  .obtain⟨S,z⟩:=I.cell y c e;exact⟨S,z.sameBut f (D y c e)⟩
  .obtain⟨e,n,T,nf,d⟩:=I.pin p hp;exact⟨(f.2 p.1 T).trans e,n,T,nf,d⟩
 .have J:X.fn x=true:=by
   rcases hf with z | z
   .exact z
   .rw[z]at hk;cases hk
  obtain⟨c,hc⟩:=I.ok.has x (.inl hk);obtain⟨S,z⟩:=I.cell x c hc;refine wpAny_storeName_cell I.ok.kind hk hc z (λh' L f=>?_);obtain⟨oc,O,P⟩:=id z;refine h { s with heap:=h' } ⟨I.ok,I.os,I.bare,⟨λb o e n F t=>?_,λb o e n F t=>?_,I.base.free,λb o e t=>?_,I.base.tups,I.base.frzs,I.base.tbls⟩,⟨m,Y.sameBut f (Ne.symm (D x c hc)),λj y v' l C e3=>?_⟩,λy U e=>?_,I.free,I.freeC,λp hp=>?_,g ⟨oc,O,I.freeC x c hc⟩ f,by simpa using I.len⟩ ⟨c,f,.inr hc⟩
  .exact(f.2 b (AV (BH (AH e) (I.ok.cab x c J hc)))).trans (I.base.keep b o e n F t)
  .obtain⟨sl,l⟩:=I.base.slot b o e n F t;exact⟨sl,(f.2 b (AV (BH (AH e) (I.ok.cab x c J hc)))).trans l⟩
  .obtain⟨o',l⟩:=I.base.there b o e t;exact⟨o',(f.2 b (AV (BH (AH e) (I.ok.cab x c J hc)))).trans l⟩
  .by_cases G:j=i
   .subst G;rw[hi]at l;cases l;rw[IC hiσ]at C;cases C;exact⟨u,r,.inr ⟨.inl hk,c,hc,L⟩⟩
   .rw[List.getElem?_set_ne (Ne.symm G)]at C;obtain⟨u',r',q⟩:=hl j y v' l C e3;refine⟨u',r',?_⟩;rcases q with q | ⟨k,U,e,z'⟩
    .exact .inl q
    .refine .inr ⟨k,U,e,z'.sameBut f ?_⟩;rintro rfl;exact G (Nw hN l (I.ok.inj _ _ _ e hc▸hi))
  .by_cases R:U=c
   .subst R;exact⟨_,L⟩
   .obtain⟨w2,z2⟩:=I.cell y U e;exact⟨w2,z2.sameBut f R⟩
  .obtain⟨e,n,T,nf,d⟩:=I.pin p hp;refine⟨(f.2 p.1 ?_).trans e,n,T,nf,d⟩;intro q;rw[q,O]at e;have q':oc=p.2:=BJ e;exact d S (by rw[<-q'];exact P)
theorem j0{M:Model}{A:IY}{E:A2->A4->Prop}{i:Nat}{x:Str}{v:V}{u:A2}{Q:Unit->A4->Prop}(I:Inv X pins σ H s)(b:X.N.Nodup)(hi:X.N[i]?=some x)(c:Loc X.env.scope x)(r:RelV v u)
  (h:∀a,Inv X pins (σ.set i (some v)) H a->Q () a) (d:X.fn x=true\/X.env.scope.names.lookup x=some .local:=by first | exact .inl rfl | exact .inr rfl | assumption):wpAny M A (storeName X.env x u) Q E s :=
 Iw I b hi c r (λa e _=>h a e) d
theorem Inv.call'{a:A4}{ch:A1 A3}(I:Inv X pins σ H s)(g:a.os=s.os)(u:Un (RA X.stack) ch H H' s.heap a.heap)(d:NE X.prog X.w H' a.heap)(h:AllBare a.gens)
  (f:∀b∈ch,(b∈X.ex\/X.s₀.heap.objs.size<=b)/\b≠X.env.locals/\(∀x c,X.env.cells.lookup x=some c->c≠b)/\∀p∈X.pn++pins,p.1≠b):Inv X pins σ H' a:=by
 obtain⟨h',g',d',t',i⟩:=a;have e:i=s.os:=g;subst e;exact I.call (g':=g') (t':=t') (d':=d') u d h f
end
abbrev XK:=A2->A5 A3->Hp->Prop
abbrev St:=A1 (A5 V)
abbrev VK:=V->Hp->Prop
abbrev TE:=St->Hp->VK->Prop
abbrev TT:=St->Hp->(Bool->Hp->Prop)->Prop
abbrev TA:=St->Hp->(A1 V->Hp->Prop)->Prop
set_option genInjectivity false in
structure Ends where
 nx:St->Hp->Prop
 rt:VK
 bk:St->Hp->Prop:=λ_ _=>False
 ct:St->Hp->Prop:=λ_ _=>False
abbrev TS:=Ends->St->Hp->Prop
def EP(X:Cx)(a:A1 (A3×Obj))(σ:St)(Q:VK)(u:A2)(c:A4):Prop:=∃v b,Inv X a σ b c/\RelV v u/\Q v b
def TP(X:Cx)(a:A1 (A3×Obj))(σ:St)(Q:Bool->Hp->Prop)(b:Bool)(d:A4):Prop:=∃c,Inv X a σ c d/\Q b c
def AP(X:Cx)(a:A1 (A3×Obj))(σ:St)(Q:A1 V->Hp->Prop)(us:A1 A2)(d:A4):Prop:=∃b c,Inv X a σ c d/\I_ b us/\Q b c
def SP(X:Cx)(a:A1 (A3×Obj))(D:Ends)(f:Flow)(c:A4):Prop :=
 match f with
 | .next=>∃σ' b,Inv X a σ' b c/\D.nx σ' b
 | .brk=>∃σ' b,Inv X a σ' b c/\D.bk σ' b
 | .cont=>∃σ' b,Inv X a σ' b c/\D.ct σ' b
 | .ret u=>∃v σ' b,Inv X a σ' b c/\RelV v u/\D.rt v b
def PE(X:Cx)(e:IW)(t:TE):Prop :=
 ∀(a:A1 (A3×Obj)) (s:A4) (σ:St) (H:Hp) (Q:VK),Inv X a σ H s->t σ H Q->wpAny (model X.prog X.w) X.A (eval e X.env) (EP X a σ Q) X.xe s
def PT(X:Cx)(e:IW)(t:TT):Prop :=
 ∀(a:A1 (A3×Obj)) (s:A4) (σ:St) (H:Hp) (Q:Bool->Hp->Prop),Inv X a σ H s->t σ H Q->wpAny (model X.prog X.w) X.A (isTrue e X.env (eval e X.env)) (TP X a σ Q) X.xe s
def PW(X:Cx)(e:IW)(t:TT):Prop :=
 ∀(b:Sem A2) (a:A1 (A3×Obj)) (s:A4) (σ:St) (H:Hp) (Q:Bool->Hp->Prop),Inv X a σ H s->t σ H Q->wpAny (model X.prog X.w) X.A (isTrue e X.env b) (TP X a σ Q) X.xe s
def PW.pt{X:Cx}{e:IW}{t:TT}(h:PW X e t):PT X e t:=h _
def PA(X:Cx)(c:A1 IW)(t:TA):Prop :=
 ∀(b:Pos) (a:A1 (A3×Obj)) (s:A4) (σ:St) (H:Hp) (Q:A1 V->Hp->Prop),Inv X a σ H s->t σ H Q->wpAny (model X.prog X.w) X.A (spliced (backTo b (starEach c X.env))) (AP X a σ Q) X.xe s
def PS(X:Cx)(st:JD)(t:TS):Prop :=
 ∀(a:A1 (A3×Obj)) (s:A4) (σ:St) (H:Hp) (D:Ends),Inv X a σ H s->t D σ H->wpAny (model X.prog X.w) X.A (exec st X.env) (SP X a D) X.xe s
def RL(X:Cx)(st:A1 JD)(t:TS):Prop :=
 ∀(a:A1 (A3×Obj)) (s:A4) (σ:St) (H:Hp) (D:Ends),Inv X a σ H s->t D σ H->wpAny (model X.prog X.w) X.A (execs st X.env) (SP X a D) X.xe s
def JN{α:Type}{t:Sem α}{Q b:α->A4->Prop}{M:Model}{A:IY}{E:A2->A4->Prop}{s:A4}(h:wpAny M A t Q E s)(c:∀a s,Q a s->b a s):wpAny M A t b E s:=CI h c λ_ _ x=>x
section
variable{X:Cx}
def Sc(i:Nat):TE:=λσ H Q=>∃v,σ[i]?=some (some v)/\Q v H
def tC(v:V):TE:=λ_ H Q=>Q v H
theorem Zl{i:Nat}{x:Str}{pos:Pos}(k:X.N[i]?=some x)(n:VE X.env.scope x)(f:(x ==("__debug__":Str))=false:=by decide)(g:(x ==("__classdict__":Str))=false:=by decide):PE X (.Name x pos) (Sc i):=by
 intro d s σ H Q I h;obtain⟨v,e,h⟩:=h;obtain⟨m,o,p⟩:=I.loc;obtain⟨u,r,l⟩:=p i x v k e n;have b:EP X d σ Q u s:=⟨v,H,I,r,h⟩;rcases l with⟨hk,q⟩ | ⟨hk,c,j,a⟩
 .exact wpAny_Name (wpAny_loadName_local I.ok.kind hk o q b) f
 .rcases hk with hk | hk
  .exact wpAny_Name (wpAny_loadName_cell I.ok.kind hk j a b) f
  .exact wpAny_Name (wpAny_loadName_free I.ok.kind hk j a b g) f
theorem B5{i j pos}:PE X (.Constant (.int i) j pos) (tC (.int i)):=λ_ _ _ H _ I h=>wpAny_Constant_int ⟨.int i,H,I.tok _,⟨_,rfl⟩,h⟩
theorem U2{b j pos}:PE X (.Constant (.bool b) j pos) (tC (.bl b)):=λ_ _ _ H _ I h=>Constant_bool ⟨.bl b,H,I,rfl,h⟩
theorem Ty{j pos}:PE X (.Constant .none j pos) (tC .non):=λ_ _ _ H _ I h=>Constant_none ⟨.non,H,I,rfl,h⟩
theorem Q4{x j pos}:PE X (.Constant (.str x) j pos) (tC (.str x)):=λ_ _ _ H _ I h=>Calls.Constant_str ⟨.str x,H,I.tok _,⟨_,rfl⟩,h⟩
def Gl(X:Cx)(x:Str):Prop:=X.env.kindOf x=some .globalImplicit
theorem Kq{E:A2->A4->Prop}{a:A1 (A3×Obj)}{s:A4}{σ:St}{H:Hp}{x:Str}{u:A2}{pos:Pos}{Q:A2->A4->Prop}(I:Inv X a σ H s)(b:Gl X x)(c:X.mg x=some u)(h:Q u s)
  (d:(x ==("__debug__":Str))=false:=by decide):wpAny (model X.prog X.w) X.A (eval (.Name x pos) X.env) Q E s :=
 Calls.Name_function_global I.ok.kind b (Calls.loadGlobal_global (by rw[I.ok.glob];exact I.mod.glob.keeps I.bk) c h) d
theorem W9{E:A2->A4->Prop}{a:A1 (A3×Obj)}{s:A4}{σ:St}{H:Hp}{x:Str}{u:A2}{pos:Pos}{Q:A2->A4->Prop}(I:Inv X a σ H s)(b:Gl X x)(c:X.mg x=none)(d:bootBuiltins x=some u)(h:Q u s)
  (e:x≠ "__name__":=by decide) (f:(x ==("__debug__":Str))=false:=by decide):wpAny (model X.prog X.w) X.A (eval (.Name x pos) X.env) Q E s:=by
 obtain⟨j,g,i⟩:=I.mod.blt;exact Calls.Name_function_global I.ok.kind b (Calls.loadGlobal_builtin (by rw[I.ok.glob];exact I.mod.glob.keeps I.bk) c (by rw[I.ok.blt];exact g.keeps I.bk) ((i x e).trans d) h) f
theorem Kw{x:Str}{v:V}{u:A2}{pos:Pos}(a:Gl X x)(b:X.mg x=some u)(r:RelV v u)(c:(x ==("__debug__":Str))=false:=by decide):PE X (.Name x pos) (tC v) :=
 λ_ _ _ H _ I h=>Kq I a b ⟨v,H,I,r,h⟩ c
theorem zBu{x:Str}{v:V}{u:A2}{pos:Pos}(a:Gl X x)(b:X.mg x=none)(c:bootBuiltins x=some u)(r:RelV v u)(d:x≠ "__name__":=by decide)(e:(x ==("__debug__":Str))=false:=by decide):PE X (.Name x pos) (tC v) :=
 λ_ _ _ H _ I h=>W9 I a b c ⟨v,H,I,r,h⟩ d e
variable{a b:IW}{ta tb:TE}{pos:Pos}
def PC(X:Cx)(op:CmpOp)(a b:IW)(t:TE):Prop :=
 ∀(c:A1 (A3×Obj)) (s:A4) (σ:St) (H:Hp) (Q:VK),Inv X c σ H s->t σ H Q ->
  wpAny (model X.prog X.w) X.A (eval a X.env) (λv d4=>wpAny (model X.prog X.w) X.A (eval b X.env) (λu f7=>wpAny (model X.prog X.w) X.A (compareOp op v u) (EP X c σ Q) X.xe f7) X.xe d4) X.xe s
def tB(t:TE):TT:=λσ H Q=>t σ H λx a=>∃c,x = .bl c/\Q c a
theorem zGz{op:CmpOp}{t:TE}(h:PC X op a b t)(h1:behindInMarks op b=false:=by first | exact e _ (by decide) (by decide) | rfl):PT X (.Compare a [op] [b] pos) (tB t):=by
 intro f s σ H Q I g;refine wpAny_isTrue_Compare1 (JN (h f s σ H _ I g) λv n h1=>JN h1 λu o i=>JN i λc p ⟨x,j,k,l,m⟩=>?_) h1;obtain⟨d,rfl,q⟩:=m;cases l;exact DB ⟨j,k,q⟩
theorem K7{e:IW}{t:TE}(h:PE X e t)(c:∀a,isTrue e X.env a =(do let v <-a;standAt e.pos;holding [v] (truthy v)):=by intro _;rfl):PT X e (tB t):=by
 intro b s σ H Q I f;refine isTrue_plain (JN (h b s σ H _ I f) λv l ⟨x,g,i,j,k⟩=>?_) (c _);obtain⟨d,rfl,q⟩:=k;cases j;exact DB ⟨g,i,q⟩
variable{tA tB':TT}{rest:A1 IW}
def zKy(t u:TT):TT:=λσ H Q=>t σ H λc a=>if c=true then u σ a Q else Q false a
def tOr(t u:TT):TT:=λσ H Q=>t σ H λc a=>if c=true then Q true a else u σ a Q
def zKf(t:TT):TT:=λσ H Q=>t σ H λc a=>Q (!c) a
theorem Fa(d:PT X a tA):PW X (.BoolOp .And [a] pos) tA:=by
 intro f b s σ H Q I h;refine isTrue_and (JN (d b s σ H Q I h) λc g e=>?_);cases c with
 | true=>exact isTrue_and_nil e
 | false=>exact e
theorem W1(d:PT X a tA):PW X (.BoolOp .Or [a] pos) tA:=by
 intro f b s σ H Q I h;refine isTrue_or (JN (d b s σ H Q I h) λc g e=>?_);cases c with
 | false=>exact isTrue_or_nil e
 | true=>exact e
theorem Gg(i:PT X a tA)(j:PW X (.BoolOp .And (b::rest) pos) tB'):PW X (.BoolOp .And (a::b::rest) pos) (zKy tA tB'):=by
 intro k d s σ H Q I h;refine isTrue_and (JN (i d s σ H _ I h) λc l ⟨e,f,g⟩=>?_);cases c with
 | true=>exact j k d l σ e Q f g
 | false=>exact⟨e,f,g⟩
theorem d0(i:PT X a tA)(j:PW X (.BoolOp .Or (b::rest) pos) tB'):PW X (.BoolOp .Or (a::b::rest) pos) (tOr tA tB'):=by
 intro k d s σ H Q I h;refine isTrue_or (JN (i d s σ H _ I h) λc l ⟨e,f,g⟩=>?_);cases c with
 | true=>exact⟨e,f,g⟩
 | false=>exact j k d l σ e Q f g
theorem Q0(d:PT X a tA):PT X (.UnaryOp .Not a pos) (zKf tA):=by
 intro b s σ H Q I h;exact isTrue_not (d b s σ H (λc e=>Q (!c) e) I h)
def zJf(ta tb:TE):TE:=λσ H Q=>ta σ H λx a=>∃c,x = .bl c/\if c=true then tb σ a Q else Q (.bl false) a
def zIl(ta:TE):TE:=λσ H Q=>ta σ H λx a=>∃c,x = .bl c/\Q (.bl (!c)) a
theorem W3{op}{t:TE}(h:PE X a t):PE X (.BoolOp op [a] pos) t:=λb s σ H Q I c=>BoolOp_one (h b s σ H Q I c)
theorem U3(i:PE X a ta)(j:PE X (.BoolOp .And (b::rest) pos) tb):PE X (.BoolOp .And (a::b::rest) pos) (zJf ta tb):=by
 intro d s σ H Q I h;refine BoolOp_and (JN (i d s σ H _ I h) λv k ⟨x,f,g,l,e⟩=>?_);obtain⟨c,rfl,e⟩:=e;cases l;refine DB ?_;cases c with
 | true=>exact j d k σ f Q g e
 | false=>exact⟨.bl false,f,g,rfl,e⟩
theorem zGo(e:PE X a ta):PE X (.UnaryOp .Not a pos) (zIl ta):=by
 intro b s σ H Q I h;refine UnaryOp_ (JN (e b s σ H _ I h) λv j ⟨x,f,g,i,d⟩=>?_);obtain⟨c,rfl,d⟩:=d;cases i;exact not_of (DB ⟨.bl (!c),f,g,rfl,d⟩)
def tIf(t:TT)(ta tb:TE):TE:=λσ H Q=>t σ H λc a=>if c=true then ta σ a Q else tb σ a Q
theorem Xb{c:IW}(k:PT X c tA)(l:PE X a ta)(m:PE X b tb):PE X (.IfExp c a b pos) (tIf tA ta tb):=by
 intro e s σ H Q I h;refine wpAny_IfExp (JN (k e s σ H _ I h) λd f ⟨g,i,j⟩=>?_);cases d with
 | true=>exact l e f σ g Q i j
 | false=>exact m e f σ g Q i j
end
def IV(K:VN)(H:Hp)(a:A3)(xs:A1 V):Prop :=
 Rd H a (.lst xs) \/
  ∃(o:Obj) (b:CM A2) (n:Nat),K.lookup a=some o/\o.cls = .type "list"/\o.dict=none/\o.data = .seq b n/\b.size<=sizeLine/\I_ xs b.toList
def JL(K:VN)(H:Hp)(a:A3)(xs:A1 V):Prop :=
 Rd H a (.tup xs) \/
  ∃(o:Obj) (b:CM A2) (n:Nat),K.lookup a=some o/\o.cls = .type "tuple"/\o.data = .seq b n/\b.size<=sizeLine/\I_ xs b.toList
def zKw:A2->A5 V
 | .none=>some .non
 | .bool b=>some (.bl b)
 | .int i _=>some (.int i)
 | .str x _=>some (.str x)
 | .bytes b _=>some (.byt b)
 | .float b _=>some (.flt b)
 | .ref a=>some (.ref a)
 | .type n=>some (.ty n)
 | _=>none
def RelV.abs{x:V}{u:A2}(r:RelV x u):zKw u=some x:=by
 cases x with
 | non=>cases r;rfl
 | bl _=>cases r;rfl
 | int _=>obtain⟨t,rfl⟩:=r;rfl
 | str _=>obtain⟨t,rfl⟩:=r;rfl
 | byt _=>obtain⟨t,rfl⟩:=r;rfl
 | flt _=>obtain⟨t,rfl⟩:=r;rfl
 | ref _=>cases r;rfl
 | ty _=>cases r;rfl
def RelV.inj{x y:V}{u:A2}(r:RelV x u)(q:RelV y u):x=y:=BJ (r.abs.symm.trans q.abs)
def I_.inj:∀{xs a:A1 V} {us:A1 A2},I_ xs us->I_ a us->xs=a
 | _,_,_,.nil,.nil=>rfl
 | _,_,_,.cons r t,.cons b c=>by rw[r.inj b,I_.inj t c]
section
variable{X:Cx}{pins:A1 (A3×Obj)}{σ:St}{H:Hp}{s:A4}{a:A3}{xs ys:A1 V}
theorem IV.of{K:VN}(h:H a=some (.lst xs)):IV K H a xs:=.inl (.inl h)
theorem JL.of{K:VN}(h:H a=some (.tup xs)):JL K H a xs:=.inl (.inl h)
theorem Inv.list(I:Inv X pins σ H s)(h:IV X.K H a xs):∃its:A1 A2,I_ xs its/\PlainL s.heap a its.toArray/\xs.length<=sizeLine:=by
 rcases h with h | ⟨o,its,n,b,c,d,f,g,r⟩
 .obtain⟨z,its,n,r,e⟩:=h.ok I.hok;exact⟨its,r,⟨_,n,e,rfl,rfl,rfl⟩,z⟩
 .refine⟨its.toList,r,⟨o,n,I.kIn a o b,c,d,by simpa using f⟩,?_⟩;have e:=r.length;simp only[BF]at e;lia
theorem Inv.tuple(I:Inv X pins σ H s)(h:JL X.K H a xs):∃its:A1 A2,I_ xs its/\IsTup s.heap a its.toArray/\xs.length<=sizeLine:=by
 rcases h with h | ⟨o,its,n,b,c,d,f,r⟩
 .obtain⟨z,its,r,p⟩:=h.ok I.hok;exact⟨its,r,p,z⟩
 .refine⟨its.toList,r,⟨o,I.kIn a o b,c,n,by simpa using d⟩,?_⟩;have e:=r.length;simp only[BF]at e;lia
theorem Inv.list_inj(I:Inv X pins σ H s)(h:IV X.K H a xs)(h':IV X.K H a ys):xs=ys:=by
 obtain⟨c,r,⟨o,n,e,_,_,d⟩,_⟩:=I.list h;obtain⟨b,i,⟨k,l,f,_,_,g⟩,_⟩:=I.list h';rw[e]at f;cases f;rw[d]at g;injection g with j _;have:c=b:=by simpa using congrArg Array.toList j
 subst this;exact r.inj i
theorem Inv.tuple_inj(I:Inv X pins σ H s)(h:JL X.K H a xs)(h':JL X.K H a ys):xs=ys:=by
 obtain⟨c,r,⟨o,e,_,n,d⟩,_⟩:=I.tuple h;obtain⟨b,i,⟨k,f,_,l,g⟩,_⟩:=I.tuple h';rw[e]at f;cases f;rw[d]at g;injection g with j _;have:c=b:=by simpa using congrArg Array.toList j
 subst this;exact r.inj i
end
abbrev Cx.wish(X:Cx)(E:A2->A4->Prop):Cx:={ X with xe:=E }
abbrev Cx.nox(X:Cx):Cx:=X.wish λ_ _=>False
def Cx.Ok.wish{X:Cx}(a:X.Ok)(E:A2->A4->Prop):(X.wish E).Ok :=
 ⟨a.mod,a.kind,a.glob,a.blt,a.above,a.inj,a.has,a.cab,a.hd,a.frames,a.stk,a.exf,a.bs,a.bsz,a.noex,a.exfs,a.funs,a.frf⟩
def Cx.Ok.unwish{X:Cx}{E:A2->A4->Prop}(a:(X.wish E).Ok):X.Ok :=
 ⟨a.mod,a.kind,a.glob,a.blt,a.above,a.inj,a.has,a.cab,a.hd,a.frames,a.stk,a.exf,a.bs,a.bsz,a.noex,a.exfs,a.funs,a.frf⟩
section
variable{X:Cx}{pins:A1 (A3×Obj)}{σ:St}{H:Hp}{s:A4}{E:A2->A4->Prop}
theorem Inv.wish(I:Inv X pins σ H s)(E:A2->A4->Prop):Inv (X.wish E) pins σ H s:=⟨I.ok.wish E,I.os,I.bare,I.base,I.loc,I.cell,I.free,I.freeC,I.pin,I.hok,I.len⟩
theorem Inv.unwish(I:Inv (X.wish E) pins σ H s):Inv X pins σ H s:=⟨I.ok.unwish,I.os,I.bare,I.base,I.loc,I.cell,I.free,I.freeC,I.pin,I.hok,I.len⟩
theorem SP.unwish{D:Ends}{f:Flow}{b:A4}(h:SP (X.wish E) pins D f b):SP X pins D f b:=by
 cases f with
 | next=>obtain⟨σ',a,I,q⟩:=h;exact⟨σ',a,I.unwish,q⟩
 | brk=>obtain⟨σ',a,I,q⟩:=h;exact⟨σ',a,I.unwish,q⟩
 | cont=>obtain⟨σ',a,I,q⟩:=h;exact⟨σ',a,I.unwish,q⟩
 | ret u=>obtain⟨v,σ',a,I,r,q⟩:=h;exact⟨v,σ',a,I.unwish,r,q⟩
theorem RL.nox{st:A1 JD}{t:TS}(h:RL X.nox st t):RL X st t:=λpins s σ H D I a =>
 CI (h pins s σ H D (I.wish _) a) (λ_ _ q=>q.unwish) λ_ _ z=>VO z
end
section
variable{X:Cx}{st:JD}{rest:A1 JD}{t u:TS}{e:IW}{te:TE}{pos:Pos}
def zHr:TS:=λD σ H=>D.nx σ H
def UY(t u:TS):TS:=λD σ H=>t { D with nx:=u D } σ H
theorem C5:RL X [] zHr:=λ_ _ σ H _ I h=>wpAny_execs_nil ⟨σ,H,I,h⟩
theorem B3(h1:PS X st t)(h2:RL X rest u):RL X (st::rest) (UY t u):=by
 intro a s σ H D I h;refine wpAny_execs_cons (JN (h1 a s σ H { D with nx:=u D } I h) λf b q=>?_);cases f with
 | next =>
  obtain⟨σ',c,d,q⟩:=q;exact h2 a b σ' c D d q
 | ret v=>exact q
 | brk=>exact q
 | cont=>exact q
theorem B4(h1:PS X st t):RL X [st] t:=by
 intro a s σ H D I h;refine wpAny_execs_cons (JN (h1 a s σ H D I h) λf b q=>?_);cases f with
 | next=>exact wpAny_execs_nil q
 | ret v=>exact q
 | brk=>exact q
 | cont=>exact q
theorem Inv.quiet{a:A1 (A3×Obj)}{σ:St}{H:Hp}{s:A4}(I:Inv X a σ H s):interactive X.env=false:=by simp[interactive,I.ok.kind]
def zIc(te:TE):TS:=λD σ H=>te σ H λ_ a=>D.nx σ a
theorem K4(b:PE X e te)(c:swapsWith e none pos.line X.env=pure false:=by rfl):PS X (.Expr e pos) (zIc te):=by
 intro a s σ H D I h;exact wpAny_Expr_any (JN (b a s σ H _ I h) λv i ⟨x,d,f,j,g⟩=>⟨σ,d,f,g⟩) I.quiet c
def zHy(te:TE):TS:=λD σ H=>te σ H D.rt
theorem C0(b:PE X e te):PS X (.Return (some e) pos) (zHy te):=by
 intro a s σ H D I h;exact wpAny_Return_some (JN (b a s σ H _ I h) λv i ⟨x,c,d,f,g⟩=>⟨x,σ,c,d,f,g⟩)
def zIh:TS:=λD _ H=>D.rt .non H
theorem Ka:PS X (.Return none pos) zIh:=λ_ _ σ H _ I h=>wpAny_Return_none ⟨.non,σ,H,I,rfl,h⟩
def zKx(c:TT)(t u:TS):TS:=λD σ H=>c σ H λb a=>if b=true then t D σ a else u D σ a
theorem G9{c:IW}{a b:A1 JD}{f:TT}(l:PT X c f)(m:RL X a t)(n:RL X b u):PS X (.If c a b pos) (zKx f t u):=by
 intro e s σ H D I h;refine wpAny_If (JN (l e s σ H _ I h) λd g ⟨i,j,k⟩=>?_);cases d with
 | true=>exact m e g σ i D j k
 | false=>exact n e g σ i D j k
def zFi:TS:=λ_ _ _=>False
theorem Aw:PS X st zFi:=λ_ _ _ _ _ _ h=>h.elim
end
abbrev TG:=V->St->Hp->(St->Hp->Prop)->Prop
abbrev TQ:=A1 V->St->Hp->(St->Hp->Prop)->Prop
def PG(X:Cx)(a:IW)(t:TG):Prop :=
 ∀(b:A1 (A3×Obj)) (s:A4) (σ:St) (H:Hp) (v:V) (u:A2) (Q:St->Hp->Prop),Inv X b σ H s->RelV v u->t v σ H Q ->
  wpAny (model X.prog X.w) X.A (assign a X.env u) (λ_ d=>∃σ' c,Inv X b σ' c d/\Q σ' c) X.xe s
def VI(X:Cx)(ts:A1 IW)(t:TQ):Prop :=
 ∀(a:A1 (A3×Obj)) (s:A4) (σ:St) (H:Hp) (b:A1 V) (c:A1 A2) (Q:St->Hp->Prop),Inv X a σ H s->I_ b c->t b σ H Q ->
  wpAny (model X.prog X.w) X.A (assignInOrder ((assignEach ts X.env).map (·.2)) c) (λ_ e=>∃σ' d,Inv X a σ' d e/\Q σ' d) X.xe s
abbrev N_:=V->V->V->Hp->(Hp->Prop)->Prop
def zJn(X:Cx)(t:N_):Prop :=
 ∀(a:A1 (A3×Obj)) (s:A4) (σ:St) (H:Hp) (o i v:V) (b c u:A2) (Q:Hp->Prop),Inv X a σ H s->RelV o b->RelV i c->RelV v u->t o i v H Q ->
  wpAny (model X.prog X.w) X.A (setItem b c u) (λ_ e=>∃d,Inv X a σ d e/\Q d) X.xe s
abbrev TIp:=V->V->Hp->VK->Prop
def PIp(X:Cx)(op:Operator)(t:TIp):Prop :=
 ∀(a:A1 (A3×Obj)) (s:A4) (σ:St) (H:Hp) (x y:V) (v u:A2) (Q:VK),Inv X a σ H s->RelV x v->RelV y u->t x y H Q ->
  wpAny (model X.prog X.w) X.A (inplaceOp op v u) (EP X a σ Q) X.xe s
section
variable{X:Cx}{pos:Pos}
def V1(i:Nat):TG:=λv σ H Q=>Q (σ.set i (some v)) H
theorem D9{i:Nat}{x:Str}(b:X.N.Nodup)(hi:X.N[i]?=some x)(c:Loc X.env.scope x)(d:X.fn x=true\/X.env.scope.names.lookup x=some .local:=by first | exact .inl rfl | exact .inr rfl | assumption):PG X (.Name x pos) (V1 i):=by
 intro a s σ H v u Q I r h;exact wpAny_assign_Name (j0 I b hi c r (λf e=>⟨_,H,e,h⟩) d)
def zJo:TQ:=λa σ H Q=>a = []/\Q σ H
def zBd(t:TG)(u:TQ):TQ:=λa σ H Q=>∃v r,a=v::r/\t v σ H λσ' b=>u r σ' b Q
theorem M7:VI X [] zJo:=by
 intro a s σ H b c Q I r h;obtain⟨e,h⟩:=h;subst e;cases r;exact assignInOrder_nil ⟨σ,H,I,h⟩
theorem C6{e:IW}{b:A1 IW}{t:TG}{u:TQ}(h1:PG X e t)(h2:VI X b u)
  (c:(assignEach (e::b) X.env).map (·.2)=assign e X.env ::(assignEach b X.env).map (·.2):=by rfl):VI X (e::b) (zBd t u):=by
 intro a s σ H l m Q I r h;obtain⟨v,n,d,h⟩:=h;subst d;cases r with
 | cons r f =>
  rw[c];refine assignInOrder_cons (JN (h1 a s σ H _ _ _ I r h) λ_ g ⟨σ1,i,j,k⟩=>?_);exact h2 a g σ1 i _ _ Q j f k
def zIx(K:VN)(n:Nat)(t:TQ):TG:=λv σ H Q=>∃a b,v = .ref a/\JL K H a b/\b.length=n/\t b σ H Q
theorem zGx{d:A1 IW}{k:Nat}{t:TQ}{n:Nat}(j:X.calm=true)(h:VI X d t)
  (l:(assignEach d X.env).length=n:=by rfl) (f:(assignEach d X.env).findIdx? (·.1)=none:=by rfl):PG X (.Tuple d k pos) (zIx X.K n t):=by
 intro c s σ H v u Q I r g;obtain⟨a,m,p,q,w,g⟩:=g;subst p;cases r;obtain⟨x,i,y,C⟩:=I.tuple q;refine assign_Tuple_tuple (I.ok.hd j) y (by simp[l,<-w,i.length]) f λz A=>?_;have B:Inv X c σ H { s with heap:=z }:=I.kept (t':=s.toks) λb o e=>A b o (AV (AH e)) e;exact h c _ σ H m _ Q B (by simpa using i) g
def zKs(a b:TE)(t:N_):TG:=λv σ H Q=>a σ H λo c=>b σ c λi d=>t o i v d λe=>Q σ e
theorem On{o i:IW}{d e:TE}{t:N_}(f:PE X o d)(hi:PE X i e)(g:zJn X t)
  (j:∀v,assign (.Subscript o i pos) X.env v =(do
   let b <-holding [v] (eval o X.env)
   let c <-holding [v,b] (eval i X.env)
   standAt pos
   holding [v,b,c] (setItem b c v)
   release [v,b,c] []):=by intro _;rfl):PG X (.Subscript o i pos) (zKs d e t):=by
 intro a s σ H v u Q I r h;rw[j];refine AA (BS (JN (f a s σ H _ I h) λb k ⟨x,l,m,n,p⟩=>?_));refine AA (BS (JN (hi a k σ l _ m p) λc q ⟨y,w,z,A,B⟩=>?_));refine AA (G_ (AA (BS (JN (g a q σ w x y v b c u _ z n A r B) λ_ F ⟨C,D,E⟩=>?_))));exact wpAny_release ⟨σ,C,D,E⟩
def zHg(a:TE)(g:TG):TS:=λD σ H=>a σ H λx b=>g x σ b D.nx
theorem Y9{tg e:IW}{b:TE}{g:TG}(c:PE X e b)(d:PG X tg g)(f:swapsWithSole [tg] e pos.line X.env=pure false:=by rfl)(hw:swappedStores [tg] e X.env=pure none:=by rfl)
  (h1:(assignEach [tg] X.env).map (·.2) = [assign tg X.env]:=by rfl):PS X (.Assign [tg] e pos) (zHg b g):=by
 intro a s σ H D I h;refine wpAny_Assign_stores (JN (c a s σ H _ I h) λv i ⟨x,j,k,l,m⟩=>?_) f hw;rw[h1];exact JN (d a i σ j x v _ k l m) λ_ n q=>q
theorem D6{i:Nat}{x:Str}{e:IW}{c:TE}{a:Pos}(d:X.N.Nodup)(hi:X.N[i]?=some x)(f:Loc X.env.scope x)(g:PE X e c)(j:swapsWith e (some (.Name x a)) pos.line X.env=pure false:=by rfl)(k:X.fn x=true\/X.env.scope.names.lookup x=some .local:=by first | exact .inl rfl | exact .inr rfl | assumption) :
  PS X (.Assign [.Name x a] e pos) (zHg c (V1 i)):=by
 intro b s σ H D I h;refine wpAny_Assign_Name (JN (g b s σ H _ I h) λv q ⟨y,l,m,n,o⟩=>?_) j;exact j0 m d hi f n (λr p=>⟨_,l,p,o⟩) k
def zLf(i j:Nat)(a:TA):TS:=λD σ H=>a σ H λb c=>∃v w,b = [v,w]/\D.nx ((σ.set i (some v)).set j (some w)) c
theorem Yt{i j:Nat}{x y:Str}{a b:IW}{C:TA}{k l m:Pos}{n r d}(L:X.calm=true)(E:X.N.Nodup)(hi:X.N[i]?=some x)(M:X.N[j]?=some y)(t:i≠j)
  (F:X.env.scope.names.lookup x=some .local) (G:X.env.scope.names.lookup y=some .local) (O:PA X [a,b] C)
  (hw:swappedStores [.Tuple [.Name x k,.Name y l] n m] (.Tuple [a,b] r d) X.env=pure (some [x,y]))
  (P:swapsWithSole [.Tuple [.Name x k,.Name y l] n m] (.Tuple [a,b] r d) pos.line X.env=pure false:=by rfl) :
  PS X (.Assign [.Tuple [.Name x k,.Name y l] n m] (.Tuple [a,b] r d) pos) (zLf i j C):=by
 intro c s σ H D I h;rw[exec_Assign_arm];refine AA (G_ ?_);rw[P];refine AA (AF ?_);rw[AN (by decide)];refine AA (Tuple_ (JN (O _ c s σ H _ I h) λQ s1 ⟨vs,J,R,S,u⟩=>?_));obtain⟨v,w,T,u⟩:=u;subst T;obtain⟨f,g,rfl,U,z⟩:∃f g,Q = [f,g]/\RelV v f/\RelV w g:=by
  cases S with
  | cons p q =>
   cases q with
   | cons V W =>
    cases W;exact⟨_,_,rfl,p,V⟩
 refine EV ?_ (by show 2<=sizeLine;decide);have Y:Inv X c σ J { s1 with heap:=s1.heap.push { cls:=.type "tuple",data:=.seq [f,g].toArray } }:=R.kept (t':=s1.toks) λb o e=>AD _ e;rw[hw];refine AA (AF ?_);show wpAny (model X.prog X.w) X.A (do rule "assign.swapped-stores";let items <-unpackItems (.ref s1.heap.objs.size) 2 none;assignInOrder [λv=>bindName X.env y v,λv=>bindName X.env x v] items.reverse;pure Flow.next) _ _ _;refine AA (EL (AA (unpackItems_tuple (items:=#[f,g]) (I.ok.hd L) (IsTup.new s1.heap _) λh' B=>?_)));have Z:=Y.kept (h':=h') (t':=s1.toks) λb o e=>B b o (AV (AH e)) e;show wpAny _ _ (assignInOrder [λv=>bindName X.env y v,λv=>bindName X.env x v] [g,f] >>= λ_=>pure Flow.next) _ _ _;refine AA (assignInOrder_cons (wpAny_bindName (j0 Z E M (.inl G) z (λs2 I4=>?_) (.inr G))));refine assignInOrder_cons (wpAny_bindName (j0 I4 E hi (.inl F) U (λs3 K=>assignInOrder_nil (AF ?_)) (.inr F)));rw[List.set_comm _ _ (Ne.symm t)]at K;exact⟨_,J,K,u⟩
def zKg(i:Nat)(a:TE)(b:TIp):TS:=λD σ H=>∃x,σ[i]?=some (some x)/\a σ H λy c=>b x y c λz d=>D.nx (σ.set i (some z)) d
theorem zFd{i:Nat}{x:Str}{e:IW}{j:TE}{op:Operator}{n:TIp}{d:Pos}(o:X.N.Nodup)(hi:X.N[i]?=some x)(f:Loc X.env.scope x)(p:PE X e j)(q:PIp X op n)(t:X.fn x=true\/X.env.scope.names.lookup x=some .local:=by first | exact .inl rfl | exact .inr rfl | assumption) :
  PS X (.AugAssign (.Name x d) op e pos) (zKg i j n):=by
 intro a s σ H D I h;obtain⟨v,B,h⟩:=h;obtain⟨m,C,E⟩:=I.loc;have g:VE X.env.scope x:=by rcases f with k | k;exact .inl k;exact .inr (.inl k)
 obtain⟨u,r,l⟩:=E i x v hi B g;refine wpAny_AugAssign_Name ?_;have go:wpAny (model X.prog X.w) X.A (eval e X.env) (λw f7=>wpAny (model X.prog X.w) X.A (inplaceOp op u w) (λr s₃=>wpAny (model X.prog X.w) X.A (storeName X.env x r) (λ_=>SP X a D .next) X.xe s₃) X.xe f7) X.xe s:=by
  refine JN (p a s σ H _ I h) λw F ⟨y,G,J,K,L⟩=>?_;refine JN (q a F σ G v y u w _ J r K L) λz U ⟨V,M,O,P,Q⟩=>?_;exact j0 O o hi f P (λW R=>⟨_,M,R,Q⟩) t
 rcases l with⟨hk,S⟩ | ⟨hk,c,T,b⟩
 .exact wpAny_loadName_local I.ok.kind hk C S go
 .rcases hk with hk | hk
  .exact wpAny_loadName_cell I.ok.kind hk T b go
  .rcases f with k | k
   .have:X.env.scope.names.lookup x=some .free:=hk;rw[k]at this;cases this
   .have:X.env.scope.names.lookup x=some .free:=hk;rw[k]at this;cases this
def ipI(f:Int->Int->Int):TIp:=λx y H Q=>∃i j,x = .int i/\y = .int j/\Q (.int (f i j)) H
def zEj(c:TT)(f:TS):TS:=λD σ H=>∃W:Nat->St->Hp->Prop,(∃m,W m σ H)/\∀m σ H,W m σ H ->
 c σ H λb a=>if b=true then ∃N:St->Hp->Prop,(∀σ' d,N σ' d->∃e,e < m/\W e σ' d)/\f { D with nx:=N,ct:=N,bk:=D.nx } σ a else D.nx σ a
theorem Od{c:IW}{d:A1 JD}{q:TT}{r:TS}(t:PassesOwn (model X.prog X.w) X.A X.env X.xe)(C:PT X c q)(E:RL X d r):PS X (.While c d [] pos) (zEj q r):=by
 intro a s σ H D I h;obtain⟨W,⟨F,G⟩,e⟩:=h;refine wpAny_While (codeAny_whileLoop (λn J=>∃σ' u,Inv X a σ' u J/\W n σ' u) ?_ F ⟨σ,H,I,G⟩);rintro n K ⟨σ1,x,L,M⟩;refine FY t (JN (C a K σ1 x _ L (e n σ1 x M)) λb O ⟨y,z,i⟩=>?_);cases b with
 | true =>
  obtain⟨N,B,i⟩:=i;rw[AQ rfl];refine FY t (JN (E a O σ1 y _ z i) λf P j=>?_);cases f with
  | next =>
   obtain⟨σ3,g,k,l⟩:=j;obtain⟨m,o,p⟩:=B σ3 g l;exact⟨m,o,σ3,g,k,p⟩
  | cont =>
   obtain⟨σ3,g,k,l⟩:=j;obtain⟨m,o,p⟩:=B σ3 g l;exact⟨m,o,σ3,g,k,p⟩
  | brk=>exact j
  | ret v=>exact j
 | false =>
  rw[AN BD];exact wpAny_execs_nil ⟨σ1,y,z,i⟩
end
set_option genInjectivity false in
structure It where
 go:Nat->Hp->Prop
 yld:Nat->Hp->V->Hp->Prop
 stop:Nat->Hp->Prop
def Ds(X:Cx)(a:A1 (A3×Obj))(H:Hp)(b:A3):Prop :=
 H b=none/\b≠X.env.locals/\b∉X.fs/\(b∈X.ex\/X.s₀.heap.objs.size<=b)/\(∀x c,X.env.cells.lookup x=some c->c≠b)/\∀p∈X.pn++a,p.1≠b
def Inv.fpOk{X:Cx}{a:A1 (A3×Obj)}{σ:St}{H H':Hp}{s:A4}{b:A3}(I:Inv X a σ H s)(d:s.heap.objs.size<=b)(f:H' b=none):Ds X a H' b:=by
 refine⟨f,Nat.ne_of_gt (BH I.lt d),I.nofs d,.inr (VR I.sz d),λx c e z=>?_,λp g z=>?_⟩
 .obtain⟨v,q⟩:=I.cell x c e;exact absurd (BH q.lt (by rw[z];exact d)) (EI _)
 .exact absurd (BH (AH (I.pin p g).1) (by rw[z];exact d)) (EI _)
structure MV(P:A7)(w:F8)(K:VN)(tg:IW)(J:It)(fp:A1 A3)(it:A3)(tn:Nat->IU->Prop):Prop where
 mem:it∈fp
 obj:∀i h,tn i h->∀b∈fp,∃o,h.get? b=some o/\∀v,o.data≠ .cell v
 keep:∀i h h',tn i h->(∀b∈fp,∀o,h.get? b=some o->h'.get? b=some o)->tn i h'
 item:∀(X:Cx),X.prog=P->X.w=w->X.K=K->X.calm=true->∀(i:Nat) (pins:A1 (A3×Obj)) (s:A4) (σ:St) (H:Hp) (E:A2->A4->Prop),Inv X pins σ H s->(∀b∈fp,Ds X pins H b)->tn i s.heap->J.go i H ->
  wpAny (model P w) X.A (pyNext (.ref it)) (λr s1=>∃u,r=some u /\
   wpAny (model P w) X.A (letOwnedTupleGo tg (.ref it) u) (λ_ s2=>∃x H',Inv X pins σ H' s2/\RelV x u/\J.yld i H x H'/\tn (i+1) s2.heap/\∀b∈fp,H' b=none) E s1) E s
 done:∀(X:Cx),X.prog=P->X.w=w->X.K=K->X.calm=true->∀(i:Nat) (pins:A1 (A3×Obj)) (s:A4) (σ:St) (H:Hp) (E:A2->A4->Prop),Inv X pins σ H s->(∀b∈fp,Ds X pins H b)->tn i s.heap->J.stop i H ->
  wpAny (model P w) X.A (pyNext (.ref it)) (λr s1=>r=none/\Inv X pins σ H s1) E s
 self:∀(A:IY) (i:Nat) (s:A4) (Q:A2->A4->Prop) (E:A2->A4->Prop),tn i s.heap->Q (.ref it) s->wpAny (model P w) A (pyIter (.ref it)) Q E s
abbrev TI:=St->Hp->(It->Hp->Prop)->Prop
def PIE(X:Cx)(a:A1 (A3×Obj))(σ:St)(tg:IW)(R:It->Hp->Prop)(c:A2)(e:A4):Prop :=
 ∃(f:A3) (g:A1 A3) (h:Nat->IU->Prop) (J:It) (d:Hp),c = .ref f/\Inv X a σ d e/\MV X.prog X.w X.K tg J g f h/\h 0 e.heap/\(∀b∈g,Ds X a d b)/\R J d
def PI(X:Cx)(tg iter:IW)(b:TI):Prop :=
 ∀(a:A1 (A3×Obj)) (s:A4) (σ:St) (H:Hp) (R:It->Hp->Prop),Inv X a σ H s->b σ H R ->
  wpAny (model X.prog X.w) X.A (eval iter X.env) (λv c=>wpAny (model X.prog X.w) X.A (pyIter v) (PIE X a σ tg R) X.xe c) X.xe s
def Qk{M:Model}{A:IY}{E:A2->A4->Prop}{s:A4}{tg:IW}{b:A3}{u:A2}{o:Obj}{n:String}{vs:CM A2}{Q:Unit->A4->Prop}(c:s.heap.get? b=some o)(d:o.cls = .type n)(e:o.data = .fields vs)
    (f:["enumerate","zip","dict_itemiterator","dict_reverseitemiterator","odict_iterator","itertools.zip_longest","itertools.pairwise"].contains n=false) (a:Q () s):wpAny M A (letOwnedTupleGo tg (.ref b) u) Q E s:=by
  unfold letOwnedTupleGo;cases tg<;>first
    | exact AF a
    | (cases u<;>first
        | exact AF a
        | (refine AA (wpAny_load c ?_)
           rw[d,e];show wpAny M A (if(["enumerate","zip","dict_itemiterator","dict_reverseitemiterator","odict_iterator","itertools.zip_longest","itertools.pairwise"].contains n&&vs[0]? == some (rawInt _))=true then _ else _) Q E s;rw[AN (by intro h;rw[f,EW]at h;cases h)];exact AF a))
def UU(K:VN)(a:A3):It :=
 ⟨λi H=>∃b x,IV K H a b/\b[i]?=some x,λi H x c=>c=H/\∀b,IV K H a b->b[i]?=some x,λi H=>∃b,IV K H a b/\b.length<=i⟩
def Itt(K:VN)(a:A3):It :=
 ⟨λi H=>∃b x,JL K H a b/\b[i]?=some x,λi H x c=>c=H/\∀b,JL K H a b->b[i]?=some x,λi H=>∃b,JL K H a b/\b.length<=i⟩
def TH(lo:Int)(n:Nat):It:=⟨λi _=>i<n,λi H x a=>a=H/\x = .int (lo+i),λi _=>n<=i⟩
def Hz{P:A7}{w:F8}{K:VN}{tg:IW}(a g:A3):MV P w K tg (UU K a) [g] g (λi h=>h.IsListIter g a i) where
 mem:=by simp
 obj:=λi h st b j=>by
  have e:b=g:=by simpa using j
  subst e;obtain⟨o,e,c,d⟩:=st;exact⟨o,e,λv z=>by rw[d]at z;cases z⟩
 keep:=λi h m st k=>st.at λo e=>k g (by simp) o e
 item:=by
  intro X r t y N i f s σ H E I n st A;subst r t y;obtain⟨O,x,q,B⟩:=A;obtain⟨C,D,p,Q⟩:=I.list q;obtain⟨u,R,S⟩:=D.get B;obtain⟨F,G,T,J,L,M⟩:=n g (by simp);refine wpAny_pyNext_list_item st p.isList (x:=u) (by simpa using R) λm l U=>?_;have V:Inv X f σ H { s with heap:=m }:=I.turned (t':=s.toks) (λb o j e=>(U.2 b j).trans e) F G J L M;obtain⟨o,e,c,d⟩:=id l;exact⟨u,rfl,Qk (s:={ s with heap:=m }) e c d (by decide) ⟨x,H,V,S,⟨rfl,λys Y=>by rw[I.list_inj Y q];exact B⟩,l,λb j=>(n b j).1⟩⟩
 done:=by
  intro X r t y N i f s σ H E I n st A;subst r t y;obtain⟨O,q,B⟩:=A;obtain⟨C,D,p,Q⟩:=I.list q;obtain⟨F,G,T,J,L,M⟩:=n g (by simp);have hl:=D.length;exact wpAny_pyNext_list_end (I.ok.hd N) st p.isList (by simp;lia) λm Z=>⟨rfl,I.turned (t':=s.toks) (λb o j e=>Z b o j e) F G J L M⟩
 self:=λ_ _ _ _ _ st h=>wpAny_pyIter_listiter st h
def Pi{P:A7}{w:F8}{K:VN}{tg:IW}(a g:A3):MV P w K tg (Itt K a) [g] g (λi h=>h.IsTupleIter g a i) where
 mem:=by simp
 obj:=λi h st b j=>by
  have e:b=g:=by simpa using j
  subst e;obtain⟨o,e,c,d⟩:=st;exact⟨o,e,λv z=>by rw[d]at z;cases z⟩
 keep:=λi h n st k=>st.at λo e=>k g (by simp) o e
 item:=by
  intro X t y A N i f s σ H E I q st B;subst t y A;obtain⟨O,x,r,C⟩:=B;obtain⟨l,D,p,Q⟩:=I.tuple r;obtain⟨u,R,S⟩:=D.get C;obtain⟨F,G,T,J,L,M⟩:=q g (by simp);refine wpAny_pyNext_tuple_item st (show s.heap.IsTuple a l.toArray from p) (x:=u) (by simpa using R) λn m U=>?_;have V:Inv X f σ H { s with heap:=n }:=I.turned (t':=s.toks) (λb o j e=>(U.2 b j).trans e) F G J L M;obtain⟨o,e,c,d⟩:=id m;exact⟨u,rfl,Qk (s:={ s with heap:=n }) e c d (by decide) ⟨x,H,V,S,⟨rfl,λys Y=>by rw[I.tuple_inj Y r];exact C⟩,m,λb j=>(q b j).1⟩⟩
 done:=by
  intro X t y A N i f s σ H E I q st B;subst t y A;obtain⟨O,r,C⟩:=B;obtain⟨l,D,p,Q⟩:=I.tuple r;obtain⟨F,G,T,J,L,M⟩:=q g (by simp);have hl:=D.length;exact wpAny_pyNext_tuple_end (I.ok.hd N) st (show s.heap.IsTuple a l.toArray from p) (by simp;lia) λn Z=>⟨rfl,I.turned (t':=s.toks) (λb o j e=>Z b o j e) F G J L M⟩
 self:=λ_ _ _ _ _ st h=>wpAny_pyIter_tupleiter st h
def Ps{P:A7}{w:F8}{K:VN}{tg:IW}(a:A3)(lo:Int)(n:Nat):MV P w K tg (TH lo n) [a] a (λi h=>IsRangeIter h a (lo +(i:Nat)*1) ((n:Int)-(i:Nat)) 1) where
 mem:=by simp
 obj:=λi h st b d=>by
  have e:b=a:=by simpa using d
  subst e;exact⟨_,st,λv z=>by
   have D:Data.fields _=Data.cell v:=z;cases D⟩
 keep:=λi h g st k=>k a (by simp) _ st
 item:=by
  intro X l m p q i c s σ H E I j st r;subst l m p;obtain⟨u,x,F,y,A,B⟩:=j a (by simp);have W:=Walks.range (prog:=X.prog) (w:=X.w) (I.ok.hd q) a lo 1 n;refine W.item i s _ _ r st λv g C G f kk=>?_;obtain⟨t,rfl⟩:=G;have J:Inv X c σ H { s with heap:=g,toks:=C }:=I.turned (λb o d e=>kk b o (by simpa using d) e) u x y A B;refine⟨_,rfl,Qk (s:={ s with heap:=g,toks:=C }) (n := "range_iterator") f rfl rfl (by decide) ⟨.int (lo+i),H,J,⟨t,?_⟩,⟨rfl,rfl⟩,f,λb d=>(j b d).1⟩⟩;rw[Int.mul_one]
 done:=by
  intro X l m p q i c s σ H E I j st r;subst l m p;obtain⟨u,x,F,y,A,B⟩:=j a (by simp);exact wpAny_pyNext_range_end (I.ok.hd q) st (by have:n<=i:=r;lia) λg L=>⟨rfl,I.turned (t':=s.toks) (λb o d e=>L b o d e) u x y A B⟩
 self:=λ_ _ _ _ _ st h=>wpAny_pyIter_rangeiter st h
section
variable{X:Cx}{tg:IW}
def zFc(K:VN)(c:TE):TI:=λσ H R=>c σ H λx b=>∃a,x = .ref a/\(∃d,IV K b a d)/\R (UU K a) b
theorem zCl{l:IW}{g:TE}(i:PE X l g):PI X tg l (zFc X.K g):=by
 intro c s σ H R I h;refine JN (i c s σ H _ I h) λv d ⟨x,j,f,k,m⟩=>?_;obtain⟨a,e,⟨u,n⟩,q⟩:=m;subst e;cases k;obtain⟨r,w,p,y⟩:=f.list n;refine GF p.isList ?_;refine⟨d.heap.objs.size,[d.heap.objs.size],_,_,j,rfl,f.kept (t':=d.toks) λb o e=>AD _ e,Hz a _,⟨_,AO _ rfl,rfl,rfl⟩,λb t=>?_,q⟩;have e:b=d.heap.objs.size:=by simpa using t
 subst e;exact f.fpOk (VQ _) (f.hok.fresh (VQ _))
theorem Wu{a:A1 (A3×Obj)}{σ:St}{H:Hp}{s:A4}{R:It->Hp->Prop}{E:A2->A4->Prop}{lo hi:Int}{t u v:Tok}{c:Nat}(I:Inv X a σ H s)(h1:-(2^62)<=lo)(h2:lo<2^62)(f:-(2^62)<=hi)(g:hi<2^62)
  (q:R (TH lo (hi-lo).toNat) H):wpAny (model X.prog X.w) X.A (pyIter (.ref s.heap.objs.size)) (PIE X a σ tg R) E { s with heap:=s.heap.push { cls:=.type "range",data:=.fields #[.int lo t,.int hi u,.int 1 v] },toks:=c }:=by
 refine wpAny_pyIter_range (IsRange.new ..) (small_one h1 h2 f g) ?_;have d:Inv X a σ H { s with heap:=s.heap.push { cls:=.type "range",data:=.fields #[.int lo t,.int hi u,.int 1 v] },toks:=c }:=I.kept λb o e=>AD _ e;refine⟨(s.heap.push { cls:=.type "range",data:=.fields #[.int lo t,.int hi u,.int 1 v] }).objs.size,[(s.heap.push { cls:=.type "range",data:=.fields #[.int lo t,.int hi u,.int 1 v] }).objs.size],_,_,H,rfl,
  d.kept (t':=c) λb o e=>AD _ e,Ps _ lo (hi-lo).toNat,?_,λb h=>?_,q⟩
 .have i:lo +((0:Nat):Int)*1=lo:=by simp
  have j:(((hi-lo).toNat:Nat):Int)-((0:Nat):Int)=Builtin.Range.rangeSize lo hi 1:=by rw[rangeSize_one];split<;>lia
  show IsRangeIter _ _ (lo +((0:Nat):Int)*1) ((((hi-lo).toNat:Nat):Int)-((0:Nat):Int)) 1;rw[i,j];exact AO _ rfl
 .have e:b =(s.heap.push { cls:=.type "range",data:=.fields #[.int lo t,.int hi u,.int 1 v] }).objs.size:=by simpa using h
  subst e;exact d.fpOk (VQ _) (d.hok.fresh (VQ _))
def zGt(a:TA):TI:=λσ H R=>a σ H λb c=>∃j:Int,b = [.int j]/\-(2^62)<=j/\j<2^62/\R (TH 0 j.toNat) c
theorem Tt{a:IW}{d:TA}{p pos:Pos}(f:Gl X "range")(g:X.mg "range" = none)(i:PA X [a] d)(k:starEach [a] X.env = [(false,eval a X.env)]:=by rfl):PI X tg (.Call (.Name "range" p) [a] [] pos) (zGt d):=by
 intro b s σ H R I h;refine Call_ (W9 I f g boot_range (WC (JN (i pos b s σ H _ I h) λu v ⟨w,x,l,m,c⟩=>?_) k rfl));obtain⟨j,e,c,n,q⟩:=c;subst e;cases m with
 | cons r o =>
  cases o;obtain⟨t,rfl⟩:=r;exact call_range_1 (Wu l (by lia) (by lia) c n (by simpa using q))
def zKp(c:TI)(g:TG)(d:TS):TS:=λD σ H=>c σ H λJ e=>∃W:Nat->Nat->St->Hp->Prop,(∃m,W 0 m σ e)/\∀i m σ H,W i m σ H ->
 (J.stop i H/\D.nx σ H)\/(J.go i H/\∃N:St->Hp->Prop,(∀σ' a,N σ' a->∃b,b < m/\W (i+1) b σ' a)/\∀x a,J.yld i H x a->g x σ a λσ2 f=>d { D with nx:=N,ct:=N,bk:=D.nx } σ2 f)
def Ia(fp:A1 A3)(h:IU):A1 (A3×Obj):=fp.filterMap λb=>(h.get? b).map λo=>(b,o)
theorem Y2{fp:A1 A3}{h:IU}{b:A3}{o:Obj}(a:b∈fp)(e:h.get? b=some o):(b,o)∈Ia fp h:=List.mem_filterMap.mpr ⟨b,a,by rw[e];rfl⟩
theorem Va{fp:A1 A3}{h:IU}{p:A3×Obj}(a:p∈Ia fp h):p.1∈fp/\h.get? p.1=some p.2:=by
 obtain⟨b,c,e⟩:=List.mem_filterMap.mp a;cases q:h.get? b with
 | none=>rw[q]at e;cases e
 | some o =>
  rw[q]at e;have d:(b,o)=p:=BJ e;subst d;exact⟨c,q⟩
theorem Inv.pinned{a:A1 (A3×Obj)}{σ:St}{H:Hp}{s:A4}{fp:A1 A3}(I:Inv X a σ H s)(g:∀b∈fp,Ds X a H b)(h:∀b∈fp,∃o,s.heap.get? b=some o/\∀v,o.data≠ .cell v):Inv X (a++Ia fp s.heap) σ H s :=
 I.pins_of λp i=>(A_.mp i).elim (λz=>I.pin p (BO _ z)) λz=>by
  obtain⟨c,e⟩:=Va z;obtain⟨j,k,l,_⟩:=g p.1 c;obtain⟨o,f,d⟩:=h p.1 c;rw[e]at f;cases f;exact⟨e,j,k,l,d⟩
theorem Inv.unpinned{a pl:A1 (A3×Obj)}{σ:St}{H:Hp}{s:A4}(I:Inv X (a++pl) σ H s):Inv X a σ H s:=I.pins_of λp b=>I.pin p (BO _ (FI _ b))
theorem Q5{iter:IW}{q:A1 JD}{R:TI}{g:TG}{S:TS}{pos:Pos}(z:PassesOwn (model X.prog X.w) X.A X.env X.xe)(U:X.calm=true)(hi:PI X tg iter R)(hg:PG X tg g)(c:RL X q S)
  (hs:∀x,foldedSetIterable iter X.env x=pure x:=by intro _;rfl):PS X (.For tg iter q [] pos) (zKp R g S):=by
 intro a s σ H D I h;refine wpAny_For (JN (hi a s σ H _ I h) λv s1 h1=>JN h1 λitv s2 h2=>?_) hs;obtain⟨it,B,V,J,H2,e,I2,T,L,Y,W,⟨m0,w0⟩,C⟩:=h2;subst e;have j:∀{p:Hp},(∀b∈B,p b=none)->∀b∈B,Ds X a p b:=λhn b c=>⟨hn b c,(Y b c).2⟩;refine codeAny_forLoop_any (λn Z=>∃i σ' p,Inv X a σ' p Z/\V i Z.heap/\(∀b∈B,p b=none)/\W i n σ' p) ?_ m0 ⟨0,σ,H2,I2,L,λb c=>(Y b c).1,w0⟩;rintro n s3 ⟨i,σ3,K,I3,E,F,w3⟩;rcases C i n σ3 K w3 with⟨stop,qn⟩ | ⟨go,N,hN,step⟩
 .refine FY z (JN (T.done X rfl rfl rfl U i a s3 σ3 K X.xe I3 (j F) E stop) λr s4 ⟨M,I4⟩=>?_);subst M;exact wpAny_execs_nil ⟨σ3,K,I4,qn⟩
 .refine FY z (JN (T.item X rfl rfl rfl U i a s3 σ3 K X.xe I3 (j F) E go) λr s4 ⟨u,M,h4⟩=>?_);subst M;refine FY z (JN h4 λ_ s5 ⟨x,H5,I5,r5,y5,y,O⟩=>?_);have P:=I5.pinned (j O) (T.obj _ _ y);refine FY z (JN (hg _ s5 σ3 H5 x u _ P r5 (step x H5 y5)) λ_ s6 ⟨σ6,H6,I6,q6⟩=>?_);refine FY z (JN (c _ s6 σ6 H6 _ I6 q6) λf Q t=>?_);have again:∀{σ7:St} {k:Hp},Inv X (a++Ia B s5.heap) σ7 k Q->N σ7 k->∃m,m<n/\∃i σ' p,Inv X a σ' p Q/\V i Q.heap/\(∀b∈B,p b=none)/\W i m σ' p:=fun{σ7 k} l G=>by
   obtain⟨m',hm,w7⟩:=hN σ7 k G;refine⟨m',hm,i+1,σ7,k,l.unpinned,T.keep _ _ _ y λb c o e=>(l.pin (b,o) (BO _ (BO _ (Y2 c e)))).1,λb c=>?_,w7⟩;obtain⟨o,e,d⟩:=T.obj _ _ y b c;exact(l.pin (b,o) (BO _ (BO _ (Y2 c e)))).2.1
  cases f with
  | next=>obtain⟨σ7,k,l,G⟩:=t;exact again l G
  | cont=>obtain⟨σ7,k,l,G⟩:=t;exact again l G
  | brk=>obtain⟨σ7,k,l,t⟩:=t;exact⟨σ7,k,l.unpinned,t⟩
  | ret v=>obtain⟨x7,σ7,k,l,r7,t⟩:=t;exact⟨x7,σ7,k,l.unpinned,r7,t⟩
end
def Sj{lo:Int}{n:Nat}{g:TG}{c:TS}{D:Ends}{σ:St}{H:Hp}(Pv:Nat->St->Hp->Prop)(f:Pv 0 σ H)
  (h:∀i σ H,i<n->Pv i σ H->g (.int (lo+i)) σ H λσ2 b=>c { D with nx:=Pv (i+1),ct:=Pv (i+1),bk:=D.nx } σ2 b) (j:∀σ H,Pv n σ H->D.nx σ H) :
  ∃W:Nat->Nat->St->Hp->Prop,(∃m,W 0 m σ H)/\∀i m σ H,W i m σ H ->
   ((TH lo n).stop i H/\D.nx σ H)\/((TH lo n).go i H/\∃N:St->Hp->Prop,(∀σ' H',N σ' H'->∃d,d < m/\W (i+1) d σ' H')/\∀x H',(TH lo n).yld i H x H'->g x σ H' λσ2 b=>c { D with nx:=N,ct:=N,bk:=D.nx } σ2 b):=by
 refine⟨λi m σ H=>m=n-i/\i<=n/\Pv i σ H,⟨n,by simp,CY _,f⟩,?_⟩;rintro i m σ H ⟨rfl,l,p⟩;by_cases a:i<n
 .refine .inr ⟨a,Pv (i+1),λσ' H' k=>⟨n-(i+1),by lia,rfl,a,k⟩,λx H' y=>?_⟩;obtain⟨e,y⟩:=y;subst e y;exact h i σ _ a p
 .have e:i=n:=by lia
  subst e;exact .inl ⟨VQ _,j σ H p⟩
abbrev R2:=V->V->Hp->VK->Prop
def LR(X:Cx)(f:A2->A2->Sem A2)(r:R2):Prop :=
 ∀(a:A1 (A3×Obj)) (s:A4) (σ:St) (H:Hp) (x y:V) (v u:A2) (Q:VK),Inv X a σ H s->RelV x v->RelV y u->r x y H Q ->
  wpAny (model X.prog X.w) X.A (f v u) (EP X a σ Q) X.xe s
def UnR(X:Cx)(f:A2->Sem A2)(r:V->Hp->VK->Prop):Prop :=
 ∀(a:A1 (A3×Obj)) (s:A4) (σ:St) (H:Hp) (x:V) (v:A2) (Q:VK),Inv X a σ H s->RelV x v->r x H Q ->
  wpAny (model X.prog X.w) X.A (f v) (EP X a σ Q) X.xe s
def K3(X:Cx)(f:A2)(r:A1 V->Hp->VK->Prop):Prop :=
 ∀(a:A1 (A3×Obj)) (s:A4) (σ:St) (H:Hp) (b:A1 V) (c:A1 A2) (Q:VK),Inv X a σ H s->I_ b c->r b H Q ->
  wpAny (model X.prog X.w) X.A (call f c) (EP X a σ Q) X.xe s
def zLg(X:Cx)(r:V->Hp->(Bool->Hp->Prop)->Prop):Prop :=
 ∀(a:A1 (A3×Obj)) (s:A4) (σ:St) (H:Hp) (x:V) (v:A2) (Q:Bool->Hp->Prop),Inv X a σ H s->RelV x v->r x H Q ->
  wpAny (model X.prog X.w) X.A (truthy v) (TP X a σ Q) X.xe s
def tOp(r:R2)(a b:TE):TE:=λσ H Q=>a σ H λx c=>b σ c λy d=>r x y d Q
def tUn(r:V->Hp->VK->Prop)(a:TE):TE:=λσ H Q=>a σ H λx b=>r x b Q
def rI(C:Int->Int->Prop)(g:Int->Int->V):R2:=λx y H Q=>∃i j,x = .int i/\y = .int j/\C i j/\Q (g i j) H
def SA(g:Int->Int->V):R2:=λx y H Q=>∃i j,x = .int i/\y = .int j/\Q (g i j) H
def rU(g:Int->V):V->Hp->VK->Prop:=λx H Q=>∃i,x = .int i/\Q (g i) H
section
variable{X:Cx}{a b c:IW}{ta tb tc:TE}{pos:Pos}
theorem zIz(i:PE X a ta)(j:PE X b tb){c:A1 (A3×Obj)}{s:A4}{σ:St}{H:Hp}{R:V->V->Hp->Prop}(I:Inv X c σ H s)
  (h:ta σ H λx g=>tb σ g λy d=>R x y d) {Q:A2->A4->Prop} {f:A2->A2->Sem A2}
  (k:∀v u e x y d,Inv X c σ d e->RelV x v->RelV y u->R x y d->wpAny (model X.prog X.w) X.A (f v u) Q X.xe e) :
  wpAny (model X.prog X.w) X.A (eval a X.env) (λv d4=>wpAny (model X.prog X.w) X.A (eval b X.env) (λu f7=>wpAny (model X.prog X.w) X.A (f v u) Q X.xe f7) X.xe d4) X.xe s:=by
 refine JN (i c s σ H _ I h) λv l ⟨x,g,m,n,o⟩=>?_;refine JN (j c l σ g _ m o) λu e ⟨y,d,p,q,r⟩=>?_;exact k v u e x y d p n q r
theorem C4{op:Operator}{r:R2}(d:LR X (binaryOp op) r)(e:PE X a ta)(f:PE X b tb):PE X (.BinOp a op b pos) (tOp r ta tb):=by
 intro c s σ H Q I h;exact wpAny_BinOp (zIz e f I h λv u g x y i j k l q=>d c g σ i x y v u Q j k l q)
theorem Kh{op:UnaryOp}{r:V->Hp->VK->Prop}(c:UnR X (unaryOp op) r)(d:PE X a ta):PE X (.UnaryOp op a pos) (tUn r ta):=by
 intro b s σ H Q I h;exact UnaryOp_ (JN (d b s σ H _ I h) λv e ⟨x,f,g,i,j⟩=>c b e σ f x v Q g i j)
theorem UQ{f:A2->A2->Sem A2}{C:Int->Int->Prop}{g:Int->Int->Int}
  (rule:∀(i j:Int) (t u:Tok) (s:A4) (Q:A2->A4->Prop) (E:A2->A4->Prop),C i j->Q (.int (g i j) s.toks) { s with toks:=s.toks+1 }->wpAny (model X.prog X.w) X.A (f (.int i t) (.int j u)) Q E s) :
  LR X f (rI C λi j=>.int (g i j)):=by
 intro a s σ H x y v u Q I b c h;obtain⟨i,j,rfl,rfl,d,q⟩:=h;obtain⟨t,rfl⟩:=b;obtain⟨e,rfl⟩:=c;exact rule i j t e s _ _ d ⟨.int (g i j),H,I.tok _,⟨_,rfl⟩,q⟩
theorem UX{f:A2->A2->Sem A2}{g:Int->Int->Int}
  (rule:∀(i j:Int) (t u:Tok) (s:A4) (Q:A2->A4->Prop) (E:A2->A4->Prop),Q (.int (g i j) s.toks) { s with toks:=s.toks+1 }->wpAny (model X.prog X.w) X.A (f (.int i t) (.int j u)) Q E s) :
  LR X f (SA λi j=>.int (g i j)):=by
 intro a s σ H x y v u Q I b c h;obtain⟨i,j,rfl,rfl,q⟩:=h;obtain⟨t,rfl⟩:=b;obtain⟨d,rfl⟩:=c;exact rule i j t d s _ _ ⟨.int (g i j),H,I.tok _,⟨_,rfl⟩,q⟩
theorem zHh{f:A2->A2->Sem A2}{g:Int->Int->Bool}
  (rule:∀(i j:Int) (t u:Tok) (s:A4) (Q:A2->A4->Prop) (E:A2->A4->Prop),Q (.bool (g i j)) s->wpAny (model X.prog X.w) X.A (f (.int i t) (.int j u)) Q E s) :
  LR X f (SA λi j=>.bl (g i j)):=by
 intro a s σ H x y v u Q I b c h;obtain⟨i,j,rfl,rfl,q⟩:=h;obtain⟨t,rfl⟩:=b;obtain⟨d,rfl⟩:=c;exact rule i j t d s _ _ ⟨.bl (g i j),H,I,rfl,q⟩
def zKo(i j:Int):Prop:=0<j/\j<1073741824
def zJr(i j:Int):Prop:=0<=j/\j<=1000000/\i.natAbs<2^64
def UG(i j:Int):Prop:=(-(2^64)<i/\i<2^64)\/(-(2^64)<j/\j<2^64)
theorem UG.ok{i j:Int}(h:UG i j):IntMulOk i j:=by
 rcases h with⟨a,b⟩ | ⟨a,b⟩
 .exact .of_left (intBits_le_64 a b)
 .exact .of_right (intBits_le_64 a b)
theorem Qj(k:Nat):(0:Int)<=2^k:=by
 rw[two_pow_cast];exact Int.natCast_nonneg _
theorem Ce:LR X (binaryOp .Add) (SA λi j=>.int (i+j)):=UX λ_ _ _ _ _ _ _ q=>add_int q
theorem Zs:LR X (binaryOp .Sub) (SA λi j=>.int (i-j)):=UX λ_ _ _ _ _ _ _ q=>sub_int q
theorem Dt:LR X (binaryOp .Mult) (rI UG λi j=>.int (i*j)):=UQ λ_ _ _ _ _ _ _ a q=>mul_int q a.ok
theorem Ul:LR X (binaryOp .FloorDiv) (rI zKo λi j=>.int (i / j)):=UQ λi j _ _ _ _ _ a q=>by
 have b:(0:Int)<j:=a.1;have c:j<1073741824:=a.2;exact floordiv_int (by lia) (by rw[Int.fdiv_eq_ediv_of_nonneg i (by lia)];exact q) (.inl (PyProof.noPylong_small (by lia)))
theorem Hn:LR X (binaryOp .Mod) (rI (λ_ j=>0<j) λi j=>.int (i % j)):=UQ λi j _ _ _ _ _ a q=>by
 have b:(0:Int)<j:=a;exact mod_int' (by lia) (by rw[Int.fmod_eq_emod_of_nonneg i (by lia)];exact q)
theorem zDr:LR X (binaryOp .Pow) (rI zJr λi j=>.int (i^j.toNat)):=UQ λ_ _ _ _ _ _ _ a q=>pow_int_small a.1 a.2.1 a.2.2 q
theorem Ab:LR X (binaryOp .LShift) (rI zJr λi j=>.int (i*2^j.toNat)):=UQ λ_ _ _ _ _ _ _ a q=>lshift_int_small a.1 a.2.1 a.2.2 q
theorem Hi:LR X (binaryOp .RShift) (rI (λ_ j=>0<=j) λi j=>.int (i / 2^j.toNat)):=UQ λi j _ _ _ _ _ a q =>
 rshift_int a (by rw[Int.fdiv_eq_ediv_of_nonneg i (Qj _)];exact q)
theorem M8:LR X (binaryOp .BitAnd) (SA λi j=>.int (Builtin.bitAnd i j)):=UX λ_ _ _ _ _ _ _ q=>and_int q
theorem R9:LR X (binaryOp .BitOr) (SA λi j=>.int (Builtin.bitOr i j)):=UX λ_ _ _ _ _ _ _ q=>or_int q
theorem Dr:LR X (binaryOp .BitXor) (SA λi j=>.int (Builtin.bitXor i j)):=UX λ_ _ _ _ _ _ _ q=>xor_int q
theorem unI{f:A2->Sem A2}{g:Int->Int}
  (rule:∀(i:Int) (t:Tok) (s:A4) (Q:A2->A4->Prop) (E:A2->A4->Prop),Q (.int (g i) s.toks) { s with toks:=s.toks+1 }->wpAny (model X.prog X.w) X.A (f (.int i t)) Q E s) :
  UnR X f (rU λi=>.int (g i)):=by
 intro a s σ H x v Q I b h;obtain⟨i,rfl,q⟩:=h;obtain⟨t,rfl⟩:=b;exact rule i t s _ _ ⟨.int (g i),H,I.tok _,⟨_,rfl⟩,q⟩
theorem Nh:UnR X (unaryOp .USub) (rU λi=>.int (-i)):=unI λ_ _ _ _ _ q=>neg_int q
theorem Uy:UnR X (unaryOp .Invert) (rU λi=>.int (Builtin.bitNot i)):=unI λ_ _ _ _ _ q=>invert_int q
end
def zJm:V->V->Bool
 | .non,.non=>true | .non,.int _=>true | .int _,.non=>true | .non,.bl _=>true | .bl _,.non=>true | .non,.str _=>true | .str _,.non=>true
 | .int _,.int _=>true | .bl _,.bl _=>true | .str _,.str _=>true | .byt _,.byt _=>true
 | .int _,.str _=>true | .str _,.int _=>true | .bl _,.str _=>true | .str _,.bl _=>true
 | _,_=>false
def rEq:R2:=λx y H Q=>zJm x y=true/\Q (.bl (decide (x=y))) H
def rNe:R2:=λx y H Q=>zJm x y=true/\Q (.bl (!decide (x=y))) H
def Tr{i j:Int}:decide (V.int i=V.int j) =(i == j):=by
 rw[BU];simp
def Zm{i j:Bool}:decide (V.bl i=V.bl j) =(i == j):=by
 rw[BU];simp
def Ve{i j:Str}:decide (V.str i=V.str j) =(i == j):=by
 rw[BU];simp
def Rf{i j:CM UInt8}:decide (V.byt i=V.byt j) =(i.toList == j.toList):=by
 rw[BU];cases i;cases j;simp
section
variable{X:Cx}{a b c:IW}{ta tb tc:TE}{pos:Pos}
theorem E8{a:A1 (A3×Obj)}{σ:St}{H:Hp}{s:A4}{Q:VK}{k b:Bool}(I:Inv X a σ H s)(q:Q (.bl k) H)(e:k=b):EP X a σ Q (.bool b) s:=by
 subst e;exact⟨.bl k,H,I,rfl,q⟩
theorem P5:LR X (compareOp .Eq) rEq:=by
 intro e s σ H x y v u Q I d a h;obtain⟨c,q⟩:=h;cases x with
 | non =>
  cases d;cases y with
  | non=>cases a;exact PySem.EqNone.eq_none_none (E8 I q (by simp))
  | bl j=>cases a;exact PySem.EqNone.eq_none_bool (E8 I q (by simp))
  | int j=>obtain⟨b,rfl⟩:=a;exact PySem.EqNone.eq_none_int (E8 I q (by simp))
  | str j=>obtain⟨b,rfl⟩:=a;exact PySem.EqNone.eq_none_str (E8 I q (by simp))
  | _=>exact absurd (show false=true from c) BD
 | bl i =>
  cases d;cases y with
  | non=>cases a;exact PySem.EqNone.eq_bool_none (E8 I q (by simp))
  | bl j=>cases a;exact eq_bool (E8 I q Zm)
  | str j=>obtain⟨b,rfl⟩:=a;exact PySem.EqMixed.eq_bool_str (E8 I q (by simp))
  | _=>exact absurd (show false=true from c) BD
 | int i =>
  obtain⟨t,rfl⟩:=d;cases y with
  | non=>cases a;exact PySem.EqNone.eq_int_none (E8 I q (by simp))
  | int j=>obtain⟨b,rfl⟩:=a;exact eq_int (E8 I q Tr)
  | str j=>obtain⟨b,rfl⟩:=a;exact PySem.EqMixed.eq_int_str (E8 I q (by simp))
  | _=>exact absurd (show false=true from c) BD
 | str i =>
  obtain⟨t,rfl⟩:=d;cases y with
  | non=>cases a;exact PySem.EqNone.eq_str_none (E8 I q (by simp))
  | bl j=>cases a;exact PySem.EqMixed.eq_str_bool (E8 I q (by simp))
  | int j=>obtain⟨b,rfl⟩:=a;exact PySem.EqMixed.eq_str_int (E8 I q (by simp))
  | str j=>obtain⟨b,rfl⟩:=a;exact eq_str (E8 I q Ve)
  | _=>exact absurd (show false=true from c) BD
 | byt i =>
  obtain⟨t,rfl⟩:=d;cases y with
  | byt j=>obtain⟨b,rfl⟩:=a;exact PySem.W.eq_bytes (E8 I q Rf)
  | _=>exact absurd (show false=true from c) BD
 | _=>cases y<;>exact absurd (show false=true from c) BD
theorem Es:LR X (compareOp .NotEq) rNe:=by
 intro e s σ H x y v u Q I d a h;obtain⟨c,q⟩:=h;cases x with
 | non =>
  cases d;cases y with
  | non=>cases a;exact PySem.EqNone.ne_none_none (E8 I q (by simp))
  | bl j=>cases a;exact PySem.EqNone.ne_none_bool (E8 I q (by simp))
  | int j=>obtain⟨b,rfl⟩:=a;exact PySem.EqNone.ne_none_int (E8 I q (by simp))
  | str j=>obtain⟨b,rfl⟩:=a;exact PySem.EqNone.ne_none_str (E8 I q (by simp))
  | _=>exact absurd (show false=true from c) BD
 | bl i =>
  cases d;cases y with
  | non=>cases a;exact PySem.EqNone.ne_bool_none (E8 I q (by simp))
  | bl j=>cases a;exact ne_bool (E8 I q (congrArg not Zm))
  | str j=>obtain⟨b,rfl⟩:=a;exact PySem.EqMixed.ne_bool_str (E8 I q (by simp))
  | _=>exact absurd (show false=true from c) BD
 | int i =>
  obtain⟨t,rfl⟩:=d;cases y with
  | non=>cases a;exact PySem.EqNone.ne_int_none (E8 I q (by simp))
  | int j=>obtain⟨b,rfl⟩:=a;exact ne_int (E8 I q (congrArg not Tr))
  | str j=>obtain⟨b,rfl⟩:=a;exact PySem.EqMixed.ne_int_str (E8 I q (by simp))
  | _=>exact absurd (show false=true from c) BD
 | str i =>
  obtain⟨t,rfl⟩:=d;cases y with
  | non=>cases a;exact PySem.EqNone.ne_str_none (E8 I q (by simp))
  | bl j=>cases a;exact PySem.EqMixed.ne_str_bool (E8 I q (by simp))
  | int j=>obtain⟨b,rfl⟩:=a;exact PySem.EqMixed.ne_str_int (E8 I q (by simp))
  | str j=>obtain⟨b,rfl⟩:=a;exact ne_str (E8 I q (congrArg not Ve))
  | _=>exact absurd (show false=true from c) BD
 | byt i =>
  obtain⟨t,rfl⟩:=d;cases y with
  | byt j=>obtain⟨b,rfl⟩:=a;exact PySem.W.ne_bytes (E8 I q (congrArg not Rf))
  | _=>exact absurd (show false=true from c) BD
 | _=>cases y<;>exact absurd (show false=true from c) BD
theorem zEu:LR X (compareOp .Lt) (SA λi j=>.bl (decide (i<j))):=zHh λ_ _ _ _ _ _ _ q=>lt_int q
theorem zDz:LR X (compareOp .LtE) (SA λi j=>.bl (decide (i<=j))):=zHh λ_ _ _ _ _ _ _ q=>le_int q
theorem zEt:LR X (compareOp .Gt) (SA λi j=>.bl (decide (j<i))):=zHh λ_ _ _ _ _ _ _ q=>gt_int q
theorem zIn:LR X (compareOp .GtE) (SA λi j=>.bl (decide (j<=i))):=zHh λ_ _ _ _ _ _ _ q=>ge_int q
theorem Uj:LR X (compareOp .In) (λx y H Q=>∃i j,x = .str i/\y = .str j/\Q (.bl (!(Builtin.Str.occurrences j i 0 j.length 1).isEmpty)) H):=by
 intro a s σ H x y v u Q I b c h;obtain⟨i,j,rfl,rfl,q⟩:=h;obtain⟨t,rfl⟩:=b;obtain⟨d,rfl⟩:=c;exact in_str (E8 I q rfl)
theorem Yx:LR X (compareOp .Is) (λx y H Q=>y = .non/\Q (.bl (decide (x = .non))) H):=by
 intro a s σ H x y v u Q I b c h;obtain⟨rfl,q⟩:=h;cases c;refine is_none_gen (E8 I q ?_);cases x<;>first
  | (cases b;rfl)
  | (obtain⟨t,rfl⟩:=b;rfl)
theorem D8(b:IW){op:CmpOp}(h:op≠ .In:=by decide)(h2:op≠ .NotIn:=by decide):behindInMarks op b=false:=by
 have a:(op == CmpOp.In)=false:=by cases op<;>first | rfl | exact absurd rfl h
 have c:(op == CmpOp.NotIn)=false:=by cases op<;>first | rfl | exact absurd rfl h2
 cases b<;>simp[behindInMarks,a,c]
theorem K5{op:CmpOp}{r:R2}(d:LR X (compareOp op) r)(e:PE X a ta)(f:PE X b tb)(g:behindInMarks op b=false):PE X (.Compare a [op] [b] pos) (tOp r ta tb):=by
 intro c s σ H Q I h;exact wpAny_Compare1 (zIz e f I h λv u i x y j k l m q=>d c i σ j x y v u Q k l m q) g
def zGi(t:TE):TT:=λσ H Q=>t σ H λx a=>∃k,x = .bl k/\Q k a
theorem C7{op:CmpOp}{r:R2}(f:LR X (compareOp op) r)(g:PE X a ta)(i:PE X b tb)(j:behindInMarks op b=false):PT X (.Compare a [op] [b] pos) (zGi (tOp r ta tb)):=by
 intro d s σ H Q I h;refine wpAny_isTrue_Compare1 (JN (g d s σ H _ I h) λv l ⟨x,m,n,o,p⟩=>JN (i d l σ m _ n p) λu q ⟨y,t,w,A,B⟩ =>
  JN (f d q σ t x y v u _ w o A B) λc G ⟨z,C,D,E,k,e,F⟩=>?_) j
 subst e;cases E;exact DB ⟨C,D,F⟩
def zEp(r b:R2)(ta tb tc:TE):TE:=λσ H Q=>ta σ H λx c=>tb σ c λy d=>r x y d λz a=>∃k,z = .bl k /\
 (if k=true then tc σ a λe f=>b y e f Q else Q (.bl false) a)
theorem Wi{op g:CmpOp}{r j:R2}(p:LR X (compareOp op) r)(i:LR X (compareOp g) j)(q:PE X a ta)(t:PE X b tb)(w:PE X c tc)
  (A:lastMarks [op,g] [b,c]=false:=by with_unfolding_all rfl):PT X (.Compare a [op,g] [b,c] pos) (zGi (zEp r j ta tb tc)):=by
 intro f s σ H Q I h;refine isTrue_chain (JN (q f s σ H _ I h) λv B ⟨x,C,D,E,F⟩=>test_link (JN (t f B σ C _ D F) λu G ⟨y,J,K,l,L⟩ =>
  JN (p f G σ J x y v u _ K E l L) λd M ⟨z,m,n,N,k,e,o⟩=>?_)) A
 subst e;cases N;refine DB ?_;cases k with
 | false =>
  obtain⟨k',O,P⟩:=o;cases O;exact ite_ff ⟨m,n,P⟩
 | true =>
  refine ite_tt (test_last (JN (w f M σ m _ n o) λR S ⟨T,U,V,W,Y⟩=>JN (i f S σ U y T u R _ V l W Y) λd' s5 ⟨z2,Z,I5,r5,k2,e2,q5⟩=>?_));subst e2;cases r5;exact DB ⟨Z,I5,q5⟩
def zHd(K:VN)(x:V)(H:Hp)(k:Bool):Prop :=
 match x with
 | .non=>k=false
 | .bl b=>k=b
 | .int i=>k =(i != 0)
 | .str y=>y.length<=sizeLine/\k =((y.length:Int) != 0)
 | .byt y=>y.size<=sizeLine/\k =((y.size:Int) != 0)
 | .ref p=>(∃a,IV K H p a/\k=!a.isEmpty)\/(∃a,JL K H p a/\k=!a.isEmpty)\/∃c,H p=some (.dK c)/\k=!c.isEmpty
 | _=>False
theorem Pz{κ:Type}{a:A1 (κ×V)}{vs:A1 (κ×A2)}(r:KV a vs):(!vs.isEmpty)=!a.isEmpty:=by
 cases r<;>rfl
theorem Dl{xs:A1 V}{its:A1 A2}(r:I_ xs its):(!its.toArray.isEmpty)=!xs.isEmpty:=by
 cases r<;>simp
theorem Df:(sizeLine:Nat)<2^63:=by rw[sizeLine_eq];decide
theorem Yq:zLg X (λx H Q=>∃k,zHd X.K x H k/\Q k H):=by
 intro u s σ H x v Q I g h;obtain⟨k,e,q⟩:=h;have C:=Df;have D:sizeLine=16777216:=sizeLine_eq;cases x with
 | non =>
  cases g;have a:k=false:=e;subst a;exact truthy_none ⟨H,I,q⟩
 | bl b =>
  cases g;have a:k=b:=e;subst a;exact DB ⟨H,I,q⟩
 | int i =>
  obtain⟨t,rfl⟩:=g;have a:k =(i != 0):=e;subst a;exact PySem.P.truthy_int ⟨H,I,q⟩
 | str y =>
  obtain⟨t,rfl⟩:=g;obtain⟨A,a⟩:y.length<=sizeLine/\k =((y.length:Int) != 0):=e;subst a;exact PySem.P.truthy_str (by lia) ⟨H,I.tok _,q⟩
 | byt y =>
  obtain⟨t,rfl⟩:=g;obtain⟨A,a⟩:y.size<=sizeLine/\k =((y.size:Int) != 0):=e;subst a;exact PySem.W.truthy_bytes (by lia) ⟨H,I.tok _,q⟩
 | ref p =>
  cases g;have a:(∃f,IV X.K H p f/\k=!f.isEmpty)\/(∃f,JL X.K H p f/\k=!f.isEmpty)\/∃c,H p=some (.dK c)/\k=!c.isEmpty:=e;rcases a with⟨f,j,a⟩ | ⟨f,j,a⟩ | ⟨c,j,a⟩
  .subst a;obtain⟨n,r,o,z⟩:=I.list j;have d:=r.length;exact wpAny_truthy_list o.isList (by simp only[AL];lia) ⟨H,I.tok _,by rw[Dl r];exact q⟩
  .subst a;obtain⟨n,r,o,z⟩:=I.tuple j;have d:=r.length;exact truthy_tuple o (by simp only[AL];lia) ⟨H,I.tok _,by rw[Dl r];exact q⟩
  .subst a;obtain⟨z,B,l,r,m⟩:c.length<=sizeLine/\(p == sysModules)=false/\∃l,KV c l/\s.heap.DictOf (D0 X.prog X.w) p l:=I.hok p _ j;have d:c.length=l.length:=Paired.length r;exact wpAny_truthy_dict B m (by lia) ⟨H,I.tok _,by rw[Pz r];exact q⟩
 | _=>exact(show False from e).elim
theorem Wo(d:PE X a ta)(e:∀b,isTrue a X.env b =(do let v <-b;standAt a.pos;holding [v] (truthy v))) :
  PT X a (λσ H Q=>ta σ H λx H'=>∃k,zHd X.K x H' k/\Q k H'):=by
 intro c s σ H Q I h;exact isTrue_plain (JN (d c s σ H _ I h) λv f ⟨x,g,i,j,l⟩=>Yq c f σ g x v Q i j l) (e _)
theorem W5{x:V}{us:A1 A2}(r:I_ [x] us):∃u,us = [u]/\RelV x u:=by
 cases r with
 | cons a b=>cases b;exact⟨_,rfl,a⟩
theorem zEl{x y:V}{us:A1 A2}(r:I_ [x,y] us):∃u a,us = [u,a]/\RelV x u/\RelV y a:=by
 cases r with
 | cons b c =>
  cases c with
  | cons d e=>cases e;exact⟨_,_,rfl,b,d⟩
theorem Os:K3 X (.builtin "abs") (λxs H Q=>∃i,xs = [.int i]/\Q (.int (if i<0 then -i else i)) H):=by
 intro a s σ H xs b Q I r h;obtain⟨i,rfl,q⟩:=h;obtain⟨u,rfl,t,rfl⟩:=W5 r;exact call_abs_int λu c=>⟨.int (if i<0 then -i else i),H,I.tok _,⟨_,rfl⟩,q⟩
theorem Se(c:X.calm=true):K3 X (.builtin "max") (λxs H Q=>∃i j,xs = [.int i,.int j]/\Q (.int (if j>i then j else i)) H):=by
 intro b s σ H xs d Q I r h;obtain⟨i,j,rfl,q⟩:=h;obtain⟨u,e,rfl,⟨t,rfl⟩,⟨f,rfl⟩⟩:=zEl r;refine max_two_ints (I.ok.hd c) λg l k=>⟨_,H,I.kept k,?_,q⟩;by_cases a:j>i
 .rw[AQ a,AQ a];exact⟨_,rfl⟩
 .rw[AN a,AN a];exact⟨_,rfl⟩
theorem Qr(c:X.calm=true):K3 X (.builtin "min") (λxs H Q=>∃i j,xs = [.int i,.int j]/\Q (.int (if j<i then j else i)) H):=by
 intro b s σ H xs d Q I r h;obtain⟨i,j,rfl,q⟩:=h;obtain⟨u,e,rfl,⟨t,rfl⟩,⟨f,rfl⟩⟩:=zEl r;refine min_two_ints (I.ok.hd c) λg l k=>⟨_,H,I.kept k,?_,q⟩;by_cases a:j<i
 .rw[AQ a,AQ a];exact⟨_,rfl⟩
 .rw[AN a,AN a];exact⟨_,rfl⟩
theorem Bv:K3 X (.type "int") (λxs H Q=>(∃i,xs = [.int i]/\Q (.int i) H)\/∃k,xs = [.bl k]/\Q (.int (if k then 1 else 0)) H):=by
 intro a s σ H xs c Q I r h;rcases h with⟨i,rfl,q⟩ | ⟨k,rfl,q⟩
 .obtain⟨u,rfl,t,rfl⟩:=W5 r;exact call_int_int ⟨.int i,H,I,⟨_,rfl⟩,q⟩
 .obtain⟨u,rfl,b⟩:=W5 r;cases b;exact call_int_bool ⟨.int (if k then 1 else 0),H,I.tok _,⟨_,rfl⟩,q⟩
end
structure RR(h:IU)(x dx C:A3)(mA:Str->A5 A2):Prop where
 obj:h.get? x=some (PySem.W.instObj C dx)
 ns:h.Ns1 dx mA
 ne:dx≠x
def Vh{h:IU}{c:A3}{d:Str->A5 A2}(n:h.Ns1 c d):∃f,h.get? c=some f/\∀name,PySem.W.lookIn name f=some (d name):=by
 obtain⟨o,g,r,i,j,k,_,l⟩:=n;refine⟨o,i,λname=>?_⟩;have e:=l name;unfold nsFind findBy at e;rw[<-Array.find?_toList]at e;unfold PySem.W.lookIn;rw[j];dsimp only;split
 .rename_i y q;rw[q]at e;exact congrArg some e
 .rename_i q;rw[q]at e;have a:g.toList.any (·.refKey)=false:=by
   rw[List.any_eq_false];intro y m;obtain⟨z,t,b⟩:=k y (Array.mem_toList_iff.mp m);simp[DictEntry.refKey,b]
  have p:¬g.toList.any (·.refKey)=true:=by rw[a];exact BD
  rw[AN p];exact congrArg some e
def RR.look{h:IU}{x b C:A3}{c:Str->A5 A2}(I:RR h x b C c):∃a,PySem.W.InstAt h x (PySem.W.instObj C b) C (some a)/\∀name,PySem.W.lookIn name a=some (c name) :=
 let⟨a,d,e⟩:=Vh I.ns
 ⟨a,⟨I.obj,rfl,rfl,d⟩,e⟩
section
variable{prog:A7}{w:F8}{A:IY}{E:A2->A4->Prop}{s:A4}{K:VN}{x dx C f:A3}{mA:Str->A5 A2}{name:Str}{v:A2}
theorem zCc{a:Bool}{Q:A2->A4->Prop}(X:K.In s.heap)(I:RR s.heap x dx C mA)(c:PySem.W.plainGet K C name=true)(d:PySem.W.hasDictIn K C=true)
  (e:PySem.W.findIn K (.ref C) name=some none) (f:mA name=some v) (b:PySem.W.handedIn v=true) (h:Q v { s with toks:=s.toks+1 }) :
  wpAny (model prog w) A (getAttr (.ref x) name a) Q E s:=by
 obtain⟨i,J,g⟩:=I.look;exact PySem.W.get_value X J (PySem.W.plainGet_of c).1 (PySem.W.findObj_own d e rfl (by rw[g,f])) b h
theorem Xw{pl:Sem Bool}{Q:A2×A1 A2->A4->Prop}(X:K.In s.heap)(I:RR s.heap x dx C mA)(a:PySem.W.plainGet K C name=true)
  (b:PySem.W.findIn K (.ref C) name=some (some (.ref f))) (c:PySem.W.isFn K (.ref f)=true) (d:mA name=none) (h:Q (.ref f,[.ref x]) s) :
  wpAny (model prog w) A (getMethod (.ref x) name pl) Q E s:=by
 obtain⟨e,J,g⟩:=I.look;exact PySem.W.method_fn X J (PySem.W.plainGet_of a).1 (PySem.W.plainGet_of a).2 b (beq_iff_eq.mp c) (by show(PySem.W.lookIn name e).map (·.isSome)=some false;rw[g,d];rfl) h
theorem zBq{ns:A1 Str}{Q:Unit->A4->Prop}(X:K.In s.heap)(I:RR s.heap x dx C mA)
  (j:PySem.W.findIn K (.ref C) "__setattr__" = some (some (.builtin "object.__setattr__"))) (k:PySem.W.plainOver K C=true) (l:PySem.W.takerIn K C name=some none) (m:PySem.W.hasDictIn K C=true)
  (hw:PySem.Within mA ns) (hsz:ns.length<=sizeLine)
  (h:∀h',RR h' x dx C (λy=>if y=name then some v else mA y)->Heap.SameBut dx s.heap h'->Q () { s with heap:=h',toks:=s.toks+2 }) :
  wpAny (model prog w) A (setAttr (.ref x) name v) Q E s:=by
 obtain⟨t,J,u⟩:=I.look;refine PySem.W.set_plain X J j (PySem.W.osa_open (s:={ s with toks:=s.toks+1 }) (r:=none) X J k l λb=>?_);obtain⟨z,n,e⟩:=PySem.W.any_some m;have o:s.heap.get? x=some ⟨.ref C,some dx,.plain,#[]⟩:=I.obj;refine AA (AF (AA (AA (wpAny_loadPart o (AA (PySem.W.Looks.here (s:={ s with toks:=s.toks+1 }) (PySem.W.looks_clsIn X n) ?_))))));rw[e];refine AF (a:=some dx) (AA (AF (AA ?_)));refine wpAny_nsSet1 (s:={ s with toks:=s.toks+1 }) I.ns λh' c d=>?_;obtain⟨B,p,q,f,g,i⟩:=c.count (PySem.Within.cons name v hw);refine AA (wpAny_lookBehind f (by rw[g];exact pastItsLine_dict (VR i (by rw[BK];lia))) ?_);exact AF (h _ ⟨(d.2 _ (Ne.symm I.ne)).trans I.obj,c,I.ne⟩ d)
theorem Yn{R:Result->A4->Prop}{vs:A1 A2}{b:A1 (Str×A2)}(X:K.In s.heap)(c:PySem.W.makesIn K C=true)
  (hi:PySem.W.findIn K (.ref C) "__init__" = some (some (.ref f))) (e:PySem.W.typeIn K (.ref f)=some (.type "function"))
  (h:codeAny (model prog w) (A.under (.builtin "type.__call__" ⟨.ref C::vs,b⟩)) (.call (.ref f) ⟨.ref (s.heap.objs.size+1)::vs,b⟩) (PySem.W.InitBack (s.heap.objs.size+1) R)
   { s with heap:=(s.heap.push PySem.W.emptyDict).push (PySem.W.instObj C s.heap.objs.size) }) :
  codeAny (model prog w) A (.call (.ref C) ⟨vs,b⟩) R s:=by
 obtain⟨i,g,d,t,os⟩:=s;exact PySem.W.make_core (PySem.W.makes_of X c) (PySem.W.looks_findIn X hi) (λa=>PySem.W.bind_fn X a e) (.inl rfl) h
end
def Q8(f:Str)(v:V):A1 (Str×V)->A1 (Str×V)
 | []=>[(f,v)]
 | (g,x)::r=>if g=f then(g,v)::r else(g,x)::Q8 f v r
def Bp(f g:Str)(v:V):∀c:A1 (Str×V),(Q8 f v c).lookup g=if g=f then some v else c.lookup g
 | []=>by
  show List.lookup g [(f,v)]=_;by_cases h:g=f
  .have a:(g == f)=true:=beq_iff_eq.mpr h;simp only[List.lookup,a,AQ h]
  .have a:(g == f)=false:=beq_eq_false_iff_ne.mpr h;simp only[List.lookup,a,AN h]
 | (k,x)::r=>by
  have d:=Bp f g v r;rw[show Q8 f v ((k,x)::r) =(if k=f then(k,v)::r else(k,x)::Q8 f v r)from rfl];by_cases b:k=f
  .rw[AQ b];by_cases h:g=k
   .have a:(g == k)=true:=beq_iff_eq.mpr h;simp only[List.lookup,a,AQ (h.trans b)]
   .have a:(g == k)=false:=beq_eq_false_iff_ne.mpr h;simp only[List.lookup,a,AN (λe:g=f=>h (e.trans b.symm))]
  .rw[AN b];by_cases h:g=k
   .have a:(g == k)=true:=beq_iff_eq.mpr h;simp only[List.lookup,a,AN (λe:g=f=>b (h.symm.trans e))]
   .have a:(g == k)=false:=beq_eq_false_iff_ne.mpr h;simp only[List.lookup,a];exact d
def Bg(f:Str)(v:V):∀a:A1 (Str×V),f∈(Q8 f v a).map (·.1)/\∀g,g∈a.map (·.1)->g∈(Q8 f v a).map (·.1)
 | []=>⟨by simp[Q8],λg h=>by simp at h⟩
 | (k,x)::r=>by
  obtain⟨c,d⟩:=Bg f v r;rw[show Q8 f v ((k,x)::r) =(if k=f then(k,v)::r else(k,x)::Q8 f v r)from rfl];by_cases b:k=f
  .rw[AQ b];subst b;exact⟨by simp,λg h=>by simpa using h⟩
  .rw[AN b];refine⟨?_,λg h=>?_⟩
   .rw[AZ];exact BG _ c
   .rw[AZ]at h⊢;rcases AK.mp h with e | e
    .exact AK.mpr (.inl e)
    .exact BG _ (d g e)
def Bd(f:Str)(v:V):∀a:A1 (Str×V),(Q8 f v a).length<=a.length+1
 | []=>by simp[Q8]
 | (k,x)::r=>by
  have c:=Bd f v r;rw[show Q8 f v ((k,x)::r) =(if k=f then(k,v)::r else(k,x)::Q8 f v r)from rfl];by_cases b:k=f
  .rw[AQ b,BK,BK];lia
  .rw[AN b,BK,BK];lia
def NR.some_of{v:V}{o:A5 A2}(r:NR (some v) o):∃u,o=some u/\RelV v u:=by
 cases o with
 | none=>exact(show False from r).elim
 | some u=>exact⟨u,rfl,r⟩
def NR.none_of{o:A5 A2}(r:NR none o):o=none:=by
 cases o with
 | none=>rfl
 | some u=>exact(show False from r).elim
def Vm{v:V}{u:A2}(r:RelV v u):PySem.W.handedIn u=true:=by
 cases v with
 | non=>cases(show u=Value.none from r);rfl
 | bl b=>cases(show u=Value.bool b from r);rfl
 | int i=>obtain⟨t,e⟩:=(show ∃t,u=Value.int i t from r);cases e;rfl
 | str x=>obtain⟨t,e⟩:=(show ∃t,u=Value.str x t from r);cases e;rfl
 | byt b=>obtain⟨t,e⟩:=(show ∃t,u=Value.bytes b t from r);cases e;rfl
 | flt b=>obtain⟨t,e⟩:=(show ∃t,u=Value.float b t from r);cases e;rfl
 | ref a=>cases(show u=Value.ref a from r);rfl
 | ty n=>cases(show u=Value.type n from r);rfl
section
variable{P:A7}{w:F8}{H H':Hp}{h h':IU}{a C dx:A3}{fs fs':A1 (Str×V)}
theorem Fi(c:NE P w H h)(e:H a=some (.ins C dx fs)):∃b,RR h a dx C b/\(∀f,NR (fs.lookup f) (b f))/\PySem.Within b (fs.map (·.1))/\fs.length<=1000/\H dx=some (.own a):=by
 obtain⟨d,z,g,i,b,n,r,q⟩:=(show JB P w H h a (.ins C dx fs)from c a _ e);exact⟨b,⟨i,n,g⟩,r,q,z,d⟩
end
structure R6(K:VN)(C:A3):Prop where
 pg:PySem.W.plainGet K C Str.empty=true
 hd:PySem.W.hasDictIn K C=true
 po:PySem.W.plainOver K C=true
 sa:PySem.W.findIn K (.ref C) "__setattr__" = some (some (.builtin "object.__setattr__"))
def R6.get{K:VN}{C:A3}(c:R6 K C)(f:Str):PySem.W.plainGet K C f=true:=c.pg
def KC(K:VN)(C:A3)(f:Str):Prop:=PySem.W.findIn K (.ref C) f=some none
def KC.taker{K:VN}{C:A3}{f:Str}(n:KC K C f):PySem.W.takerIn K C f=some none:=by
 unfold PySem.W.takerIn;rw[show PySem.W.findIn K (.ref C) f=some none from n];rfl
structure TB(K:VN)(C:A3)(m:Str)(f:A3):Prop where
 at_:PySem.W.findIn K (.ref C) m=some (some (.ref f))
 fn:PySem.W.isFn K (.ref f)=true
 kp:PySem.W.keepIn K (.ref f)=true
section
variable{X:Cx}{pins:A1 (A3×Obj)}{σ:St}{H:Hp}{s:A4}{a C dx:A3}{fs:A1 (Str×V)}{f:Str}{v:V}{A:IY}{E:A2->A4->Prop}
theorem Pd{b:Bool}{Q:A2->A4->Prop}(I:Inv X pins σ H s)(e:H a=some (.ins C dx fs))(c:R6 X.K C)(n:KC X.K C f)(l:fs.lookup f=some v)
  (h:∀u d,Inv X pins σ H d->RelV v u->Q u d):wpAny (model X.prog X.w) A (getAttr (.ref a) f b) Q E s:=by
 obtain⟨i,O,r,_,_,_⟩:=Fi I.hok e;obtain⟨u,j,g⟩:=NR.some_of (v:=v) (o:=i f) (by rw[<-l];exact r f);exact zCc I.kIn O (c.get f) c.hd n j (Vm g) (h u _ (I.tok _) g)
theorem De{m:Str}{g:A3}{pl:Sem Bool}{Q:A2×A1 A2->A4->Prop}(I:Inv X pins σ H s)(e:H a=some (.ins C dx fs))(c:R6 X.K C)(k:TB X.K C m g)(l:fs.lookup m=none)
  (h:Q (.ref g,[.ref a]) s):wpAny (model X.prog X.w) A (getMethod (.ref a) m pl) Q E s:=by
 obtain⟨b,O,r,_,_,_⟩:=Fi I.hok e;have d:b m=none:=NR.none_of (by rw[<-l];exact r m);exact Xw I.kIn O (c.get m) k.at_ k.fn d h
theorem Pp{y:V}{u:A2}{Q:Unit->A4->Prop}(I:Inv X pins σ H s)(e:H a=some (.ins C dx fs))(c:R6 X.K C)(n:KC X.K C f)(J:fs.length<1000)(m:RelV y u)
  (h:∀i,Inv X pins σ (IT H a (.ins C dx (Q8 f y fs))) i->Q () i):wpAny (model X.prog X.w) A (setAttr (.ref a) f u) Q E s:=by
 obtain⟨j,O,r,k,_,l⟩:=Fi I.hok e;have p:(fs.map (·.1)).length<=sizeLine:=by rw[AB,sizeLine_eq];lia
 refine zBq I.kIn O c.sa c.po n.taker c.hd k p λt d v=>h _ ?_;have B:∃o,t.get? dx=some o:=let⟨o,_,_,D,_⟩:=d.ns;⟨o,D⟩;refine I.write (x:=a) (e:=dx) (by rw[e];exact VP) (.inr l) (λb q F z=>(v.2 b F).trans z) B ?_;refine⟨by rw[B6 O.ne];exact l,?_,O.ne,d.obj,_,d.ns,λg=>?_,λg G=>?_⟩
 .have:=Bd f y fs;lia
 .show NR ((Q8 f y fs).lookup g) (if g=f then some u else j g);rw[Bp];by_cases q:g=f
  .rw[AQ q,AQ q];exact m
  .rw[AN q,AN q];exact r g
 .by_cases q:g=f
  .rw[q];exact(Bg f y fs).1
  .refine(Bg f y fs).2 g (k g λz=>G ?_);show(if g=f then some u else j g)=none;rw[AN q];exact z
theorem Inv.made(I:Inv X pins σ H s):Inv X pins σ (IT (IT H s.heap.objs.size (.own (s.heap.objs.size+1))) (s.heap.objs.size+1) (.ins C s.heap.objs.size []))
  { s with heap:=(s.heap.push PySem.W.emptyDict).push (PySem.W.instObj C s.heap.objs.size) }:=by
 have c:(s.heap.push PySem.W.emptyDict).get? s.heap.objs.size=some PySem.W.emptyDict:=AO s.heap rfl;have f:((s.heap.push PySem.W.emptyDict).push (PySem.W.instObj C s.heap.objs.size)).get? (s.heap.objs.size+1)=some (PySem.W.instObj C s.heap.objs.size):=by
  have:=AO (s.heap.push PySem.W.emptyDict) (o:=PySem.W.instObj C s.heap.objs.size) rfl
  rwa [DF]at this
 have g:(s.heap.push PySem.W.emptyDict).Ns s.heap.objs.size (λ_=>none):=⟨PySem.W.emptyDict,#[],_,c,rfl,(λe h=>absurd h (by simp)),λ_=>rfl⟩;have i:=I.laid (a:=s.heap.objs.size) (o:=.own (s.heap.objs.size+1)) (h':=s.heap.push PySem.W.emptyDict) (t':=s.toks) (λb u q=>AD _ q) (VQ _) ⟨_,c⟩;refine i.laid (a:=s.heap.objs.size+1) (o:=.ins C s.heap.objs.size []) (t':=s.toks) (λb u q=>AD _ q) (ID (DF _ _)) ?_;have d:s.heap.objs.size≠s.heap.objs.size+1:=AV (FC _);refine⟨by rw[B6 d,A9],CY _,d,f,λ_=>none,(Heap.Ns1.of_empty g).at λo q=>AD _ q,λ_=>VP,λy j=>absurd rfl j⟩
theorem zCf{prog:A7}{w:F8}{a:RM}{e:IW}{f:Str}{pos:Pos}{s:A4}{Q:A2->A4->Prop}(b:attributeBase e f a (eval e a)=eval e a)
  (h:wpAny (model prog w) A (eval e a) (λo d4=>wpAny (model prog w) A (getAttr o f true) Q E d4) E s):wpAny (model prog w) A (eval (.Attribute e f pos) a) Q E s :=
 Attribute_any_ h (by rw[arm_eval_Attribute,b])
end
def zHj(K:VN)(d:TE)(f:Str):TE:=λσ H Q=>d σ H λx b=>∃a C e c v,x = .ref a/\b a=some (.ins C e c)/\R6 K C/\KC K C f/\c.lookup f=some v/\Q v b
def zJs(K:VN)(e g:TE)(f:Str):TS:=λD σ H=>g σ H λy h=>e σ h λx c=>∃a C d b,x = .ref a/\c a=some (.ins C d b)/\R6 K C/\KC K C f/\b.length<1000 /\
 D.nx σ (IT c a (.ins C d (Q8 f y b)))
section
variable{X:Cx}{o e value:IW}{f:Str}{pos pos' tpos:Pos}{ta tv:TE}
theorem zEr(d:PE X e ta)(g:attributeBase e f X.env (eval e X.env)=eval e X.env):PE X (.Attribute e f pos) (zHj X.K ta f):=by
 intro b s σ H Q I h;refine zCf g (JN (d b s σ H _ I h) λu t ⟨x,i,j,k,a,C,w,y,v,m,o,c,n,l,q⟩=>?_);subst m;obtain rfl:u=Value.ref a:=k;exact Pd j o c n l λz A p r=>⟨v,i,p,r,q⟩
theorem zDx(d:PE X o ta)(e:PE X value tv)(g:swapsWith value (some (.Attribute o f pos')) pos.line X.env=pure false):PS X (.Assign [.Attribute o f pos'] value pos) (zJs X.K ta tv f):=by
 intro b s σ H D I h;refine plainObj_wpAny_Assign_Attribute (JN (e b s σ H _ I h) λu i ⟨y,j,k,m,q⟩=>JN (d b i σ j _ k q) λp B ⟨x,E,r,t,a,C,F,G,v,w,c,n,l,z⟩=>?_) g;subst v;obtain rfl:p=Value.ref a:=t;exact Pp r w c n l m λJ A=>⟨σ,_,A,z⟩
end
section
variable{X:Cx}{pins:A1 (A3×Obj)}{σ:St}{H:Hp}{s:A4}{A:IY}{E:A2->A4->Prop}{Q:A2->A4->Prop}{c:A2}{b:Bool}
inductive NM(K:VN)(H:Hp):V->A2->Prop where
 | non:NM K H .non (.type "NoneType")
 | bl (x:Bool):NM K H (.bl x) (.type "bool")
 | int (i:Int):NM K H (.int i) (.type "int")
 | str (x:Str):NM K H (.str x) (.type "str")
 | flt (x:UInt64):NM K H (.flt x) (.type "float")
 | lst {a:A3} {xs:A1 V} (e:H a=some (.lst xs)):NM K H (.ref a) (.type "list")
 | frz {a:A3} {o:Obj} {xs:A1 V} (e:H a=some (.frz o (.lst xs))):NM K H (.ref a) (.type "list")
 | tup {a:A3} {xs:A1 V} (e:H a=some (.tup xs)):NM K H (.ref a) (.type "tuple")
 | dK {a:A3} {kvs:A1 (JH×V)} (e:H a=some (.dK kvs)):NM K H (.ref a) (.type "dict")
 | dT {a:A3} {kvs:A1 (A1 JH×V)} (e:H a=some (.dT kvs)):NM K H (.ref a) (.type "dict")
 | ins {a C dx:A3} {fs:A1 (Str×V)} (e:H a=some (.ins C dx fs)) (cl:R6 K C) (ha:PySem.W.findIn K (.ref C) "__class__" = some (some (.builtin "object.__class__")))
   (hn:PySem.W.specialIn K (.builtin "object.__class__") "__get__" = some (some (.builtin "getset_descriptor.__get__"))) (htk:PySem.W.takesIn K (.builtin "object.__class__")=some true)
   (hm:PySem.W.mroIn K C (.type "object")=some true):NM K H (.ref a) (.ref C)
theorem Rr{x:V}{u t:A2}(I:Inv X pins σ H s)(d:RelV x u)(ty:NM X.K H x t)(e:PySem.W.kitOne X.K t c=some b)(h:∀v,Q (.bool b) { s with toks:=v }) :
  wpAny (model X.prog X.w) A (call (.builtin "isinstance") [u,c]) Q E s:=by
 cases ty with
 | non=>cases(show u=Value.none from d);exact WD PySem.W.kitx_none I.kIn VP e (λz=>nomatch z) h
 | bl y=>cases(show u=Value.bool y from d);exact WD PySem.W.kitx_bool I.kIn VP e (λz=>nomatch z) h
 | int i=>obtain⟨t,q⟩:=(show ∃t,u=Value.int i t from d);cases q;exact WD PySem.W.kitx_int I.kIn VP e (λz=>nomatch z) h
 | str y=>obtain⟨t,q⟩:=(show ∃t,u=Value.str y t from d);cases q;exact WD PySem.W.kitx_str I.kIn VP e (λz=>nomatch z) h
 | flt y=>obtain⟨t,q⟩:=(show ∃t,u=Value.float y t from d);cases q;exact WD PySem.W.kitx_float I.kIn VP e (λz=>nomatch z) h
 | @lst a k f =>
  cases(show u=Value.ref a from d);obtain⟨_,_,n,_,g⟩:=(show JB X.prog X.w H s.heap a (.lst k)from I.hok a _ f);exact WD PySem.W.kitx_list I.kIn ⟨_,g,rfl⟩ e (λz=>nomatch z) h
 | @frz a B k f =>
  cases(show u=Value.ref a from d);obtain⟨_,_,_,n,_,g⟩:=(show JB X.prog X.w H s.heap a (.frz B (.lst k))from I.hok a _ f);exact WD PySem.W.kitx_list I.kIn ⟨_,g,rfl⟩ e (λz=>nomatch z) h
 | @tup a k f =>
  cases(show u=Value.ref a from d);obtain⟨_,_,_,p⟩:=(show JB X.prog X.w H s.heap a (.tup k)from I.hok a _ f);obtain⟨o,g,l,_⟩:=p;exact WD PySem.W.kitx_tuple I.kIn ⟨o,g,l⟩ e (λz=>nomatch z) h
 | @dK a j f =>
  cases(show u=Value.ref a from d);obtain⟨_,_,N,_,p⟩:=(show JB X.prog X.w H s.heap a (.dK j)from I.hok a _ f);obtain⟨o,D,F,g,l,_⟩:=p;exact WD PySem.W.kitx_dict I.kIn ⟨o,g,l.1⟩ e (λz=>nomatch z) h
 | @dT a j f =>
  cases(show u=Value.ref a from d);obtain⟨_,_,k,_,o,D,F,g,l,_⟩:=(show JB X.prog X.w H s.heap a (.dT j)from I.hok a _ f);exact WD PySem.W.kitx_dict I.kIn ⟨o,g,l.1⟩ e (λz=>nomatch z) h
 | @ins a C P R f r G L m M =>
  cases(show u=Value.ref a from d);obtain⟨S,O,_⟩:=Fi I.hok f;obtain⟨T,J,_⟩:=O.look;exact WD (PySem.W.kitx_own (r.get _) r.hd G L m M) I.kIn J e (λz=>nomatch z) h
end
structure JY(k:Nat)(A:IY):Prop where
 hd:A.handled=none
 dp:A.depth+3*k+5<recursionLimit
 un:A.units+16*k+200<cLine
def JY.mono{j k:Nat}{A:IY}(r:JY k A)(h:j<=k):JY j A:=⟨r.hd,by have:=r.dp;lia,by have:=r.un;lia⟩
def JY.deeper{k:Nat}{A:IY}(r:JY (k+1) A)(a:RM):JY k (A.deeper a) :=
 ⟨r.hd,by have:=r.dp;show A.depth+1+3*k+5<_;lia,by have:=r.un;show A.units+3+16*k+200<_;lia⟩
def Ou{A:IY}{C:A3}{us:A1 A2}{a:A1 (Str×A2)}:(A.under (.builtin "type.__call__" ⟨.ref C::us,a⟩)).depth=A.depth+1:=by
 first | rfl | simp[Around.under,Code.weight,Code.isCreation,Code.isGuard,Code.isCaller,Code.frames,Code.isFrame,guardIds]
def Oy{A:IY}{C:A3}{us:A1 A2}{a:A1 (Str×A2)}:(A.under (.builtin "type.__call__" ⟨.ref C::us,a⟩)).units=A.units+1:=by
 first | rfl | simp[Around.under,Code.cUnits,Code.frames,Code.isFrame]
def JY.make{k:Nat}{A:IY}(r:JY (k+1) A)(C:A3)(us:A1 A2)(a:A1 (Str×A2)):JY k (A.under (.builtin "type.__call__" ⟨.ref C::us,a⟩)) :=
 ⟨r.hd,by have:=r.dp;rw[Ou];lia,by have:=r.un;rw[Oy];lia⟩
def JY.depth{k:Nat}{A:IY}(r:JY k A):A.depth<recursionLimit:=by have:=r.dp;lia
def JY.units{k:Nat}{A:IY}(r:JY k A):A.units+64<cLine:=by have:=r.un;lia
def TW:TA:=λ_ H Q=>Q [] H
def Ts(a:TE)(b:TA):TA:=λσ H Q=>a σ H λx c=>b σ c λd e=>Q (x::d) e
section
variable{X:Cx}{e:IW}{es:A1 IW}{te:TE}{t:TA}{pos:Pos}
theorem B1:PA X [] TW:=λ_ _ _ _ H Q I h=>Calls.spliced_nil ⟨[],H,I,.nil,h⟩
theorem A8(b:PE X e te)(c:PA X es t)(d:starEach (e::es) X.env =(false,eval e X.env)::starEach es X.env:=by rfl):PA X (e::es) (Ts te t):=by
 intro pos a s σ H Q I h;rw[d];show wpAny _ _ (spliced ((false,eval e X.env)::backTo pos (starEach es X.env))) _ _ s;refine Calls.spliced_cons (JN (b a s σ H _ I h) λu f ⟨x,g,i,j,k⟩=>?_);exact JN (c pos a f σ g _ i k) λq r ⟨l,m,n,o,p⟩=>⟨x::l,m,n,.cons j o,p⟩
def zKa(t:TA):TE:=λσ H Q=>t σ H λa b=>a.length<=sizeLine/\∀p,b p=none->Q (.ref p) (IT b p (.tup a))
def zKc(t:TA):TE:=λσ H Q=>t σ H λa b=>a.length<=sizeLine/\∀p,b p=none->Q (.ref p) (IT b p (.lst a))
theorem J8{g}(h:PA X es t):PE X (.Tuple es g pos) (zKa t):=by
 intro a s σ H Q I i;refine wpAny_Tuple_spliced (JN (h pos a s σ H _ I i) λj c ⟨k,d,f,r,z,q⟩=>⟨by rw[<-r.length];exact z,?_⟩);have l:d c.heap.objs.size=none:=f.hok.fresh (VQ _);refine⟨.ref c.heap.objs.size,IT d c.heap.objs.size (.tup k),f.laid (t':=c.toks) (λb u e=>AD _ e) (VQ _) ?_,rfl,q _ l⟩;exact⟨z,j,r,⟨_,AO _ rfl,rfl,_,rfl⟩⟩
theorem P8(h:PA X es t):PE X (.List es pos) (zKc t):=by
 intro a s σ H Q I g;refine wpAny_List_spliced (JN (h pos a s σ H _ I g) λi c ⟨j,d,f,r,z,q⟩=>⟨by rw[<-r.length];exact z,?_⟩);have k:d c.heap.objs.size=none:=f.hok.fresh (VQ _);refine⟨.ref c.heap.objs.size,IT d c.heap.objs.size (.lst j),f.laid (t':=c.toks) (λb u e=>AD _ e) (VQ _) ?_,rfl,q _ k⟩;exact⟨z,i,0,r,AO _ rfl⟩
end
abbrev Sp:=A1 V->Hp->VK->XK->Prop
abbrev SJ:=A1 RM->Hp->A4->XK->A2->A4->Prop
structure QR(P:A7)(w:F8)(K:VN)(mg:Str->A5 A2)(base:IU)(A:IY)(outer:A1 RM)(s:A4)(H:Hp):Prop where
 frames:A.frames=some outer
 mod:Mod K mg base
 bs:∀b o,base.get? b=some o->s.heap.get? b=some o/\H b=none
 bsz:base.objs.size<=s.heap.objs.size
 funs:s.heap.FunFrames base outer
 frf:∀b∈RA outer,H b=none
 hok:NE P w H s.heap
 bare:AllBare s.gens
def CE(a:A1 RM)(P:A7)(w:F8)(H:Hp)(s:A4)(Q:VK)(u:A2)(b:A4):Prop :=
 ∃v c,b.os=s.os/\AllBare b.gens/\Un (RA a) [] H c s.heap b.heap/\NE P w c b.heap/\RelV v u/\Q v c
def CR(c:SJ)(a:A1 RM)(P:A7)(w:F8)(H:Hp)(s:A4)(Q:VK)(E:XK)(r:Result)(b:A4):Prop :=
 match r with
 | .ok (.ret u)=>CE a P w H s Q u b
 | .ok _=>False
 | .error e=>c a H s E e b
structure IZ(P:A7)(w:F8)(K:VN)(mg:Str->A5 A2)(base:IU)(CX:SJ)(k:Nat)(f:A3)(fd:JC)(ps:A1 Str)(sp:Sp):Prop where
 len:∀vs H Q E,sp vs H Q E->vs.length=ps.length
 run:∀(A:IY) (outer:A1 RM) (s:A4) (H:Hp) (args:Args) (us:A1 A2) (vs:A1 V) (Q:VK) (E:XK),JY k A->QR P w K mg base A outer s H->BindsTo s fd args (ps.zip us)->I_ vs us->sp vs H Q E ->
  codeAny (model P w) A (.call (.ref f) args) (CR CX outer P w H s Q E) s
def IZ.mono{P:A7}{w:F8}{K:VN}{mg:Str->A5 A2}{base:IU}{b:SJ}{j k:Nat}{f:A3}{c:JC}{d:A1 Str}{sp:Sp}(F:IZ P w K mg base b j f c d sp)(h:j<=k) :
  IZ P w K mg base b k f c d sp:=⟨F.len,λA a s H args e g Q E i=>F.run A a s H args e g Q E (i.mono h)⟩
def QR.make{P:A7}{w:F8}{K:VN}{mg:Str->A5 A2}{base:IU}{A:IY}{a:A1 RM}{s:A4}{H:Hp}(e:QR P w K mg base A a s H)(C:A3)(us:A1 A2)(b:A1 (Str×A2)) :
  QR P w K mg base (A.under (.builtin "type.__call__" ⟨.ref C::us,b⟩)) a s H:=⟨by first | exact e.frames | (simpa [Around.under,Code.envs,Code.isFrame,pushEnvs] using e.frames),e.mod,e.bs,e.bsz,e.funs,e.frf,e.hok,e.bare⟩
section
variable{X:Cx}{pins:A1 (A3×Obj)}{σ:St}{H:Hp}{s s':A4}
theorem Inv.env0(I:Inv X pins σ H s):QR X.prog X.w X.K X.mg X.base X.A X.stack s H :=
 ⟨I.ok.frames,I.ok.mod,I.bs,VR I.ok.bsz I.sz,I.stack,I.stkFree,I.hok,I.bare⟩
theorem Inv.after{Q:VK}{u:A2}(I:Inv X pins σ H s)(h:CE X.stack X.prog X.w H s Q u s'):EP X pins σ Q u s':=by
 obtain⟨v,f,os,a,i,c,r,q⟩:=h;obtain⟨j,g,d,t,e⟩:=s';obtain rfl:e=s.os:=os;exact⟨v,f,I.call (h':=j) (g':=g) (d':=d) (t':=t) (ch:=[]) i c a (λb z=>absurd z (by simp)),r,q⟩
end
def zDc(sp:Sp)(a:A1 V)(E:XK)(t:TA):TE:=λσ H Q=>t σ H λb c=>sp (b++a) c Q E
def zFm(C:A3)(m:Str)(sp:Sp)(b:A1 V)(E:XK)(e:TE)(t:TA):TE:=λσ H Q=>e σ H λx c=>∃a f d,x = .ref a/\c a=some (.ins C f d)/\d.lookup m=none /\
 t σ c λg h=>sp (x ::(g++b)) h Q E
def zHz(C:A3)(sp:Sp)(b:A1 V)(E:XK)(t:TA):TE:=λσ H Q=>t σ H λd c=>∀x a,c x=none->c a=none->a≠x ->
 sp (.ref x ::(d++b)) (IT (IT c a (.own x)) x (.ins C a [])) (λv e=>v = .non/\Q (.ref x) e) E
def Binds(K:VN)(c:JC)(b:A1 Str)(ds:A1 A2):Prop :=
 ∀(s:A4) (a:A1 A2),K.In s.heap->(a++ds).length=b.length->BindsTo s c ⟨a,[]⟩ (b.zip (a++ds))
def Binds.all{K:VN}{b:JC}{a:A1 Str}(h:∀us:A1 A2,us.length=a.length->bindArgs b ⟨us,[]⟩=pure (a.zip us)):Binds K b a []:=λs us _ c=>by
 rw[CD]at c⊢;exact .of_eq (h us c)
def y4(c:SJ)(X:Cx)(E:XK):Prop:=∀(a:A1 (A3×Obj)) (σ:St) (H:Hp) (s:A4) (e:A2) (b:A4),Inv X a σ H s->c X.stack H s E e b->X.xe e b
section
variable{X:Cx}{CX:SJ}{k:Nat}{f C:A3}{fd:JC}{ps:A1 Str}{sp:Sp}{dvs:A1 V}{ds:A1 A2}{E:XK}{x m:Str}{p pos apos:Pos}{e o:IW}{es:A1 IW}{ta:TE}{t:TA}
theorem Ml{a:A1 (A3×Obj)}{σ:St}{H:Hp}{s:A4}{Q:VK}{us:A1 A2}{vs:A1 V}(F:IZ X.prog X.w X.K X.mg X.base CX k f fd ps sp)(d:JY k X.A)(g:Binds X.K fd ps ds)(i:I_ dvs ds)(j:y4 CX X E)
  (I:Inv X a σ H s) (r:I_ vs us) (h:sp (vs++dvs) H Q E):wpAny (model X.prog X.w) X.A (call (.ref f) us) (EP X a σ Q) X.xe s:=by
 have c:I_ (vs++dvs) (us++ds):=r.append i;have l:(us++ds).length=ps.length:=by rw[<-c.length];exact F.len _ _ _ _ h
 refine wpAny_call (codeAny_mono (F.run X.A X.stack s H ⟨us,[]⟩ (us++ds) (vs++dvs) Q E d I.env0 (g s us I.kIn l) c h) λr m b=>?_);cases r with
 | error e=>exact j a σ H s e m I b
 | ok n =>
  cases n with
  | ret u=>exact I.after b
  | next=>exact VO b
  | brk=>exact VO b
  | cont=>exact VO b
theorem zAq(F:IZ X.prog X.w X.K X.mg X.base CX k f fd ps sp)(g:JY k X.A)(i:Gl X x)(j:X.mg x=some (.ref f))(l:PySem.W.keepIn X.K (.ref f)=true)(m:Binds X.K fd ps ds)(n:I_ dvs ds)(o:y4 CX X E)
  (u:PA X (e::es) t) (b:(x ==("__debug__":Str))=false:=by decide) (v:starEach (e::es) X.env =(false,eval e X.env)::starEach es X.env:=by rfl) (c:(backTo pos (starEach es X.env)).any (·.1)=false:=by rfl) :
  PE X (.Call (.Name x p) (e::es) [] pos) (zDc sp dvs E t):=by
 intro a s σ H Q I h;refine EM (Kq I i j ?_ b);refine PySem.W.callWith_K (h₀:=X.base) I.ok.mod.kin l (JN (u pos a s σ H _ I h) λy z ⟨B,C,d,r,q⟩=>⟨d.kIn,?_⟩) v c;exact Ml F g m n o d r q
theorem E6{pl:Sem Bool}(v:PE X o ta)(c:R6 X.K C)(i:TB X.K C m f)(F:IZ X.prog X.w X.K X.mg X.base CX k f fd ps sp)(y:JY k X.A)(z:Binds X.K fd ps ds)(B:I_ dvs ds)(D:y4 CX X E)(G:PA X (e::es) t)
  (d:starEach (e::es) X.env =(false,eval e X.env)::starEach es X.env:=by rfl) (g:(backTo pos (starEach es X.env)).any (·.1)=false:=by rfl)
  (J:eval (.Call (.Attribute o m apos) (e::es) [] pos) X.env =(do
   let j <-eval o X.env
   standAt apos.atName
   let(f,first) <-holding [j] (getMethod j m pl)
   callWith pos f first (backTo pos (starEach (e::es) X.env)) (backToKw pos (keywordEach [] X.env))):=by rfl) :
  PE X (.Call (.Attribute o m apos) (e::es) [] pos) (zFm C m sp dvs E ta t):=by
 intro b s σ H Q I h;refine PySem.W.methodCall_KW (pl:=pl) (JN (v b s σ H _ I h) λu L ⟨x,M,n,N,a,S,T,O,P,l,q⟩=>?_) J;subst O;obtain rfl:u=Value.ref a:=N;refine De n P c i l ?_;refine PySem.W.callWith_K (first:=[.ref a]) (h₀:=X.base) I.ok.mod.kin i.kp (JN (G pos b L σ M _ n q) λus U ⟨vs,V,p,r,R⟩=>⟨p.kIn,?_⟩) d g;exact Ml (us:=.ref a::us) (vs:=.ref a::vs) F y z B D p (.cons rfl r) R
theorem Wf{pl:Sem Bool}(i:PE X o ta)(c:R6 X.K C)(e:TB X.K C m f)(F:IZ X.prog X.w X.K X.mg X.base CX k f fd ps sp)(j:JY k X.A)(n:Binds X.K fd ps ds)(p:I_ dvs ds)(r:y4 CX X E)
  (t:eval (.Call (.Attribute o m apos) [] [] pos) X.env =(do
   let g <-eval o X.env
   standAt apos.atName
   let(f,first) <-holding [g] (getMethod g m pl)
   callWith pos f first (backTo pos (starEach [] X.env)) (backToKw pos (keywordEach [] X.env))):=by rfl) :
  PE X (.Call (.Attribute o m apos) [] [] pos) (zFm C m sp dvs E ta TW):=by
 intro b s σ H Q I h;refine PySem.W.methodCall_KW (pl:=pl) (JN (i b s σ H _ I h) λu B ⟨x,D,d,v,a,G,J,y,z,l,q⟩=>?_) t;subst y;obtain rfl:u=Value.ref a:=v;refine De d z c e l ?_;exact PySem.W.callWith_K0 (first:=[.ref a]) d.kIn e.kp (Ml (us:=[.ref a]) (vs:=[.ref a]) F j n p r d (.cons rfl .nil) q)
structure Mk(K:VN)(C f:A3):Prop where
 makes:PySem.W.makesIn K C=true
 init:PySem.W.findIn K (.ref C) "__init__" = some (some (.ref f))
 fn:PySem.W.isFn K (.ref f)=true
 kp:PySem.W.keepIn K (.ref C)=true
theorem Xd{a:A1 (A3×Obj)}{σ:St}{H:Hp}{s:A4}{Q:VK}{us:A1 A2}{vs:A1 V}(M:Mk X.K C f)(F:IZ X.prog X.w X.K X.mg X.base CX k f fd ps sp)(j:JY (k+1) X.A)(l:Binds X.K fd ps ds)(m:I_ dvs ds)
  (n:y4 CX X E) (I:Inv X a σ H s) (r:I_ vs us)
  (h:∀x c,H x=none->H c=none->c≠x->sp (.ref x ::(vs++dvs)) (IT (IT H c (.own x)) x (.ins C c [])) (λv o=>v = .non/\Q (.ref x) o) E) :
  wpAny (model X.prog X.w) X.A (call (.ref C) us) (EP X a σ Q) X.xe s:=by
 have g:=h (s.heap.objs.size+1) s.heap.objs.size (I.hok.fresh (EO _)) (I.hok.fresh (VQ _)) (AV (FC _));have d:=Inv.made (C:=C) I;have i:I_ (V.ref (s.heap.objs.size+1) ::(vs++dvs)) (Value.ref (s.heap.objs.size+1) ::(us++ds)):=.cons rfl (r.append m);have p:(Value.ref (s.heap.objs.size+1)::us++ds).length=ps.length:=by
  have e:=i.length;rw[F.len _ _ _ _ g]at e;exact e.symm
 refine wpAny_call (Yn (f:=f) I.kIn M.makes M.init (beq_iff_eq.mp M.fn) (codeAny_mono (F.run _ X.stack _ _ ⟨Value.ref (s.heap.objs.size+1)::us,[]⟩ (Value.ref (s.heap.objs.size+1) ::(us++ds)) _ _ E (j.make C us [])
  (d.env0.make C us []) (l _ (Value.ref (s.heap.objs.size+1)::us) d.kIn p) i g) λr q b=>?_))
 cases r with
 | error e=>exact n a σ _ _ e q d b
 | ok t =>
  cases t with
  | ret u =>
   obtain⟨v,y,z,B,D,G⟩:=d.after b;subst D;exact⟨B,⟨V.ref (s.heap.objs.size+1),y,z,rfl,G⟩⟩
  | next=>exact VO b
  | brk=>exact VO b
  | cont=>exact VO b
theorem Jn(M:Mk X.K C f)(F:IZ X.prog X.w X.K X.mg X.base CX k f fd ps sp)(g:JY (k+1) X.A)(i:Gl X x)(j:X.mg x=some (.ref C))(l:Binds X.K fd ps ds)(m:I_ dvs ds)(n:y4 CX X E)
  (o:PA X (e::es) t) (b:(x ==("__debug__":Str))=false:=by decide) (u:starEach (e::es) X.env =(false,eval e X.env)::starEach es X.env:=by rfl) (c:(backTo pos (starEach es X.env)).any (·.1)=false:=by rfl) :
  PE X (.Call (.Name x p) (e::es) [] pos) (zHz C sp dvs E t):=by
 intro a s σ H Q I h;refine EM (Kq I i j ?_ b);refine PySem.W.callWith_K (h₀:=X.base) I.ok.mod.kin M.kp (JN (o pos a s σ H _ I h) λv y ⟨z,B,d,r,q⟩=>⟨d.kIn,?_⟩) u c;exact Xd M F g l m n d r q
end
structure IR(N P:A1 Str)(sc:JX):Prop where
 kind:sc.kind = .function
 co:sc.isCoroutine=false
 gen:sc.isGenerator=false
 nd:N.Nodup
 pre:N.take P.length=P
 par:∀x∈P,sc.names.lookup x=some .local\/sc.names.lookup x=some .cell
 nofree:∀y∈sc.names,y.2≠ .free
def Ii{kindOf:Str->A5 KQ}{x:Str}:∀{a:A1 (Str×A2)} {m:Str->A5 A2},(∀v,(x,v)∉a)->bindL kindOf a m x=m x
 | [],_,_=>rfl
 | (n,v)::r,m,h=>by
  unfold bindL;rw[Ii λw b=>h w (BG _ b)];split
  .have:x≠n:=by rintro rfl;exact h v BN
   simp[this]
  .rfl
def Jd{kindOf:Str->A5 KQ}{x:Str}:∀{a:A1 (Str×A2)} {m:Str->A5 A2},(∀v,(x,v)∉a)->bindC kindOf a m x=m x
 | [],_,_=>rfl
 | (n,v)::r,m,h=>by
  unfold bindC;rw[Jd λw b=>h w (BG _ b)];split
  .rfl
  .have:x≠n:=by rintro rfl;exact h v BN
   simp[this]
def Jc{kindOf:Str->A5 KQ}{x:Str}{v:A2}:∀{P:A1 Str} {vs:A1 A2} {i:Nat} {m:Str->A5 A2},P.Nodup->P[i]?=some x->vs[i]?=some v->kindOf x=some .local ->
  bindL kindOf (P.zip vs) m x=some v
 | [],_,_,_,_,h,_,_=>by simp at h
 | _::_,[],_,_,_,_,h,_=>by simp at h
 | p::P,w::vs,0,m,c,a,b,d=>by
  simp at a b;subst a;subst b;show bindL kindOf ((p,w)::P.zip vs) m p=_;unfold bindL;rw[Ii λv e=>(DC.mp c).1 (FZ e).1,AQ d];simp
 | p::P,w::vs,i+1,m,c,a,b,d=>by
  show bindL kindOf ((p,w)::P.zip vs) m x=_;unfold bindL;exact Jc (i:=i) (DC.mp c).2 (by simpa using a) (by simpa using b) d
def Gx{kindOf:Str->A5 KQ}{x:Str}{v:A2}:∀{P:A1 Str} {vs:A1 A2} {i:Nat} {m:Str->A5 A2},P.Nodup->P[i]?=some x->vs[i]?=some v->kindOf x≠some .local ->
  bindC kindOf (P.zip vs) m x=some v
 | [],_,_,_,_,h,_,_=>by simp at h
 | _::_,[],_,_,_,_,h,_=>by simp at h
 | p::P,w::vs,0,m,c,a,b,d=>by
  simp at a b;subst a;subst b;show bindC kindOf ((p,w)::P.zip vs) m p=_;unfold bindC;rw[Jd λv e=>(DC.mp c).1 (FZ e).1,AN d];simp
 | p::P,w::vs,i+1,m,c,a,b,d=>by
  show bindC kindOf ((p,w)::P.zip vs) m x=_;unfold bindC;exact Gx (i:=i) (DC.mp c).2 (by simpa using a) (by simpa using b) d
def Bz(N:A1 Str)(vs:A1 V):St:=vs.map some++List.replicate (N.length-vs.length) none
def Vz(g:SJ)(P:A7)(w:F8)(K:VN)(mg:Str->A5 A2)(base:IU)(N:A1 Str)(b:Str)(a:JX)(f:A3)(d:A2)(A:IY)(outer:A1 RM)(s:A4)(H:Hp)(E:XK):Cx where
 prog:=P
 w:=w
 K:=K
 mg:=mg
 base:=base
 A:=A.deeper (envOfC b a s.heap.objs.size f d)
 N:=N
 s₀:=s
 H₀:=H
 env:=envOfC b a s.heap.objs.size f d
 outer:=outer
 stack:=envOfC b a s.heap.objs.size f d::outer
 ex:=[]
 calm:=true
 fn:=λ_=>true
 pn:=[]
 xe:=λe h=>wpAny (model P w) (A.deeper (envOfC b a s.heap.objs.size f d)) (leaving (envOfC b a s.heap.objs.size f d) e) (λ_ c=>g outer H s E e c) (λi c=>g outer H s E i c) h
def Mj{a:JX}{n:Nat}{x:Str}(h:a.names.lookup x=some .cell):∃c,(cellsFrom n a.names []).lookup x=some c:=by
 have q:=PySem.W.cellsFrom_some a.names n [] (.inl h);exact FF.mp q
def Vf{I:SJ}{P:A7}{w:F8}{K:VN}{mg:Str->A5 A2}{base:IU}{N o:A1 Str}{j:Str}{d:JX}{f:A3}{D:A2}{A:IY}{g:A1 RM}{s J:A4}{H:Hp}{E:XK}{us:A1 A2}{vs:A1 V}
  (S:IR N o d) (O:A.handled=none) (m:QR P w K mg base A g s H) (U:vs.length=o.length) (r:I_ vs us)
  (x:InCallC s s.heap.objs.size (bindL (envOfC j d s.heap.objs.size f D).kindOf (o.zip us) λ_=>none) (cellsFrom (s.heap.objs.size+1) d.names []) (bindC (envOfC j d s.heap.objs.size f D).kindOf (o.zip us) λ_=>none) J) :
  Inv (Vz I P w K mg base N j d f D A g s H E) [] (Bz N vs) H J:=by
 have Q:o.length<=N.length:=by have:=congrArg List.length S.pre;rw[AS]at this;lia
 obtain⟨F,X,rfl,L⟩:=x.done;have t:∀b:A3,b∉(Vz I P w K mg base N j d f D A g s H E).ex:=λb z=>absurd (show b∈([]:A1 A3)from z) (by simp);refine⟨⟨m.mod,S.kind,rfl,rfl,VQ _,λy z c F l=>?_,λy hy=>?_,λy c _ h=>?_,λ_=>O,Around.frames_deeper m.frames,.inr ⟨rfl,rfl⟩,λb z=>absurd z (t b),m.bs,m.bsz,λb _ _=>t b,λb z=>absurd z (t b),m.funs,m.frf⟩,
  rfl,m.bare,Un.kept L,⟨_,x.toInCall.ns,λi y v F l Y=>?_⟩,λy c h=>⟨_,x.cell y c h⟩,m.hok.fresh (VQ _),λy c h=>?_,λp B=>absurd (show p∈([]:A1 (A3×Obj))from B) (by simp),m.hok.kept L,?_⟩
 .exact name_of_addr x.apart (PySem.mem_of_lookup F) (PySem.mem_of_lookup l)
 .have hy:d.names.lookup y=some .cell\/d.names.lookup y=some .free:=hy;rcases hy with hy | hy
  .exact Mj hy
  .exact absurd rfl (S.nofree _ (PySem.mem_of_lookup hy))
 .exact DU (x.above y c (PySem.mem_of_lookup h))
 .have G:i<vs.length:=by
   unfold Bz at l;by_cases G:i<vs.length
   .exact G
   .rw[DE (by simpa using G)]at l;rw[List.getElem?_replicate]at l;split at l<;>cases l
  have R:vs[i]?=some v:=by
   unfold Bz at l;rw[DI (by simpa using G),AI]at l;cases e:vs[i]? with
   | none=>rw[e]at l;cases l
   | some a=>rw[e]at l;cases l;rfl
  obtain⟨u,M,T⟩:=r.get R;have B:o[i]?=some y:=by
   rw[<-S.pre,DV (by lia)];exact F
  have C:o.Nodup:=by rw[<-S.pre];exact S.nd.sublist (ES _ _)
  refine⟨u,T,?_⟩;rcases S.par y (AM B)with k | k
  .exact .inl ⟨k,Jc C B M k⟩
  .obtain⟨c,e⟩:=Mj (n:=s.heap.objs.size+1) k;refine .inr ⟨.inl k,c,e,?_⟩;have q:=x.cell y c e;rw[Gx C B M (by show d.names.lookup y≠_;rw[k];decide)]at q;exact q
 .exact m.hok.fresh (DU (x.above y c (PySem.mem_of_lookup h)))
 .unfold Bz;show _=N.length;rw[AW,AB,HB];lia
def zGb{F:SJ}{P:A7}{w:F8}{K:VN}{mg:Str->A5 A2}{base:IU}{k:Nat}{f:A3}{name d:Str}{h:Arguments}{i:A1 JD}{a:JX}{X kV p Y g ct oc:A2}{Z od:A5 A3}
  {L:CM (A5 A2)} {N G:A1 Str} {sp:Sp} (lk:K.lookup f=some ⟨oc,od,.func (PySem.W.fnOf name d h i a X kV p Y Z g ct),L⟩) (M:PySem.W.codeIn K g d=true) (S:IR N G a)
  (z:∀vs H Q E,sp vs H Q E->vs.length=G.length)
  (j:∀(A:IY) (c:A1 RM) (s:A4) (H:Hp) (vs:A1 V) (Q:VK) (E:XK),JY k (A.deeper (envOfC d a s.heap.objs.size f g))->sp vs H Q E ->
   ∃t,RL (Vz F P w K mg base N d a f g A c s H E) i t/\t { nx:=λ_ H'=>Q .non H',rt:=Q } (Bz N vs) H) :
  IZ P w K mg base F (k+1) f (PySem.W.fnOf name d h i a X kV p Y Z g ct) G sp:=by
 refine⟨z,λA c s H args us vs Q E O B hb r C=>?_⟩;have hl:=z _ _ _ _ C;have KX:K.In s.heap:=B.mod.kin.keeps λb o e=>(B.bs b o e).1;have R:s.heap.NoLimit:=B.mod.nolimit.keeps λb o e=>(B.bs b o e).1;have l:∀y∈G.zip us,a.names.lookup y.1=some .local\/(a.names.lookup y.1=some .cell/\((cellsFrom (s.heap.objs.size+1) a.names []).lookup y.1).isSome=true):=λ⟨n,v⟩ hy=>by
  rcases S.par n (FZ hy).1 with q | q
  .exact .inl q
  .exact .inr ⟨q,PySem.W.cellsFrom_some _ _ _ (.inl q)⟩
 refine codeAny_call_function O.depth (KX _ _ lk) rfl S.co S.gen rfl (PySem.W.codeRec_of KX M) (hb _ _ _ _ ?_);refine wpAny_newFunctionEnv_cells S.kind l λenv he s1 x=>?_;subst he;refine⟨R.keeps x.toInCall.keep,codeAny_func ?_⟩;obtain⟨t,ht,hq⟩:=j A c s H vs Q E (O.deeper _) C;have I:Inv (Vz F P w K mg base N d a f g A c s H E) [] (Bz N vs) H s1:=Vf S O.hd B hl r x;refine CI (ht [] s1 (Bz N vs) H _ I hq) (λfl T m=>?_) λe T m=>m;have D:∀{σ':St} {H':Hp} {v:V} {u:A2},Inv (Vz F P w K mg base N d a f g A c s H E) [] σ' H' T->RelV v u->Q v H'->CE c P w H s Q u T :=
  fun{σ' H' v u} J U q=>⟨v,H',J.os,J.bare,J.base,J.hok,U,q⟩
 cases fl with
 | ret u =>
  obtain⟨v,σ',H',J,U,q⟩:=m;exact D J U q
 | next =>
  obtain⟨σ',H',J,q⟩:=m;exact D (v:=V.non) (u:=Value.none) J rfl q
 | brk =>
  obtain⟨_,_,_,q⟩:=m;exact VO q
 | cont =>
  obtain⟨_,_,_,q⟩:=m;exact VO q
section
variable{X:Cx}{x:Str}{p pos:Pos}{e:IW}{es:A1 IW}{t:TA}{id T:String}{r:A1 V->Hp->VK->Prop}
def UN(r:A1 V->Hp->VK->Prop)(t:TA):TE:=λσ H Q=>t σ H λa b=>r a b Q
theorem Xe(d:K3 X (.builtin id) r)(f:Gl X x)(g:X.mg x=none)(i:bootBuiltins x=some (.builtin id))(j:PA X (e::es) t)(k:x≠ "__name__":=by decide)(b:(x ==("__debug__":Str))=false:=by decide)
  (l:starEach (e::es) X.env =(false,eval e X.env)::starEach es X.env:=by rfl) (c:(backTo pos (starEach es X.env)).any (·.1)=false:=by rfl):PE X (.Call (.Name x p) (e::es) [] pos) (UN r t):=by
 intro a s σ H Q I h;refine EM (W9 I f g i ?_ k b);exact PyProof.Rows.callWith_builtin1 (JN (j pos a s σ H _ I h) λm n ⟨o,q,u,v,w⟩=>d a n σ q o m Q u v w) l c
theorem Rg(d:K3 X (.type T) r)(f:Gl X x)(g:X.mg x=none)(i:bootBuiltins x=some (.type T))(j:PA X (e::es) t)(k:x≠ "__name__":=by decide)(b:(x ==("__debug__":Str))=false:=by decide)
  (l:starEach (e::es) X.env =(false,eval e X.env)::starEach es X.env:=by rfl) (c:(backTo pos (starEach es X.env)).any (·.1)=false:=by rfl):PE X (.Call (.Name x p) (e::es) [] pos) (UN r t):=by
 intro a s σ H Q I h;refine EM (W9 I f g i ?_ k b);exact WC (JN (j pos a s σ H _ I h) λm n ⟨o,q,u,v,w⟩=>d a n σ q o m Q u v w) l c
theorem Dq(c:K3 X (.type T) r)(d:Gl X x)(e:X.mg x=none)(f:bootBuiltins x=some (.type T))(g:x≠ "__name__":=by decide)(b:(x ==("__debug__":Str))=false:=by decide) :
  PE X (.Call (.Name x p) [] [] pos) (UN r TW):=by
 intro a s σ H Q I h;refine EM (W9 I d e f ?_ g b);exact PyProof.Rows.callWith_type0 (c a s σ H [] [] Q I .nil h)
end
end L2
namespace HT
open PySem PyProof.Rows
def lexLt:A1 Int->A1 Int->Bool
 | [],[]=>false
 | [],_::_=>true
 | _::_,[]=>false
 | x::a,y::b=>if x=y then lexLt a b else decide (x<y)
def Qc(x y:Int)(xs a:A1 Int):lexLt (x::xs) (y::a)=if x=y then lexLt xs a else decide (x<y):=rfl
def Gb:lexLt [] []=false:=rfl
def Cq(y:Int)(a:A1 Int):lexLt [] (y::a)=true:=rfl
def Cs(x:Int)(xs:A1 Int):lexLt (x::xs) []=false:=rfl
def Yf(A:IY)(s:A4)(a:Int)(t:Tok)(c:Int)(u:Tok):∃e,SeqAt.EqAt A s (.int a t) (.int c u) e/\(e=true↔a=c) :=
 ⟨(a == c),SeqAt.EqAt.int_int a t c u,by simp⟩
def Wc(A:IY)(s:A4)(a:Int)(t:Tok)(c:Int)(u:Tok)(prog:A7)(w:F8)(E:A2->A4->Prop)(Q:A2->A4->Prop)(h:Q (.bool (decide (a<c))) s) :
  wpAny (model prog w) A (richCompare .Lt (.int a t) (.int c u)) Q E s :=
 (PyProof.Rows.lt_int h:wpAny (model prog w) A (compareOp .Lt (.int a t) (.int c u)) Q E s)
section
open PySem.SeqAt
open PySem.AutoSeq1 (wpAny_loadPart')
open PySem.MeetsSeq PySem.MeetsSeq2 PySem.MeetsSeq3
def Fc(l b:A3)(items f:CM A2)(n T:Nat)(U L:A5 A3)(V M:CM (A5 A2))(ns G:A1 Int)(hi:IntsAre items.toList ns)(Q:IntsAre f.toList G) :
  Meets (Builtin.«tuple.__lt__» ⟨[.ref l,.ref b],[]⟩)
   (λ_ R s=>s.heap.get? l=some { cls:=.type "tuple",dict:=U,data:=.seq items n,slots:=V }/\s.heap.get? b=some { cls:=.type "tuple",dict:=L,data:=.seq f T,slots:=M } /\
    R (.ok (.ret (.bool (lexLt ns G)))) s) :=
 .of_wp λp w A R s h=>by
  obtain⟨H,g,d,I,os⟩:=s;obtain⟨W,X,h⟩:=h;have f2:=AutoSeq1.sub_tuple_tuple;have z1:items.size=ns.length:=by rw[<-hi.length];simp
  have z2:f.size=G.length:=by rw[<-Q.length];simp
  wp_walk using CP W,CP X,wpAny_forIn_list _ (λr b N=>b.1=none/\N =⟨H,g,d,I,os⟩/\∃(J K:A1 A2) (j k:A1 Int),r=J.zip K /\
   IntsAre J j/\IntsAre K k/\j.length+f.size=k.length+items.size/\R (.ok (.ret (.bool (lexLt j k)))) ⟨H,g,d,I,os⟩) _
  case turn =>
   rintro⟨y,x⟩ r b N ⟨B,rfl,J,K,j,k,m,C,o,i,v⟩;cases C with
   | nil=>rw[List.zip_nil_left]at m;cases m
   | cons a t E =>
    cases o with
    | nil=>rw[List.zip_nil_right]at m;cases m
    | cons c u F =>
     rw[GT]at m;injection m with O D;injection O with Y Z;subst Y Z;rw[Qc]at v;simp only[BK]at i;obtain⟨e,he,z⟩:=Yf A.in1 ⟨H,g,d,I,os⟩ a t c u;refine AA (he p w _ _ ?_);cases e with
     | true =>
      rw[AQ (z.mp rfl)]at v;wp_walk;exact⟨rfl,rfl,_,_,_,_,D,E,F,by lia,v⟩
     | false =>
      rw[AN (λq=>absurd (z.mpr q) BD)]at v;have P:=Wc A.in1 ⟨H,g,d,I,os⟩ a t c u p w;wp_walk using P;exact⟨_,rfl,by simpa using v⟩
  case fin =>
   rintro⟨b1,b2⟩ N ⟨B,rfl,J,K,j,k,m,C,o,i,v⟩;simp only at B;subst B;have S:lexLt j k=decide (items.size<f.size):=by
    cases C with
    | nil =>
     cases o with
     | nil =>
      simp only[E_]at i;rw[Gb];exact(BA (by lia)).symm
     | cons c u hw =>
      simp only[E_,BK]at i;rw[Cq];exact(AX (by lia)).symm
    | cons a t S =>
     cases o with
     | nil =>
      simp only[E_,BK]at i;rw[Cs];exact(BA (by lia)).symm
     | cons c u hw =>
      rw[GT]at m;cases m
   rw[S]at v;wp_walk;exact⟨_,rfl,by simpa [Builtin.Tuple.tupleCompareSizes] using v⟩
  case h =>
   exact⟨rfl,rfl,items.toList,f.toList,ns,G,rfl,hi,Q,by lia,h⟩
end
section
variable{prog:A7}{w:F8}{A:IY}{E:A2->A4->Prop}{s:A4}
theorem RN{l b:A3}{items a:CM A2}{ns c:A1 Int}{Q:A2->A4->Prop}(q:IsTup s.heap l items)(r:IsTup s.heap b a)(hi:IntsAre items.toList ns)(t:IntsAre a.toList c)
  (u:A.units<cLine) (h:Q (.bool (lexLt ns c)) s):wpAny (model prog w) A (compareOp .Lt (.ref l) (.ref b)) Q E s:=by
 obtain⟨⟨v,y,j,z⟩,k,m,n,o⟩:=id q;obtain⟨⟨p,g,data2,i⟩,d,e,B,f⟩:=id r;simp only at m o e f;subst m o e f;exact richCompare_meets_room (op:=.Lt) ⟨_,k,rfl⟩ ⟨_,d,rfl⟩ PySem.F.slot_tuple_lt PySem.F.entry_tuple_lt (PySem.F.args_tuple_lt_2 _ _) (Fc l b items a n B y g z i ns c hi t)
  ⟨k,d,show Value.bool (lexLt ns c)≠Value.notImplemented/\Q (.bool (lexLt ns c)) s from⟨(λx=>nomatch x),h⟩⟩ u
theorem S1{t b:A3}{vs a:A1 A2}{Q:A2->A4->Prop}(u:IsTup s.heap t vs.toArray)(v:IsTup s.heap b a.toArray)(k:vs≠[])
  (h1:a = []->Q (.ref t) s) (h2:a≠[]->Q (.ref s.heap.objs.size) { s with heap:=s.heap.push { cls:=.type "tuple",data:=.seq (vs++a).toArray } })
  (hsz:vs.length+a.length<=sizeLine):wpAny (model prog w) A (binaryOp .Add (.ref t) (.ref b)) Q E s:=by
 obtain⟨⟨cls,l,data,m⟩,i,o,n,p⟩:=id u;obtain⟨⟨q,d,data2,f⟩,c,g,r,h⟩:=id v;simp only at o p g h;subst o p g h;have e:vs.toArray++a.toArray =(vs++a).toArray:=by simp
 by_cases j:a = []
 .exact concat_meets ⟨_,i,rfl⟩ ⟨_,c,rfl⟩ noFill_tuple_add seq_tuple_add V_ WA (PySem.F.args_tuple_add_2 _ _)
   (tuple_addW1 t b vs.toArray a.toArray n r l d m f (by simpa using k) (by simp[j])) ⟨i,c,h1 j⟩
 .refine concat_meets ⟨_,i,rfl⟩ ⟨_,c,rfl⟩ noFill_tuple_add seq_tuple_add V_ WA (PySem.F.args_tuple_add_2 _ _)
   (tuple_addW2 t b vs.toArray a.toArray n r l d m f (by simpa using k) (by simpa using j) (by rw[AL,AL];exact hsz)) ⟨i,c,?_⟩
  rw[e];exact h2 j
def KY(n d:Nat):A5 Int->Nat
 | none=>d
 | some v=>if v<0 then(v +(n:Int)).toNat else min v.toNat n
theorem QX(n d:Nat):KY n d none=d:=rfl
theorem SV(n d k:Nat):KY n d (some (k:Int))=min k n:=by
 show(if(k:Int)<0 then((k:Int) +(n:Int)).toNat else min (k:Int).toNat n)=min k n;rw[AN (by lia),DD]
theorem zHc(n d:Nat)(b:d<=n)(o:A5 Int):KY n d o<=n:=by
 cases o with
 | none=>exact b
 | some v =>
  show(if v<0 then(v +(n:Int)).toNat else min v.toNat n)<=n;by_cases a:v<0
  .rw[AQ a];lia
  .rw[AN a];exact Nat.min_le_right _ _
theorem Vk(v:Int)(n d:Nat):(if v<0 then max (v +(n:Int)) 0 else min v (n:Int)) =((KY n d (some v):Nat):Int):=by
 show(if v<0 then max (v +(n:Int)) 0 else min v (n:Int)) =(((if v<0 then(v +(n:Int)).toNat else min v.toNat n):Nat):Int);by_cases a:v<0
 .simp only[AQ a];lia
 .simp only[AN a];lia
theorem Pg(lo hi:A5 Int)(n:Nat):Builtin.Slice.sliceAdjust lo hi 1 (n:Int) =(((KY n 0 lo:Nat):Int),((KY n n hi:Nat):Int)):=by
 have a:¬((1:Int)<0):=by lia
 unfold Builtin.Slice.sliceAdjust;simp only[a,CT];refine Prod.ext ?_ ?_
 .cases lo with
  | none=>rfl
  | some v=>exact Vk v n 0
 .cases hi with
  | none=>rfl
  | some v=>exact Vk v n n
theorem Po(i j:Nat):Builtin.Slice.slicePlaces (i:Int) (j:Int) 1=j-i:=by
 unfold Builtin.Slice.slicePlaces;have a:(1:Int)>0:=by lia
 simp only[a,FE,Int.ediv_one];split<;>lia
theorem Di{v:A2}{o:A5 Int}{Q:A5 Int->A4->Prop}(p:IsPart v o)(h:Q o s):wpAny (model prog w) A (Builtin.Slice.slicePartIndex v) Q E s:=by
 cases p with
 | none=>exact slicePart_none h
 | int i t=>exact slicePart_int h
theorem An{e:A3}{c d:A2}{lo hi:A5 Int}{n:Nat}{Q:Int×Int×Nat->A4->Prop}(f:s.heap.IsSliceOf e c d .none)(pl:IsPart c lo)(g:IsPart d hi)
  (h:Q (((KY n 0 lo:Nat):Int),1,KY n n hi-KY n 0 lo) s):wpAny (model prog w) A (Builtin.Slice.sliceApplied (.ref e) (pure (n:Int))) Q E s:=by
 obtain⟨os,a,i,b⟩:=id f;unfold Builtin.Slice.sliceApplied Builtin.Slice.sliceFields;refine AA (AA (CC a b (x:=c) rfl (AA (CC a b (x:=d) rfl (AA (CC a b (x:=.none) rfl (AF ?_)))))));refine AA (slicePart_none ?_);show wpAny _ _ (if((1:Int) == 0)=true then _ else _) _ _ s;rw[AN (by decide)];refine AA (Di pl (AA (Di g (AA (AF ?_)))));show wpAny _ _ (match Builtin.Slice.sliceAdjust lo hi 1 (n:Int)with | (lo,hi)=>pure (lo,(1:Int),Builtin.Slice.slicePlaces lo hi 1)) _ _ s;rw[Pg lo hi n];show wpAny _ _ (pure (((KY n 0 lo:Nat):Int),(1:Int),Builtin.Slice.slicePlaces ((KY n 0 lo:Nat):Int) ((KY n n hi:Nat):Int) 1)) _ _ s;rw[Po];exact AF h
theorem Yo(xs:CM A2)(i k:Nat):((List.range k).filterMap λ(m:Nat)=>xs[((i:Int) +(m:Int)*1).toNat]?).toArray =((xs.toList.drop i).take k).toArray:=by
 have e:(λ(m:Nat)=>xs[((i:Int) +(m:Int)*1).toNat]?)=λm=>xs[i+m]?:=by
  funext m;have:((i:Int) +(m:Int)*1).toNat=i+m:=by lia
  rw[this]
 rw[e];have:=pick_run xs i k;rw[List.filterMap_map]at this;have a:((λx=>xs[x]?)∘λx=>i+x)=λm=>xs[i+m]?:=rfl;rw[a]at this;rw[this]
theorem OM{t c:A3}{items:CM A2}{i j:A2}{lo hi:A5 Int}{Q:A2->A4->Prop}(b:IsTup s.heap t items)(k:s.heap.IsSliceOf c i j .none)(pl:IsPart i lo)(l:IsPart j hi)
  (hw:¬(KY items.size 0 lo=0/\KY items.size items.size hi=items.size))
  (h:Q (.ref s.heap.objs.size) { s with heap:=s.heap.push { cls:=.type "tuple",data:=.seq ((items.toList.drop (KY items.size 0 lo)).take (KY items.size items.size hi-KY items.size 0 lo)).toArray } })
  (hsz:items.size<=sizeLine):wpAny (model prog w) A (getItem (.ref t) (.ref c)) Q E s:=by
 have a:sizeOk (.seq ((items.toList.drop (KY items.size 0 lo)).take (KY items.size items.size hi-KY items.size 0 lo)).toArray):=by
  show((items.toList.drop (KY items.size 0 lo)).take (KY items.size items.size hi-KY items.size 0 lo)).toArray.size<=sizeLine;rw[AL,AS,DJ,BF];lia
 have o:KY items.size items.size hi<=items.size:=zHc _ _ (VQ _) hi;obtain⟨os,d,e,n⟩:=id k;have f:s.TypeIs (.ref c) "slice":=⟨os,d,e⟩;unfold getItem
 try with_reducible refine BS ?_
 first | refine AA (AF ?_) | skip
 refine AA (wpAny_sequenceKey b.typeIs (by decide) ?_);refine AA (DH (name:=Str.ofString "__getitem__") b.typeIs PyProof.Rows.slot_tuple_getitem
  (DK PyProof.Rows.slot_tuple_getitem b.typeIs entry_tuple_getitem ?_ (args_tuple_getitem _ _)))
 show wpAny _ _ (Builtin.Tuple.tupleItemsOf (.ref t) >>= _) _ _ s;refine AA (tupleItemsOf_ b ?_);refine AA (wpAny_typeOf f ?_);rw[AQ (by decide)];refine AA (An k pl l ?_);have g:¬((((KY items.size 0 lo:Nat):Int) == 0 &&(1:Int) == 1 &&(KY items.size items.size hi-KY items.size 0 lo) == items.size)=true):=by
  intro q;rw[BL,BL]at q;have p:((KY items.size 0 lo:Nat):Int)=0:=eq_of_beq q.1.1;have r:KY items.size items.size hi-KY items.size 0 lo=items.size:=eq_of_beq q.2;exact hw ⟨by lia,by lia⟩
 show wpAny _ _ (if(((KY items.size 0 lo:Nat):Int) == 0 &&(1:Int) == 1 &&(KY items.size items.size hi-KY items.size 0 lo) == items.size)=true then _ else _) _ _ s;rw[AN g,Yo]
 first
  | exact AA (m:=Builtin.Tuple.tupleExact _) (EV (AF ⟨_,rfl,AF h⟩) a)
  | exact AA (m:=Builtin.Tuple.tupleExact _) (EV (AA (AF (AF ⟨_,rfl,AF h⟩))) a)
  | exact AA (AA (m:=Builtin.Tuple.tupleExact _) (EV (AF (AF ⟨_,rfl,AF h⟩)) a))
  | exact AA (AA (m:=Builtin.Tuple.tupleExact _) (EV (AF ⟨_,rfl,AF h⟩) a))
end
end HT
namespace L2
open PySem PySem.Spec PyProof.Rows
abbrev TO:=St->Hp->(A5 Int->Hp->Prop)->Prop
def PO(X:Cx)(e:A5 IW)(t:TO):Prop :=
 ∀(a:A1 (A3×Obj)) (s:A4) (σ:St) (H:Hp) (Q:A5 Int->Hp->Prop),Inv X a σ H s->t σ H Q ->
  wpAny (model X.prog X.w) X.A (evalPart e X.env) (λu c=>∃o b,Inv X a σ b c/\IsPart u o/\Q o b) X.xe s
def zCa:TO:=λ_ H Q=>Q none H
def zHn(t:TE):TO:=λσ H Q=>t σ H λx a=>∃i,x = .int i/\Q (some i) a
def r8{ns:A1 Int}:∀{us:A1 A2},I_ (ns.map V.int) us->IntsAre us ns:=by
 induction ns with
 | nil=>intro us r;rw[HI]at r;cases r;exact .nil
 | cons n ns a =>
  intro us r;rw[AZ]at r;cases r with
  | cons b c =>
   obtain⟨t,e⟩:=b;subst e;exact .cons n t (a c)
section
variable{X:Cx}{e:IW}{te:TE}{lo hi:A5 IW}{tl th:TO}{pos p2:Pos}
theorem S0:PO X none zCa:=by
 intro a s σ H Q I h;rw[evalPart_none];exact AF ⟨none,H,I,.none,h⟩
theorem Q1(h:PE X e te):PO X (some e) (zHn te):=by
 intro a s σ H Q I b;rw[evalPart_some];refine JN (h a s σ H _ I b) λu j ⟨x,c,d,f,g⟩=>?_;obtain⟨i,rfl,q⟩:=g;obtain⟨t,rfl⟩:=f;exact⟨some i,c,d,.int i t,q⟩
def VH(X:Cx)(r:V->A5 Int->A5 Int->Hp->VK->Prop):Prop :=
 ∀(a:A1 (A3×Obj)) (s:A4) (σ:St) (H:Hp) (x:V) (v b c:A2) (lo hi:A5 Int) (d:A3) (Q:VK),Inv X a σ H s->RelV x v->s.heap.IsSliceOf d b c .none->IsPart b lo->IsPart c hi->r x lo hi H Q ->
  ∃T id,typeLookup (.type T) "__getitem__" = pure (some (.builtin id))/\s.TypeIs v T/\wpAny (model X.prog X.w) X.A (getItem v (.ref d)) (EP X a σ Q) X.xe s
def tSl(r:V->A5 Int->A5 Int->Hp->VK->Prop)(te:TE)(tl th:TO):TE:=λσ H Q=>te σ H λx a=>tl σ a λl b=>th σ b λu c=>r x l u c Q
theorem Q6{r:V->A5 Int->A5 Int->Hp->VK->Prop}(f:VH X r)(g:PE X e te)(i:PO X lo tl)(j:PO X hi th):PE X (.Subscript e (.Slice lo hi none p2) pos) (tSl r te tl th):=by
 intro a s σ H Q I h;refine Subscript_ (JN (g a s σ H _ I h) λv k ⟨x,m,n,o,p⟩=>?_);refine wpAny_Slice (JN (i a k σ m _ n p) λc t ⟨l,y,z,B,C⟩=>JN (j a t σ y _ z C) λvu s3 ⟨u,d,D,E,F⟩=>?_);rw[evalPart_none];refine AF ?_;have G:Inv X a σ d { s3 with heap:=s3.heap.push { cls:=.type "slice",data:=.fields #[c,vu,.none] } }:=D.kept (t':=s3.toks) λb M q=>AD _ q;obtain⟨T,id,J,K,L⟩:=f a { s3 with heap:=s3.heap.push { cls:=.type "slice",data:=.fields #[c,vu,.none] } } σ d x v c vu l u s3.heap.objs.size Q G o (Heap.IsSliceOf.new ..) B E F;show wpAny (model X.prog X.w) X.A (subscriptTail e (.Slice lo hi none p2) v (.ref s3.heap.objs.size)) (EP X a σ Q) X.xe { s3 with heap:=s3.heap.push { cls:=.type "slice",data:=.fields #[c,vu,.none] } };exact tail_any (ops:=[.ref s3.heap.objs.size,v]) K J L (by with_unfolding_all rfl)
def w5(xs:A1 V)(lo hi:A5 Int):A1 V:=(xs.drop (HT.KY xs.length 0 lo)).take (HT.KY xs.length xs.length hi-HT.KY xs.length 0 lo)
theorem Bm(xs:A1 V)(lo hi:A5 Int):(w5 xs lo hi).length<=xs.length:=by
 unfold w5;rw[AS,DJ];lia
def zJx(K:VN):V->A5 Int->A5 Int->Hp->VK->Prop:=λx lo hi H Q=>∃a b,x = .ref a/\JL K H a b /\
 ¬(HT.KY b.length 0 lo=0/\HT.KY b.length b.length hi=b.length)/\∀p,H p=none->Q (.ref p) (IT H p (.tup (w5 b lo hi)))
theorem zEi:VH X (zJx X.K):=by
 intro f s σ H x v t u lo hi w Q I j k l m h;obtain⟨a,d,rfl,n,p,q⟩:=h;cases j;obtain⟨e,r,g,i⟩:=I.tuple n;have c:e.toArray.size=d.length:=by rw[AL];exact r.length.symm
 refine⟨"tuple",_,PyProof.Rows.slot_tuple_getitem.lookup,g.typeIs,?_⟩;refine HT.OM g k l m (by rw[c];exact p) ?_ (by rw[c];exact i);rw[c];refine⟨.ref s.heap.objs.size,_,I.laid (t':=s.toks) (o:=.tup (w5 d lo hi)) (λb y q=>AD _ q) (VQ _) ?_,rfl,q _ (I.hok.fresh (VQ _))⟩;exact⟨VR (Bm d lo hi) i,_,(r.drop (HT.KY d.length 0 lo)).take (HT.KY d.length d.length hi-HT.KY d.length 0 lo),IsTup.new _ _⟩
def zKv(K:VN):R2:=λx y H Q=>∃a b c d,x = .ref a/\y = .ref b/\JL K H a (c.map V.int)/\JL K H b (d.map V.int)/\Q (.bl (HT.lexLt c d)) H
theorem zGk(i:X.A.units<cLine):LR X (compareOp .Lt) (zKv X.K):=by
 intro e s σ H x y v u Q I j k h;obtain⟨a,b,f,g,rfl,rfl,l,m,q⟩:=h;cases j;cases k;obtain⟨d,n,o,_⟩:=I.tuple l;obtain⟨c,p,p2,_⟩:=I.tuple m;have r:IntsAre d.toArray.toList f:=r8 n;have t:IntsAre c.toArray.toList g:=r8 p;exact HT.RN o p2 r t i ⟨.bl (HT.lexLt f g),H,I,rfl,q⟩
def zIe(K:VN):R2:=λx y H Q=>∃a b d c,x = .ref a/\y = .ref b/\JL K H a d/\JL K H b c/\d≠[]/\d.length+c.length<=sizeLine /\
 (c = []->Q (.ref a) H)/\(c≠[]->∀p,H p=none->Q (.ref p) (IT H p (.tup (d++c))))
theorem I_.nil_iff{xs:A1 V}{us:A1 A2}(r:I_ xs us):us = []↔xs = []:=by
 cases r with
 | nil=>simp
 | cons _ _=>simp
theorem zBv:LR X (binaryOp .Add) (zIe X.K):=by
 intro e s σ H x y v u Q I i j h;obtain⟨a,b,k,l,rfl,rfl,m,n,p,f,r,t⟩:=h;cases i;cases j;obtain⟨A,d,B,_⟩:=I.tuple m;obtain⟨g,c,p2,_⟩:=I.tuple n;refine HT.S1 B p2 (λz=>p (d.nil_iff.mp z)) (λz=>⟨.ref a,H,I,rfl,r (c.nil_iff.mp z)⟩) (λz=>?_) (by rw[<-d.length,<-c.length];exact f);refine⟨.ref s.heap.objs.size,_,I.laid (t':=s.toks) (o:=.tup (k++l)) (λb C q=>AD _ q) (VQ _) ?_,rfl,t (λw=>z (c.nil_iff.mpr w)) _ (I.hok.fresh (VQ _))⟩;exact⟨by rw[AW];exact f,_,d.append c,IsTup.new _ _⟩
end
def SC(n:Nat)(i:Int):A5 Nat:=if 0<=i then(if i<n then some i.toNat else none)else if -(n:Int)<=i then some (i+n).toNat else none
def QS{α:Type}(xs:A1 α)(i:Int):A5 α:=(SC xs.length i).bind λj=>xs[j]?
def Sl{n:Nat}{i:Int}{j:Nat}(h:SC n i=some j):seqIndex? i n=some j/\j<n/\-(n:Int)<=i/\i<n:=by
 unfold SC at h;by_cases b:0<=i
 .rw[AQ b]at h;by_cases a:i<n
  .rw[AQ a]at h;have e:i.toNat=j:=BJ h;exact⟨by rw[seqIndex_of b a,e],by lia,by lia,a⟩
  .rw[AN a]at h;cases h
 .rw[AN b]at h;by_cases a:-(n:Int)<=i
  .rw[AQ a]at h;have e:(i+n).toNat=j:=BJ h;exact⟨by rw[seqIndex_neg (by lia) a,e],by lia,a,by lia⟩
  .rw[AN a]at h;cases h
def Ta{α:Type}{xs:A1 α}{i:Int}{v:α}(h:QS xs i=some v):∃j,seqIndex? i xs.length=some j/\xs[j]?=some v/\j<xs.length/\-(xs.length:Int)<=i/\i<xs.length:=by
 unfold QS at h;cases e:SC xs.length i with
 | none=>rw[e]at h;cases h
 | some j =>
  rw[e]at h;obtain⟨a,b,c,d⟩:=Sl e;exact⟨j,a,h,b,c,d⟩
def E2{α:Type}{xs:A1 α}{j:Nat}{v:α}(h:xs[j]?=some v):QS xs (j:Int)=some v:=by
 have a:j<xs.length:=(AE.mp h).1;have e:SC xs.length (j:Int)=some j:=by
  unfold SC;rw[AQ (by lia),AQ (by lia)];simp
 unfold QS;rw[e];exact h
def Xs{α:Type}(xs:A1 α)(v:α):QS (xs ++ [v]) (-1)=some v:=by
 have a:(xs ++ [v]).length=xs.length+1:=by simp
 have e:SC (xs ++ [v]).length (-1)=some xs.length:=by
  unfold SC;rw[a,AN (by decide),AQ (by lia)];congr 1;lia
 unfold QS;rw[e];show(xs ++ [v])[xs.length]?=some v;simp
def zBo(b:IW):Prop:=∀o i,subscripted b false o i=operate [o,i] (getItem o i)
def VM(X:Cx)(r:R2):Prop :=
 ∀(c a:IW) (b:A1 (A3×Obj)) (s:A4) (σ:St) (H:Hp) (x y:V) (v u:A2) (Q:VK),Inv X b σ H s->RelV x v->RelV y u->r x y H Q ->
  subscripted a false v u=operate [v,u] (getItem v u)->wpAny (model X.prog X.w) X.A (subscriptTail c a v u) (EP X b σ Q) X.xe s
def MtR(X:Cx)(id:String)(r:V->A1 V->Hp->VK->Prop):Prop :=
 ∀(a:A1 (A3×Obj)) (s:A4) (σ:St) (H:Hp) (x:V) (b:A1 V) (v:A2) (c:A1 A2) (Q:VK),Inv X a σ H s->RelV x v->I_ b c->r x b H Q ->
  wpAny (model X.prog X.w) X.A (call (.builtin id) (v::c)) (EP X a σ Q) X.xe s
section
variable{X:Cx}{a b:IW}{ta tb:TE}{pos:Pos}
theorem E1{r:R2}(d:VM X r)(e:PE X a ta)(f:PE X b tb)(g:zBo b):PE X (.Subscript a b pos) (tOp r ta tb):=by
 intro c s σ H Q I h;exact Subscript_ (zIz e f I h λv u i x y j k l m q=>d a b c i σ j x y v u Q k l m q (g _ _))
def zJt(K:VN):R2:=λx y H Q=>∃p a i v,x = .ref p/\y = .int i/\IV K H p a/\QS a i=some v/\Q v H
def zJy(K:VN):R2:=λx y H Q=>∃p a i v,x = .ref p/\y = .int i/\JL K H p a/\QS a i=some v/\Q v H
theorem zCb:VM X (zJt X.K):=by
 intro d e a s σ H x y v u Q I A B h m;obtain⟨p,M,i,z,rfl,rfl,C,D,q⟩:=h;cases A;obtain⟨t,rfl⟩:=B;obtain⟨f,r,g,N⟩:=I.list C;obtain⟨j,c,E,O,F,G⟩:=Ta D;obtain⟨w,n,k⟩:=r.get E;have J:=r.length;have P:=Df;have b:EP X a σ Q w s:=⟨z,H,I,k,q⟩;by_cases o:0<=i
 .have l:i.toNat=j:=by
   rw[seqIndex_of o G]at c;exact BJ c
  exact item_listR g.isList o (by lia) (by rw[l];simpa using n) b m
 .have l:(i +(f.toArray.size:Int)).toNat=j:=by
   rw[seqIndex_neg (by lia) F]at c;rw[AL,<-J];exact BJ c
  exact subscriptTail_builtinR (x:=w) g.isList.typeIs slot_list_getitem.lookup
   (wpAny_getItem_list_neg (Q:=λr L=>r=w/\EP X a σ Q r L) g.isList (by lia) (by rw[AL]<;>lia) (by lia) (by rw[l];simpa using n) ⟨rfl,b⟩) m
theorem zDv:VM X (zJy X.K):=by
 intro b c a s σ H x y v u Q I g k h l;obtain⟨p,F,i,z,rfl,rfl,m,n,q⟩:=h;cases g;obtain⟨t,rfl⟩:=k;obtain⟨o,r,f,G⟩:=I.tuple m;obtain⟨j,A,B,J,L,M⟩:=Ta n;obtain⟨w,C,d⟩:=r.get B;have D:=r.length;have N:=Df;have e:EP X a σ Q w s:=⟨z,H,I,d,q⟩;exact subscriptTail_builtinR (x:=w) f.typeIs slot_tuple_getitem.lookup
  (getItem_tuple (j:=j) (Q:=λr E=>r=w/\EP X a σ Q r E) f (by lia) (by lia) (by rw[AL,<-D];exact A) (by simpa using C) ⟨rfl,e⟩) l
theorem Pa(its:A1 A2)(n j:Nat)(u:A2):Obj.mapSeq (·.setIfInBounds j u) { cls:=.type "list",data:=.seq its.toArray n } ={ cls:=.type "list",data:=.seq (its.set j u).toArray n }:=by
 simp[Obj.mapSeq]
theorem Inv.lst{a:A1 (A3×Obj)}{σ:St}{H:Hp}{s:A4}{p:A3}{xs:A1 V}(I:Inv X a σ H s)(h:H p=some (.lst xs)) :
  ∃(its:A1 A2) (n:Nat),I_ xs its/\s.heap.get? p=some { cls:=.type "list",data:=.seq its.toArray n }/\xs.length<=sizeLine:=by
 obtain⟨z,its,n,r,e⟩:=I.hok p _ h;exact⟨its,n,r,e,z⟩
theorem Inv.lstUpd{a:A1 (A3×Obj)}{σ:St}{H:Hp}{s:A4}{p:A3}{xs c:A1 V}{its its':A1 A2}{n d:Nat}{f:Obj->Obj}(I:Inv X a σ H s)(h:H p=some (.lst xs))
  (i:s.heap.get? p=some { cls:=.type "list",data:=.seq its.toArray n }) (g:f { cls:=.type "list",data:=.seq its.toArray n } ={ cls:=.type "list",data:=.seq its'.toArray d }) (r:I_ c its') (hz:c.length<=sizeLine) (t:Nat) :
  Inv X a σ (IT H p (.lst c)) { s with heap:=s.heap.update p f,toks:=t }:=by
 have e:(s.heap.update p f).get? p=some { cls:=.type "list",data:=.seq its'.toArray d }:=by
  rw[EH f i (by rw[g]<;>rfl),g]
 refine I.write (x:=p) (e:=p) (by rw[h];trivial) (.inl rfl) (λb u j q=>(CS _ _ (Ne.symm j)).trans q) ⟨_,e⟩ ?_;exact⟨hz,its',d,r,e⟩
def zJc:V->V->V->Hp->(Hp->Prop)->Prop:=λo i v H Q=>∃p a k j,o = .ref p/\i = .int k/\H p=some (.lst a)/\SC a.length k=some j/\Q (IT H p (.lst (a.set j v)))
theorem Bb:zJn X zJc:=by
 intro a s σ H o i v E F u Q I y z A h;obtain⟨p,B,k,j,rfl,rfl,g,C,q⟩:=h;cases y;obtain⟨t,rfl⟩:=z;obtain⟨b,n,r,d,D⟩:=I.lst g;obtain⟨c,G,l,m⟩:=Sl C;have e:=r.length;have J:=Df;have w:Inv X a σ (IT H p (.lst (B.set j v))) { s with heap:=s.heap.update p (Obj.mapSeq (·.setIfInBounds j u)) } :=
  I.lstUpd g d (Pa b n j u) (r.set A j) (by rw[List.length_set];exact D) s.toks
 by_cases x:0<=k
 .have f:k.toNat=j:=by
   rw[seqIndex_of x m]at c;exact BJ c
  exact PySem.W.ki_setAt d x (by lia) (by rw[AL,<-e];exact m) (by rw[f];exact⟨_,w,q⟩)
 .have f:(k +(b.toArray.size:Int)).toNat=j:=by
   rw[seqIndex_neg (by lia) l]at c;rw[AL,<-e];exact BJ c
  exact PySem.W.ki_setBack d (by lia) (by rw[AL,<-e];exact l) (by lia) (by rw[f];exact⟨_,w,q⟩)
theorem Gv(lo hi:A5 Int)(n:Nat):(sliceBounds lo hi none n).1 =((HT.KY n 0 lo:Nat):Int)/\(sliceBounds lo hi none n).2.1 =((HT.KY n n hi:Nat):Int)/\(sliceBounds lo hi none n).2.2=1:=by
 refine⟨?_,?_,rfl⟩
 .cases lo with
  | none=>simp[sliceBounds,HT.KY]
  | some i =>
   simp only[sliceBounds,HT.KY,Option.getD_none,show(1:Int)>0 by decide,FE];by_cases h:i<0
   .simp only[h,FE]<;>lia
   .simp only[h,CT]<;>lia
 .cases hi with
  | none=>simp[sliceBounds,HT.KY]
  | some i =>
   simp only[sliceBounds,HT.KY,Option.getD_none,show(1:Int)>0 by decide,FE];by_cases h:i<0
   .simp only[h,FE]<;>lia
   .simp only[h,CT]<;>lia
theorem Fo(its:A1 A2)(lo hi:A5 Int):slicePick its.toArray lo hi none =((its.drop (HT.KY its.length 0 lo)).take (HT.KY its.length its.length hi-HT.KY its.length 0 lo)).toArray:=by
 obtain⟨a,b,c⟩:=Gv lo hi its.toArray.size;unfold slicePick;rw[a,b,c];simp only[sliceRange_one,pick_run,AL]<;>rfl
def zJw(K:VN):V->A5 Int->A5 Int->Hp->VK->Prop:=λx lo c H Q=>∃a b,x = .ref a/\IV K H a b/\∀p,H p=none->Q (.ref p) (IT H p (.lst (w5 b lo c)))
theorem zAf:VH X (zJw X.K):=by
 intro f s σ H x v t u lo e w Q I i j k l h;obtain⟨a,c,rfl,m,q⟩:=h;cases i;obtain⟨n,r,g,p⟩:=I.list m;have d:=r.length;refine⟨"list",_,slot_list_getitem.lookup,g.isList.typeIs,?_⟩;refine wpAny_getItem_list_slice g.isList j k l .none (by simp) ?_ (by rw[AL]<;>lia);rw[Fo,<-d];refine⟨.ref s.heap.objs.size,_,I.laid (t':=s.toks) (o:=.lst (w5 c lo e)) (λb y q=>AD _ q) (VQ _) ?_,rfl,q _ (I.hok.fresh (VQ _))⟩;exact⟨VR (Bm c lo e) p,_,0,(r.drop (HT.KY c.length 0 lo)).take (HT.KY c.length c.length e-HT.KY c.length 0 lo),AO _ rfl⟩
def Cm:V->Bool
 | .non=>true
 | .bl _=>true
 | .int _=>true
 | .str _=>true
 | _=>false
def TJ:V->V->Bool
 | .non,.non=>true
 | .bl a,.bl b=>a == b
 | .bl a,.int b=>(if a then 1 else 0) == b
 | .int a,.bl b=>a ==(if b then 1 else 0)
 | .int a,.int b=>a == b
 | .str a,.str b=>a == b
 | _,_=>false
theorem zGs{A:IY}{s:A4}{y x:V}{u v:A2}(e:RelV y u)(c:RelV x v)(g:Cm y=true)(f:Cm x=true):SeqAt.EqAt A s u v (TJ y x):=by
 cases y with
 | non =>
  cases e;cases x with
  | non=>cases c;exact SeqAt.EqAt.same _
  | bl b=>cases c;exact SeqAt.EqAt.none_bool b
  | int b=>obtain⟨t,rfl⟩:=c;exact SeqAt.EqAt.none_int b t
  | str b=>obtain⟨t,rfl⟩:=c;exact SeqAt.EqAt.none_str b t
  | _=>exact absurd (show false=true from f) BD
 | bl a =>
  cases e;cases x with
  | non=>cases c;exact SeqAt.EqAt.bool_none a
  | bl b=>cases c;exact SeqAt.EqAt.bool_bool a b
  | int b=>obtain⟨t,rfl⟩:=c;exact SeqAt.EqAt.bool_int a b t
  | str b=>obtain⟨t,rfl⟩:=c;exact SeqAt.EqAt.bool_str a b t
  | _=>exact absurd (show false=true from f) BD
 | int a =>
  obtain⟨d,rfl⟩:=e;cases x with
  | non=>cases c;exact SeqAt.EqAt.int_none a d
  | bl b=>cases c;exact SeqAt.EqAt.int_bool a d b
  | int b=>obtain⟨t,rfl⟩:=c;exact SeqAt.EqAt.int_int a d b t
  | str b=>obtain⟨t,rfl⟩:=c;exact SeqAt.EqAt.int_str a d b t
  | _=>exact absurd (show false=true from f) BD
 | str a =>
  obtain⟨d,rfl⟩:=e;cases x with
  | non=>cases c;exact SeqAt.EqAt.str_none a d
  | bl b=>cases c;exact SeqAt.EqAt.str_bool a d b
  | int b=>obtain⟨t,rfl⟩:=c;exact SeqAt.EqAt.str_int a d b t
  | str b=>obtain⟨t,rfl⟩:=c;exact SeqAt.EqAt.str_str a d b t
  | _=>exact absurd (show false=true from f) BD
 | _=>exact absurd (show false=true from g) BD
def RP(x:V)(u:A2):Bool:=match u with
 | .none=>TJ .non x
 | .bool b=>TJ (.bl b) x
 | .int i _=>TJ (.int i) x
 | .str z _=>TJ (.str z) x
 | _=>false
theorem Yr{x y:V}{u:A2}(r:RelV y u)(f:Cm y=true):RP x u=TJ y x:=by
 cases y with
 | non=>cases r;rfl
 | bl b=>cases r;rfl
 | int i=>obtain⟨t,rfl⟩:=r;rfl
 | str z=>obtain⟨t,rfl⟩:=r;rfl
 | _=>exact absurd (show false=true from f) BD
theorem By{x:V}:∀{xs:A1 V} {us:A1 A2},I_ xs us->xs.all Cm=true->us.any (RP x)=xs.any λy=>TJ y x
 | _,_,.nil,_=>rfl
 | y::xs,u::us,.cons r t,f=>by
  rw[List.all_cons,BL]at f;rw[HA,HA,Yr r f.1,By t f.2]
theorem l5{A:IY}{s:A4}{x:V}{v:A2}(a:RelV x v)(b:Cm x=true):∀{xs:A1 V} {us:A1 A2},I_ xs us->xs.all Cm=true->∀u∈us,SeqAt.EqAt A s u v (RP x u)
 | _,_,.nil,_=>λu hu=>by cases hu
 | y::xs,u::us,.cons r t,f=>λc hu=>by
  rw[List.all_cons,BL]at f;rcases AK.mp hu with rfl | hu
  .rw[Yr r f.1];exact zGs r a f.1 b
  .exact l5 a b t f.2 c hu
def US(x:V)(xs:A1 V):Bool:=xs.any λy=>TJ y x
def UO(K:VN)(neg:Bool):R2:=λx y H Q=>∃p a,y = .ref p/\(IV K H p a\/JL K H p a)/\Cm x=true/\a.all Cm=true/\Q (.bl (if neg then !US x a else US x a)) H
theorem Sf:LR X (compareOp .In) (UO X.K false):=by
 intro e s σ H x y v u Q I f i h;obtain⟨p,k,rfl,hq,g,b,q⟩:=h;cases i;rcases hq with hq | hq
 .obtain⟨a,r,c,j⟩:=I.list hq;refine SeqAt.in_listAt (RP x) c.isList (λw d=>l5 f g r b w (by simpa using d)) ⟨.bl _,H,I,rfl,?_⟩;rw[show a.toArray.any (RP x)=a.any (RP x) by simp,By r b];exact q
 .obtain⟨a,r,c,j⟩:=I.tuple hq;refine SeqAt.in_tupleAt (RP x) c (λw d=>l5 f g r b w (by simpa using d)) ⟨.bl _,H,I,rfl,?_⟩;rw[show a.toArray.any (RP x)=a.any (RP x) by simp,By r b];exact q
theorem Hc:LR X (compareOp .NotIn) (UO X.K true):=by
 intro e s σ H x y v u Q I f i h;obtain⟨p,k,rfl,hq,g,b,q⟩:=h;cases i;rcases hq with hq | hq
 .obtain⟨a,r,c,j⟩:=I.list hq;refine SeqAt.notIn_listAt (RP x) c.isList (λw d=>l5 f g r b w (by simpa using d)) ⟨.bl _,H,I,rfl,?_⟩;rw[show a.toArray.any (RP x)=a.any (RP x) by simp,By r b];exact q
 .obtain⟨a,r,c,j⟩:=I.tuple hq;refine SeqAt.notIn_tupleAt (RP x) c (λw d=>l5 f g r b w (by simpa using d)) ⟨.bl _,H,I,rfl,?_⟩;rw[show a.toArray.any (RP x)=a.any (RP x) by simp,By r b];exact q
theorem Gw:K3 X (.builtin "len") (λxs H Q=>∃p b,xs = [.ref p]/\(IV X.K H p b\/JL X.K H p b)/\Q (.int b.length) H):=by
 intro f s σ H xs j Q I r h;obtain⟨p,b,rfl,hq,q⟩:=h;obtain⟨u,rfl,g⟩:=W5 r;cases g;have k:=Df;rcases hq with hq | hq
 .obtain⟨c,d,e,i⟩:=I.list hq;have a:=d.length;exact Calls.call_len_list e.isList (by simp only[AL]<;>lia) ⟨.int b.length,H,I.tok _,⟨s.toks+1,by rw[AL,a]⟩,q⟩
 .obtain⟨c,d,e,i⟩:=I.tuple hq;have a:=d.length;exact len_tuple e (by simp only[AL]<;>lia) ⟨.int b.length,H,I.tok _,⟨s.toks+1,by rw[AL,a]⟩,q⟩
theorem Iq:K3 X (.builtin "len") (λxs H Q=>∃z,xs = [.str z]/\z.length<=sizeLine/\Q (.int z.length) H):=by
 intro a s σ H xs b Q I r h;obtain⟨z,rfl,c,q⟩:=h;obtain⟨u,rfl,t,rfl⟩:=W5 r;have d:=Df;exact len_str (by lia) ⟨.int z.length,H,I.tok _,⟨_,rfl⟩,q⟩
theorem Im:K3 X (.type "list") (λxs H Q=>∃p d,xs = [.ref p]/\(IV X.K H p d\/JL X.K H p d)/\∀l,H l=none->Q (.ref l) (IT H l (.lst d))):=by
 intro i s σ H xs C Q I r h;obtain⟨p,d,rfl,hq,q⟩:=h;obtain⟨u,rfl,B⟩:=W5 r;cases B;have j:∀(a:A1 A2),I_ d a->d.length<=sizeLine->∀(c:IU) (f:Nat),(∀b A,s.heap.get? b=some A->c.get? b=some A) ->
   c.get? s.heap.objs.size=some { cls:=.type "list",dict:=none,data:=.seq a.toArray f,slots:=#[] }->EP X i σ Q (.ref s.heap.objs.size) { s with heap:=c }:=λa g k c f m e =>
  ⟨.ref s.heap.objs.size,_,I.laid (t':=s.toks) m (VQ _) (show JB X.prog X.w _ c _ (.lst d)from⟨k,a,f,g,e⟩),rfl,q _ (I.hok.fresh (VQ _))⟩
 rcases hq with hq | hq
 .obtain⟨a,g,v,k⟩:=I.list hq;have t:=g.length;obtain⟨o,x,y,n,z⟩:=v.isList;exact call_list_seq p (.inl rfl) x y z (λc f m e=>j a g k c f m e) (by simp only[AL]<;>lia)
 .obtain⟨a,g,v,k⟩:=I.tuple hq;have t:=g.length;obtain⟨o,x,y,n,z⟩:=v;exact call_list_seq p (.inr rfl) x y z (λc f m e=>j a g k c f m e) (by simp only[AL]<;>lia)
theorem Ew:K3 X (.type "tuple") (λxs H Q=>∃p d,xs = [.ref p]/\((IV X.K H p d/\∀l,H l=none->Q (.ref l) (IT H l (.tup d)))\/(JL X.K H p d/\Q (.ref p) H))):=by
 intro a s σ H xs y Q I r h;obtain⟨p,d,rfl,h⟩:=h;obtain⟨u,rfl,t⟩:=W5 r;cases t;rcases h with⟨g,q⟩ | ⟨g,q⟩
 .obtain⟨c,i,j,k⟩:=I.list g;have m:=i.length;refine call_tuple_list j.isList (λf v=>?_) (by simp only[AL]<;>lia);have n:Inv X a σ H { s with heap:=f }:=I.kept (t':=s.toks) v;have x:Inv X a σ (IT H f.objs.size (.tup d)) { s with heap:=f.push { cls:=.type "tuple",data:=.seq c.toArray } } :=
   n.laid (t':=s.toks) (λb o e=>AD _ e) (VQ _) (show JB X.prog X.w _ _ _ (.tup d)from⟨k,c,i,IsTup.new _ _⟩)
  exact⟨.ref f.objs.size,_,x,rfl,q _ (n.hok.fresh (VQ _))⟩
 .obtain⟨c,i,j,k⟩:=I.tuple g;exact call_tuple_same j ⟨.ref p,H,I,rfl,q⟩
def tyV(K:VN)(T:String)(x:V)(H:Hp):Prop:=match x with
 | .str _=>T = "str"
 | .int _=>T = "int"
 | .ref p=>(T = "list"/\∃b,IV K H p b)\/(T = "tuple"/\∃o,K.lookup p=some o/\o.cls = .type "tuple"/\o.dict=none) \/
   (T = "dict"/\((∃a,H p=some (.dK a))\/∃a,H p=some (.dT a)))\/(T = "set"/\∃S n,H p=some (.set S n))
 | _=>False
theorem zFn{f:A1 (A3×Obj)}{σ:St}{H:Hp}{s:A4}{T:String}{x:V}{v:A2}(I:Inv X f σ H s)(r:RelV x v)(ty:tyV X.K T x H) :
  s.TypeIs v T/\∀a,v = .ref a->∃k,s.heap.get? a=some k/\k.dict=none:=by
 cases x with
 | str z =>
  obtain⟨t,rfl⟩:=r;cases(show T = "str" from ty);exact⟨typeIs_str s z t,λ_ e=>nomatch e⟩
 | int i =>
  obtain⟨t,rfl⟩:=r;cases(show T = "int" from ty);exact⟨typeIs_int s i t,λ_ e=>nomatch e⟩
 | ref p =>
  cases r;rcases ty with⟨rfl,w,m⟩ | ⟨rfl,o,b,q,g⟩ | ⟨rfl,b⟩ | ⟨rfl,S,n,b⟩
  .obtain⟨u,_,l,_⟩:=I.list m;refine⟨l.isList.typeIs,λa e=>?_⟩;cases e;obtain⟨o,n,e,c,g,_⟩:=l;exact⟨o,e,g⟩
  .refine⟨⟨o,I.kIn p o b,q⟩,λa e=>?_⟩;cases e;exact⟨o,I.kIn _ o b,g⟩
  .have z:∃o,s.heap.get? p=some o/\o.ExactDict:=by
    rcases b with⟨h,b⟩ | ⟨h,b⟩
    .obtain⟨_,_,_,_,o,_,_,e,d,_⟩:=I.hok p _ b;exact⟨o,e,d⟩
    .obtain⟨_,_,_,_,o,_,_,e,d,_⟩:=I.hok p _ b;exact⟨o,e,d⟩
   obtain⟨o,e,d⟩:=z;refine⟨⟨o,e,d.1⟩,λa j=>?_⟩;cases j;exact⟨o,e,d.2.1⟩
  .obtain⟨o,_,_,_,e,d,_⟩:=I.hok p _ b;refine⟨⟨o,e,d.1⟩,λa j=>?_⟩;cases j;exact⟨o,e,d.2.1⟩
 | _=>exact VO ty
def tBM(K:VN)(T:String)(r:V->A1 V->Hp->VK->Prop)(b:TE)(t:TA):TE:=λσ H Q=>b σ H λx a=>tyV K T x a/\t σ a λc d=>r x c d Q
variable{o e:IW}{es:A1 IW}{to:TE}{t:TA}{name:Str}{apos cpos:Pos}{T id:String}{r:V->A1 V->Hp->VK->Prop}
theorem zId(m:PlainAttrs T)(f:Slot T name id)(i:typeOf (.builtin id)=pure (.type "method_descriptor"))(n:MtR X id r)(p:PE X o to)(q:PA X (e::es) t)
  (c:attributeBase o name X.env (eval o X.env)=eval o X.env:=by rfl)
  (g:((backTo cpos (starEach (e::es) X.env)).all (λx=>!x.1) &&(backToKw cpos (keywordEach [] X.env)).all (λx=>x.1.isSome)
   && decide ((e::es).length +([]:A1 Keyword).length +(if([]:A1 Keyword).isEmpty then 0 else 1)<30))=true:=by rfl)
  (d:(apos.endLine == cpos.line)=true:=by rfl) (u:starEach (e::es) X.env =(false,eval e X.env)::starEach es X.env:=by rfl) (b:(backTo cpos (starEach es X.env)).any (·.1)=false:=by rfl) :
  PE X (.Call (.Attribute o name apos) (e::es) [] cpos) (tBM X.K T r to t):=by
 intro a s σ H Q I h;refine wpAny_Call_method_late c g d rfl (JN (p a s σ H _ I h) λv w ⟨x,y,j,k,ty,z⟩=>?_);obtain⟨A,B⟩:=zFn j k ty;refine⟨T,id,m,f,i,A,B,?_⟩;have l:=q cpos a w σ y _ j z;rw[u]at l⊢;refine Calls.callWith_builtin (by show(false||(backTo cpos (starEach es X.env)).any (·.1))=false;rw[b]<;>rfl) (Calls.evalArgs_plain ?_);exact JN l λC D ⟨E,F,G,J,L⟩=>n a D σ F x E v C Q G k J L
end
def RZ(X:Cx)(id:String)(r:V->A1 V->Hp->VK->Prop):Prop :=
 ∀(a:A1 (A3×Obj)) (s:A4) (σ:St) (H:Hp) (x:V) (b:A1 V) (v:A2) (c:A1 A2) (Q:VK),Inv X a σ H s->RelV x v->I_ b c->r x b H Q ->
  wpAny (model X.prog X.w) X.A (call (.builtin id) (v::c)) (EP X a σ Q) X.xe s
def I_.one:∀{x:V} {us:A1 A2},I_ [x] us->∃u,us = [u]/\RelV x u
 | _,_,.cons r .nil=>⟨_,rfl,r⟩
def I_.two:∀{x y:V} {us:A1 A2},I_ [x,y] us->∃u v,us = [u,v]/\RelV x u/\RelV y v
 | _,_,_,.cons r (.cons q .nil)=>⟨_,_,rfl,r,q⟩
def I_.eraseIdx:∀{xs:A1 V} {us:A1 A2} (i:Nat),I_ xs us->I_ (xs.eraseIdx i) (us.eraseIdx i)
 | _,_,_,.nil=>.nil
 | _,_,0,.cons _ t=>t
 | _,_,i+1,.cons r t=>.cons r (I_.eraseIdx i t)
def I_.rep{xs:A1 V}{us:A1 A2}(h:I_ xs us):∀k:Nat,I_ (List.replicate k xs).flatten (List.replicate k us).flatten
 | 0=>.nil
 | k+1=>by
  rw[ED,ED,FK,FK];exact I_.append h (I_.rep h k)
def Iz{α:Type}:∀(l:A1 α) (i:Nat),(l.eraseIdx i).length<=l.length
 | [],_=>VQ _
 | _::_,0=>EO _
 | _::r,i+1=>IJ (Iz r i)
def Iv(its:A1 A2):∀(k:Nat) (a:A1 A2),
  List.foldl (λb c=>b++c) a.toArray (List.replicate k its.toArray) =(a ++(List.replicate k its).flatten).toArray
 | 0,a=>by simp
 | k+1,a=>by
  have e:a.toArray++its.toArray =(a++its).toArray:=by simp
  have d:(a++its) ++(List.replicate k its).flatten=a ++(List.replicate (k+1) its).flatten:=by
   rw[ED,FK,BM]
  rw[<-d,<-Iv its k (a++its),<-e,ED,List.foldl_cons]
section
variable{X:Cx}{pins:A1 (A3×Obj)}{σ:St}{H:Hp}{s:A4}{l b:A3}{xs ys zs:A1 V}
theorem Inv.lset{its its':A1 A2}{n:Nat}{f:CM A2->CM A2}{t':Nat}(I:Inv X pins σ H s)(a:H l=some (.lst xs))
  (e:s.heap.get? l=some { cls:=.type "list",data:=.seq its.toArray n }) (b:f its.toArray=its'.toArray) (c:I_ ys its') (hz:ys.length<=sizeLine) :
  Inv X pins σ (IT H l (.lst ys)) { s with heap:=s.heap.update l (Obj.mapSeq f),toks:=t' }:=by
 have q:=PySem.IsL.update e f;rw[b]at q;refine I.write (x:=l) (e:=l) (by rw[a];exact trivial) (.inl rfl) (λh u d g=>(CS s.heap (Obj.mapSeq f) (Ne.symm d)).trans g) ⟨_,q⟩ ?_;exact⟨hz,its',_,c,q⟩
theorem Inv.lnew{its:A1 A2}{t':Nat}(I:Inv X pins σ H s)(a:I_ ys its)(hz:ys.length<=sizeLine) :
  Inv X pins σ (IT H s.heap.objs.size (.lst ys)) { s with heap:=s.heap.push { cls:=.type "list",data:=.seq its.toArray },toks:=t' } :=
 I.laid (λ_ _ q=>AD _ q) (VQ _) ⟨hz,its,0,a,AO _ rfl⟩
theorem Inv.fresh(I:Inv X pins σ H s):H s.heap.objs.size=none:=I.hok.fresh (VQ _)
theorem Inv.lstM(I:Inv X pins σ H s)(a:H l=some (.lst xs)):xs.length<=sizeLine/\∃(its:A1 A2) (n:Nat),I_ xs its/\xs.length=its.length/\s.heap.get? l=some { cls:=.type "list",data:=.seq its.toArray n }:=by
 obtain⟨z,its,n,r,e⟩:=I.hok l _ a;exact⟨z,its,n,r,r.length,e⟩
theorem Vy{n:Nat}(h:n<=sizeLine):Builtin.List.listTooLong n=false:=by
 unfold Builtin.List.listTooLong;exact BA (by lia)
end
section
variable{X:Cx}
def zAp:V->A1 V->Hp->VK->Prop:=λx b H Q=>∃l a y,x = .ref l/\b = [y]/\H l=some (.lst a)/\a.length<sizeLine/\Q .non (IT H l (.lst (a ++ [y])))
theorem O4:RZ X "list.append" zAp:=by
 intro b s σ H x i v j Q I d f h;obtain⟨l,k,y,rfl,rfl,c,m,q⟩:=h;cases d;obtain⟨u,rfl,g⟩:=f.one;obtain⟨z,a,n,r,o,e⟩:=I.lstM c;refine call_meets F.slot_list_append ⟨_,e,rfl⟩ F.entry_list_append (F.args_list_append_2 _ _) (PySem.list_append l a.toArray n u (by rw[AL];lia)) ⟨e,?_⟩;refine⟨.non,_,I.lset (its':=a ++ [u]) c e (by simp) (r.append (.cons g .nil)) ?_,rfl,q⟩;rw[AW,List.length_singleton];lia
def zDp:V->A1 V->Hp->VK->Prop:=λx b H Q=>∃l a i k y,x = .ref l/\b = [.int i]/\H l=some (.lst a)/\-(2^63)<=i/\i<2^63/\seqIndex? i a.length=some k/\a[k]?=some y/\Q y (IT H l (.lst (a.eraseIdx k)))
theorem Xi:RZ X "list.pop" zDp:=by
 intro c s σ H x E v G Q I f g h;obtain⟨l,j,i,k,y,rfl,rfl,d,m,o,p,A,q⟩:=h;cases f;obtain⟨u,rfl,B⟩:=g.one;obtain⟨t,rfl⟩:=B;obtain⟨z,a,n,r,C,e⟩:=I.lstM d;obtain⟨w,D,b⟩:=r.get A;refine call_meets F.slot_list_pop ⟨_,e,rfl⟩ F.entry_list_pop (F.args_list_pop_2 _ _)
  (MeetsSeq.list_pop_at l a.toArray n i t k w (fitsIndex_both m o) (by rw[AL,<-C];exact p) (by rw[<-BW];exact D) (by rw[AL];lia)) ⟨e,?_⟩
 refine⟨y,_,I.lset (its':=a.eraseIdx k) d e ?_ (r.eraseIdx k) ?_,b,q⟩
 .show a.toArray.eraseIdxIfInBounds k =(a.eraseIdx k).toArray;rw[List.eraseIdxIfInBounds_toArray]
 .have:=Iz j k;lia
def zKi:R2:=λx y H Q=>∃l b a c,x = .ref l/\y = .ref b/\H l=some (.lst a)/\H b=some (.lst c)/\a.length+c.length<=sizeLine/\∀p,H p=none->Q (.ref p) (IT H p (.lst (a++c)))
theorem Uw:LR X (binaryOp .Add) zKi:=by
 intro d s σ H x y v u Q I f g h;obtain⟨l,b,t,w,rfl,rfl,i,j,A,q⟩:=h;cases f;cases g;obtain⟨z,c,n,r,B,e⟩:=I.lstM i;obtain⟨C,a,D,k,m,o⟩:=I.lstM j;refine PySem.P.add_list e o ?_ (by rw[AL,AL];lia);have p:c.toArray++a.toArray =(c++a).toArray:=by simp
 rw[p];exact⟨.ref _,_,I.lnew (t':=s.toks) (r.append k) (by rw[AW];lia),rfl,q _ I.fresh⟩
def zLd:R2:=λx y H Q=>∃l k a,x = .ref l/\y = .int k/\H l=some (.lst a)/\-(2^63)<=k/\k<2^63/\a.length*k.toNat<=sizeLine /\
 ∀p,H p=none->Q (.ref p) (IT H p (.lst (List.replicate k.toNat a).flatten))
theorem zBp{α:Type}(xs:A1 α)(k:Nat):(List.replicate k xs).flatten.length=k*xs.length:=by
 induction k with
 | zero=>simp
 | succ k a=>rw[ED,FK,AW,a,Nat.succ_mul,Nat.add_comm]
theorem Zb:LR X (binaryOp .Mult) zLd:=by
 intro p s σ H x y v u Q I A B h;obtain⟨l,k,L,rfl,rfl,C,D,E,w,q⟩:=h;cases A;obtain⟨t,rfl⟩:=B;obtain⟨z,b,n,r,G,e⟩:=I.lstM C;have d:b.toArray.size*k.toNat<=sizeLine:=by rw[AL,<-G];exact w
 have f:¬b.toArray.size*k.toNat >(2^63-1) / 8:=by
  have:(sizeLine:Nat)<=(2^63-1) / 8:=by decide
  lia
 have g:¬(!Builtin.List.listFitsIndex k)=true:=by
  rw[fitsIndex_both D E];exact BD
 have c:¬Builtin.List.listTooLong (b.toArray.size*k.toNat)=true:=by
  rw[Vy d];exact BD
 have i:List.foldl (λj o=>j++o) #[] (List.replicate (if b.toArray.isEmpty=true then 0 else k.toNat) b.toArray) =(List.replicate k.toNat b).flatten.toArray:=by
  have J:∀m:Nat,List.foldl (λj o=>j++o) #[] (List.replicate m b.toArray) =(List.replicate m b).flatten.toArray:=λm=>by
   have:=Iv b m [];rw[List.nil_append]at this;exact this
  rw[J];cases b with
  | nil=>simp
  | cons a M=>rw[AN (by simp)]
 refine wpAny_binaryOp_repeat_ref (T := "list") (U := "int") (by decide) ⟨_,e,rfl⟩ (λK=>typeIs_int K k t) noFill_list_mul F.fills_int_mul F.slot_int_rmul repeat_list F.slot_int_index.lookup
  (call_meets F.slot_int_rmul (typeIs_int s k t) F.entry_int_rmul (F.args_int_rmul_2 _ _) (int___rmul___int_list k t l b.toArray n)
   ⟨e,rfl,⟨_,e,rfl⟩,call_meets F.slot_list_mul ⟨_,e,rfl⟩ F.entry_list_mul (F.args_list_mul_2 _ _) (AutoListH.list___mul___list_int_3 l b.toArray n k t g f c) ⟨e,?_⟩⟩)
 rw[i];exact⟨.ref _,_,I.lnew (t':=s.toks) (r.rep k.toNat) (by rw[zBp,Nat.mul_comm];exact w),rfl,q _ I.fresh⟩
end
section
variable{κ:Type}[DecidableEq κ]
def U5(a:A1 (κ×V))(k:κ):A5 V:=(a.find? λb=>decide (b.1=k)).map (·.2)
def y0(a:A1 (κ×V))(k:κ)(v:V):A1 (κ×V) :=
 if(a.any λb=>decide (b.1=k))=true then a.map (λb=>if b.1=k then(b.1,v)else b)else a ++ [(k,v)]
theorem P1{p:κ×V}{r:A1 (κ×V)}{k:κ}(e:p.1=k):U5 (p::r) k=some p.2:=by simp[U5,FN,e]
theorem P0{p:κ×V}{r:A1 (κ×V)}{k:κ}(e:¬p.1=k):U5 (p::r) k=U5 r k:=by simp[U5,FN,e]
theorem n8(k:κ):∀a:A1 (κ×V),(a.any λb=>decide (b.1=k)) =(U5 a k).isSome
 | []=>rfl
 | p::r=>by
  rw[HA];by_cases e:p.1=k
  .simp only[P1 e,AX e,Bool.true_or,Option.isSome_some]
  .rw[P0 e,BA e,Bool.false_or];exact n8 k r
theorem Ny(k j:κ)(y:V):∀a:A1 (κ×V),U5 (a.map λb=>if b.1=k then(b.1,y)else b) j =(U5 a j).map λx=>if j=k then y else x
 | []=>rfl
 | p::r=>by
  have c:=Ny k j y r;rw[AZ];by_cases h:p.1=k
  .rw[AQ h];by_cases e:p.1=j
   .rw[P1 (p:=(p.1,y)) e,P1 e,Option.map_some,AQ (e.symm.trans h)]
   .rw[P0 (p:=(p.1,y)) e,P0 e,c]
  .rw[AN h];by_cases e:p.1=j
   .rw[P1 (p:=p) e,P1 e,Option.map_some,AN (λz=>h (e.trans z))]
   .rw[P0 (p:=p) e,P0 e,c]
theorem Hm(k j:κ)(y:V):∀a:A1 (κ×V),U5 a k=none->U5 (a ++ [(k,y)]) j=if j=k then some y else U5 a j
 | [],_=>by
  by_cases e:k=j
  .rw[AQ e.symm];exact P1 (p:=(k,y)) e
  .rw[AN (λz=>e z.symm)];exact P0 (p:=(k,y)) e
 | p::r,b=>by
  rw[List.cons_append];have c:¬p.1=k:=λz=>by rw[P1 z]at b;cases b
  rw[P0 c]at b;have d:=Hm k j y r b;by_cases e:p.1=j
  .rw[P1 e,P1 e,AN (λz=>c (e.trans z))]
  .rw[P0 e,P0 e,d]
theorem Au(b:A1 (κ×V))(k j:κ)(y:V):U5 (y0 b k y) j=if j=k then some y else U5 b j:=by
 unfold y0;by_cases a:(b.any λc=>decide (c.1=k))=true
 .rw[AQ a,Ny];rw[n8]at a;by_cases e:j=k
  .obtain⟨x,d⟩:=FF.mp a;rw[AQ e,e,d,Option.map_some,AQ rfl]
  .rw[AN e];cases U5 b j with
   | none=>rfl
   | some x=>rw[Option.map_some,AN e]
 .rw[AN a];refine Hm k j y b ?_;rw[n8]at a;cases q:U5 b k with
  | none=>rfl
  | some x=>rw[q]at a;exact(a rfl).elim
theorem R8(a:A1 (κ×V))(k:κ)(v:V):(y0 a k v).length<=a.length+1:=by
 unfold y0;split
 .rw[AB];lia
 .rw[AW,BK,E_];lia
theorem Vw{a:A1 (κ×V)}{k:κ}(v:V)(h:U5 a k=none):y0 a k v=a ++ [(k,v)]:=by
 unfold y0;rw[n8,h];exact AN (by decide)
theorem NR.isSome_eq{o:A5 V}{u:A5 A2}(r:NR o u):o.isSome=u.isSome:=by
 cases o with
 | none=>cases u with
  | none=>rfl
  | some _=>exact(show False from r).elim
 | some _=>cases u with
  | none=>exact(show False from r).elim
  | some _=>rfl
theorem KV.val{a:A1 (κ×V)}{vs:A1 (κ×A2)}(r:KV a vs)(k:κ):NR (U5 a k) (valueAt vs k):=by
 unfold KV at r
 induction r with
 | nil=>exact VP
 | @cons p q j c h t g =>
  obtain⟨f,i⟩:=h;by_cases e:p.1=k
  .have d:q.1=k:=f.symm.trans e;have b:valueAt (q::c) k=some q.2:=by simp[valueAt,FN,d]
   rw[P1 e,b];exact i
  .have d:¬q.1=k:=λz=>e (f.trans z);have b:valueAt (q::c) k=valueAt c k:=by simp[valueAt,FN,d]
   rw[P0 e,b];exact g
theorem KV.any{a:A1 (κ×V)}{vs:A1 (κ×A2)}(r:KV a vs)(k:κ):(a.any λb=>decide (b.1=k))=vs.any λb=>decide (b.1=k):=by
 unfold KV at r
 induction r with
 | nil=>rfl
 | cons h t c=>rw[HA,HA,c,h.1]
theorem KV.repl{b:A1 (κ×V)}{vs:A1 (κ×A2)}(r:KV b vs)(k:κ){y:V}{u:A2}(d:RelV y u) :
  KV (b.map λa=>if a.1=k then(a.1,y)else a) (vs.map λa=>if a.1=k then(a.1,u)else a):=by
 unfold KV at r⊢
 induction r with
 | nil=>exact .nil
 | @cons p q i j h t f =>
  rw[AZ,AZ];refine .cons ?_ f;obtain⟨c,g⟩:=h;by_cases e:p.1=k
  .rw[AQ e,AQ (c.symm.trans e)];exact⟨c,d⟩
  .rw[AN e,AN (λz=>e (c.trans z))];exact⟨c,g⟩
theorem KV.put{a:A1 (κ×V)}{vs:A1 (κ×A2)}(r:KV a vs)(k:κ){y:V}{u:A2}(b:RelV y u):KV (y0 a k y) (stored vs k u):=by
 unfold y0 stored;rw[r.any k];by_cases e:(vs.any λc=>decide (c.1=k))=true
 .rw[AQ e,AQ e];exact r.repl k b
 .rw[AN e,AN e];exact Paired.snoc r ⟨rfl,b⟩
theorem KV.length{a:A1 (κ×V)}{vs:A1 (κ×A2)}(r:KV a vs):a.length=vs.length:=Paired.length r
end
def Ix{P:A7}{w:F8}{k:JH}{u:A2}(r:RelV (kV k) u):(D0 P w).is k u=true:=by
 cases k with
 | inl i=>obtain⟨t,e⟩:=(show ∃t,u=Value.int i t from r);subst e;exact Lh P w i t
 | inr x=>obtain⟨t,e⟩:=(show ∃t,u=Value.str x t from r);subst e;exact Kg P w x t
def Ji{P:A7}{w:F8}:∀{ks:A1 JH} {us:A1 A2},I_ (ks.map kV) us->ItemsAre (D0 P w) ks us
 | [],_,r=>by rw[HI]at r;cases r;exact .nil
 | k::ks,_,r=>by
  rw[AZ]at r;cases r with
  | cons h t=>exact .cons (Ix h) (Ji t)
abbrev KT(H:Hp):A1 (A1 JH×V)->A1 (A1 JH×A3×A2)->Prop:=Paired λp q=>p.1=q.1/\H q.2.1=some (.tup (p.1.map kV))/\RelV p.2 q.2.2
def KT.val{H:Hp}{a:A1 (A1 JH×V)}{xs:A1 (A1 JH×A3×A2)}(r:KT H a xs)(k:A1 JH):NR (U5 a k) ((atKey xs k).map (·.2)):=by
 induction r with
 | nil=>exact VP
 | @cons p q j c h t g =>
  obtain⟨f,_,i⟩:=h;by_cases e:p.1=k
  .have d:q.1=k:=f.symm.trans e;have b:atKey (q::c) k=some q.2:=by simp[atKey,FN,d]
   rw[P1 e,b];exact i
  .have d:¬q.1=k:=λz=>e (f.trans z);have b:atKey (q::c) k=atKey c k:=by simp[atKey,FN,d]
   rw[P0 e,b];exact g
def KT.repl{H:Hp}{a:A1 (A1 JH×V)}{xs:A1 (A1 JH×A3×A2)}(r:KT H a xs)(k:A1 JH){y:V}{u:A2}(f:RelV y u) :
  KT H (a.map λc=>if c.1=k then(c.1,y)else c) (xs.map (putAt k u)):=by
 induction r with
 | nil=>exact .nil
 | @cons p q j l h t g =>
  rw[AZ,AZ];refine .cons ?_ g;obtain⟨b,d,i⟩:=h;unfold putAt;by_cases e:p.1=k
  .rw[AQ e,AQ (b.symm.trans e)];exact⟨b,d,f⟩
  .rw[AN e,AN (λz=>e (b.trans z))];exact⟨b,d,i⟩
def KT.put{H:Hp}{a:A1 (A1 JH×V)}{xs:A1 (A1 JH×A3×A2)}(r:KT H a xs)(k:A1 JH){b:A3}{y:V}{u:A2}(d:H b=some (.tup (k.map kV)))(c:RelV y u) :
  KT H (y0 a k y) (storedH xs k b u):=by
 have e:(a.any λf=>decide (f.1=k)) =(atKey xs k).isSome:=by
  rw[n8,(r.val k).isSome_eq,Option.isSome_map]
 unfold y0 storedH;rw[e];by_cases q:(atKey xs k).isSome=true
 .rw[AQ q,AQ q];exact r.repl k c
 .rw[AN q,AN q];exact Paired.snoc r ⟨rfl,d,c⟩
def KT.keeps{H H':Hp}{a:A1 (A1 JH×V)}{xs:A1 (A1 JH×A3×A2)}(r:KT H a xs)(d:∀b c,H b=some (.tup c)->H' b=some (.tup c)):KT H' a xs :=
 Paired.mapP r λ_ _ z=>⟨z.1,d _ _ z.2.1,z.2.2⟩
section
variable{P:A7}{w:F8}{H:Hp}{h:IU}{a:A3}
theorem zFy{u:HO}(b:NE P w H h)(e:Rd H a u):JB P w H h a u:=e.ok b
theorem Vl{b:A1 (JH×V)}(c:NE P w H h)(e:Rd H a (.dK b)):b.length<=sizeLine/\(a == sysModules)=false/\∃vs,KV b vs/\h.DictOf (D0 P w) a vs :=
 show JB P w H h a (.dK b)from zFy c e
theorem Yk{b:A1 (JH×V)}(c:NE P w H h)(e:H a=some (.dK b)):b.length<=sizeLine/\(a == sysModules)=false/\∃vs,KV b vs/\h.DictOf (D0 P w) a vs:=Vl c (.inl e)
theorem Ad{ks:A1 JH}(c:NE P w H h)(e:H a=some (.tup (ks.map kV))):(tupleKind (D0 P w)).is h ks a:=by
 obtain⟨_,b,r,o,d,f,n,g⟩:=(show JB P w H h a (.tup (ks.map kV))from c a _ e);exact⟨o,b.toArray,n,d,f,g,by simpa using Ji r⟩
theorem Tm{b:A1 (A1 JH×V)}(d:NE P w H h)(e:Rd H a (.dT b)):b.length<=sizeLine/\(a == sysModules)=false /\
  ∃xs,KT H b xs/\h.DictOfH (tupleKind (D0 P w)) a xs:=by
 obtain⟨z,y,xs,r,o,g,i,j,k,n,s,u⟩:=(show JB P w H h a (.dT b)from zFy d e);refine⟨z,y,xs,r,o,g,i,j,k,n,s,λx hx=>?_,u⟩;have c:∀{l:A1 (A1 JH×V)} {m:A1 (A1 JH×A3×A2)},KT H l m->∀x∈m,(tupleKind (D0 P w)).is h x.1 x.2.1:=by
  intro l m q
  induction q with
  | nil=>intro x hx;exact nomatch hx
  | @cons p q A B f t v =>
   intro x hx;rcases AK.mp hx with e | hx
   .subst e;exact Ad d (by rw[<-f.1];exact f.2.1)
   .exact v x hx
 exact c r x hx
theorem zHu{b:A1 (A1 JH×V)}(c:NE P w H h)(e:H a=some (.dT b)):b.length<=sizeLine/\(a == sysModules)=false /\
  ∃xs,KT H b xs/\h.DictOfH (tupleKind (D0 P w)) a xs:=Tm c (.inl e)
end
def OY(H:Hp)(a:A3)(y:V)(r:A5 V):Prop :=
 (∃c k,Rd H a (.dK c)/\y=kV k/\r=U5 c k)\/∃c k b,Rd H a (.dT c)/\y = .ref b/\H b=some (.tup (k.map kV))/\r=U5 c k
def zHl(H:Hp)(a:A3)(y v:V)(H':Hp):Prop :=
 (∃c k,H a=some (.dK c)/\y=kV k/\c.length<sizeLine/\H'=IT H a (.dK (y0 c k v))) \/
 ∃c k b,H a=some (.dT c)/\y = .ref b/\H b=some (.tup (k.map kV))/\c.length<sizeLine/\H'=IT H a (.dT (y0 c k v))
def OY.k{H:Hp}{a:A3}{b:A1 (JH×V)}{k:JH}(e:H a=some (.dK b)):OY H a (kV k) (U5 b k):=.inl ⟨b,k,.inl e,rfl,rfl⟩
section
variable{X:Cx}{pins:A1 (A3×Obj)}{σ:St}{H:Hp}{s:A4}{a:A3}{y v:V}{u r:A2}{o:A5 V}{A:IY}{E:A2->A4->Prop}
theorem Inv.big(I:Inv X pins σ H s):sysModules<s.heap.objs.size:=by
 have h:mainGlobals<s.heap.objs.size:=(I.mod.glob.keeps I.bk).lt;exact Nat.lt_trans (by decide) h
theorem Sz{Q:A2->A4->Prop}(x:A.units+1<cLine)(I:Inv X pins σ H s)(g:OY H a y (some v))(r:RelV y u)(h:∀f t,Inv X pins σ H t->RelV v f->Q f t) :
  wpAny (model X.prog X.w) A (getItem (.ref a) u) Q E s:=by
 rcases g with⟨i,k,e,j,l⟩ | ⟨i,k,b,e,j,B,l⟩
 .subst j;obtain⟨z,C,D,c,m⟩:=Vl I.hok e;obtain⟨f,n,d⟩:=NR.some_of (v:=v) (o:=valueAt D k) (by rw[l];exact c.val k);exact wpAny_getItem_of (Ix r) m.mapOf n (h f _ (I.tok _) d)
 .subst j;cases(show u=Value.ref b from r);obtain⟨z,C,F,c,m⟩:=Tm I.hok e;obtain⟨f,n,d⟩:=NR.some_of (v:=v) (o:=(atKey F k).map (·.2)) (by rw[l];exact c.val k);obtain⟨p,G,q⟩:=BC.mp n;refine wpAny_getItem_heap (tupleKind_room_in1 x) (Ad I.hok B) m G ?_;rw[q];exact h f _ (I.tok _) d
theorem zCp{Q:A2->A4->Prop}(p:A.units+1<cLine)(I:Inv X pins σ H s)(g:OY H a y o)(m:RelV y u)(h:∀n,Inv X pins σ H n->Q (.bool (!o.isSome)) n) :
  wpAny (model X.prog X.w) A (compareOp .NotIn u (.ref a)) Q E s:=by
 rcases g with⟨d,k,e,f,l⟩ | ⟨d,k,b,e,f,r,l⟩
 .subst f;obtain⟨z,i,t,c,j⟩:=Vl I.hok e;refine wpAny_notIn_of (Ix m) i j.mapOf ?_;rw[<-(c.val k).isSome_eq,<-l];exact h _ (I.tok _)
 .subst f;cases(show u=Value.ref b from m);obtain⟨z,i,v,c,j⟩:=Tm I.hok e;refine wpAny_notIn_heap (tupleKind_room_in1 p) (Ad I.hok r) i j ?_;have q:=(c.val k).isSome_eq;rw[Option.isSome_map]at q;rw[<-q,<-l];exact h _ (I.tok _)
theorem Fm{h':IU}{t':Nat}{c:HO}(I:Inv X pins σ H s)(f:VL (H a))(g:Heap.SameBut a s.heap h')(h:∃q,h'.get? a=some q)(d:JB X.prog X.w (IT H a c) h' a c) :
  Inv X pins σ (IT H a c) { s with heap:=h',toks:=t' } :=
 I.write (x:=a) (e:=a) f (.inl rfl) (λb q i z=>(g.2 b i).trans z) h d
theorem Tv{P:A7}{w:F8}{H':Hp}{h':IU}{b:A1 (JH×V)}{vs:A1 (JH×A2)}(z:b.length<=sizeLine)(d:(a == sysModules)=false)(c:KV b vs)(e:h'.DictOf (D0 P w) a vs) :
  JB P w H' h' a (.dK b):=⟨z,d,vs,c,e⟩
theorem Rk{H':Hp}{Q:Unit->A4->Prop}(K:A.units+1<cLine)(I:Inv X pins σ H s)(g:zHl H a y v H')(C:RelV y u)(rv:RelV v r)(h:∀D,Inv X pins σ H' D->Q () D) :
  wpAny (model X.prog X.w) A (setItem (.ref a) u r) Q E s:=by
 rcases g with⟨d,k,e,m,l,n⟩ | ⟨d,k,b,e,m,F,l,n⟩
 .subst m n;obtain⟨z,o,L,f,p⟩:=Yk I.hok e;have t:L.length<=sizeLine:=by rw[<-f.length];exact z
  have x:(y0 d k v).length<=sizeLine:=by have:=R8 d k v;lia
  refine wpAny_setItem_pairs (hsz:=t) (Ix C) p λG i B=>h _ ?_;have M:∃q,G.get? a=some q:=let⟨q,_,_,j,_⟩:=i;⟨q,j⟩;exact Fm I (by rw[e];exact VP) B M (Tv x o (f.put k rv) i)
 .subst m n;cases(show u=Value.ref b from C);obtain⟨z,o,N,f,p⟩:=zHu I.hok e;have t:N.length<=sizeLine:=by rw[<-Paired.length f];exact z
  have x:(y0 d k v).length<=sizeLine:=by have:=R8 d k v;lia
  refine wpAny_setItem_heap (hsz:=t) (tupleKind_room_in1 K) (Ad I.hok F) p λG i B=>h _ ?_;obtain⟨q,O,P,j,R,S,T,_,U⟩:=i;refine Fm I (by rw[e];exact VP) B ⟨q,j⟩ ⟨x,o,_,(f.put k F rv).keeps λc V J=>?_,q,O,P,j,R,S,T,U⟩;rw[B6 (S8 J e (λz=>nomatch z))];exact J
end
def zJp(i:IW):Prop:=∀a b,subscripted i false a b=operate [a,b] (getItem a b)
def zAn{prog:A7}{w:F8}{A:IY}{E:A2->A4->Prop}{s:A4}{c:RM}{b a:IW}{pos:Pos}{T id:String}{Q:A2->A4->Prop}
  (f:typeLookup (.type T) "__getitem__" = pure (some (.builtin id))) (g:zJp a)
  (h:wpAny (model prog w) A (eval b c) (λo d4=>wpAny (model prog w) A (eval a c) (λi f7=>f7.TypeIs o T/\wpAny (model prog w) A (getItem o i) Q E f7) E d4) E s) :
  wpAny (model prog w) A (eval (.Subscript b a pos) c) Q E s:=by
 refine Subscript_ (CI h (λo d4 p0=>CI p0 (λi f7 p3=>?_) λ_ _ x=>x) λ_ _ x=>x);obtain⟨e,p3⟩:=p3;unfold subscriptTail;refine AA ?_;rw[getitemInPython_of_ne e.not_modules];refine AA (HU e f ?_);have d:wpAny (model prog w) A (subscripted a false o i) (λr s₃=>wpAny (model prog w) A (letTemporaryGo b o r >>= λ_=>pure r) Q E s₃) E f7:=by
  rw[g o i];exact wpAny_operating (CI p3 (λr s₃ h9=>AA (wpAny_letTemporaryGo (AF h9))) λ_ _ x=>x)
 first
  | exact AF (AA d)
  | exact AA (AF (AA d))
  | exact AA d
def Kk{X:Cx}{c:A1 (A3×Obj)}{σ:St}{H:Hp}{s:A4}{a:A3}{y:V}{o:A5 V}(I:Inv X c σ H s)(g:OY H a y o):s.TypeIs (.ref a) "dict":=by
 rcases g with⟨d,k,e,_,_⟩ | ⟨d,k,b,e,_,_,_⟩
 .obtain⟨_,_,h,_,f⟩:=Vl I.hok e;exact f.typeIs
 .obtain⟨_,_,i,_,f⟩:=Tm I.hok e;exact f.typeIs
def Wx(c ty:TE):TE:=λσ H Q=>c σ H λx d=>ty σ d λy b=>∃a v,x = .ref a/\OY b a y (some v)/\Q v b
def zCu(ty c:TE):TE:=λσ H Q=>ty σ H λy d=>c σ d λx b=>∃a o,x = .ref a/\OY b a y o/\Q (.bl (!o.isSome)) b
def zHt(c ty d:TE):TS:=λD σ H=>d σ H λv e=>c σ e λx f=>ty σ f λy g=>∃a b,x = .ref a/\zHl g a y v b/\D.nx σ b
section
variable{X:Cx}{o i e value:IW}{pos pos' tpos:Pos}{td ty tv:TE}
theorem O1(e:X.A.units+1<cLine)(f:PE X o td)(hi:PE X i ty)(j:zJp i):PE X (.Subscript o i pos) (Wx td ty):=by
 intro b s σ H Q I h;refine zAn PySem.F.slot_dict_getitem.lookup j (JN (f b s σ H _ I h) λu k ⟨x,l,m,n,p⟩=>JN (hi b k σ l _ m p) λB C ⟨y,q,d,r,a,v,t,g,w⟩=>?_);subst t;obtain rfl:u=Value.ref a:=n;exact⟨Kk d g,Sz e d g r λD E z c=>⟨v,q,z,c,w⟩⟩
theorem Vs(c:X.A.units+1<cLine)(hi:PE X i ty)(d:PE X o td):PC X .NotIn i o (zCu ty td):=by
 intro b s σ H Q I h;refine JN (hi b s σ H _ I h) λw e ⟨y,f,j,k,l⟩=>JN (d b e σ f _ j l) λu z ⟨x,m,n,p,a,q,r,g,t⟩=>?_;subst r;obtain rfl:u=Value.ref a:=p;exact zCp c n g k λB v=>⟨.bl (!q.isSome),m,v,rfl,t⟩
theorem Up(c:X.A.units+1<cLine)(d:PE X o td)(hi:PE X i ty)(e:PE X value tv)(f:swapsWith value (some (.Subscript o i pos')) pos.line X.env=pure false) :
  PS X (.Assign [.Subscript o i pos'] value pos) (zHt td ty tv):=by
 intro b s σ H D I h;refine wpAny_Assign_Subscript (JN (e b s σ H _ I h) λr j ⟨v,k,l,m,n⟩=>JN (d b j σ k _ l n) λu p ⟨x,q,t,w,z⟩=>JN (hi b p σ q _ t z) λK L ⟨y,M,B,C,a,E,F,g,G⟩=>?_) f;subst F;obtain rfl:u=Value.ref a:=w;exact Rk c B g C m λN J=>⟨σ,E,J,G⟩
end
def Fd{P:A7}{w:F8}{H:Hp}(h:IU)(a:sysModules<h.objs.size):JB P w H (h.push { cls:=.type "dict",data:=.dict #[] }) h.objs.size (.dK []) :=
 ⟨CY _,beq_eq_false_iff_ne.mpr (Ne.symm (AV a)),[],.nil,Heap.DictOf.new h⟩
def zDn:TE:=λ_ H Q=>∀p,H p=none->Q (.ref p) (IT H p (.dK []))
section
variable{X:Cx}{pos:Pos}
theorem Xk:PE X (.Dict [] [] pos) zDn:=λb s σ H Q I h =>
 wpAny_Dict_empty ⟨.ref s.heap.objs.size,_,I.laid (a:=s.heap.objs.size) (o:=.dK []) (t':=s.toks) (λ_ _ q=>AD _ q) (VQ _) (Fd s.heap I.big),rfl,h _ (I.hok.fresh (VQ _))⟩
end
def Rc:A1 (TE×TE)->St->Hp->(A1 (V×V)->Hp->Prop)->Prop
 | [],_,H,Q=>Q [] H
 | (a,b)::r,σ,H,Q=>a σ H λx c=>b σ c λy d=>Rc r σ d λe f=>Q ((x,y)::e) f
abbrev VV:A1 (V×V)->A1 (A2×A2)->Prop:=Paired λp q=>RelV p.1 q.1/\RelV p.2 q.2
def PPs(X:Cx)(pos:Pos)(c:A1 (A5 IW))(a:A1 IW)(d:A1 (TE×TE)):Prop :=
 ∀(b:A1 (A3×Obj)) (s:A4) (σ:St) (H:Hp) (Q:A1 (V×V)->Hp->Prop),Inv X b σ H s->Rc d σ H Q ->
  wpAny (model X.prog X.w) X.A (evalPairs (pairTrees c a X.env pos)) (λg h=>∃e f,Inv X b σ f h/\VV e g/\Q e f) X.xe s
def zCn{X:Cx}{pos:Pos}:PPs X pos [] [] []:=λa s σ H Q I h=>pairTrees_nil_walk ⟨[],H,I,.nil,h⟩
def Av{X:Cx}{pos:Pos}{k v:IW}{ks:A1 (A5 IW)}{vs:A1 IW}{d e:TE}{b:A1 (TE×TE)}(f:PE X k d)(g:PE X v e)(i:PPs X pos ks vs b) :
  PPs X pos (some k::ks) (v::vs) ((d,e)::b):=λa s σ H Q I h =>
 pairTrees_cons_walk (JN (f a s σ H _ I h) λu j ⟨x,l,m,n,o⟩=>JN (g a j σ l _ m o) λD p ⟨y,q,r,t,w⟩ =>
  JN (i a p σ q _ r w) λE F ⟨z,A,B,c,C⟩=>⟨(x,y)::z,A,B,.cons ⟨n,t⟩ c,C⟩)
def Z0(a more:A1 (JH×V)):A1 (JH×V):=more.foldl (λb c=>y0 b c.1 c.2) a
def KV.merge:∀{more:A1 (JH×V)} {b:A1 (JH×A2)} {a:A1 (JH×V)} {vs:A1 (JH×A2)},KV more b->KV a vs->KV (Z0 a more) (merged vs b):=by
 intro more b a vs r;unfold KV at r
 induction r generalizing a vs with
 | nil=>intro q;exact q
 | @cons p q f g h t c =>
  intro d;have e:KV (y0 a p.1 p.2) (stored vs q.1 q.2):=by
   have:=d.put p.1 h.2;rw[<-h.1];exact this
  exact c e
def i9:∀(more a:A1 (JH×V)),(Z0 a more).length<=a.length+more.length
 | [],a=>by show a.length<=a.length+0;lia
 | p::r,a=>by
  have b:=i9 r (y0 a p.1 p.2);have c:=R8 a p.1 p.2;show(Z0 (y0 a p.1 p.2) r).length<=_;rw[BK];lia
def Du{P:A7}{w:F8}:∀{d:A1 (JH×V)} {f:A1 (A2×A2)},VV (d.map λg=>(kV g.1,g.2)) f->∃e,Carries (D0 P w) f e/\KV d e
 | [],_,r=>by rw[HI]at r;cases r;exact⟨[],VP,.nil⟩
 | p::d,_,r=>by
  rw[AZ]at r;cases r with
  | @cons a b j k h t =>
   obtain⟨e,c,q⟩:=Du (P:=P) (w:=w) t;obtain⟨l,i⟩:=b;exact⟨(p.1,i)::e,⟨Ix h.1,rfl,c⟩,.cons ⟨rfl,h.2⟩ q⟩
def zIo(b:A1 (TE×TE)):TE:=λσ H Q=>∀p,H p=none->Rc b σ (IT H p (.dK [])) λe c=>c p=some (.dK [])/\∃a:A1 (JH×V),e=a.map (λd=>(kV d.1,d.2))/\a.length<=15/\Q (.ref p) (IT c p (.dK (Z0 [] a)))
def zCg{X:Cx}{pos:Pos}{b:A1 (A5 IW)}{d:A1 IW}{f:A1 (TE×TE)}(h:PPs X pos b d f)(g:b.all (·.isSome)=true)(p:b.length=d.length)(r:b≠[])
  (l:b.length<=15):PE X (.Dict b d pos) (zIo f):=by
 intro i s σ H Q I q;have t:=I.hok.fresh (VQ s.heap.objs.size);have u:=I.laid (a:=s.heap.objs.size) (o:=.dK []) (h':=s.heap.push { cls:=.type "dict",data:=.dict #[] }) (t':=s.toks) (λ_ _ q=>AD _ q) (VQ _) (Fd s.heap I.big);refine wpAny_Dict_walk (knd:=D0 X.prog X.w) g p r l (JN (h i _ σ _ _ u (q _ t)) λM N ⟨O,R,n,m,e,j,v,lk,x⟩=>?_);subst v;obtain⟨y,c,A⟩:=Du (P:=X.prog) (w:=X.w) m;obtain⟨z,B,C,D,E⟩:=Yk n.hok e;cases D;refine⟨y,c,E,λh' k F=>⟨.ref s.heap.objs.size,_,?_,rfl,x⟩⟩;have G:(Z0 [] j).length<=sizeLine:=by
  have J:=i9 j [];rw[E_]at J;rw[sizeLine_eq];lia
 have K:∃q,h'.get? s.heap.objs.size=some q:=let⟨q,_,_,L,_⟩:=k;⟨q,L⟩;exact Fm n (by rw[e];exact VP) F K (Tv G B (A.merge .nil) k)
def IsD(H:Hp)(a:A3):Prop:=(∃b,Rd H a (.dK b))\/∃b,Rd H a (.dT b)
def zEn{X:Cx}{f:A1 (A3×Obj)}{σ:St}{H:Hp}{s:A4}{a:A3}(I:Inv X f σ H s)(d:IsD H a) :
  s.TypeIs (.ref a) "dict"/\(∀b,Value.ref a = .ref b->∃c,s.heap.get? b=some c/\c.dict=none)/\(a == sysModules)=false:=by
 rcases d with⟨h,e⟩ | ⟨h,e⟩
 .obtain⟨_,i,l,_,g⟩:=Vl I.hok e;refine⟨g.typeIs,λb q=>?_,i⟩;cases q;obtain⟨c,_,_,j,k,_⟩:=g;exact⟨c,j,k.2.1⟩
 .obtain⟨_,i,m,_,g⟩:=Tm I.hok e;refine⟨g.typeIs,λb q=>?_,i⟩;cases q;obtain⟨c,_,_,j,k,_⟩:=g;exact⟨c,j,k.2.1⟩
end L2
namespace Att
open PySem PySem.W PySem.Calls PyProof.Rows
def Bt{P:Params}{h:IU}:∀(ns:A1 Int) (vs:A1 A2),WellAll P h vs (ns.map WData.int)->IntsAre vs ns:=by
 intro ns
 induction ns with
 | nil =>
  intro vs w;rw[HI]at w;cases w;exact .nil
 | cons n ns c =>
  intro vs w;rw[AZ]at w;cases w with
  | cons a b =>
   cases a;exact .cons _ _ (c _ b)
def Sa{l:OpenLaw}{n:Nat}(o:l.most=some n){P:Params}{h:IU}{args:A1 WData}{b:A1 A2}
  (c:l.row.toRowW.claim.pre args=true) (j:WellAll P h b args) :
  ∃a vs ns,b = [Value.ref a]/\args = [WData.list (ns.map WData.int)]/\h.get? a=some { cls:=.type "list",data:=.seq vs.toArray }/\IntsAre vs ns/\ns.length<=n:=by
 have k:WShape.hasAll [] args [.list .int]=true:=(pre_splitW c).1;have m:l.pre.holds [] { args:=args }=true:=(pre_splitW c).2;obtain⟨d,r,rfl,p,s⟩:=hasAllW_cons k;obtain rfl:=hasAllW_nil s;obtain⟨y,rfl,t⟩:=hasW_list p;obtain⟨ns,rfl⟩:=items_int t;have e:ns.length<=n:=by
  unfold OpenLaw.pre at m;have g:(WTm.not (.lt (.lit (.int (n:Int))) (.len (.arg 0)))).holds [] { args:=[.list (ns.map .int)] }=true:=by
   have g:=(holds_andW m).1;rw[o]at g;exact g
  have i:=condW_of g (w_not (w_lt w_lit (w_len_list (w_arg rfl))));rw[AB]at i;refine Nat.le_of_not_lt λq=>?_;have u:(n:Int) <((ns.length:Nat):Int):=by lia
  first
   | (rw[AX u]at i;exact absurd i (by decide))
   | (simp at i;lia)
 cases j with
 | cons v w =>
  cases w;cases v with
  | list x f=>exact⟨_,_,ns,rfl,rfl,x,Bt ns _ f,e⟩
def Rh(l:OpenLaw)(args:A1 WData):l.row.toRowW.claim.post args (.bool true) args=true :=
 postW_of (r:=l.row.toRowW) (X:=(true == true))
  (show WShape.has [] (.bool true) .bool=true by first | rfl | decide | simp[WShape.has,WShape.arms,WShape.armsAll])
  (show(WTm.eq .res (.lit (.bool true))).value [] { args:=args,res:=some (.bool true),after:=args }=some (.bool (true == true))from w_eq_bool (w_res rfl) w_lit) rfl
def RC{l:OpenLaw}{n:Nat}{q:A7}{b:A1 Str}{z:(Str->A5 A2)->IU->Prop}{A:F8->IU->Prop}{d:DefRec}
  (E:l.most=some n) (p:d.params.defaults = [])
  (call:∀(w:F8) (s₀ d4:A4) (mg t:Str->A5 A2) (g:A3) (o:Obj) (u k c:A2) (a:A3) (vs:A1 A2) (ns:A1 Int),
   Ground q b [] z w s₀ mg t d4.heap->A w d4.heap ->
   d4.heap.get? g=some o->o.data = .func (docDef d.name d.params d.body d.scope u k c)->d4.heap.CodeRec k d.name->mg d.name=some (.ref g) ->
   d4.heap.get? a=some { cls:=.type "list",data:=.seq vs.toArray }->IntsAre vs ns->ns.length<=n->d4.gens = #[] ->
   codeAny (model l.prog w) callerA (.call (.ref g) ⟨[.ref a],[]⟩) (λr m=>r = .ok (.ret (.bool true))/\OldK d4.heap m.heap/\m.os=d4.os/\AllBare m.gens) d4) :
  WalkO q b z A l.row.toRowW d [] (λf vs=>PySem.call f vs):=by
 intro w s₀ d4 mg t G Y g o u k c F kV H I v B x J args C R h D K y L;obtain rfl:F = .none:=Dflts.none B p;obtain rfl:kV = .none:=Dflts.noKw B;obtain⟨a,vs,ns,rfl,rfl,i,e,j⟩:=Sa E h y;refine enter_call (codeAny_mono (call w s₀ d4 mg t g o u k c a vs ns G Y H (fd_plain I) v x i e j J) λr m M=>?_);obtain⟨rfl,N,O,P⟩:=M;exact⟨.inl ⟨.bool true,.bool true,[],rfl,λ_=>rfl,.bool true,Rh l _,λ_=>⟨List.Pairwise.nil,λ_ Q=>(nomatch Q)⟩⟩,N,O,P⟩
end Att
namespace L2
open PySem PySem.Spec PyProof.Rows
def Jh:∀{vs:A1 A2} {ns:A1 Int},IntsAre vs ns->I_ (ns.map V.int) vs
 | _,_,.nil=>.nil
 | _,_,.cons n t h=>.cons ⟨t,rfl⟩ (Jh h)
def O6(s:JD)(j:Nat):JD:=match s with
 | .ClassDef _ _ _ a _ _ _ _ _ _ _=>a.getD j (.Pass ⟨0,0,0,0⟩)
 | _=>.Pass ⟨0,0,0,0⟩
def U1(s:JD):Arguments:=match s with
 | .FunctionDef _ a _ _ _ _ _ _ _ _=>a
 | _=>{ posonlyargs:=[],args:=[],vararg:=none,kwonlyargs:=[],kw_defaults:=[],kwarg:=none,defaults:=[] }
def P2(s:JD):A1 JD:=match s with
 | .FunctionDef _ _ b _ _ _ _ _ _ _=>b
 | _=>[]
def B7(s:JD):JX:=match s with
 | .FunctionDef _ _ _ _ _ _ a _ _ _=>a
 | _=>{ kind:=.function,names:=[],isGenerator:=false,isCoroutine:=false }
abbrev JK:SJ:=λ_ _ _ _ _ _=>False
abbrev E0:XK:=λ_ _ _=>False
def M5{X:Cx}:y4 JK X E0:=λ_ _ _ _ _ _ _ h=>h.elim
structure QT(K:VN)(x qual:Str)(st:JD)(f:A3)(fd:JC):Prop where
 ex:∃(oc:A2) (od:A5 A3) (kV doc pm:A2) (an:A5 A3) (cdv ct:A2) (osl:CM (A5 A2)),
  fd=PySem.W.fnOf x qual (U1 st) (P2 st) (B7 st) .none kV doc pm an cdv ct/\K.lookup f=some ⟨oc,od,.func fd,osl⟩/\PySem.W.codeIn K cdv qual=true
 kp:PySem.W.keepIn K (.ref f)=true
section
variable{P:A7}{w:F8}{K:VN}{mg:Str->A5 A2}{base:IU}
theorem QT.ok{x b:Str}{st:JD}{f:A3}{l:JC}{N e:A1 Str}{k:Nat}{sp:Sp}(F:QT K x b st f l)(S:IR N e (B7 st))(g:∀vs H Q E,sp vs H Q E->vs.length=e.length)
  (d:∀(c:A2) (A:IY) (a:A1 RM) (s:A4) (H:Hp) (vs:A1 V) (Q:VK) (E:XK),JY k (A.deeper (envOfC b (B7 st) s.heap.objs.size f c))->sp vs H Q E ->
   ∃t,RL (Vz JK P w K mg base N b (B7 st) f c A a s H E).nox (P2 st) t/\t { nx:=λ_ H'=>Q .non H',rt:=Q } (Bz N vs) H):IZ P w K mg base JK (k+1) f l e sp:=by
 obtain⟨p,r,kV,m,u,v,c,y,n,rfl,lk,i⟩:=F.ex;refine zGb lk i S g λA a s H vs Q E o j=>?_;obtain⟨t,h,q⟩:=d c A a s H vs Q E o j;exact⟨t,h.nox,q⟩
theorem QT.binds{x a:Str}{st:JD}{f:A3}{i:JC}{d:A1 Str}(F:QT K x a st f i)
  (h:∀(kV b e:A2) (g:A5 A3) (c ct:A2) (us:A1 A2),us.length=d.length->bindArgs (PySem.W.fnOf x a (U1 st) (P2 st) (B7 st) .none kV b e g c ct) ⟨us,[]⟩=pure (d.zip us)):Binds K i d []:=by
 obtain⟨l,m,kV,b,e,g,c,ct,j,rfl,lk,k⟩:=F.ex;exact .all (h kV b e g c ct)
theorem MT{x a:Str}{st:JD}{f:A3}{i:A2}{j g:A5 A3}{e:CM (A5 A2)}{kV d h b ct:A2}(l:K.lookup f=some ⟨i,j,.func (PySem.W.fnOf x a (U1 st) (P2 st) (B7 st) .none kV d h g b ct),e⟩)
  (c:PySem.W.codeIn K b a=true) (k:PySem.W.keepIn K (.ref f)=true):QT K x a st f (PySem.W.fnOf x a (U1 st) (P2 st) (B7 st) .none kV d h g b ct):=⟨⟨i,j,kV,d,h,g,b,ct,e,rfl,l,c⟩,k⟩
end
def b9{A:IY}{k:Nat}(a:JY k A):A.units+1<cLine:=Nat.lt_of_le_of_lt (EX (by decide:1<=64) _) a.units
section
variable{X:Cx}
theorem pv(i:Nat){x:Str}{pos:Pos}(b:X.N[i]?=some x:=by rfl)(c:VE X.env.scope x:=by first | exact Or.inl rfl | exact Or.inr (Or.inl rfl) | exact Or.inr (Or.inr rfl))(d:(x ==("__debug__":Str))=false:=by decide)
  (a:(x ==("__classdict__":Str))=false:=by decide):PE X (.Name x pos) (Sc i):=Zl b c d a
def S6{A B:Prop}(h:B):if false=true then A else B:=by
 rw[AN BD];exact h
def Gc{A B:Prop}(h:A):if true=true then A else B:=by
 rw[AQ rfl];exact h
def V0{c A B:Prop}[Decidable c](h1:c->A)(h2:¬c->B):if c then A else B:=by
 by_cases h:c
 .rw[AQ h];exact h1 h
 .rw[AN h];exact h2 h
def F1(H H':Hp):Prop:=∀b o,H b=some o->H' b=some o
def F1.refl(H:Hp):F1 H H:=λ_ _ h=>h
def F1.trans{H d e:Hp}(a:F1 H d)(b:F1 d e):F1 H e:=λc o h=>b c o (a c o h)
def F1.free{H H':Hp}(e:F1 H H'){l:A3}(h:H' l=Option.none):H l=Option.none:=by
 cases q:H l with
 | none=>rfl
 | some o =>
  rw[e l o q]at h;cases h
def NQ(X:Cx)(a:JX)(cl:A1 (Str×A3))(N':A1 Str)(b:A1 (A3×Obj))(ex:A1 A3)(c:A4)(d:Hp):Cx where
 prog:=X.prog
 w:=X.w
 K:=X.K
 mg:=X.mg
 base:=X.base
 A:=X.A
 N:=N'
 s₀:=c
 H₀:=d
 env:=compEnvC a cl c.heap.objs.size X.env
 outer:=X.stack
 stack:=X.stack
 ex:=ex
 fn:=λ_=>false
 calm:=X.calm
 pn:=X.pn++b
 xe:=λ_ _=>False
def PU(X:Cx)(a:JX)(cl:A1 (Str×A3)):A1 Str->A1 (A5 Nat)->Prop
 | [],[]=>True
 | _::N,none::c=>PU X a cl N c
 | x::N,some j::c=>(X.N[j]?=some x/\X.env.scope.names.lookup x=some .cell/\(relabel a X.env).names.lookup x=some .cell/\cl.lookup x=X.env.cells.lookup x)/\PU X a cl N c
 | _,_=>False
def R5(X:Cx):A1 (Str×A3)->Prop
 | []=>True
 | p::r=>X.env.cells.lookup p.1=some p.2/\R5 X r
structure OD(X:Cx)(scope:JX)(cl:A1 (Str×A3))(N':A1 Str)(cap:A1 (A5 Nat)):Prop where
 kind:scope.kind = .function
 nocell:∀y∈scope.names,y.2≠ .cell
 loc:∀y∈scope.names,y.2 = .local->scope.names.lookup y.1=some .local
 clos:closureFor scope X.env=pure cl
 cin:R5 X cl
 has:((relabel scope X.env).names.all λy=>!(y.2 == .cell||y.2 == .free)||(cl.lookup y.1).isSome)=true
 caps:PU X scope cl N' cap
def Zt(cap:A1 (A5 Nat))(σ:St):St:=cap.map λo=>o.bind λj=>(σ[j]?).join
def R5.get{X:Cx}:∀{cl:A1 (Str×A3)} {x:Str} {c:A3},R5 X cl->cl.lookup x=some c->X.env.cells.lookup x=some c
 | [],_,_,_,h=>by simp at h
 | (y,d)::r,x,c,⟨a,b⟩,h=>by
  rw[IL]at h;cases e:x == y with
  | true =>
   rw[e]at h;cases h;rw[beq_iff_eq.mp e];exact a
  | false =>
   rw[e]at h;exact R5.get b h
def PU.len{X:Cx}{a:JX}{cl:A1 (Str×A3)}:∀{N:A1 Str} {cap:A1 (A5 Nat)},PU X a cl N cap->cap.length=N.length
 | [],[],_=>rfl
 | _::N,none::c,h=>by rw[BK,BK,PU.len (N:=N) (cap:=c) h]
 | _::N,some j::c,h=>by rw[BK,BK,PU.len h.2]
 | [],_::_,h=>h.elim
 | _::_,[],h=>h.elim
def PU.get{X:Cx}{a:JX}{cl:A1 (Str×A3)}{j:Nat}{x:Str}:∀{N:A1 Str} {cap:A1 (A5 Nat)} {i:Nat},PU X a cl N cap->N[i]?=some x->cap[i]?=some (some j) ->
  X.N[j]?=some x/\X.env.scope.names.lookup x=some .cell/\(relabel a X.env).names.lookup x=some .cell/\cl.lookup x=X.env.cells.lookup x
 | [],_,_,_,h,_=>by simp at h
 | _::_,[],_,_,_,h=>by simp at h
 | y::N,none::c,0,_,_,h=>by simp at h
 | y::N,none::c,i+1,h,b,d=>PU.get (N:=N) (cap:=c) (i:=i) h (by simpa using b) (by simpa using d)
 | y::N,some k::c,0,h,b,d=>by
  simp at b d;subst b;subst d;exact h.1
 | y::N,some k::c,i+1,h,b,d=>PU.get (N:=N) (cap:=c) (i:=i) h.2 (by simpa using b) (by simpa using d)
section
variable{X:Cx}{scope:JX}{cl:A1 (Str×A3)}{N':A1 Str}{cap:A1 (A5 Nat)}{pins:A1 (A3×Obj)}{σ:St}{H3:Hp}{s3:A4}{ex:A1 A3}
theorem Dw{p:KQ->Bool}:∀{names:A1 (Str×KQ)} {q:Str->KQ->Bool} {x:Str} {k:KQ},(names.all λy=>q y.1 y.2)=true->names.lookup x=some k->q x k=true
 | [],_,_,_,_,h=>by simp at h
 | (y,d)::r,q,x,k,a,h=>by
  rw[List.all_cons,BL]at a;rw[IL]at h;cases e:x == y with
  | true =>
   rw[e]at h;cases h;rw[beq_iff_eq.mp e];exact a.1
  | false =>
   rw[e]at h;exact Dw (p:=p) (names:=r) (q:=q) a.2 h
theorem Inv.block(I:Inv X pins σ H3 s3)(S:OD X scope cl N' cap)(hc:X.calm=true)(t:∀b∈ex,Ds X pins H3 b/\∃o,s3.heap.get? b=some o){h1:IU}{T:Nat}
  (G:h1.Ns s3.heap.objs.size (λ_=>none)) (B:∀b o,s3.heap.get? b=some o->h1.get? b=some o) :
  Inv (NQ X scope cl N' pins ex s3 H3) [] (Zt cap σ) H3 { s3 with heap:=h1,toks:=T }:=by
 have C:∀b o,s3.heap.get? b=some o->b≠s3.heap.objs.size:=λb o e=>AV (AH e);have w:∀x c,cl.lookup x=some c->∃v,s3.heap.IsCell c v:=λx c e=>I.cell x c (S.cin.get e);have A:H3 s3.heap.objs.size=none:=I.hok.fresh (VQ _);refine⟨⟨I.ok.mod,?_,I.ok.glob,I.ok.blt,VQ _,λx y c H g=>I.ok.inj x y c (S.cin.get H) (S.cin.get g),λx U=>?_,λx c h _=>absurd h BD,I.ok.hd,I.ok.frames,.inl rfl,λb D=>?_,I.bs,VR I.ok.bsz I.sz,λb o e D=>?_,λb D=>?_,I.stack,I.stkFree⟩,
  rfl,I.bare,Un.kept B,⟨_,G,λi x v H g e3=>?_⟩,λx c e=>?_,A,λx c e=>I.freeC x c (S.cin.get e),λp V=>?_,I.hok.kept B,?_⟩
 .exact S.kind
 .have q:∀k,(relabel scope X.env).names.lookup x=some k->(!(k == .cell||k == .free)||(cl.lookup x).isSome)=true:=λk e=>Dw (p:=λ_=>true) (q:=λa k=>!(k == .cell||k == .free)||(cl.lookup a).isSome) S.has e;have J:(relabel scope X.env).names.lookup x=some .cell\/(relabel scope X.env).names.lookup x=some .free:=U;have:(cl.lookup x).isSome=true:=by
   rcases J with e | e
   .exact q _ e
   .exact q _ e
  exact FF.mp this
 .obtain⟨⟨_,_,_,_,W,_⟩,o,e⟩:=t b D;exact⟨C b o e,λx c E=>W x c (S.cin.get E)⟩
 .obtain⟨⟨f0,P,Q,f3,_⟩,_⟩:=t b D;rcases f3 with f3 | f3
  .exact I.ok.noex b o e f3
  .have:=(I.ok.bs b o e).1;exact absurd (BH (AH this) f3) (EI _)
 .intro K;obtain⟨⟨_,P,Q,_⟩,_⟩:=t b D;rcases AK.mp (I.stkSub b K)with z | z
  .exact P z
  .exact Q z
 .unfold Zt at g;rw[AI]at g;cases E:cap[i]? with
  | none=>rw[E]at g;cases g
  | some o =>
   rw[E]at g;cases o with
   | none=>cases g
   | some j =>
    have f:(σ[j]?).join=some v:=BJ g;obtain⟨Y,R,Z,c4⟩:=S.caps.get H E;have F:σ[j]?=some (some v):=by
     cases F:σ[j]? with
     | none=>rw[F]at f;cases f
     | some z=>rw[F]at f;cases z with
      | none=>cases f
      | some z=>cases f;rfl
    obtain⟨m,hn,hl⟩:=I.loc;obtain⟨u,r,l⟩:=hl j x v Y F (.inr (.inl R));refine⟨u,r,?_⟩;rcases l with⟨k,_⟩ | ⟨_,c,L,s⟩
    .have:X.env.scope.names.lookup x=some .local:=k;rw[R]at this;cases this
    .exact .inr ⟨.inl Z,c,c4.trans L,let⟨o,M,N⟩:=s;⟨o,B _ _ M,N⟩⟩
 .obtain⟨v,o,M,N⟩:=w x c e;exact⟨v,o,B _ _ M,N⟩
 .have O:p∈X.pn++pins:=by simpa [NQ] using V
  obtain⟨e,n,ne,nf,d⟩:=I.pin p O;refine⟨B _ _ e,n,C _ _ e,λK=>?_,d⟩;rcases AK.mp (I.stkSub p.1 K)with z | z
  .exact ne z
  .exact nf z
 .unfold Zt;rw[AB];exact S.caps.len
theorem Inv.unblock{σ':St}{H':Hp}{s':A4}{h':IU}(I:Inv X pins σ H3 s3)(g:∀b∈ex,Ds X pins H3 b)(J:Inv (NQ X scope cl N' pins ex s3 H3) [] σ' H' s')(f:Heap.SameBut s3.heap.objs.size s'.heap h') :
  Inv X pins σ H' { s' with heap:=h' }:=by
 have d:H' s3.heap.objs.size=none:=J.free;refine I.call' (ch:=ex) J.os ⟨λb o e n h a=>?_,λb o e n h a=>?_,λb o e n a=>?_,λb o e a=>?_,J.base.tups,J.base.frzs,J.base.tbls⟩ (λb j e=>?_) J.bare λb i=>?_
 .exact(f.2 b (AV (AH e))).trans (J.base.keep b o e n h a)
 .obtain⟨k,q⟩:=J.base.slot b o e n h a;exact⟨k,(f.2 b (AV (AH e))).trans q⟩
 .exact J.base.free b o e n a
 .obtain⟨l,q⟩:=J.base.there b o e a;exact⟨l,(f.2 b (AV (AH e))).trans q⟩
 .refine(J.hok b j e).stay (λc u m q=>(f.2 c ?_).trans q) (λ_ q=>q) λ_ _ q=>q;rintro rfl;rcases m with z | z
  .rw[<-z,d]at e;cases e
  .rw[d]at z;cases z
 .obtain⟨_,p,_,r,s,t⟩:=g b i;exact⟨r,p,s,t⟩
end
def Mc(e:IW)(d:Nat)(iter tg:IW)(ifs:A1 IW)(b:Sem Fin->Sem Fin)(g f:A2)(a:RM):Sem Fin:=do
 standAt iter.pos
 match <-pyNext g with
 | none=>pure (.done .next)
 | some v =>
  letOwnedTupleGo tg g v
  assign tg a v
  let mut h:=true
  for c in ifs do
   if h then h <-isTrue c a (eval c a)
  if h then b (again (.compLoop e d g f a))else again (.compLoop e d g f a)
def emL(a:IW)(b:A2)(c:RM)(k:Sem Fin):Sem Fin:=(do let _ <-call (.builtin "list.append") [b,<-eval a c]:Sem Unit) >>= λ_=>k
def emD(a b:IW)(D:A3)(c:RM)(k:Sem Fin):Sem Fin:=(do
   let d <-eval a c
   let e <-holding [d] (eval b c)
   standAt { a.pos with endLine:=b.pos.endLine,endCol:=b.pos.endCol }
   holding [d,e] (dictSet D d e):Sem Unit) >>= λ_=>k
def Dx(b tg iter:IW)(ifs:A1 IW)(a:JX)(pos:Pos)(e c:A2)(d:RM) :
  compTurn (.ListComp b [⟨tg,iter,ifs,0⟩] a pos) 0 e c d=Mc (.ListComp b [⟨tg,iter,ifs,0⟩] a pos) 0 iter tg ifs (emL b c d) e c d:=rfl
def Pr(k v tg iter:IW)(ifs:A1 IW)(a:JX)(pos:Pos)(c:A2)(D:A3)(b:RM) :
  compTurn (.DictComp k v [⟨tg,iter,ifs,0⟩] a pos) 0 c (.ref D) b=Mc (.DictComp k v [⟨tg,iter,ifs,0⟩] a pos) 0 iter tg ifs (emD k v D b) c (.ref D) b:=rfl
abbrev SO:=St->Hp->(St->Hp->Prop)->Prop
def PEm(X:Cx)(b:Sem Fin->Sem Fin)(t:SO):Prop :=
 ∀(a:A1 (A3×Obj)) (s:A4) (σ:St) (H:Hp) (Q:St->Hp->Prop) (k:Sem Fin) (F:Fin->A4->Prop) (E:A2->A4->Prop),Inv X a σ H s->t σ H Q ->
  (∀c σ' d,Inv X a σ' d c->Q σ' d->wpAny (model X.prog X.w) X.A k F E c)->wpAny (model X.prog X.w) X.A (b k) F E s
def UT(X:Cx)(ifs:A1 IW)(t:TT):Prop :=
 ∀(a:A1 (A3×Obj)) (s:A4) (σ:St) (H:Hp) (Q:Bool->Hp->Prop),Inv X a σ H s->t σ H Q ->
  wpAny (model X.prog X.w) X.A (forIn ifs true λc r=>if r=true then do let b <-isTrue c X.env (eval c X.env);pure (ForInStep.yield b)else pure (ForInStep.yield r)) (TP X a σ Q) X.xe s
def Aq:TT:=λ_ H Q=>Q true H
def G7{X:Cx}:UT X [] Aq:=λ_ _ _ H _ I h=>wpAny_tests_nil ⟨H,I,h⟩
def V9{X:Cx}{c:IW}{t:TT}(h:PT X c t):UT X [c] t:=λa s σ H Q I q=>wpAny_tests_one (h a s σ H Q I q)
def Ig(g:TG)(e:TT)(f:SO)(J:It)(σ:St)(H:Hp)(Q:St->Hp->Prop):Prop :=
 ∃W:Nat->Nat->St->Hp->Prop,(∃m,W 0 m σ H)/\∀i m σ H,W i m σ H->(J.stop i H/\Q σ H)\/(J.go i H/\∀x c,J.yld i H x c->g x σ c λσ2 h=>e σ2 h λb d =>
  if b=true then f σ2 d λσ3 j=>∃a,a < m/\W (i+1) a σ3 j else ∃a,a < m/\W (i+1) a σ2 d)
section
variable{X:Cx}{e tg iter:IW}{d:Nat}{ifs:A1 IW}{emit:Sem Fin->Sem Fin}{it:A3}{acc:A2}{g:TG}{tc:TT}{em:SO}{J:It}{fp:A1 A3}{tn:Nat->IU->Prop}{R:Result->A4->Prop}
theorem Cc(G:X.A.under (.compLoop e d (.ref it) acc X.env)=X.A)(t:(model X.prog X.w).den (.compLoop e d (.ref it) acc X.env) =(compTurn e d (.ref it) acc X.env).onRaise (λx=>do noteFrame x X.env;theTreesLotGoes x))(V:X.calm=true)(L:X.xe=λ_ _=>False)(M:compTurn e d (.ref it) acc X.env=Mc e d iter tg ifs emit (.ref it) acc X.env)(hg:PG X tg g)(ht:UT X ifs tc)(N:PEm X emit em)
  (T:MV X.prog X.w X.K tg J fp it tn) {a:A1 (A3×Obj)} {s:A4} {σ:St} {H:Hp} {Q:St->Hp->Prop} (I:Inv X a σ H s) (st:tn 0 s.heap) (Y:∀b∈fp,Ds X a H b) (h:Ig g tc em J σ H Q)
  (hR:∀v σ' H',Inv X a σ' H' v->Q σ' H'->R (.ok .next) v):codeAny (model X.prog X.w) X.A (.compLoop e d (.ref it) acc X.env) R s:=by
 obtain⟨W,⟨m0,w0⟩,y⟩:=h;have c:∀{H':Hp},(∀b∈fp,H' b=none)->∀b∈fp,Ds X a H' b:=λhn b f=>⟨hn b f,(Y b f).2⟩;have Z:∀{α:Type} {m:Sem α} {P:α->A4->Prop} {E:A2->A4->Prop} {s:A4},wpAny (model X.prog X.w) X.A m P X.xe s->wpAny (model X.prog X.w) X.A m P E s:=λq=>by
  rw[L]at q;exact CI q (λ_ _ z=>z) λ_ _ z=>z.elim
 refine codeAny_loop rfl (λn v=>∃i σ' H',Inv X a σ' H' v/\tn i v.heap/\(∀b∈fp,H' b=none)/\W i n σ' H') (λn s3 hI=>?_) m0 ⟨0,σ,H,I,st,λb f=>(Y b f).1,w0⟩;obtain⟨i,σ3,D,I3,B,C,w3⟩:=hI;rw[G,t];refine wpAny_noted ?_;rw[M];unfold Mc;refine AA (G_ (AA ?_));rcases y i n σ3 D w3 with⟨stop,qn⟩ | ⟨go,step⟩
 .refine CI (T.done X rfl rfl rfl V i a s3 σ3 D _ I3 (c C) B stop) (λr s4 ⟨O,I4⟩=>?_) λ_ _ z=>z;subst O;exact AF (hR s4 σ3 D I4 qn)
 .refine CI (T.item X rfl rfl rfl V i a s3 σ3 D _ I3 (c C) B go) (λr s4 ⟨u,O,h4⟩=>?_) λ_ _ z=>z;subst O;refine AA (CI h4 (λ_ s5 ⟨x,H5,I5,r5,y5,j,S⟩=>?_) λ_ _ z=>z);have U:=I5.pinned (c S) (T.obj _ _ j);have again:∀{σ7:St} {k:Hp} {l:A4},Inv X (a++Ia fp s5.heap) σ7 k l->(∃F,F < n/\W (i+1) F σ7 k)->∃m,m<n/\∃i σ' H',Inv X a σ' H' l/\tn i l.heap/\(∀b∈fp,H' b=none)/\W i m σ' H':=fun{σ7 k l} p n7=>by
   obtain⟨F,hm,w7⟩:=n7;refine⟨F,hm,i+1,σ7,k,p.unpinned,T.keep _ _ _ j λb f o e=>(p.pin (b,o) (BO _ (BO _ (Y2 f e)))).1,λb f=>?_,w7⟩;obtain⟨o,e,d⟩:=T.obj _ _ j b f;exact(p.pin (b,o) (BO _ (BO _ (Y2 f e)))).2.1
  refine AA (CI (Z (hg _ s5 σ3 H5 x u _ U r5 (step x H5 y5))) (λ_ s6 ⟨σ6,H6,I6,q6⟩=>?_) λ_ _ z=>z);refine AA (CI (Z (ht _ s6 σ6 H6 _ I6 q6)) (λok l ⟨k,p,q7⟩=>?_) λ_ _ z=>z);cases ok with
  | false=>exact AF ⟨rfl,again p q7⟩
  | true =>
   exact N _ l σ6 k _ _ _ _ p q7 λs8 σ8 H8 I8 q8=>AF ⟨rfl,again I8 q8⟩
theorem Eb(f:X.A.under (.compStart e d (.ref it) acc X.env)=X.A)(b:(model X.prog X.w).den (.compStart e d (.ref it) acc X.env) =(compStart e d (.ref it) acc X.env).onRaise (λx=>do noteFrame x X.env;standAt theWindowsPlace)){gs:A1 Comprehension}(g:clausesOf e=gs)(k:gs[d]?=some ⟨tg,iter,ifs,0⟩){s:A4}(T:MV X.prog X.w X.K tg J fp it tn)(st:tn 0 s.heap)
  (h:codeAny (model X.prog X.w) X.A (.compLoop e d (.ref it) acc X.env) R s):codeAny (model X.prog X.w) X.A (.compStart e d (.ref it) acc X.env) R s:=by
 refine codeAny_of_tree ?_;rw[f,b];refine wpAny_notedAt ?_;unfold compStart;rw[g,k];show wpAny _ X.A (ask >>= _) _ _ s;refine AA (wpAny_askSetting (wpAny_ite ?_));have j:=T.self X.A 0 s (λa c=>codeAny (model X.prog X.w) X.A (.compLoop e d a acc X.env) R c) (notedBy (model X.prog X.w) X.A X.env λx c=>R (.error x) c) st h;split
 .first
   | exact AA (AF (AF (And.intro rfl h)))
   | exact AF (And.intro rfl h)
 .first
   | exact AA (EL (AA (G_ (AA (CI j (λa c i=>AF (And.intro rfl i)) λ_ _ x=>x)))))
   | (refine AA (EL ?_);show wpAny _ _ (standAt iter.pos >>= _) _ _ s;exact AA (G_ (AA (CI j (λa c i=>AF (And.intro rfl i)) λ_ _ x=>x))))
end
section
variable{X:Cx}{tg iter:IW}{ifs:A1 IW}{g:TG}{tc:TT}{em:SO}{scope:JX}{cl:A1 (Str×A3)}{N':A1 Str}{cap:A1 (A5 Nat)}{pos:Pos}{wi:TI}
def Ry(wi:TI)(o:A3->HO)(cap:A1 (A5 Nat))(b:A3->It->St->Hp->(St->Hp->Prop)->Prop):TE:=λσ H Q=>wi σ H λJ a=>∀D,a D=none->b D J (Zt cap σ) (IT a D (o D)) λ_ c=>Q (.ref D) c
theorem Nc{e:IW}{gs:A1 Comprehension}{newAcc:Sem A2}{p2:Pos}(r:clausesOf e =⟨tg,iter,ifs,0⟩::gs)(o:A3->HO)(hs:∀x,foldedSetIterable iter X.env x=pure x)(S:OD X scope cl N' cap)(hc:X.calm=true)(hi:PI X tg iter wi)
  {lp:A3->It->St->Hp->(St->Hp->Prop)->Prop}
  (t:∀(a:A1 (A3×Obj)) (s:A4) (σ:St) (H:Hp) (Q:A2->A4->Prop) (E:A2->A4->Prop),Inv X a σ H s->(∀l,Inv X a σ (IT H s.heap.objs.size (o s.heap.objs.size)) l->(∀b f,s.heap.get? b=some f->l.heap.get? b=some f)->Q (.ref s.heap.objs.size) l)->wpAny (model X.prog X.w) X.A newAcc Q E s)
  (L:∀(a:A1 (A3×Obj)) (M:A1 A3) (s3:A4) (N:Hp) (D k:A3) (fp:A1 A3) (u:Nat->IU->Prop) (J:It) (σ:St) (s:A4) (H:Hp) (Q:St->Hp->Prop) (R:Result->A4->Prop),
   MV X.prog X.w X.K tg J fp k u->Inv (NQ X scope cl N' a M s3 N) [] σ H s->u 0 s.heap->(∀b∈fp,Ds (NQ X scope cl N' a M s3 N) [] H b)->lp D J σ H Q ->
   (∀l σ' H',Inv (NQ X scope cl N' a M s3 N) [] σ' H' l->Q σ' H'->R (.ok .next) l) ->
   codeAny (model X.prog X.w) X.A (.compLoop e 0 (.ref k) (.ref D) (compEnvC scope cl s3.heap.objs.size X.env)) R s)
  (O:∀k D g,X.A.under (.compStart e 0 (.ref k) (.ref D) g)=X.A) (B:∀k D g,(model X.prog X.w).den (.compStart e 0 (.ref k) (.ref D) g) =(compStart e 0 (.ref k) (.ref D) g).onRaise (λx=>do noteFrame x g;standAt theWindowsPlace))
  (P:∀E Q s,wpAny (model X.prog X.w) X.A (comprehension e scope X.env p2 newAcc false (eval iter X.env)) Q E s->wpAny (model X.prog X.w) X.A (eval e X.env) Q E s) :
  PE X e (Ry wi o cap lp):=by
 intro a s σ H Q I h;refine P _ _ _ (wpAny_comprehension_free (use:=none) r hs S.clos S.kind S.loc (JN (hi a s σ H _ I h) λv s1 C=>JN C λitv i h2=>?_));obtain⟨k,fp,u,J,q,U,I2,T,F,f2,R2⟩:=h2;subst U;refine t a i σ q _ _ I2 λs3 V k3=>?_;have hD:q i.heap.objs.size=none:=I2.hok.fresh (VQ _);have n:∀b∈fp,Ds X a (IT q i.heap.objs.size (o i.heap.objs.size)) b/\∃f,s3.heap.get? b=some f:=λb j=>by
  obtain⟨f,e,_⟩:=T.obj _ _ F b j;obtain⟨W,fr⟩:=f2 b j;exact⟨⟨by rw[B6 (AV (AH e))];exact W,fr⟩,f,k3 b f e⟩
 refine wpAny_newFunctionEnv S.nocell (by intro y hy;simp at hy) (λC Y Z=>?_) S.kind;have hk:∀b f,s3.heap.get? b=some f->C.get? b=some f:=λb f e=>(Z.2 b (AV (AH e))).trans (AD _ e);have I4:Inv (NQ X scope cl N' a fp s3 (IT q i.heap.objs.size (o i.heap.objs.size))) [] (Zt cap σ) (IT q i.heap.objs.size (o i.heap.objs.size)) { s3 with heap:=C,toks:=s3.toks +([]:A1 (Str×A2)).length } :=
  V.block S hc n Y hk
 have G:u 0 C:=T.keep 0 _ _ F λb j f e=>hk b f (k3 b f e);refine Eb (X:=NQ X scope cl N' a fp s3 (IT q i.heap.objs.size (o i.heap.objs.size))) (gs:=⟨tg,iter,ifs,0⟩::gs) (e:=e) (d:=0) (tg:=tg) (iter:=iter) (ifs:=ifs) (O _ _ _) (B _ _ _) r rfl T G ?_;refine L a fp s3 _ i.heap.objs.size k fp u J (Zt cap σ) _ _ _ _ T I4 G (λb j=>?_) (R2 _ hD) λl σ' H' I' q'=>?_
 .obtain⟨⟨W,f1,f2',f3,f4,f5⟩,f,eo⟩:=n b j;refine⟨W,AV (AH eo),λhf=>?_,.inl j,λx c e=>f4 x c (S.cin.get e),λp hp=>f5 p (by simpa [NQ] using hp)⟩;rcases AK.mp (V.stkSub b hf)with z | z
  .exact f1 z
  .exact f2' z
 .obtain⟨m,hn,_⟩:=I'.loc;exact⟨m,hn,λh' j=>⟨.ref _,H',V.unblock (λb j=>(n b j).1) I' j,rfl,q'⟩⟩
end
section
variable{X:Cx}{tg iter elt:IW}{ifs:A1 IW}{g:TG}{tc:TT}{te:TE}{scope:JX}{cl:A1 (Str×A3)}{N':A1 Str}{cap:A1 (A5 Nat)}{pos:Pos}{wi:TI}
def Af(D:A3)(te:TE):SO:=λσ H Q=>te σ H λy b=>∃a,b D=some (.lst a)/\a.length<sizeLine/\Q σ (IT b D (.lst (a ++ [y])))
theorem Nf{α:Type}{X:Cx}(a:X.xe=λ_ _=>False){m:Sem α}{P:α->A4->Prop}{E:A2->A4->Prop}{s:A4}(q:wpAny (model X.prog X.w) X.A m P X.xe s):wpAny (model X.prog X.w) X.A m P E s:=by
 rw[a]at q;exact CI q (λ_ _ z=>z) λ_ _ z=>z.elim
theorem Mn{D:A3}(b:X.xe=λ_ _=>False)(d:PE X elt te):PEm X (emL elt (.ref D) X.env) (Af D te):=by
 intro a s σ H Q k F E I h e;unfold emL;refine AA (AA (CI (Nf b (d a s σ H _ I h)) (λu f ⟨y,g,i,j,l,m,n,o⟩=>?_) λ_ _ z=>z));refine AA (CI (Nf b (O4 a f σ g (.ref D) [y] (.ref D) [u] (λv c=>v = .non/\Q σ c) i rfl (.cons j .nil) ⟨D,l,y,rfl,rfl,m,n,rfl,o⟩)) (λv p ⟨t,c,q,w,_,r⟩=>?_) λ_ _ z=>z);exact AF (e p σ c q r)
theorem S7(S:OD X scope cl N' cap)(i:X.calm=true)(hi:PI X tg iter wi)
  (j:∀(a:A1 (A3×Obj)) (c:A1 A3) (d:A4) (f:Hp),PG (NQ X scope cl N' a c d f) tg g/\UT (NQ X scope cl N' a c d f) ifs tc/\PE (NQ X scope cl N' a c d f) elt te)
  (k:∀x,foldedSetIterable iter X.env x=pure x:=by intro _;rfl) :
  PE X (.ListComp elt [⟨tg,iter,ifs,0⟩] scope pos) (Ry wi (λ_=>.lst []) cap λD J σ H Q=>Ig g tc (Af D te) J σ H Q):=by
 refine Nc (newAcc:=newList []) (p2:=firstIterPos [⟨tg,iter,ifs,0⟩] pos) rfl (λ_=>.lst []) k S i hi (λa s σ H Q E I h=>?_) (λa c d f D q r t J σ s H Q R T I st l h m=>?_) (λ_ _ _=>rfl) (λ_ _ _=>rfl) (λE Q s h=>h)
 .refine GZ ?_;exact h _ (I.lnew (t':=s.toks) (its:=[]) .nil (CY _)) λb u e=>AD _ e
 .obtain⟨n,o,p⟩:=j a c d f;exact Cc (X:=NQ X scope cl N' a c d f) rfl rfl i rfl (Dx elt tg iter ifs scope pos _ _ _) n o (Mn rfl p) T I st l h m
def Yd(D:A3)(c d:TE):SO:=λσ H Q=>c σ H λy e=>d σ e λv b=>∃a k,b D=some (.dK a)/\y=kV k/\a.length<sizeLine/\Q σ (IT b D (.dK (y0 a k v)))
theorem Xv{D:A3}{a b:IW}{j m:TE}(d:X.xe=λ_ _=>False)(o:PE X a j)(p:PE X b m):PEm X (emD a b D X.env) (Yd D j m):=by
 intro c s σ H Q k F E I h t;unfold emD;refine AA (AA (CI (Nf d (o c s σ H _ I h)) (λu w ⟨y,x,A,B,C⟩=>?_) λ_ _ z=>z));refine AA (BS (CI (Nf d (p c w σ x _ A C)) (λr G ⟨v,W,n,J,f,kk,e,K,l,L⟩=>?_) λ_ _ z=>z));refine AA (G_ (BS ?_));subst K;obtain⟨z,M,N,g,O⟩:=Yk n.hok e;have P:N.length<=sizeLine:=by rw[<-g.length];exact z
 have R:(y0 f kk v).length<=sizeLine:=by have:=R8 f kk v;lia
 refine wpAny_dictSet_pairs (hsz:=P) (Ix B) O λS i T=>?_;have U:∃q,S.get? D=some q:=let⟨q,_,_,V,_⟩:=i;⟨q,V⟩;exact t _ σ _ (Fm (t':=G.toks+1) n (by rw[e];exact VP) T U (Tv R M (g.put kk J) i)) L
theorem Sk{a b:IW}{j k:TE}(S:OD X scope cl N' cap)(l:X.calm=true)(hi:PI X tg iter wi)
  (m:∀(c:A1 (A3×Obj)) (d:A1 A3) (f:A4) (i:Hp),PG (NQ X scope cl N' c d f i) tg g/\UT (NQ X scope cl N' c d f i) ifs tc/\PE (NQ X scope cl N' c d f i) a j/\PE (NQ X scope cl N' c d f i) b k)
  (n:∀x,foldedSetIterable iter X.env x=pure x:=by intro _;rfl) :
  PE X (.DictComp a b [⟨tg,iter,ifs,0⟩] scope pos) (Ry wi (λ_=>.dK []) cap λD J σ H Q=>Ig g tc (Yd D j k) J σ H Q):=by
 refine Nc (newAcc:=newDict) (p2:=firstIterPos [⟨tg,iter,ifs,0⟩] pos) rfl (λ_=>.dK []) n S l hi (λc s σ H Q E I h=>?_) (λc d f i D y z A J σ s H Q R T I st p h r=>?_) (λ_ _ _=>rfl) (λ_ _ _=>rfl) (λE Q s h=>h)
 .refine EV ?_;exact h _ (I.laid (a:=s.heap.objs.size) (o:=.dK []) (t':=s.toks) (λ_ _ q=>AD _ q) (VQ _) (Fd s.heap I.big)) λb B e=>AD _ e
 .obtain⟨t,u,v,w⟩:=m c d f i;exact Cc (X:=NQ X scope cl N' c d f i) rfl rfl l rfl (Pr a b tg iter ifs scope pos _ _ _) t u (Xv rfl v w) T I st p h r
end
instance:LawfulBEq JH where
 rfl {a}:=by cases a with
  | inl i=>show(i == i)=true;simp
  | inr x=>show(x == x)=true;simp
 eq_of_beq {a b} h:=by
  cases a with
  | inl i=>cases b with
   | inl j=>exact congrArg Sum.inl (eq_of_beq (show(i == j)=true from h))
   | inr j=>exact absurd h (by intro z;cases z)
  | inr i=>cases b with
   | inl j=>exact absurd h (by intro z;cases z)
   | inr j=>exact congrArg Sum.inr (eq_of_beq (show(i == j)=true from h))
def Qn(P:A7)(w:F8)(a:A3)(l:A1 JH):HO:=.ext λh=>h.SetOf (D0 P w) a (λk=>decide (k∈l)) l.length
section
variable{X:Cx}{pins:A1 (A3×Obj)}{σ:St}{H:Hp}{s:A4}{a:A3}{l:A1 JH}
theorem zFw{P:A7}{w:F8}{H:Hp}{h:IU}(z:h.SetOf (D0 P w) a (λk=>decide (k∈l)) l.length):JB P w H h a (Qn P w a l) :=
 ⟨z,let⟨o,_,_,_,e,_⟩:=z;⟨o,e⟩,λd f ⟨o,b,c,t,e,r⟩ k=>⟨o,b,c,t,k o e,r⟩⟩
theorem Inv.set(I:Inv X pins σ H s)(e:H a=some (Qn X.prog X.w a l)):s.heap.SetOf (D0 X.prog X.w) a (λk=>decide (k∈l)) l.length:=by
 obtain⟨z,_⟩:=(show JB X.prog X.w H s.heap a (Qn X.prog X.w a l)from I.hok a _ e);exact z
theorem My{k:JH}{u:A2}(r:RelV (kV k) u):u.scannable=true:=by
 cases k with
 | inl i=>obtain⟨t,rfl⟩:=r;rfl
 | inr x=>obtain⟨t,rfl⟩:=r;rfl
def zHe(l:A1 JH)(k:JH):A1 JH:=if k∈l then l else l ++ [k]
theorem Ks{P:A7}{w:F8}{h:IU}{S b:JH->Bool}{n c:Nat}(z:h.SetOf (D0 P w) a S n)(e:∀k,b k=S k)(en:c=n):h.SetOf (D0 P w) a b c:=by
 have:b=S:=funext e;subst this;subst en;exact z
theorem Re:K3 X (.type "set") (λxs H Q=>xs = []/\∀p,H p=none->Q (.ref p) (IT H p (Qn X.prog X.w p []))):=by
 intro pins s σ H xs c Q I r h;obtain⟨rfl,q⟩:=h;cases r;refine call_set_0 λa=>⟨.ref s.heap.objs.size,_,I.laid (t':=s.toks) (λb o e=>AD _ e) (VQ _) (zFw ?_),rfl,q _ (I.hok.fresh (VQ _))⟩;exact(setObjOf_fresh a).setOf (AO _ rfl) (by decide)
def zDy(P:A7)(w:F8):V->A1 V->Hp->VK->Prop:=λx b H Q=>∃a l k,x = .ref a/\b = [kV k]/\H a=some (Qn P w a l)/\l.length+1<4096/\Q .non (IT H a (Qn P w a (zHe l k)))
theorem zGu:RZ X "set.add" (zDy X.prog X.w):=by
 intro pins s σ H x r v t Q I g i h;obtain⟨a,l,k,rfl,rfl,c,j,q⟩:=h;cases g;obtain⟨u,rfl,d⟩:=i.one;refine call_set_add (Ix d) (My d) (I.set c) j λy m z=>?_;refine⟨.non,_,I.write (x:=a) (e:=a) (t':=s.toks+1) (by rw[c];exact VP) (.inl rfl) (λb q n e=>(m.2 b n).trans e) (let⟨o,_,_,_,e,_⟩:=z;⟨o,e⟩) (zFw (Ks z (λp=>?_) ?_)),rfl,q⟩
 .unfold zHe;by_cases e:k∈l
  .rw[AQ e];by_cases f:p=k
   .subst f;simp[e]
   .simp[f]
  .rw[AN e];simp
 .unfold zHe;by_cases e:k∈l
  .rw[AQ e];simp[e]
  .rw[AN e];simp[e]
def zJj(P:A7)(w:F8)(neg:Bool):R2:=λx y H Q=>∃a l k,y = .ref a/\x=kV k/\H a=some (Qn P w a l)/\Q (.bl (if neg then !decide (k∈l)else decide (k∈l))) H
theorem Ug:LR X (compareOp .In) (zJj X.prog X.w false):=by
 intro pins s σ H x y v u Q I b c h;obtain⟨a,l,k,rfl,rfl,d,q⟩:=h;cases c;exact wpAny_inSet_of (Ix b) (My b) (I.set d) ⟨.bl (decide (k∈l)),H,I.tok _,rfl,q⟩
end
def TD(x:Str):It:=⟨λi _=>i<x.cps.size,λi H v a=>a=H/\∃c,x.cps[i]?=some c/\v = .str ⟨#[c]⟩,λi _=>i=x.cps.size⟩
def Oo{P:A7}{w:F8}{K:VN}{tg:IW}(a:A3)(x:Str)(t:Tok)(ty:String)(p:["enumerate","zip","dict_itemiterator","dict_reverseitemiterator","odict_iterator","itertools.zip_longest","itertools.pairwise"].contains ty=false)
  (W:∀R:IY,R.handled=none->Walks P w R a [a] [a] x.cps.size (SignAt x) (λi h=>h.IsStrIter a ty x t i))
  (g:∀(A:IY) (i:Nat) (s:A4) (Q:A2->A4->Prop) (E:A2->A4->Prop),s.heap.IsStrIter a ty x t i->Q (.ref a) s->wpAny (model P w) A (pyIter (.ref a)) Q E s):MV P w K tg (TD x) [a] a (λi h=>h.IsStrIter a ty x t i) where
 mem:=by simp
 obj:=λi h st b j=>by
  have e:b=a:=by simpa using j
  subst e;obtain⟨o,e,c,d⟩:=st;exact⟨o,e,λv z=>by rw[d]at z;cases z⟩
 keep:=λi h m st k=>let⟨o,e,r⟩:=st;⟨o,k a (by simp) o e,r⟩
 item:=by
  intro X q y B C i f s σ H E I n st D;subst q y B;obtain⟨F,G,S,J,L,M⟩:=n a (by simp);refine(W X.A (I.ok.hd C)).item i s _ _ D st λv m N T l k=>?_;obtain⟨c,u,U,V⟩:=T;have Y:Inv X f σ H { s with heap:=m,toks:=N }:=I.turned (λb o j e=>k b o (by simpa using j) e) F G J L M;obtain⟨o,e,Z,d⟩:=id l;exact⟨v,rfl,Qk (s:={ s with heap:=m,toks:=N }) e Z d p ⟨.str ⟨#[c]⟩,H,Y,⟨u,V⟩,⟨rfl,c,U,rfl⟩,l,λb j=>(n b j).1⟩⟩
 done:=by
  intro X q y B C i f s σ H E I n st D;subst q y B;obtain⟨F,G,S,J,L,M⟩:=n a (by simp);have O:i=x.cps.size:=D;subst O;exact(W X.A (I.ok.hd C)).done s _ _ st λm N k=>⟨rfl,I.turned (λb o j e=>k b o (by simpa using j) e) F G J L M⟩
 self:=λA i s Q E st h=>g A i s Q E st h
section
variable{X:Cx}{tg:IW}
def zLb(a:TE):TI:=λσ H R=>a σ H λx b=>∃z,x = .str z/\R (TD z) b
theorem zFz{l:IW}{k:TE}(n:PE X l k):PI X tg l (zLb k):=by
 intro a s σ H R I h;refine JN (n a s σ H _ I h) λv s1 ⟨x,p,g,r,u⟩=>?_;obtain⟨z,e,q⟩:=u;subst e;obtain⟨t,rfl⟩:=r;have f:∀(o:Obj) (ty:String),o.cls = .type ty->o.data = .fields #[.str z t,.int (0:Nat) 0]->o.isFreed=false->MV X.prog X.w X.K tg (TD z) [s1.heap.objs.size] s1.heap.objs.size (λi h=>h.IsStrIter s1.heap.objs.size ty z t i) ->
   PIE X a σ tg R (.ref s1.heap.objs.size) { s1 with heap:=s1.heap.push o }:=λo ty c d y T=>by
  refine⟨s1.heap.objs.size,[s1.heap.objs.size],_,_,p,rfl,g.kept (t':=s1.toks) λb o e=>AD _ e,T,⟨o,AO _ y,c,d⟩,λb B=>?_,q⟩;have e:b=s1.heap.objs.size:=by simpa using B
  subst e;exact g.fpOk (VQ _) (g.hok.fresh (VQ _))
 cases m:z.cps.all (· < 128)
 .exact wpAny_pyIter_wide m (f _ _ rfl rfl rfl (Oo _ z t "str_iterator" (by decide) (λC j=>Walks.strWide j _ z t) λA i s Q E st h=>wpAny_pyIter_striter_wide st h))
 .exact wpAny_pyIter_ascii m (f _ _ rfl rfl rfl (Oo _ z t "str_ascii_iterator" (by decide) (λC j=>Walks.strAscii j _ z t) λA i s Q E st h=>wpAny_pyIter_striter_ascii st h))
end
theorem Xm(E:X.calm=true):K3 X (.builtin "all") (λxs H Q=>∃(p:A3) (bs:A1 Bool),xs = [.ref p]/\IV X.K H p (bs.map V.bl)/\Q (.bl (bs.all id)) H):=by
 intro B s σ H xs M Q I r h;obtain⟨p,bs,rfl,F,q⟩:=h;obtain⟨u,rfl,t⟩:=W5 r;cases t;obtain⟨a,w,x,N⟩:=I.list F;refine call_all_walk (GF x.isList ?_);have y:p≠s.heap.objs.size:=by
  obtain⟨o,n,e,_⟩:=x;exact AV (AH e)
 refine⟨s.heap.objs.size,_,_,_,_,_,λi=>bs.getD i true,rfl,Walks.list (A:=X.A.in1) (show X.A.in1.handled=none from I.ok.hd E) _ p y a.toArray,⟨⟨_,AO _ rfl,rfl,rfl⟩,?_⟩,λi v O P R G J=>?_,λS T k=>?_⟩
 .obtain⟨o,n,e,c,d,L⟩:=x;exact⟨o,AD _ e,c,n,L⟩
 .have f:(bs.map V.bl)[i]?=some (V.bl (bs.getD i true))/\RelV (V.bl (bs.getD i true)) v:=by
   have g:a[i]?=some v:=by simpa using G
   have j:i<a.length:=(AE.mp g).1;have m:=w.length;rw[AB]at m;have e:(bs.map V.bl)[i]?=some (V.bl (bs.getD i true)):=by
    rw[AI,AC (by lia)];simp[AU,AC (show i<bs.length by lia)]
   obtain⟨u,C,t⟩:=w.get e;rw[g]at C;cases C;exact⟨e,t⟩
  cases f.2;exact DB J
 .have m:=w.length;rw[AB]at m;have e:(List.range a.toArray.size).all (λi=>bs.getD i true)=bs.all id:=by
   rw[AL,<-m];rw[BU,FD,FD];constructor
   .intro z b f;obtain⟨i,j,rfl⟩:=GC.mp f;have:=z i (BT.mpr j);simpa [AU,AC j] using this
   .intro z i j;have l:=BT.mp j;have:=z bs[i] (GM l);simpa [AU,AC l] using this
  rw[e];exact⟨.bl (bs.all id),H,I.kept λb o D=>k b o (by
   intro f;have:b=s.heap.objs.size:=by simpa using f
   exact absurd (AH D) (by rw[this];exact EI _)) (AD _ D),rfl,q⟩
theorem Do:∀{ss:A1 Str} {us:A1 A2},I_ (ss.map V.str) us->StrsAre us ss
 | [],_,.nil=>.nil
 | _::_,_,.cons ⟨t,e⟩ r=>by subst e;exact .cons _ _ (Do r)
def SM(a b:Str):Prop:=¬b.cps.toList<a.cps.toList
theorem Je:K3 X (.builtin "sorted") (λxs H Q=>∃(p:A3) (ss:A1 Str),xs = [.ref p]/\IV X.K H p (ss.map V.str)/\∀(l:A3) (c:A1 Str),H l=none->c.Perm ss->c.Pairwise SM->Q (.ref l) (IT H l (.lst (c.map V.str)))):=by
 intro E s σ H xs f Q I r h;obtain⟨p,ss,rfl,L,q⟩:=h;obtain⟨u,rfl,M⟩:=W5 r;cases M;obtain⟨g,F,N,W⟩:=I.list L;have j:=Do F;have Y:=F.length;refine TS.PX (collect_list (vs:=g) N.isList ?_ (by lia));refine⟨rfl,by lia,strKind,oneType',λZ _=>TS.RX j,λa G e O k P=>?_⟩;have i:((s.heap.push (seqObj "list" #[] 0)).update s.heap.objs.size (Obj.mapSeq (· ++ g.toArray))).objs.size=s.heap.objs.size+1:=by rw[FR,size_push']
 obtain⟨m,R⟩:=O;have n:∀v∈a.toList,∃x t,v = .str x t:=λv w=>j.all v (m.mem_iff.mp w);have w:I_ ((a.toList.map strOf).map V.str) a.toList:=by
  have:∀f:A1 A2,(∀v∈f,∃x t,v = .str x t)->I_ ((f.map strOf).map V.str) f:=by
   intro f
   induction f with
   | nil=>exact λ_=>.nil
   | cons v r S =>
    intro h;obtain⟨x,t,rfl⟩:=h v (BN ..);exact .cons ⟨t,rfl⟩ (S λu z=>h u (BG _ z))
  exact this _ n
 have d:(a.toList.map strOf).Perm ss:=by
  have:=m.map strOf
  rwa [j.strs]at this
 have A:(a.toList.map strOf).Pairwise SM:=by
  rw[CG];refine(List.Pairwise.and_mem.mp R).imp fun{u v} ⟨z,B,q⟩=>?_;obtain⟨x,t,rfl⟩:=n u z;obtain⟨y,t',rfl⟩:=n v B;have T:decide (y.cps.toList<x.cps.toList)=false:=q;exact of_decide_eq_false T
 have C:∀b o,s.heap.get? b=some o->G.get? b=some o:=λb o J=>k b o (by
  rw[Heap.get?_update_ne _ _ _ _ (AV (AH J))];exact AD _ J)
 have U:H (s.heap.objs.size+1)=none:=I.hok.fresh (EO _);have D:G.get? (s.heap.objs.size+1)=some (seqObj "list" a e):=by rw[<-i];exact P
 refine⟨.ref (s.heap.objs.size+1),IT H (s.heap.objs.size+1) (.lst ((a.toList.map strOf).map V.str)),?_,by show Value.ref _=_;rw[<-i],q _ _ U d A⟩;refine I.laid (t':=s.toks) C (EO _) ⟨?_,a.toList,e,w,by simpa using D⟩;rw[AB,AB,m.length_eq];lia
def Aa{α β:Type}(f:α->β){l m:A1 β}(h:l.Perm m):∀a:A1 α,m=a.map f->∃b:A1 α,b.Perm a/\l=b.map f:=by
 induction h with
 | nil=>intro a e;exact⟨a,.refl _,e⟩
 | cons x _ o =>
  intro a e;cases a with
  | nil=>cases e
  | cons p a =>
   rw[AZ]at e;obtain⟨rfl,c⟩:=GH e;obtain⟨b,d,g⟩:=o a c;exact⟨p::b,.cons _ d,by rw[AZ,g]⟩
 | swap x y l =>
  intro a e
  match a,e with
  | p::q::a,e =>
   rw[AZ,AZ]at e;obtain⟨rfl,c⟩:=GH e;obtain⟨rfl,r⟩:=GH c;exact⟨q::p::a,.swap _ _ _,by rw[AZ,AZ,r]⟩
 | trans _ _ i j =>
  intro a e;obtain⟨k,d,g⟩:=j a e;obtain⟨n,s,t⟩:=i k g;exact⟨n,s.trans d,t⟩
abbrev KJ:=A3×Str×Str
def zJk(q:KJ):A1 Nat×A1 Nat:=(q.2.1.cps.toList,q.2.2.cps.toList)
def VC(q r:KJ):Prop:=TS.MC (zJk r) (zJk q)=false
def G0(H:Hp)(q:KJ):Prop:=H q.1=some (.tup [.str q.2.1,.str q.2.2])
def Hx:∀{a:A1 KJ} {us:A1 A2},I_ (a.map λq=>V.ref q.1) us->us=a.map λq=>Value.ref q.1
 | [],_,.nil=>rfl
 | _::_,_,.cons r t=>by rw[AZ,Hx t];cases r;rfl
def Ha:∀(a:A1 KJ),I_ (a.map λq=>V.ref q.1) (a.map λq=>Value.ref q.1)
 | []=>.nil
 | _::a=>.cons rfl (Ha a)
theorem Inv.pairAt{a:A1 (A3×Obj)}{σ:St}{H:Hp}{s:A4}{q:KJ}(I:Inv X a σ H s)(h:G0 H q):TS.NN s.heap (.ref q.1) q.2.1 q.2.2:=by
 obtain⟨b,f,⟨o,e,c,n,d⟩,_⟩:=I.tuple (JL.of h);obtain⟨i,j,rfl,⟨t,rfl⟩,⟨g,rfl⟩⟩:=f.two;exact⟨q.1,o,n,t,g,rfl,e,c,d⟩
theorem Gz:K3 X (.builtin "sorted") (λxs H Q=>∃(p:A3) (j:A1 KJ),xs = [.ref p]/\IV X.K H p (j.map λq=>V.ref q.1)/\(∀q∈j,G0 H q) /\
  ∀(l:A3) (c:A1 KJ),H l=none->c.Perm j->c.Pairwise VC->Q (.ref l) (IT H l (.lst (c.map λq=>V.ref q.1)))):=by
 intro C s σ H xs us Q I r h;obtain⟨p,j,rfl,m,y,q⟩:=h;obtain⟨u,rfl,O⟩:=W5 r;cases O;obtain⟨d,D,P,E⟩:=I.list m;have F:=Hx D;have hl:=D.length;refine TS.PX (collect_list (vs:=d) P.isList ?_ (by lia));have f:((s.heap.push (seqObj "list" #[] 0)).update s.heap.objs.size (Obj.mapSeq (· ++ d.toArray))).objs.size=s.heap.objs.size+1:=by rw[FR,size_push']
 have n:∀b o,s.heap.get? b=some o->((s.heap.push (seqObj "list" #[] 0)).update s.heap.objs.size (Obj.mapSeq (· ++ d.toArray))).get? b=some o:=λb o g=>by
  rw[Heap.get?_update_ne _ _ _ _ (AV (AH g))];exact AD _ g
 have i:∀q∈j,TS.NN s.heap (.ref q.1) q.2.1 q.2.2:=λq m=>I.pairAt (y q m);refine⟨rfl,by lia,TS.pairKind s.heap,tuples' true,λs2 R=>TS.RO (λv G=>?_) (λb o g=>?_),λt S e T k U=>?_⟩
 .rw[F]at G;obtain⟨q,m,rfl⟩:=AJ.mp G;exact⟨_,_,i q m⟩
 .have w:b≠((s.heap.push (seqObj "list" #[] 0)).update s.heap.objs.size (Obj.mapSeq (· ++ d.toArray))).objs.size:=by
   rw[f];exact AV (DT (AH g))
  exact⟨w,R b o w (n b o g)⟩
 .obtain⟨J,L⟩:=T;rw[F]at J;obtain⟨c,x,M⟩:=Aa (λq:KJ=>Value.ref q.1) J j rfl;have A:c.Pairwise VC:=by
   rw[M,CG]at L;refine(List.Pairwise.and_mem.mp L).imp fun{a b} ⟨W,Y,z⟩=>?_;have Z:=(i a (x.mem_iff.mp W)).key;have kb:=(i b (x.mem_iff.mp Y)).key;have N:TS.MC ((TS.OT s.heap (.ref b.1)).getD ([],[])) ((TS.OT s.heap (.ref a.1)).getD ([],[]))=false:=z;rw[Z,kb]at N;exact N
  have hn:H (s.heap.objs.size+1)=none:=I.hok.fresh (EO _);have B:S.get? (s.heap.objs.size+1)=some (seqObj "list" t e):=by rw[<-f];exact U
  refine⟨.ref (s.heap.objs.size+1),IT H (s.heap.objs.size+1) (.lst (c.map λq=>V.ref q.1)),?_,by show Value.ref _=_;rw[<-f],q _ _ hn x A⟩;refine I.laid (t':=s.toks) (λb o g=>k b o (n b o g)) (EO _) ⟨?_,t.toList,e,by rw[M];exact Ha c,by simpa using B⟩;rw[AB,x.length_eq];rw[AB]at E;exact E
end
def Inv.turnLaid{X:Cx}{d:A1 (A3×Obj)}{σ:St}{H:Hp}{s:A4}{h':IU}{t':Nat}{fp:A1 A3}{T:A3}{o:HO}(I:Inv X d σ H s)(k:∀b a,b∉fp->s.heap.get? b=some a->h'.get? b=some a)
  (i:∀b∈fp,Ds X d H b) (x:∀b∈fp,∃a,s.heap.get? b=some a) (l:s.heap.objs.size<=T) (j:JB X.prog X.w (IT H T o) h' T o):Inv X d σ (IT H T o) { s with heap:=h',toks:=t' }:=by
 have h:=I.hok.fresh l;have y:∀b a,s.heap.get? b=some a->b≠T:=λb a e=>AV (BH (AH e) l);have p:∀b u,H b=some u->b∉fp:=λb u e f=>by rw[(i b f).1]at e;cases e
 refine I.step (g':=s.gens) (d':=s.drawn) (ch:=fp) (λb f=>let⟨_,A,_,B,C,D⟩:=i b f;⟨B,A,C,D⟩) (λb a _ _ g e _=>k b a g e) (λb a _ _ g e _=>⟨a.slots,k b a g e⟩) (λb a _ e n=>by rw[B6 (y b a e)];exact n)
  (λb a g e=>⟨a,k b a g e⟩) (λb t e=>by rw[B6 (B2 e h)];exact e) (λb u t e=>by rw[B6 (B2 e h)];exact e) (λb K e=>⟨#[],by rw[B6 (B2 e h),e];simp⟩) (λm E=>?_) (λb u e=>?_) I.bare
 .obtain⟨a,F,G,J,r⟩:=E;exact⟨a,F,G,k _ a (λf=>(i _ f).2.1 rfl) J,r⟩
 .by_cases f:b=T
  .subst f;rw[A9]at e;cases e;exact j
  .rw[B6 f]at e;refine(I.hok b u e).stay (λc v g q=>k c v ?_ q) (λc q=>by rw[B6 (B2 q h)];exact q) λc t q=>by rw[B6 (B2 q h)];exact q
   rcases g with z | z
   .rw[z];exact p b u e
   .exact p c _ z
def Ite(K:VN)(a:A3):It :=
 ⟨λi H=>∃b x,IV K H a b/\b[i]?=some x,λi H v c=>∃T x,v = .ref T/\H T=none/\c=IT H T (.tup [.int i,x])/\∀b,IV K H a b->b[i]?=some x,λi H=>∃b,IV K H a b/\b.length=i⟩
def Ti{P:A7}{w:F8}{K:VN}{F:A1 IW}{kk:Nat}{tp:Pos}(a g e:A3)(N:e≠g):MV P w K (.Tuple F kk tp) (Ite K a) [e,g] e (λi h=>(∃f,IsEnum h e g i f)/\h.IsListIter g a i) where
 mem:=by simp
 obj:=λi h st b hb=>by
  obtain⟨⟨f,y⟩,o,G,c,d⟩:=st;rcases AK.mp hb with rfl | hb
  .exact⟨_,y,λv z=>by cases z⟩
  .rw[AG.mp hb];exact⟨o,G,λv z=>by rw[d]at z;cases z⟩
 keep:=λi h h' st k=>⟨let⟨f,y⟩:=st.1;⟨f,k e (by simp) _ y⟩,st.2.at λo x=>k g (by simp) o x⟩
 item:=by
  intro X hP hw hK B i O s σ H E I D st hg;subst hP hw hK;obtain⟨xs,x,Z,hx⟩:=hg;obtain⟨j,rv,p,hz⟩:=I.list Z;obtain⟨u,hu,ru⟩:=rv.get hx;obtain⟨f0,f1,f2,f3,f4,f5⟩:=D e (by simp);obtain⟨g0,g1,g2,g3,g4,g5⟩:=D g (by simp);have J:a≠e:=λz=>by
   obtain⟨f,y⟩:=st.1;obtain⟨o,n,l,c,_⟩:=p;rw[z,y]at l;cases l;exact absurd c (by show ¬Value.type "enumerate" = Value.type "list";decide)
  have L:a≠g:=λz=>by
   obtain⟨o2,G,c2,d2⟩:=st.2;obtain⟨o,n,l,c,_⟩:=p;rw[z,G]at l;cases l;rw[c2]at c;exact absurd c (by decide)
  have hi:i<j.toArray.size:=by
   rw[AL];exact(AE.mp hu).1
  have W:=WalksT.enumerate (prog:=X.prog) (w:=X.w) (A:=X.A) (I.ok.hd B) e g a N J L j.toArray;refine W.item i s _ _ hi ⟨st.1,st.2,p.isList⟩ λT vals h' tk hv hT ht R k=>?_;obtain⟨t,x',S,rfl⟩:=hv;have:x'=u:=by
   have:j.toArray[i]?=some u:=by simpa using hu
   rw[this]at S;exact(BJ S).symm
  subst this;refine⟨.ref T,rfl,W.go F kk tp i T _ _ _ R λG U k2=>?_⟩;have hTn:H T=none:=I.hok.fresh hT;have V:T≠e:=λz=>W.apart i T h' R (by simp[z]);have Y:T≠g:=λz=>W.apart i T h' R (by simp[z]);have kk2:∀b o,b≠e->b≠g->s.heap.get? b=some o->G.get? b=some o:=λb o b1 b2 M=>k2 b o (by simp[b1,b2]) (k b o (by simp[b1,b2]) M);have hT2:G.IsTuple T #[.int i t,x']:=by
   obtain⟨o,l,r⟩:=ht;exact⟨o,k2 T o (by simp[V,Y]) l,r⟩
  refine⟨.ref T,IT H T (.tup [.int i,x]),I.turnLaid (fp:=[e,g]) (λb o hb M=>kk2 b o (λz=>hb (by simp[z])) (λz=>hb (by simp[z])) M) D (λb hb=>?_) hT ⟨?_,[.int i t,x'],.cons ⟨t,rfl⟩ (.cons ru .nil),hT2⟩,rfl,⟨T,x,rfl,hTn,rfl,λys hy=>by rw[I.list_inj hy Z];exact hx⟩,⟨U.1,U.2.1⟩,λb hb=>?_⟩
  .rcases AK.mp hb with rfl | hb
   .obtain⟨f,y⟩:=st.1;exact⟨_,y⟩
   .rw[AG.mp hb];obtain⟨o,y,_⟩:=st.2;exact⟨o,y⟩
  .show 2<=sizeLine;decide
  .rcases AK.mp hb with rfl | hb
   .rw[B6 (Ne.symm V)];exact f0
   .rw[AG.mp hb,B6 (Ne.symm Y)];exact g0
 done:=by
  intro X hP hw hK B i O s σ H E I D st hg;subst hP hw hK;obtain⟨xs,Z,hx⟩:=hg;obtain⟨j,rv,p,hz⟩:=I.list Z;obtain⟨f0,f1,f2,f3,f4,f5⟩:=D e (by simp);obtain⟨g0,g1,g2,g3,g4,g5⟩:=D g (by simp);have J:a≠e:=λz=>by
   obtain⟨f,y⟩:=st.1;obtain⟨o,n,l,c,_⟩:=p;rw[z,y]at l;cases l;exact absurd c (by show ¬Value.type "enumerate" = Value.type "list";decide)
  have L:a≠g:=λz=>by
   obtain⟨o2,G,c2,d2⟩:=st.2;obtain⟨o,n,l,c,_⟩:=p;rw[z,G]at l;cases l;rw[c2]at c;exact absurd c (by decide)
  have W:=WalksT.enumerate (prog:=X.prog) (w:=X.w) (A:=X.A) (I.ok.hd B) e g a N J L j.toArray;have hl:=rv.length;have hi:i=j.toArray.size:=by rw[AL];lia
  rw[hi]at st;refine W.done s _ _ ⟨st.1,st.2,p.isList⟩ λh' tk k=>⟨rfl,?_⟩;have I1:=I.step (h':=h') (H':=H) (t':=tk) (g':=s.gens) (d':=s.drawn) (ch:=[e,g]) (λb hb=>let⟨_,f1,_,f3,f4,f5⟩:=D b hb;⟨f3,f1,f4,f5⟩) (λb C _ _ B e _=>k b C B e) (λb C _ _ B e _=>⟨C.slots,k b C B e⟩) (λ_ _ _ _ n=>n)
   (λb C B e=>⟨C,k b C B e⟩) (λ_ _ e=>e) (λ_ _ _ e=>e) (λb ps e=>⟨#[],by rw[e];simp⟩) (λm R=>?_) (λb u M=>?_) I.bare
  .exact I1
  .obtain⟨C,es,ep,ho,r⟩:=R;exact⟨C,es,ep,k _ C (λhb=>(D _ hb).2.1 rfl) ho,r⟩
  .have nf:∀b u,H b=some u->b∉[e,g]:=λb u e hb=>by rw[(D b hb).1]at e;cases e
   refine(I.hok b u M).stay (λc v B q=>k c v ?_ q) (λ_ q=>q) λ_ _ q=>q;rcases B with z | z
   .rw[z];exact nf b u M
   .exact nf c _ z
 self:=λA i s Q E st h=>by
  obtain⟨f,he⟩:=st.1;exact wpAny_pyIter_enum he h
section
variable{X:Cx}{elts:A1 IW}{kk:Nat}{tp:Pos}
def zEy(K:VN)(c:TA):TI:=λσ H R=>c σ H λd b=>∃a e,d = [.ref a]/\IV K b a e/\R (Ite K a) b
theorem zCs{a:IW}{g:TA}{p pos:Pos}(m:Gl X "enumerate")(n:X.mg "enumerate" = none)(o:bootBuiltins "enumerate" = some (.type "enumerate"))(r:PA X [a] g)(t:starEach [a] X.env = [(false,eval a X.env)]:=by rfl):PI X (.Tuple elts kk tp) (.Call (.Name "enumerate" p) [a] [] pos) (zEy X.K g):=by
 intro c s σ H R I h;refine Call_ (W9 I m n o (WC (JN (r pos c s σ H _ I h) λF s1 ⟨G,i,d,v,w⟩=>?_) t rfl));obtain⟨l,J,e,x,q⟩:=w;subst e;obtain⟨u,rfl,y⟩:=W5 v;cases y;obtain⟨A,L,B,M⟩:=d.list x;refine call_enumerate_list B.isList λC j f D k=>wpAny_pyIter_enum j ?_;have E:Inv X c σ i { s1 with heap:=C }:=d.kept (t':=s1.toks) k;refine⟨s1.heap.objs.size+1,[s1.heap.objs.size+1,s1.heap.objs.size],_,_,i,rfl,E,Ti l s1.heap.objs.size (s1.heap.objs.size+1) (Nat.succ_ne_self _),⟨⟨_,j⟩,f⟩,λb hb=>?_,q⟩;rcases AK.mp hb with z | hb
 .rw[z];exact d.fpOk (EO _) (d.hok.fresh (EO _))
 .rw[AG.mp hb];exact d.fpOk (VQ _) (d.hok.fresh (VQ _))
end
end L2
namespace ST
open PySem
def stp(mask i:Nat):Nat:=(5*i+1) %(mask+1)
def SN(mask:Nat):Nat->Nat->Nat
 | 0,i=>i
 | t+1,i=>SN mask t (stp mask i)
def orb(mask:Nat):Nat->Nat->A1 Nat
 | 0,_=>[]
 | n+1,i=>i::orb mask n (stp mask i)
def Lm(mask a b i:Nat):SN mask (a+b) i=SN mask b (SN mask a i):=by
 induction a generalizing i with
 | zero=>rw[EJ];rfl
 | succ a c=>rw[Nat.succ_add];exact c (stp mask i)
def Ro{mask j:Nat}:∀{n i:Nat},j∈orb mask n i->∃t,t<n/\SN mask t i=j
 | 0,_,h=>by simp[orb]at h
 | n+1,i,h=>by
  rcases AK.mp h with rfl | h
  .exact⟨0,by lia,rfl⟩
  .obtain⟨t,b,a⟩:=Ro h;exact⟨t+1,by lia,a⟩
def SS(mask:Nat):Prop:=mask=7\/mask=31\/mask=127\/mask=511
def RY(mask:Nat):Bool:=(List.range (mask+1)).all (λj=>(orb mask (mask+1) 0).contains j)&&SN mask (mask+1) 0 == 0
def zJb:RY 7=true:=by decide +kernel
def zGv:RY 31=true:=by decide +kernel
def zBb:RY 127=true:=by decide +kernel
def zAm:RY 511=true:=by decide +kernel
def SS.full{mask:Nat}(h:SS mask):RY mask=true:=by
 rcases h with rfl | rfl | rfl | rfl
 .exact zJb
 .exact zGv
 .exact zBb
 .exact zAm
def cyc{mask:Nat}(h:SS mask){i j:Nat}(hi:i<=mask)(l:j<=mask):∃t,t<=mask/\SN mask t i=j:=by
 have f:=h.full;unfold ST.RY at f;rw[BL,FD]at f;obtain⟨m,d⟩:=f;have d:SN mask (mask+1) 0=0:=by simpa using d
 have c:∀k,k<=mask->∃t,t<mask+1/\SN mask t 0=k:=λk o=>Ro (by simpa using m k (BT.mpr (by lia)));obtain⟨a,p,e⟩:=c i hi;obtain⟨b,q,g⟩:=c j l;by_cases n:a<=b
 .refine⟨b-a,by lia,?_⟩;rw[<-e,<-Lm,show a +(b-a)=b by lia,g]
 .refine⟨mask+1-a+b,by lia,?_⟩;rw[<-e,<-Lm,show a +(mask+1-a+b) =(mask+1)+b by lia,Lm,d,g]
def OU(mask:Nat):Nat->Nat×Nat->Nat×Nat
 | 0,x=>x
 | t+1,x=>OU mask t (SetTable.leap mask x.1 x.2)
def zCt(mask a b:Nat)(x:Nat×Nat):OU mask (a+b) x=OU mask b (OU mask a x):=by
 induction a generalizing x with
 | zero=>rw[EJ];rfl
 | succ a c=>rw[Nat.succ_add];exact c _
def Nn(mask:Nat):∀(t:Nat) (x:Nat×Nat),(OU mask t x).2=x.2 / 32^t
 | 0,x=>by simp[OU]
 | t+1,x=>by
  show(OU mask t (SetTable.leap mask x.1 x.2)).2=_;rw[Nn mask t];show x.2 / 32 / 32^t=_;rw[Nat.div_div_eq_div_mul,Nat.pow_succ,Nat.mul_comm]
def Zg(mask:Nat):∀(t:Nat) (x:Nat×Nat),x.1<=mask->(OU mask t x).1<=mask
 | 0,_,h=>h
 | t+1,x,_=>Zg mask t _ (Nat.lt_succ_iff.mp (Nat.mod_lt _ (Nat.succ_pos _)))
def Nd(mask:Nat):∀(t i:Nat),OU mask t (i,0) =(SN mask t i,0)
 | 0,_=>rfl
 | t+1,i=>by
  show OU mask t ((i*5+1+0 / 32) %(mask+1),0 / 32)=_;rw[Nat.zero_div,Nat.add_zero,Nd mask t,Nat.mul_comm];rfl
def Us{mask:Nat}(h:SS mask){i j p:Nat}(hi:i<=mask)(a:j<=mask)(b:p<2^64):∃t,t<=mask+13/\(OU mask t (i,p)).1=j:=by
 have c:(OU mask 13 (i,p)).2=0:=by
  rw[Nn];exact Nat.div_eq_of_lt (BH b (by decide))
 obtain⟨t,e,d⟩:=cyc h (Zg mask 13 (i,p) hi) a;refine⟨13+t,by lia,?_⟩;rw[zCt];have:OU mask 13 (i,p) =((OU mask 13 (i,p)).1,0):=Prod.ext rfl c;rw[this,Nd];exact d
def OO(t:JI):Nat->SetTable.Probe->SetTable.Probe
 | 0,p=>p
 | n+1,p=>OO t n (t.advance p)
def Vb(t:JI)(a b:Nat)(p:SetTable.Probe):OO t (a+b) p=OO t b (OO t a p):=by
 induction a generalizing p with
 | zero=>rw[EJ];rfl
 | succ a c=>rw[Nat.succ_add];exact c _
def Sg(t:JI):∀(m:Nat) (p:SetTable.Probe),p.more=m->∃a,OO t (m+1) p=a/\a.i =(SetTable.leap t.mask p.i p.perturb).1/\a.perturb =(SetTable.leap t.mask p.i p.perturb).2/\a.j=a.i/\a.more=SetTable.runEnd t.mask a.i-a.i/\a.dummy=p.dummy
 | 0,p,h=>by
  have b:t.advance p ={ p with j:=(SetTable.leap t.mask p.i p.perturb).1,more:=SetTable.runEnd t.mask (SetTable.leap t.mask p.i p.perturb).1-(SetTable.leap t.mask p.i p.perturb).1,i:=(SetTable.leap t.mask p.i p.perturb).1,perturb:=(SetTable.leap t.mask p.i p.perturb).2 }:=by
   unfold SetTable.advance;rw[AN (by lia)]
  refine⟨t.advance p,rfl,?_⟩;rw[b];exact⟨rfl,rfl,rfl,rfl,rfl⟩
 | m+1,p,h=>by
  have b:t.advance p ={ p with j:=p.j+1,more:=p.more-1 }:=by unfold SetTable.advance;rw[AQ (by lia)]
  obtain⟨a,d,c⟩:=Sg t m (t.advance p) (by rw[b];show p.more-1=m;lia);rw[b]at c;exact⟨a,d,c⟩
def zFh(mask i:Nat):SetTable.runEnd mask i-i<=9:=by unfold SetTable.runEnd;split<;>lia
def Td(t:JI):∀(n:Nat) (p:SetTable.Probe),p.j=p.i->p.more=SetTable.runEnd t.mask p.i-p.i->∃k,k<=10*n/\(OO t k p).j =(OU t.mask n (p.i,p.perturb)).1
 | 0,p,a,_=>⟨0,by lia,a⟩
 | n+1,p,a,l=>by
  obtain⟨b,e,c,d,f,g,_⟩:=Sg t p.more p rfl;obtain⟨k,m,h⟩:=Td t n b f g;have:=zFh t.mask p.i;refine⟨p.more+1+k,by lia,?_⟩;rw[Vb,e,h,c,d];rfl
def Hb(t:JI):∀(n:Nat) (p:SetTable.Probe),(OO t n p).dummy=p.dummy
 | 0,_=>rfl
 | n+1,p=>by
  show(OO t n (t.advance p)).dummy=_;rw[Hb t n];unfold SetTable.advance;split<;>rfl
def Vd{t:JI}(a:SS t.mask)(h:Int){j:Nat}(b:j<=t.mask):∃n,n<10*SetTable.turns t.mask/\(OO t n (t.probeStart h)).j=j:=by
 have c:SetTable.bits h<2^64:=by
  unfold SetTable.bits;have g:0<=h %(2^64:Int):=GV _ (by decide);have i:h %(2^64:Int)<2^64:=FT _ (by decide);lia
 have d:SetTable.bits h %(t.mask+1)<=t.mask:=Nat.lt_succ_iff.mp (Nat.mod_lt _ (Nat.succ_pos _));obtain⟨n,l,e⟩:=Us a d b c;obtain⟨k,m,f⟩:=Td t n (t.probeStart h) rfl rfl;refine⟨k,by unfold SetTable.turns;lia,f.trans e⟩
def t8{t:JI}(a:t.dummies = #[])(j:Nat):t.slot j = .empty\/∃i,t.slot j = .live i/\t.place[i]?=some j:=by
 unfold SetTable.slot;dsimp only;by_cases h:(t.place[SetTable.below t.place j]? == some j)=true
 .rw[AQ h];exact .inr ⟨_,rfl,by simpa using h⟩
 .rw[AN h];have:SetTable.has t.dummies j=false:=by
   rw[a];unfold SetTable.has;simp
  rw[this];exact .inl rfl
def Pj{t:JI}(c:t.dummies = #[])(f:t.place.size<=t.mask):∃j,j<=t.mask/\t.slot j = .empty:=by
 by_cases h:∃j,j<=t.mask/\t.slot j = .empty
 .exact h
 .exfalso;have a:∀j∈List.range (t.mask+1),j∈t.place.toList:=λj d=>by
   have b:j<=t.mask:=by have:=BT.mp d;lia
   rcases t8 c j with e | ⟨i,_,e⟩
   .exact absurd ⟨j,b,e⟩ h
   .exact AM (by rw[BW];exact e)
  have:=(GN (n:=t.mask+1)).length_le_of_subset a;rw[CU,BF]at this;lia
def Ys{t:JI}(o:t.dummies = #[])(hashAt:Nat->Int)(h:Int)(p:SetTable.Probe)(c:p.dummy=none):∀(k m n a:Nat),m+k=n->t.slot (OO t n p).j = .empty->k<a ->
  (∃j,SetTable.probe.go t hashAt h a (OO t m p)=some (.empty j none)/\t.slot j = .empty) \/
   ∃l i,m<=l/\l<n/\t.slot (OO t l p).j = .live i/\hashAt i=h/\SetTable.probe.go t hashAt h a (OO t m p)=some (.candidate (OO t l p).j i (OO t (l+1) p))
 | k,m,n,0,_,_,q=>absurd q (GW _)
 | k,m,n,a+1,e,r,q=>by
  have d:(OO t m p).dummy=none:=(Hb t m p).trans c;have s:OO t (m+1) p=t.advance (OO t m p):=Vb t m 1 p;rcases t8 o (OO t m p).j with b | ⟨i,b,A⟩
  .refine .inl ⟨(OO t m p).j,?_,b⟩;unfold SetTable.probe.go;rw[b,d]
  .have B:k≠0:=by
    rintro rfl;have:m=n:=by lia
    subst this;rw[r]at b;cases b
   by_cases f:hashAt i=h
   .refine .inr ⟨m,i,VQ _,by lia,b,f,?_⟩;unfold SetTable.probe.go;rw[b];dsimp only;rw[AQ (by simpa using f),s]
   .have u:SetTable.probe.go t hashAt h (a+1) (OO t m p)=SetTable.probe.go t hashAt h a (OO t (m+1) p):=by
     conv=>lhs;unfold SetTable.probe.go
     rw[b];dsimp only;rw[AN (by simpa using f),s]
    rcases Ys o hashAt h p c (k-1) (m+1) n a (by lia) r (by lia)with⟨j,v,g⟩ | ⟨l,w,v,g,x,y,z⟩
    .exact .inl ⟨j,u.trans v,g⟩
    .exact .inr ⟨l,w,by lia,g,x,y,u.trans z⟩
def Fy{α β:Type}{f g:α->A5 β}:∀{l:A1 α},(∀x∈l,f x=g x)->l.filterMap f=l.filterMap g
 | [],_=>rfl
 | a::r,h=>by
  have b:=h a (BN ..);have c:=Fy (l:=r) λx d=>h x (BG _ d);rw[EY,EY,b,c]
def Zz{α:Type}{f g:Nat->A5 α}{j:Nat}{k:α}(d:g j=some k)(m:f j=none):∀{l:A1 Nat},l.Nodup->j∈l->(∀i,i≠j->g i=f i)->(l.filterMap g).Perm (k::l.filterMap f)
 | [],_,h,_=>by simp at h
 | i::r,o,h,a=>by
  obtain⟨p,q⟩:=DC.mp o;by_cases e:i=j
  .subst e;have er:r.filterMap g=r.filterMap f:=Fy λx s=>a x λz=>p (z▸s);rw[DM d,FG m,er]
  .have n:=Zz d m q ((AK.mp h).resolve_left λz=>e z.symm) a;cases c:f i with
   | none=>rw[FG ((a i e).trans c),FG c];exact n
   | some b =>
    rw[DM ((a i e).trans c),DM c];exact(List.Perm.cons b n).trans (List.Perm.swap _ _ _)
def UR(mask:Nat)(a:CM (A5 Nat)):A1 Nat:=(List.range (mask+1)).filterMap λj=>a.getD j none
structure LI(mask:Nat)(ow:CM (A5 Nat))(k:Nat):Prop where
 sz:ow.size=mask+1
 pm:(UR mask ow).Perm (List.range k)
def Rq{mask:Nat}{b:CM (A5 Nat)}{j:Nat}(c:b[j]?=some none):∀(t a i p:Nat),(OU mask t (i,p)).1=j->t<a->∃d,SetTable.layClean.free mask b a i p=some d/\b[d]?=some none
 | t,0,_,_,_,h=>absurd h (GW _)
 | t,a+1,i,p,e,h=>by
  unfold SetTable.layClean.free;cases q:(List.range (SetTable.runEnd mask i+1-i)).find? λk=>(b.getD (i+k) (some 0)).isNone with
  | some k =>
   refine⟨i+k,rfl,?_⟩;have:=List.find?_some q;rw[CZ]at this;cases g:b[i+k]? with
   | none=>rw[g]at this;simp at this
   | some z=>rw[g]at this;simp at this;rw[this]
  | none =>
   dsimp only;cases t with
   | zero =>
    exfalso;have f:i=j:=e;subst f;have l:0∈List.range (SetTable.runEnd mask i+1-i):=BT.mpr (by unfold SetTable.runEnd;split<;>lia);have:=List.find?_eq_none.mp q 0 l;rw[CZ,Nat.add_zero,c]at this;simp at this
   | succ t=>exact Rq c t a _ _ e (by lia)
def LI.room{mask:Nat}{a:CM (A5 Nat)}{k:Nat}(h:LI mask a k)(p:k<=mask):∃j,j<=mask/\a[j]?=some none:=by
 by_cases q:∃j,j<=mask/\a[j]?=some none
 .exact q
 .exfalso;have b:∀j∈List.range (mask+1),∃v,a.getD j none=some v:=λj c=>by
   have g:j<a.size:=by rw[h.sz];exact BT.mp c
   cases e:a[j]? with
   | none=>rw[Array.getElem?_eq_none_iff]at e;lia
   | some v =>
    cases v with
    | none=>exact absurd ⟨j,by have:=BT.mp c;lia,e⟩ q
    | some v=>exact⟨v,by rw[CZ,e];rfl⟩
  have i:∀l:A1 Nat,(∀j∈l,∃v,a.getD j none=some v)->(l.filterMap λj=>a.getD j none).length=l.length:=by
   intro l
   induction l with
   | nil=>intro _;rfl
   | cons j r m =>
    intro d;obtain⟨v,n⟩:=d j (BN ..);rw[DM (f:=λj=>a.getD j none) n,BK,BK,m λx o=>d x (BG _ o)]
  have:=h.pm.length_eq;unfold UR at this;rw[i _ b,CU,CU]at this;lia
def LI.put{mask:Nat}{a:CM (A5 Nat)}{k j:Nat}(h:LI mask a k)(c:a[j]?=some none):LI mask (a.setIfInBounds j (some k)) (k+1):=by
 have b:j<a.size:=by
  obtain⟨d,_⟩:=HG.mp c;exact d
 refine⟨by rw[HM];exact h.sz,?_⟩;have p:=Zz (f:=λj=>a.getD j none) (g:=λi=>(a.setIfInBounds j (some k)).getD i none) (j:=j) (k:=k) (by rw[CZ,Array.getElem?_setIfInBounds_self_of_lt b];rfl) (by rw[CZ,c];rfl)
  (l:=List.range (mask+1)) GN (BT.mpr (by rw[<-h.sz];exact b)) λi m=>by
   rw[CZ,Array.getElem?_setIfInBounds_ne (Ne.symm m),<-CZ]
 have e:List.range (k+1)=List.range k ++ [k]:=FA;refine p.trans ?_;rw[e];exact(List.Perm.cons k h.pm).trans (DG (l₁:=[k]))
def zBt(h:Int):SetTable.bits h<2^64:=by
 unfold SetTable.bits;have a:0<=h %(2^64:Int):=GV _ (by decide);have b:h %(2^64:Int)<2^64:=FT _ (by decide);lia
def Zn{mask:Nat}(f:SS mask):∀(d:A1 Int) (b:CM (A5 Nat)) (k:Nat),LI mask b k->k+d.length<=mask->∃c,(d.foldl (init:=some (b,k)) λe h=>do
   let(a,k) <-e
   let j <-SetTable.layClean.free mask a (SetTable.turns mask) (SetTable.bits h %(mask+1)) (SetTable.bits h)
   pure (a.setIfInBounds j (some k),k+1))=some (c,k+d.length)/\LI mask c (k+d.length)
 | [],b,k,h,_=>⟨b,rfl,h⟩
 | x::r,b,k,h,l=>by
  rw[BK]at l;obtain⟨j,m,n⟩:=h.room (by lia);obtain⟨t,v,o⟩:=Us f (i:=SetTable.bits x %(mask+1)) (j:=j) (Nat.lt_succ_iff.mp (Nat.mod_lt _ (Nat.succ_pos _))) m (zBt x);obtain⟨g,p,q⟩:=Rq n t (SetTable.turns mask) _ _ o (by unfold SetTable.turns;lia);obtain⟨c,s,u⟩:=Zn f r (b.setIfInBounds g (some k)) (k+1) (h.put q) (by lia);refine⟨c,?_,by rw[BK,show k +(r.length+1)=k+1+r.length by lia];exact u⟩;rw[List.foldl_cons];show List.foldl _ ((SetTable.layClean.free mask b (SetTable.turns mask) (SetTable.bits x %(mask+1)) (SetTable.bits x)).bind λj=>some (b.setIfInBounds j (some k),k+1)) r=_;rw[p];show List.foldl _ (some (b.setIfInBounds g (some k),k+1)) r=_;rw[BK,show k +(r.length+1)=k+1+r.length by lia];exact s
def zBs{mask:Nat}(h:SS mask)(finger moves:Nat)(led plain:Bool)(c:CM Int)(l:c.size<=mask) :
  ∃place a,SetTable.laid mask finger moves led plain c=some ({ mask,place,dummies:=#[],finger,led,moves,plain },a)/\place.size=c.size/\a.toList.Perm (List.range c.size):=by
 have i:LI mask (Array.replicate (mask+1) none) 0:=by
  refine⟨Array.size_replicate,?_⟩;have:UR mask (Array.replicate (mask+1) none) = []:=by
   unfold UR;rw[List.filterMap_eq_nil_iff];intro j m;rw[CZ,Array.getElem?_replicate];split<;>rfl
  rw[this];exact HF _
 obtain⟨b,e,d⟩:=Zn h c.toList _ 0 i (by rw[BF];lia);rw[EJ,BF]at e d;have k:SetTable.layClean mask c=some b:=by
  unfold SetTable.layClean;rw[<-Array.foldl_toList,e];rfl
 have g:((List.range (mask+1)).filterMap λj=>(b.getD j none).map (j,·)).map (·.2)=UR mask b:=by
  unfold UR;rw[List.map_filterMap];refine Fy λj _=>?_;cases b.getD j none<;>rfl
 refine⟨(((List.range (mask+1)).filterMap λj=>(b.getD j none).map (j,·)).map (·.1)).toArray,(((List.range (mask+1)).filterMap λj=>(b.getD j none).map (j,·)).map (·.2)).toArray,?_,?_,?_⟩
 .unfold SetTable.laid;rw[k];rfl
 .rw[AL,AB,<-AB (f:=(·.2)),g,d.pm.length_eq,CU]
 .show(((List.range (mask+1)).filterMap λj=>(b.getD j none).map (j,·)).map (·.2)).Perm _;rw[g];exact d.pm
def Xc{c:CM (Int×A2)}{b:CM Nat}(h:b.toList.Perm (List.range c.size)):(b.filterMap (c[·]?)).toList.Perm c.toList:=by
 rw[Array.toList_filterMap];refine(h.filterMap _).trans (List.Perm.of_eq ?_);refine GE λt=>?_;have:(List.range c.size).filterMap (λx=>c[x]?)=c.toList:=by
  have:∀(l:A1 (Int×A2)),(List.range l.length).filterMap (λx=>l[x]?)=l:=by
   intro l
   induction l with
   | nil=>rfl
   | cons a r d =>
    rw[BK,List.range_succ_eq_map,DM (by rfl:(a::r)[0]?=some a),List.filterMap_map];congr 1
  have q:=this c.toList;rw[BF]at q;simpa using q
 rw[this]
section
variable{prog:A7}{w:F8}{K:Type}[DecidableEq K]{knd:KeyKind prog w K}{A:IY}{E:A2->A4->Prop}{s:A4}
structure TN(t:JI)(n:Nat):Prop where
 dm:t.dummies = #[]
 pl:t.place.size=n
 mm:SS t.mask
 rm:n*5<t.mask*3
theorem TN.fits{t:JI}{n:Nat}(h:TN t n):t.fits n=true:=by
 have:=h.rm;have:=h.pl;unfold SetTable.fits SetTable.fill;rw[h.dm];simp;lia
theorem TN.odd{t:JI}{n:Nat}(h:TN t n):t.gaveWay=false:=by
 unfold SetTable.gaveWay;rcases h.mm with e | e | e | e<;>rw[e]<;>rfl
def UF(knd:KeyKind prog w K)(a:CM (Int×A2))(ks:A1 (A1 K×A3)):Prop:=a.toList.Perm (ks.map λq=>((tupleKind knd).hash q.1,Value.ref q.2))
def N_(knd:KeyKind prog w K)(h:IU)(a:A3)(ks:A1 (A1 K×A3)):Prop:=∃o b c t,h.get? a=some o/\o.ExactSet/\o.data = .set b c t/\UF knd b ks/\TN t b.size
theorem UF.get{a:CM (Int×A2)}{ks:A1 (A1 K×A3)}(h:UF knd a ks){i:Nat}{e:Int×A2}(b:a[i]?=some e):∃k p,(k,p)∈ks/\e =((tupleKind knd).hash k,.ref p):=by
 have:e∈a.toList:=AM (by rw[BW];exact b);obtain⟨q,c,rfl⟩:=AJ.mp (h.mem_iff.mp this);exact⟨q.1,q.2,c,rfl⟩
theorem Ck{β:Type}{c:β}{f:A2->β->Sem (ForInStep β)}:∀{l:A1 A2},(∀y∈l,f y c=pure (.yield c))->forIn l c f=pure c
 | [],_=>List.forIn_nil
 | a::r,h=>by
  rw[FO,h a (BN ..),pure_bind];exact Ck λy b=>h y (BG _ b)
theorem Iu{ks:A1 K}{vs:A1 A2}(h:ItemsAre knd ks vs):∀v∈vs,∃x,knd.is x v=true:=by
 induction h with
 | nil=>intro v hv;simp at hv
 | cons a _ b =>
  intro v hv;rcases AK.mp hv with rfl | hv
  .exact⟨_,a⟩
  .exact b v hv
def Flat(knd:KeyKind prog w K):Prop:=∀v,(∃x,knd.is x v=true)->carriedByValue v=true
theorem Flat.no{v:A2}(a:Flat knd)(h:∃x,knd.is x v=true)(d:Nat):ofAClassStatement d v=pure false:=by
 have:=a v h;cases v<;>first
  | (cases d<;>rfl)
  | (exact absurd this (by intro z;cases z))
theorem Zy{k:A1 K}{p:A3}{Q:Bool->A4->Prop}(c:Flat knd)(d:(tupleKind knd).is s.heap k p)(h:Q false s):wpAny (model prog w) A (ofAClassStatement 8 (.ref p)) Q E s:=by
 obtain⟨o,a,n,b,e,f,g⟩:=d;have i:s.TypeIs (.ref p) "tuple":=⟨o,b,e⟩;unfold ofAClassStatement;refine AA (wpAny_typeOf i ?_);dsimp only;rw[AQ (by rfl)];refine AA (AF ?_);simp only[FQ,AY,CT];refine AA (CJ b f ?_);dsimp only;rw[<-HV,Ck λy j=>by rw[c.no (Iu g y j)];rfl];exact AA (AF (AF h))
theorem zGq{m:A1 K}{b:A3}{Q:Bool->A4->Prop}(g:Flat knd)(i:(tupleKind knd).is s.heap m b)(h:Q false s){l:A1 A2}(n:∀v∈l,∃k p,v = .ref p/\(tupleKind knd).is s.heap k p) :
  wpAny (model prog w) A (searchCouldBeSeen (.ref b) l) Q E s:=by
 unfold searchCouldBeSeen;refine AA (wpAny_forIn_list _ (λa c d=>d=s/\c =(none,())/\∀v∈a,v∈l) _ ?_ ?_ l _ ⟨rfl,rfl,λ_ h=>h⟩)
 .rintro v a c d ⟨rfl,rfl,e⟩;obtain⟨k,p,rfl,j⟩:=n v (e v (BN ..));dsimp only;have o:carriedByValue (Value.ref b)=false:=rfl;rw[o,EW,IP];split
  .exact AF ⟨rfl,rfl,λu f=>e u (BG _ f)⟩
  .refine AA ((tupleKind knd).quiet i ?_);simp only[FQ,AY,CT];refine AA ((tupleKind knd).quiet j ?_);simp only[FQ,AY,CT];refine AA (Zy g i ?_);simp only[AY,CT];refine AA (Zy g j ?_);simp only[AY,CT];exact AF ⟨rfl,rfl,λu f=>e u (BG _ f)⟩
 .rintro c d ⟨rfl,rfl,_⟩;exact AF h
theorem Wl(t:JI):t.sameMemory t.moves t.mask=some true:=by
 unfold SetTable.sameMemory;simp
theorem Ky{a:A3}{o:Obj}{r:CM (Int×A2)}{ep:Nat}{t:JI}{ks:A1 (A1 K×A3)}{d:A1 K}{G:A3}{c:Bool}{Q:SetFound->A4->Prop}{n:Nat}
  (hr:(tupleKind knd).room A) (hF:Flat knd) (U:s.heap.get? a=some o) (V:o.data = .set r ep t) (W:UF knd r ks) (D:TN t r.size)
  (H:∀q∈ks,(tupleKind knd).is s.heap q.1 q.2) (X:(tupleKind knd).is s.heap d G) (M:∀q∈ks,q.1≠d) (hn:n<10*SetTable.turns t.mask)
  (he:t.slot (OO t n (t.probeStart ((tupleKind knd).hash d))).j = .empty) (h:∀j,t.slot j = .empty->Q (.free j false) s) :
  ∀(k m b:Nat) (e:A5 SetTable.Probe),e.getD (t.probeStart ((tupleKind knd).hash d))=OO t m (t.probeStart ((tupleKind knd).hash d))->m+k=n->k<b ->
   wpAny (model prog w) A (setSearchFrom a (.ref G) ((tupleKind knd).hash d) c b e) Q E s:=by
 intro k
 induction k using Nat.strongRecOn with
 | _ k ih =>
  intro m b e N O hf;cases b with
  | zero=>lia
  | succ b =>
   unfold setSearchFrom;refine AA (GG U V D.fits ?_);dsimp only;rw[D.odd];simp only[AY,CT];rw[N];unfold SetTable.probe;rcases Ys D.dm _ ((tupleKind knd).hash d) (t.probeStart ((tupleKind knd).hash d)) rfl k m n (10*SetTable.turns t.mask) O he (by lia)with⟨j,F,Y⟩ | ⟨l,i,h1,h2,F,Y,e3⟩
   .rw[F];dsimp only;exact AF (h j Y)
   .rw[e3];dsimp only;obtain⟨u,I,P⟩:∃u,t.slot (OO t l (t.probeStart ((tupleKind knd).hash d))).j = .live u/\t.place[u]?=some (OO t l (t.probeStart ((tupleKind knd).hash d))).j:=by
     rcases t8 D.dm (OO t l (t.probeStart ((tupleKind knd).hash d))).j with z | z
     .rw[z]at F;cases F
     .exact z
    rw[F]at I;cases I;have R:i<r.size:=by
     have:=(HG.mp P).1;rw[D.pl]at this;exact this
    obtain⟨J,f⟩:∃J,r[i]?=some J:=⟨r[i],HG.mpr ⟨R,rfl⟩⟩;obtain⟨k',p',L,rfl⟩:=W.get f;have B:∀v∈(r.filter (·.1 ==(tupleKind knd).hash d)).toList.map (·.2),∃k p,v = .ref p/\(tupleKind knd).is s.heap k p:=by
     intro v hv;obtain⟨z,Z,rfl⟩:=AJ.mp hv;have S:z∈r.toList:=by
      rw[Array.toList_filter]at Z;exact(BE.mp Z).1
     obtain⟨q,hq,rfl⟩:=AJ.mp (W.mem_iff.mp S);exact⟨q.1,q.2,rfl,H q hq⟩
    have x:wpAny (model prog w) A (do
      let some (_,y):=r[i]? | unsupported "internal:set-entry"
      let g <-holding [y] (eqBool y (.ref G))
      let(T,_,t') <-setState a
      if c&&g then return .there none
      let some same:=t'.sameMemory t.moves t.mask | unsupported "set.changed-during-lookup:is-the-new-block-at-the-old-address"
      let C <-match(if same then t'.slot (OO t l (t.probeStart ((tupleKind knd).hash d))).j else .empty)with
       | .live u=>match T[u]? with
        | some (_,y')=>do pure (if <-isSame y' y then some u else none)
        | none=>pure none
       | _=>pure none
      match C with
      | none=>rule "set.search.anew";setSearchFrom a (.ref G) ((tupleKind knd).hash d) c b none
      | some u=>if g then return .there (some u)else setSearchFrom a (.ref G) ((tupleKind knd).hash d) c b (some (OO t (l+1) (t.probeStart ((tupleKind knd).hash d))))) Q E s:=by
     rw[f];dsimp only;refine AA (BS ((tupleKind knd).eqBool hr (H _ L) X ?_));rw[BA (M _ L)];refine AA (GG U V D.fits ?_);dsimp only;rw[Wl,IE];simp only[AY,CT,FE];rw[F];dsimp only;rw[f];dsimp only;refine AA (wpAny_isSame_ref_self (AA (AF ?_)));simp only[FE];exact ih (n-(l+1)) (by lia) (l+1) b _ rfl (by lia) (by lia)
    cases hled:t.led with
    | true =>
     simp only[FQ,AY,CT];exact x
    | false =>
     simp only[Bool.not_false,FE];refine AA (zGq hF X ?_ B);simp only[AY,CT];exact x
theorem Bj{a:A3}{o:Obj}{f:CM (Int×A2)}{ep:Nat}{t:JI}{ks:A1 (A1 K×A3)}{d:A1 K}{k:A3}{b:Bool}{Q:SetFound->A4->Prop}
  (l:(tupleKind knd).room A) (m:Flat knd) (p:s.heap.get? a=some o) (r:o.data = .set f ep t) (u:UF knd f ks) (c:TN t f.size)
  (g:∀q∈ks,(tupleKind knd).is s.heap q.1 q.2) (v:(tupleKind knd).is s.heap d k) (i:∀q∈ks,q.1≠d) (h:∀j,t.slot j = .empty->Q (.free j false) s) :
  wpAny (model prog w) A (setSearch a (.ref k) ((tupleKind knd).hash d) b) Q E s:=by
 obtain⟨j,x,y⟩:=Pj c.dm (by rw[c.pl];have:=c.rm;lia);obtain⟨n,z,e⟩:=Vd c.mm ((tupleKind knd).hash d) x;unfold setSearch;refine Ky l m p r u c g v i z (by rw[e];exact y) h n 0 100000 none rfl (by lia) ?_;have:SetTable.turns t.mask<=526:=by
  unfold SetTable.turns;rcases c.mm with e | e | e | e<;>lia
 lia
theorem N_.typeIs{a:A3}{ks:A1 (A1 K×A3)}(h:N_ knd s.heap a ks):s.TypeIs (.ref a) "set":=let⟨o,_,_,_,b,c,_⟩:=h;⟨o,b,c.1⟩
theorem Uv{a:A3}{b:CM (Int×A2)}:byScan (.ref a) b=false:=rfl
theorem Sd{a:A3}{ks:A1 (A1 K×A3)}{b:A1 K}{e:A3}{Q:A5 Nat->A4->Prop}(k:(tupleKind knd).room A)(l:Flat knd)(m:N_ knd s.heap a ks)
  (c:∀q∈ks,(tupleKind knd).is s.heap q.1 q.2) (n:(tupleKind knd).is s.heap b e) (d:∀q∈ks,q.1≠b) (h:Q none s):wpAny (model prog w) A (setFind a (.ref e) ((tupleKind knd).hash b)) Q E s:=by
 obtain⟨o,r,u,t,f,_,g,p,i⟩:=m;unfold setFind setFindIn;refine AA (GG f g i.fits ?_);dsimp only;rw[Uv];simp only[AY,CT];refine AA (Bj k l f g p i c n d λj _=>?_);dsimp only;exact AF h
theorem SY{neg:Bool}{a:A3}{ks:A1 (A1 K×A3)}{b:A1 K}{d:A3}{Q:A2->A4->Prop}(g:A.units+1<cLine)(j:Flat knd)(c:N_ knd s.heap a ks)
  (e:∀q∈ks,(tupleKind knd).is s.heap q.1 q.2) (i:(tupleKind knd).is s.heap b d) (f:∀q∈ks,q.1≠b) (h:Q (.bool false) { s with toks:=s.toks +(tupleKind knd).draws b }) :
  wpAny (model prog w) A (compareOp .In (.ref d) (.ref a)) Q E s:=by
 show wpAny _ _ (do return .bool (<-contains (.ref a) (.ref d))) Q E s;refine AA ?_;unfold contains
 try with_reducible refine BS ?_
 refine AA (HU c.typeIs F.slot_set_contains.lookup ?_);show wpAny _ _ (if(some (Value.builtin "set.__contains__") == some Value.none)=true then _ else _) _ E s;rw[AN (by rw[beq_builtin_none];exact BD)];refine AA (wpAny_callSpecialUnlessNone?_slot (name:=Str.ofString "__contains__") c.typeIs F.slot_set_contains
  (DK F.slot_set_contains c.typeIs entry_set_contains ?_ (F.args_set_contains_2 _ _)))
 unfold Builtin.«frozenset.__contains__» Builtin.Frozenset.oneOther;simp only[List.isEmpty_nil,bind_assoc];unfold Builtin.Frozenset.addrOf Builtin.Frozenset.withSetAsKey setContains;refine AA (AF ?_)
 try dsimp only
 refine AA (AF ?_)
 try dsimp only
 refine AA (GO ?_);refine BS ?_;refine AA ((tupleKind knd).pyHash ?hroom i ?_)
 case hroom=>exact g
 refine AA (Sd (s:={ s with toks:=s.toks +(tupleKind knd).draws b }) ?hroom j c e i f ?_)
 case hroom=>exact g
 refine AF ?_;show wpAny _ _ (ret (Value.bool false)) _ _ _;exact AF ⟨_,rfl,DB (AF h)⟩
def S_(knd:KeyKind prog w K):Prop:=∀v,(∃x,knd.is x v=true)->v.scannable=true
theorem hbv{j:A1 K}{f:A3}{Q:Bool->A4->Prop}(k:S_ knd)(l:(tupleKind knd).is s.heap j f)(h:∀b,Q b s):wpAny (model prog w) A (hashByValue 8 (.ref f)) Q E s:=by
 obtain⟨o,d,n,g,m,p,r⟩:=l;have t:s.TypeIs (.ref f) "tuple":=⟨o,g,m⟩;unfold hashByValue;refine AA (HU t F.slot_tuple_hash.lookup ?_);dsimp only;refine AA (CJ g p ?_);dsimp only[Option.getD_some];rw[<-HV];refine AA (CI (wpAny_forIn_list _ (λa c e=>e=s/\c =(none,())/\∀v∈a,v∈d.toList) (λc e=>e=s/\(c =(none,())\/c =(some false,()))) ?_ ?_ _ _ ⟨rfl,rfl,λ_ z=>z⟩) ?_ λ_ _ q=>q)
 .rintro v a c e ⟨rfl,rfl,i⟩;rw[hashByValue_scannable _ (k v (Iu r v (i v (BN ..))))];refine AA (AF ?_);cases plainKind v with
  | true =>
   simp only[FQ,AY,CT];exact AF ⟨rfl,rfl,λu x=>i u (BG _ x)⟩
  | false =>
   simp only[Bool.not_false,FE];exact AF ⟨rfl,.inr rfl⟩
 .rintro c e ⟨rfl,rfl,_⟩;exact⟨rfl,.inl rfl⟩
 .rintro c e ⟨rfl,rfl | rfl⟩
  .exact AF (h _)
  .exact AF (h _)
theorem m9{α:Type}(xs:CM α)(p:Nat)(x:α)(a:p<=xs.size):(SetTable.insertAt xs p x).size=xs.size+1:=by
 unfold SetTable.insertAt;rw[Array.size_append,Array.size_push,GS,GS];lia
theorem Fl{α:Type}(xs:CM α)(p:Nat)(x:α)(b:p<=xs.size):(SetTable.insertAt xs p x).toList.Perm (xs.toList ++ [x]):=by
 unfold SetTable.insertAt;rw[BR,DZ,FH,FH];simp only[FB,ET,Nat.sub_zero];have e:List.take (xs.size-p) (List.drop p xs.toList)=List.drop p xs.toList:=by
  rw[DL];rw[DJ,BF];lia
 rw[e];have a:xs.toList=xs.toList.take p++xs.toList.drop p:=(B_ ..).symm
 conv=>rhs;rw[a]
 rw[BM,BM];exact DY _ DG
theorem d6(xs:CM Nat)(j:Nat):∀(f lo hi:Nat),lo<=hi->SetTable.below.go xs j f lo hi<=hi
 | 0,lo,hi,h=>h
 | f+1,lo,hi,h=>by
  unfold SetTable.below.go;split
  .rename_i a;dsimp only;split
   .exact d6 xs j f _ _ (by lia)
   .exact VR (d6 xs j f _ _ (by lia)) (by lia)
  .exact h
theorem Xy(xs:CM Nat)(j:Nat):SetTable.below xs j<=xs.size:=d6 xs j _ _ _ (CY _)
theorem zFe{t:JI}(a:t.dummies = #[])(j:Nat):t.put j =({ t with place:=SetTable.insertAt t.place (SetTable.below t.place j) j },SetTable.below t.place j):=by
 unfold SetTable.put;have:SetTable.has t.dummies j=false:=by
  rw[a];unfold SetTable.has;simp
 rw[this];rfl
theorem zLc:SetTable.sizeAbove 20=32:=by decide
theorem zKe:SetTable.sizeAbove 76=128:=by decide
theorem zIu:SetTable.sizeAbove 308=512:=by decide
theorem Xx{f:CM (Int×A2)->A5 (JI×CM Nat)->Sem (CM (Int×A2)×JI)}(y:∀c g,f c g =(do
  let some (t,b):=g | unsupported "internal:set-table-without-room"
  let d:=b.filterMap (c[·]?)
  if d.size != c.size then unsupported "internal:set-table-lost-an-element"
  pure (d,t)))
  {a:A3} {o:Obj} {c:CM (Int×A2)} {ep:Nat} {t:JI} {n m:Nat} {Q:Unit->A4->Prop} (q:s.heap.get? a=some o) (r:o.data = .set c ep t) (z:t.dummies = #[]) (j:t.fits c.size=true)
  (l:SetTable.sizeAbove n=m+1) (i:SS m) (hsz:c.size*5<m*3)
  (h:∀(d:CM (Int×A2)) (t':JI),d.toList.Perm c.toList->TN t' d.size->Q () { s with heap:=s.heap.update a (Obj.putSet d t') }) :
  wpAny (model prog w) A (do
   let(c,_,t) <-setState a
   if SetTable.sizeAbove n>sizeLine then unsupported "set:memory"
   let(c,t) <-f c (t.relaid (c.map (·.1)) n)
   storeSet a c t) Q E s:=by
 refine AA (GG q r j ?_);dsimp only;have p:m<=511:=by rcases i with e | e | e | e<;>lia
 rw[l,AN (by rw[sizeLine_eq];lia)];rw[y];have B:(c.map (·.1)).size<=m:=by rw[GL];lia
 obtain⟨place,b,u,C,v⟩:=zBs i t.finger (t.movedTo (SetTable.sizeAbove n-1)) t.led t.plain (c.map (·.1)) B;have D:t.relaid (c.map (·.1)) n=some ({ mask:=m,place,dummies:=#[],finger:=t.finger,led:=t.led,moves:=t.movedTo (SetTable.sizeAbove n-1),plain:=t.plain },b):=by
  unfold SetTable.relaid;rw[l];rw[l]at u;exact u
 rw[D];dsimp only;have x:(b.filterMap (c[·]?)).toList.Perm c.toList:=Xc (by rw[GL]at v;exact v);have k:(b.filterMap (c[·]?)).size=c.size:=by rw[<-BF,x.length_eq,BF]
 rw[AN (by rw[k];simp)];refine AA (AF ?_);dsimp only;refine wpAny_storeSet_of q r (h _ _ x ⟨rfl,?_,i,?_⟩) (by rw[k,sizeLine_eq];lia)
 .rw[k,C,GL]
 .rw[k];exact hsz
theorem Sh{h:IU}{a:A3}{o:Obj}{d:CM (Int×A2)}{ep:Nat}{t:JI}(e:h.get? a=some o)(c:o.data = .set d ep t)(b:CM (Int×A2))(t':JI) :
  (h.update a (Obj.putSet b t')).get? a=some { o with data:=.set b (ep+1) t' }:=by
 have:=EH (Obj.putSet b t') e (by rw[putSet_of b t' c];rfl);rw[putSet_of b t' c]at this;exact this
theorem Pu{a:A3}{ks:A1 (A1 K×A3)}{g:A1 K}{l:A3}{Q:Bool->A4->Prop}(V:(tupleKind knd).room A)(W:Flat knd)(X:S_ knd)(Y:N_ knd s.heap a ks)
  (I:∀q∈ks,(tupleKind knd).is s.heap q.1 q.2) (S:(tupleKind knd).is s.heap g l) (J:∀q∈ks,q.1≠g) (hl:ks.length+1<=300)
  (h:∀h',Heap.SameBut a s.heap h'->N_ knd h' a (ks ++ [(g,l)])->Q true { s with heap:=h' }) :
  wpAny (model prog w) A (setAddHashed a (.ref l) ((tupleKind knd).hash g)) Q E s:=by
 obtain⟨o,c,ep,t,y,z,B,L,i⟩:=Y;have Z:c.size=ks.length:=by
  have:=L.length_eq;rw[BF,AB]at this;exact this
 unfold setAddHashed setAddHashedIn;refine BS ?_;refine AA (GG y B i.fits ?_);dsimp only;rw[Uv];simp only[AY,CT];refine AA (Bj V W y B L i I S J λj hj=>?_);dsimp only;refine AA (GG y B i.fits ?_);dsimp only;rw[zFe i.dm];dsimp only;have M:=Xy t.place j;have C:SetTable.below t.place j<=c.size:=by rw[i.pl]at M;exact M
 have hrm:=i.rm;have p:=i.mm;have d:=m9 c (SetTable.below t.place j) ((tupleKind knd).hash g,Value.ref l) C;have N:=Fl c (SetTable.below t.place j) ((tupleKind knd).hash g,Value.ref l) C;have D:∀f:CM (Int×A2),f.toList.Perm (SetTable.insertAt c (SetTable.below t.place j) ((tupleKind knd).hash g,Value.ref l)).toList->UF knd f (ks ++ [(g,l)]):=λf O=>by
  unfold UF;rw[AR];exact O.trans (N.trans (L.append_right _))
 have r:∀n:JI,n.dummies = #[]->n.mask=t.mask->n.place.size=c.size+1->wpAny (model prog w) A (do
   storeSet a (SetTable.insertAt c (SetTable.below t.place j) ((tupleKind knd).hash g,Value.ref l)) n
   if(!false&&n.tooFull)=true then do
    setRelay a (SetTable.grown (c.size+1))
    pure true
   else pure true) Q E s:=by
  intro n G H P;refine AA (wpAny_storeSet_of y B ?_ (by rw[d,sizeLine_eq];lia));have u:=Sh y B (SetTable.insertAt c (SetTable.below t.place j) ((tupleKind knd).hash g,Value.ref l)) n;have F:=EE s.heap a (Obj.putSet (SetTable.insertAt c (SetTable.below t.place j) ((tupleKind knd).hash g,Value.ref l)) n);have R:n.tooFull=decide ((c.size+1)*5 ≥ t.mask*3):=by
   unfold SetTable.tooFull SetTable.fill;rw[G,H,P];rfl
  rw[R,Bool.not_false,Bool.true_and];by_cases k:(c.size+1)*5 ≥ t.mask*3
  .rw[AX k,AQ rfl];have v:∃m,SetTable.sizeAbove (SetTable.grown (c.size+1))=m+1/\SS m/\(c.size+1)*5<m*3:=by
    have hg:SetTable.grown (c.size+1) =(c.size+1)*4:=by
     unfold SetTable.grown;rw[AN (by lia)]
    rw[hg];rcases p with e | e | e | e
    .have:c.size+1=5:=by lia
     rw[this];exact⟨31,zLc,.inr (.inl rfl),by decide⟩
    .have:c.size+1=19:=by lia
     rw[this];exact⟨127,zKe,.inr (.inr (.inl rfl)),by decide⟩
    .have:c.size+1=77:=by lia
     rw[this];exact⟨511,zIu,.inr (.inr (.inr rfl)),by decide⟩
    .lia
   obtain⟨m,c1,c2,c3⟩:=v;refine AA ?_;unfold setRelay;refine Xx (λ_ _=>rfl) (s:={ s with heap:=_ }) u rfl G ?_ c1 c2 (by rw[d];exact c3) λf T O ht=>?_
   .unfold SetTable.fits SetTable.fill;rw[d,P,G,H];have U:c.size+1+0<=t.mask:=by rcases p with e | e | e | e<;>lia
    simp;lia
   .refine AF (h _ (F.trans (EE _ a _)) ?_);exact⟨_,f,_,T,Sh u rfl f T,z,rfl,D f O,ht⟩
  .rw[BA k,AN (by decide)];refine AF (h _ F ⟨_,_,_,n,u,z,rfl,D _ (.refl _),⟨G,?_,?_,?_⟩⟩)
   .rw[P,d]
   .rw[H];exact p
   .rw[H,d];lia
 have x:(SetTable.insertAt t.place (SetTable.below t.place j) j).size=c.size+1:=by rw[m9 _ _ _ M,i.pl]
 cases hpl:t.plain with
 | true =>
  simp only[FE];refine AA (hbv X S λb=>?_);cases b with
  | true =>
   simp only[FE];exact r _ i.dm rfl x
  | false =>
   simp only[AY,CT];exact r _ i.dm rfl x
 | false =>
  simp only[AY,CT];refine AA (AF ?_);simp only[FE];exact r _ i.dm rfl x
theorem SE{a:A3}{ks:A1 (A1 K×A3)}{b:A1 K}{c:A3}{Q:A2->A4->Prop}(i:A.units+1<cLine)(l:Flat knd)(m:S_ knd)(j:N_ knd s.heap a ks)
  (d:∀q∈ks,(tupleKind knd).is s.heap q.1 q.2) (k:(tupleKind knd).is s.heap b c) (e:∀q∈ks,q.1≠b) (n:ks.length+1<=300)
  (h:∀h',Heap.SameBut a s.heap h'->N_ knd h' a (ks ++ [(b,c)])->Q .none { s with heap:=h',toks:=s.toks +(tupleKind knd).draws b }) :
  wpAny (model prog w) A (call (.builtin "set.add") [.ref a,.ref c]) Q E s:=by
 refine DK F.slot_set_add j.typeIs F.entry_set_add ?_ (F.args_set_add_2 _ _);unfold Builtin.«set.add» Builtin.Frozenset.oneOther;simp only[List.isEmpty_nil,bind_assoc];unfold Builtin.Frozenset.addrOf setAdd;refine AA (AF ?_)
 try dsimp only
 refine AA (AF ?_)
 try dsimp only
 refine AA ?_;refine BS ?_;refine AA ((tupleKind knd).pyHash ?hroom k ?_)
 case hroom=>exact i
 refine Pu (s:={ s with toks:=s.toks +(tupleKind knd).draws b }) ?hroom l m j d k e n λh' f g=>?_
 case hroom=>exact i
 show wpAny _ _ (ret Value.none) _ _ _;exact AF ⟨_,rfl,h h' f g⟩
end
section
variable{prog:A7}{w:F8}{A:IY}{E:A2->A4->Prop}{s:A4}
theorem MU{α:Type}:∀{l:A1 α} {i:Nat} {x:α},l[i]?=some x->(x::l.eraseIdx i).Perm l
 | [],i,x,h=>by simp at h
 | y::l,0,x,h=>by
  have:y=x:=by simpa using h
  subst this;exact .refl _
 | y::l,i+1,x,h=>by
  have a:l[i]?=some x:=by simpa using h
  exact(List.Perm.swap y x _).trans ((MU a).cons y)
structure SAt(w:F8)(h:IU)(a:A3)(o:Obj)(es:CM (Int×A2))(ep:Nat)(t:JI):Prop where
 ho:h.get? a=some o
 ex:o.ExactSet
 hd:o.data = .set es ep t
 ft:t.fits es.size=true
 led:t.led=!(w.params.followText "set-order")
 pln:t.plain=true->es.size=0
 few:es.size<4096
variable{a it:A3}{o:Obj}{es:CM (Int×A2)}{ep:Nat}{t:JI}
end
end ST
namespace ST
open PySem L2
def zKj:A2->Str
 | .str x _=>x
 | _=>Str.empty
section
variable{prog:A7}{w:F8}{A:IY}{E:A2->A4->Prop}{s:A4}{a:A3}
structure VF(w:F8)(es:CM (Int×A2))(ss:A1 Str):Prop where
 el:∀e∈es.toList,∃x tk,e =(hashStr w x,Value.str x tk)
 pm:(es.toList.map λe=>zKj e.2).Perm ss
 nd:ss.Nodup
def WS(w:F8)(h:IU)(a:A3)(ss:A1 Str):Prop:=∃o b c t,SAt w h a o b c t/\VF w b ss
end
end ST
namespace L2
open PySem PySem.Spec PyProof.Rows
def zIa(w:F8)(a:A3)(ss:A1 Str):HO:=.ext λh=>ST.WS w h a ss
section
variable{X:Cx}{pins:A1 (A3×Obj)}{σ:St}{H:Hp}{s:A4}{a:A3}{ss:A1 Str}
theorem Inv.setw(I:Inv X pins σ H s)(e:H a=some (zIa X.w a ss)):ST.WS X.w s.heap a ss:=by
 obtain⟨z,_⟩:=(show JB X.prog X.w H s.heap a (zIa X.w a ss)from I.hok a _ e);exact z
end
def Qp(P:A7)(w:F8)(a:A3)(ks:A1 (A1 JH×A3)):HO:=.ext λh=>ST.N_ (D0 P w) h a ks
def Nm(H:Hp)(ks:A1 (A1 JH×A3)):Prop:=∀q∈ks,H q.2=some (.tup (q.1.map kV))
section
variable{X:Cx}{pins:A1 (A3×Obj)}{σ:St}{H:Hp}{s:A4}{a:A3}{ks:A1 (A1 JH×A3)}
theorem Nu(P:A7)(w:F8):ST.Flat (D0 P w):=λv ⟨x,h⟩=>(D0 P w).byValue x v h
theorem Vv(P:A7)(w:F8):ST.S_ (D0 P w):=λv ⟨x,h⟩=>by
 rcases I9 (show Hv x v=true from h)with⟨i,t,_,rfl⟩ | ⟨y,t,_,rfl⟩<;>rfl
theorem Zp{P:A7}{w:F8}{H:Hp}{h:IU}(z:ST.N_ (D0 P w) h a ks):JB P w H h a (Qp P w a ks) :=
 ⟨z,let⟨o,_,_,_,e,_⟩:=z;⟨o,e⟩,λd f ⟨o,b,c,t,e,r⟩ k=>⟨o,b,c,t,k o e,r⟩⟩
theorem Inv.sett(I:Inv X pins σ H s)(e:H a=some (Qp X.prog X.w a ks)):ST.N_ (D0 X.prog X.w) s.heap a ks:=by
 obtain⟨z,_⟩:=(show JB X.prog X.w H s.heap a (Qp X.prog X.w a ks)from I.hok a _ e);exact z
theorem Px:K3 X (.type "set") (λxs H Q=>xs = []/\∀p,H p=none->Q (.ref p) (IT H p (Qp X.prog X.w p []))):=by
 intro pins s σ H xs c Q I r h;obtain⟨rfl,q⟩:=h;cases r;refine call_set_0 λa=>⟨.ref s.heap.objs.size,_,I.laid (t':=s.toks) (λb o e=>AD _ e) (VQ _) (Zp ?_),rfl,q _ (I.hok.fresh (VQ _))⟩;exact⟨_,#[],0,_,AO _ rfl,⟨rfl,rfl,rfl⟩,rfl,.refl _,⟨rfl,rfl,.inl rfl,by show 0*5<7*3;decide⟩⟩
def zJz(P:A7)(w:F8):R2:=λx y H Q=>∃a p ks k,y = .ref a/\x = .ref p/\H a=some (Qp P w a ks)/\H p=some (.tup (k.map kV))/\Nm H ks/\(∀q∈ks,q.1≠k)/\Q (.bl false) H
theorem Ov(b:X.A.units+1<cLine):LR X (compareOp .In) (zJz X.prog X.w):=by
 intro pins s σ H x y v u Q I c d h;obtain⟨a,p,ks,k,rfl,rfl,e,f,g,i,q⟩:=h;cases d;cases c;exact ST.SY (neg:=false) b (Nu _ _) (I.sett e) (λz j=>Ad I.hok (g z j)) (Ad I.hok f) i ⟨.bl false,H,I.tok _,rfl,q⟩
def zFf(P:A7)(w:F8):V->A1 V->Hp->VK->Prop:=λx b H Q=>∃a p ks k,x = .ref a/\b = [.ref p]/\H a=some (Qp P w a ks)/\H p=some (.tup (k.map kV))/\Nm H ks/\(∀q∈ks,q.1≠k)/\ks.length+1<=300/\Q .non (IT H a (Qp P w a (ks ++ [(k,p)])))
theorem zBk(d:X.A.units+1<cLine):RZ X "set.add" (zFf X.prog X.w):=by
 intro pins s σ H x B v C Q I f g h;obtain⟨a,p,ks,k,rfl,rfl,c,i,j,l,m,q⟩:=h;cases f;obtain⟨u,rfl,n⟩:=g.one;cases n;refine ST.SE d (Nu _ _) (Vv _ _) (I.sett c) (λz r=>Ad I.hok (j z r)) (Ad I.hok i) l m λD t z=>?_;exact⟨.non,_,I.write (x:=a) (e:=a) (by rw[c];exact VP) (.inl rfl) (λb q y e=>(t.2 b y).trans e) (let⟨o,_,_,_,e,_⟩:=z;⟨o,e⟩) (Zp z),rfl,q⟩
end
section
variable{X:Cx}{tg:IW}
def zJv(K:VN)(d:TE):TI:=λσ H R=>d σ H λx b=>∃a,x = .ref a/\(((∃c,IV K b a c)/\R (UU K a) b)\/((∃c,JL K b a c)/\R (Itt K a) b))
theorem zGf{l:IW}{n:TE}(r:PE X l n):PI X tg l (zJv X.K n):=by
 intro d s σ H R I h;refine JN (r d s σ H _ I h) λv c ⟨x,j,f,t,k⟩=>?_;obtain⟨a,e,k⟩:=k;subst e;cases t;have g:∀b,b∈[c.heap.objs.size]->Ds X d j b:=λb u=>by
  have e:b=c.heap.objs.size:=by simpa using u
  subst e;exact f.fpOk (VQ _) (f.hok.fresh (VQ _))
 rcases k with⟨⟨w,m⟩,q⟩ | ⟨⟨w,m⟩,q⟩
 .obtain⟨i,y,p,z⟩:=f.list m;refine GF p.isList ?_;exact⟨c.heap.objs.size,[c.heap.objs.size],_,_,j,rfl,f.kept (t':=c.toks) λb o e=>AD _ e,Hz a _,⟨_,AO _ rfl,rfl,rfl⟩,g,q⟩
 .obtain⟨i,y,p,z⟩:=f.tuple m;refine HW (show c.heap.IsTuple a i.toArray from p) ?_;exact⟨c.heap.objs.size,[c.heap.objs.size],_,_,j,rfl,f.kept (t':=c.toks) λb o e=>AD _ e,Pi a _,⟨_,AO _ rfl,rfl,rfl⟩,g,q⟩
end
section
variable{X:Cx}
theorem Vo:K3 X (.builtin "isinstance") (λxs H Q=>∃x n t b,xs = [x,.ty n]/\NM X.K H x t/\PySem.W.kitOne X.K t (.type n)=some b/\Q (.bl b) H):=by
 intro a s σ H xs g Q I r h;obtain⟨x,n,t,b,rfl,c,d,q⟩:=h;obtain⟨u,v,rfl,e,f⟩:=r.two;cases f;exact Rr I e c d λi=>⟨.bl b,H,I.tok _,rfl,q⟩
end
mutual
def Rp(K:VN)(H:Hp):PyData->V->Prop
 | .none,v=>v = .non
 | .bool b,v=>v = .bl b
 | .int i,v=>v = .int i
 | .str x,v=>v = .str x
 | .list d,v=>∃a c,v = .ref a/\IV K H a c/\QN K H d c
 | .tuple d,v=>∃a c,v = .ref a/\JL K H a c/\QN K H d c
 | .dict _,_=>False
def QN(K:VN)(H:Hp):A1 PyData->A1 V->Prop
 | [],a=>a = []
 | d::b,a=>∃v r,a=v::r/\Rp K H d v/\QN K H b r
end
section
variable{X:Cx}{pins:A1 (A3×Obj)}{σ:St}{H:Hp}{s:A4}
mutual
theorem Inv.reads(I:Inv X pins σ H s):∀(d:PyData) (v:V) (u:A2),Rp X.K H d v->RelV v u->∃as,Reads s.heap u d as
 | .none,v,u,h,r=>by
  cases(show v = .non by simpa [Rp] using h);cases r;exact⟨_,.none⟩
 | .bool b,v,u,h,r=>by
  cases(show v = .bl b by simpa [Rp] using h);cases r;exact⟨_,.bool b⟩
 | .int i,v,u,h,r=>by
  cases(show v = .int i by simpa [Rp] using h);obtain⟨t,rfl⟩:=r;exact⟨_,.int i t⟩
 | .str x,v,u,h,r=>by
  cases(show v = .str x by simpa [Rp] using h);obtain⟨t,rfl⟩:=r;exact⟨_,.str x t⟩
 | .list j,v,u,h,r=>by
  obtain⟨a,c,e,k,l⟩:=(show ∃a c,v=V.ref a/\IV X.K H a c/\QN X.K H j c by simpa [Rp] using h);subst e;cases r;obtain⟨f,m,⟨o,n,e,p,q,g⟩,_⟩:=I.list k;obtain⟨as,z⟩:=I.readsAll j c f l m;exact⟨_,.list e p g (by simpa using z)⟩
 | .tuple j,v,u,h,r=>by
  obtain⟨a,c,e,k,l⟩:=(show ∃a c,v=V.ref a/\JL X.K H a c/\QN X.K H j c by simpa [Rp] using h);subst e;cases r;obtain⟨f,m,⟨o,e,p,n,g⟩,_⟩:=I.tuple k;obtain⟨as,z⟩:=I.readsAll j c f l m;exact⟨_,.tuple e p g (by simpa using z)⟩
 | .dict _,v,u,h,r=>by simp[Rp]at h
theorem Inv.readsAll(I:Inv X pins σ H s):∀(ds:A1 PyData) (vs:A1 V) (us:A1 A2),QN X.K H ds vs->I_ vs us->∃as,ReadsAll s.heap us ds as
 | [],vs,us,h,r=>by
  cases(show vs = [] by simpa [QN] using h);cases r;exact⟨_,.nil⟩
 | d::ds,vs,us,h,r=>by
  obtain⟨v,a,e,b,c⟩:=(show ∃v r,vs=v::r/\Rp X.K H d v/\QN X.K H ds r by simpa [QN] using h);subst e;cases r with
  | cons f g =>
   obtain⟨as,z⟩:=I.reads d v _ b f;obtain⟨j,i⟩:=I.readsAll ds a _ c g;exact⟨_,.cons z i⟩
end
def Pl(d:PyData):Prop:=d.canLay0=true/\d.depth<=50
def zHf(K:VN):R2:=λx y H Q=>∃d e,Rp K H d x/\Rp K H e y/\Pl d/\Pl e/\Q (.bl (PyData.eqv d e)) H
def zJh(K:VN):R2:=λx y H Q=>∃d e,Rp K H d x/\Rp K H e y/\Pl d/\Pl e/\Q (.bl (!PyData.eqv d e)) H
def zFg(m:X.A.units+64<cLine):LR X (compareOp .Eq) (zHf X.K):=by
 intro a s σ H x y v u Q I f g h;obtain⟨d,e,i,j,b,c,q⟩:=h;obtain⟨n,k⟩:=I.reads d x v i f;obtain⟨o,l⟩:=I.reads e y u j g;exact PySem.SeqAt.compareEq_reads k l b.1 c.1 (by have:=b.2;have:=c.2;lia) ⟨.bl (PyData.eqv d e),H,I,rfl,q⟩
def zEs(m:X.A.units+64<cLine):LR X (compareOp .NotEq) (zJh X.K):=by
 intro a s σ H x y v u Q I f g h;obtain⟨d,e,i,j,b,c,q⟩:=h;obtain⟨n,k⟩:=I.reads d x v i f;obtain⟨o,l⟩:=I.reads e y u j g;exact PySem.SeqAt.compareNe_reads k l b.1 c.1 (by have:=b.2;have:=c.2;lia) ⟨.bl (!PyData.eqv d e),H,I,rfl,q⟩
def zIm(K:VN)(neg:Bool):R2:=λx y H Q=>∃d a,Rp K H d x/\(Rp K H (.list a) y\/Rp K H (.tuple a) y)/\Pl d/\PyData.canLayAll0 a=true/\Q (.bl (if neg then !(a.any λz=>PyData.eqv z d)else a.any λz=>PyData.eqv z d)) H
def Rv(n:X.A.units+64<cLine):LR X (compareOp .NotIn) (zIm X.K true):=by
 intro f s σ H x y v u Q I k g h;obtain⟨d,b,l,h2,c,i,q⟩:=h;obtain⟨o,j⟩:=I.reads d x v l k;have a:X.A.units+1+min (PyData.depthAll b) d.depth<cLine:=by have:=c.2;lia
 rcases h2 with h2 | h2
 .obtain⟨m,e⟩:=I.reads (.list b) y u h2 g;exact PySem.SeqAt.notIn_list_reads e j i c.1 a ⟨.bl _,H,I,rfl,q⟩
 .obtain⟨m,e⟩:=I.reads (.tuple b) y u h2 g;exact PySem.SeqAt.notIn_tuple_reads e j i c.1 a ⟨.bl _,H,I,rfl,q⟩
end
section
variable{X:Cx}
theorem I_.insert{xs:A1 V}{us:A1 A2}{x:V}{u:A2}(h:I_ xs us)(r:RelV x u)(k:Nat):I_ (xs.take k++x::xs.drop k) (us.take k++u::us.drop k):=(h.take k).append (.cons r (h.drop k))
def zAo:V->A1 V->Hp->VK->Prop:=λx b H Q=>∃l a i k y,x = .ref l/\b = [.int i,y]/\i =((k:Nat):Int)/\H l=some (.lst a)/\k<=a.length/\a.length<sizeLine/\Q .non (IT H l (.lst (a.take k++y::a.drop k)))
theorem zIg{k:Nat}{i:Int}(e:i =(k:Int))(h:k<=sizeLine):¬(!Builtin.List.listFitsIndex i)=true:=by
 rw[sizeLine_eq]at h;have a:-(2^63:Int)<=i:=by lia
 have b:i<2^63:=by lia
 have:=fitsIndex_both a b;simpa using this
theorem Tc:RZ X "list.insert" zAo:=by
 intro c s σ H x E v G Q I m o h;obtain⟨l,J,i,k,y,rfl,rfl,d,f,K,L,q⟩:=h;cases m;obtain⟨M,g,rfl,⟨t,rfl⟩,p⟩:=o.two;obtain⟨z,a,n,r,N,e⟩:=I.lstM f;have u:k<=sizeLine:=by lia
 have w:=zIg d u;have A:a.toArray.size<=sizeLine:=by rw[AL];lia
 have B:=@PySem.AutoListH.list_insert_list_int_val_1 l a.toArray n i t g w A;refine call_meets F.slot_list_insert ⟨_,e,rfl⟩ F.entry_list_insert (F.args_list_insert_3 _ _ _) B ⟨e,?_⟩;refine⟨.non,_,I.lset (its':=a.take k++g::a.drop k) f e ?_ (r.insert p k) ?_,rfl,q⟩
 .have b:min k a.length=k:=by lia
  have C:¬((k:Int)<0):=by lia
  subst d;have j:¬((k:Int)+0<0):=by lia
  have D:List.take (a.length-k) (List.drop k a)=List.drop k a:=DL (by simp);simp[b,C,D]
 .rw[AW,BK,AS,DJ];lia
def Qw(K:VN):V->A1 V->Hp->VK->Prop:=λx b H Q=>∃(l:A3) (a:A1 Str) (y:Str) (j:Nat),x = .ref l/\b = [.str y]/\IV K H l (a.map V.str)/\a[j]?=some y/\(∀m,m<j->a[m]?≠some y)/\Q (.int (j:Nat)) H
theorem X2{ss:A1 Str}{us:A1 A2}(h:I_ (ss.map V.str) us){i:Nat}(hi:i<us.length):∃x t,ss[i]?=some x/\us[i] = .str x t:=by
 have b:=h.length;rw[AB]at b;obtain⟨x,a⟩:∃x,ss[i]?=some x:=⟨ss[i]'(by lia),AC (by lia)⟩;obtain⟨u,c,t,rfl⟩:=h.get (i:=i) (x:=.str x) (by rw[AI,a];rfl);refine⟨x,t,a,?_⟩;have:=AC hi;rw[c]at this;exact(BJ this).symm
theorem Rj:RZ X "list.index" (Qw X.K):=by
 intro B s σ H x W v Y Q I L M h;obtain⟨l,Z,y,j,rfl,rfl,N,C,k,q⟩:=h;cases L;obtain⟨u,rfl,⟨D,rfl⟩⟩:=M.one;obtain⟨a,r,⟨o,n,e,E,O,c⟩,G⟩:=I.list N;have d:=r.length;rw[AB]at d G;have b:j<a.length:=by
  have:=(AE.mp C).1;lia
 obtain⟨P,R,J,S⟩:=o;simp only at E O c;subst E c
 let p:A2->Bool:=λv=>match v with | .str x _=>x == y | _=>false
 have T:=PySem.SeqAt.list_indexAt l a.toArray n R S (.str y D) p j (by simpa using b) (by rw[sizeLine_eq]at G;lia) ?_ ?_
 .refine call_meets F.slot_list_index ⟨_,e,rfl⟩ F.entry_list_index (F.args_list_index_2 _ _) T ⟨e,?_,?_⟩
  .intro v U;have w:v∈a:=by simpa using U
   obtain⟨i,V,rfl⟩:=List.getElem_of_mem w;obtain⟨x,t,_,f⟩:=X2 r V;rw[f];exact PySem.SeqAt.EqAt.str_str x t y D
  .exact⟨.int (j:Nat),H,I.tok _,⟨_,rfl⟩,q⟩
 .obtain⟨x,t,g,f⟩:=X2 r b;rw[C]at g;cases g;show p (a.toArray[j]'(by simpa using b))=true;rw[show a.toArray[j]'(by simpa using b)=a[j]from by simp,f];exact beq_self_eq_true y
 .intro m hm z;have A:m<a.length:=by simpa using hm
  obtain⟨x,t,g,f⟩:=X2 r A;show p (a.toArray[m]'hm)=false;rw[show a.toArray[m]'hm=a[m]from by simp,f];show(x == y)=false;rw[beq_eq_false_iff_ne];rintro rfl;exact k m z g
def Zk:V->A1 V->Hp->VK->Prop:=λx b H Q=>∃z y a,x = .str z/\b = [.str y]/\(decide (z.length<y.length)||decide (Builtin.Str.strKind z<Builtin.Str.strKind y))=false/\(y.length == 0)=false /\
 (Builtin.Str.occurrences z y 0 z.length (z.length+1)).isEmpty=false/\z.length<=4000/\Builtin.Str.partsBetween z (Builtin.Str.occurrences z y 0 z.length (z.length+1)) y.length=a/\a.length<=4000/\∀l,H l=none->Q (.ref l) (IT H l (.lst (a.map V.str)))
theorem Gs:∀(b:A1 Str) (a:Nat),I_ (b.map V.str) (strsFrom a b)
 | [],_=>.nil
 | _::r,a=>.cons ⟨a,rfl⟩ (Gs r (a+1))
theorem Wn:RZ X "str.split" Zk:=by
 intro a s σ H x k v l Q I c d h;obtain⟨z,y,m,rfl,rfl,e,f,g,n,rfl,o,q⟩:=h;obtain⟨t,rfl⟩:=c;obtain⟨u,rfl,⟨i,rfl⟩⟩:=d.one;have j:z.length<=sizeLine:=by rw[sizeLine_eq];lia
 have b:(Builtin.Str.partsBetween z (Builtin.Str.occurrences z y 0 z.length (z.length+1)) y.length).length<=sizeLine:=by rw[sizeLine_eq];lia
 refine call_meets F.slot_str_split (typeIs_str _ _ _) F.entry_str_split (F.args_str_split_2 _ _) (PySem.meets_str_split_sep z y t i e f g j b) ?_;exact⟨.ref s.heap.objs.size,_,I.lnew (Gs _ _) (by rw[AB];exact b),rfl,q _ I.fresh⟩
end
end L2
namespace L2
open PySem PySem.Spec PyProof.Rows
set_option genInjectivity false in
structure Fn(K:VN)(mg:Str->A5 A2)(x:Str)(st:JD)(ps:A1 Str) where
 f:A3
 fd:JC
 F:QT K x x st f fd
 b:Binds K fd ps []
 m:mg x=some (.ref f)
set_option genInjectivity false in
structure Mt(K:VN)(C:A3)(m qual:Str)(st:JD)(ps:A1 Str) where
 f:A3
 fd:JC
 F:QT K m qual st f fd
 b:Binds K fd ps []
 m:TB K C m f
section
variable{X:Cx}
theorem D4{x:Str}{st:JD}{g:A1 Str}{k:Nat}{sp:Sp}{e:IW}{a:A1 IW}{t:TA}{p pos:Pos}(D:Fn X.K X.mg x st g)(G:IZ X.prog X.w X.K X.mg X.base JK k D.f D.fd g sp)(h:JY k X.A)(i:PA X (e::a) t)
  (j:Gl X x:=by rfl) (c:(x ==("__debug__":Str))=false:=by decide) (l:starEach (e::a) X.env =(false,eval e X.env)::starEach a X.env:=by rfl) (d:(backTo pos (starEach a X.env)).any (·.1)=false:=by rfl) :
  PE X (.Call (.Name x p) (e::a) [] pos) (zDc sp [] E0 t):=zAq G h j D.m D.F.kp D.b .nil M5 i c l d
def Uo(P:A7)(w:F8)(x:V)(H:Hp):Prop:=∃p,x = .ref p/\((∃l,H p=some (Qn P w p l))\/(∃l,H p=some (zIa w p l))\/∃a,H p=some (Qp P w p a))
theorem zEf{c:A1 (A3×Obj)}{σ:St}{H:Hp}{s:A4}{x:V}{v:A2}(I:Inv X c σ H s)(r:RelV x v)(ty:Uo X.prog X.w x H):s.TypeIs v "set"/\∀a,v = .ref a->∃d,s.heap.get? a=some d/\d.dict=none:=by
 obtain⟨p,rfl,h⟩:=ty;cases r;have z:∃o,s.heap.get? p=some o/\o.ExactSet:=by
  rcases h with⟨l,h⟩ | ⟨l,h⟩ | ⟨l,h⟩
  .obtain⟨o,_,_,_,e,b,_⟩:=I.set h;exact⟨o,e,b⟩
  .obtain⟨o,_,_,_,S,_⟩:=I.setw h;exact⟨o,S.ho,S.ex⟩
  .obtain⟨o,_,_,_,e,b,_⟩:=I.sett h;exact⟨o,e,b⟩
 obtain⟨o,e,b⟩:=z;refine⟨⟨o,e,b.1⟩,λa f=>?_⟩;cases f;exact⟨o,e,b.2.1⟩
def zKd(P:A7)(w:F8)(r:V->A1 V->Hp->VK->Prop)(b:TE)(t:TA):TE:=λσ H Q=>b σ H λx a=>Uo P w x a/\t σ a λc d=>r x c d Q
theorem zAs{o e:IW}{i:TE}{t:TA}{c a:Pos}{r:V->A1 V->Hp->VK->Prop}(m:RZ X "set.add" r)(n:PE X o i)(p:PA X [e] t)
  (d:attributeBase o "add" X.env (eval o X.env)=eval o X.env:=by rfl)
  (g:((backTo a (starEach [e] X.env)).all (λx=>!x.1) &&(backToKw a (keywordEach [] X.env)).all (λx=>x.1.isSome)
   && decide ([e].length +([]:A1 Keyword).length +(if([]:A1 Keyword).isEmpty then 0 else 1)<30))=true:=by rfl)
  (f:(c.endLine == a.line)=true:=by rfl) (q:starEach [e] X.env = [(false,eval e X.env)]:=by rfl) :
  PE X (.Call (.Attribute o "add" c) [e] [] a) (zKd X.prog X.w r i t):=by
 intro b s σ H Q I h;refine wpAny_Call_method_late d g f rfl (JN (n b s σ H _ I h) λv u ⟨x,y,j,k,ty,z⟩=>?_);obtain⟨A,B⟩:=zEf j k ty;refine⟨"set", "set.add",F.plainAttrs_set,F.slot_set_add,F.type_set_add,A,B,?_⟩;have l:=p a b u σ y _ j z;rw[q]at l⊢;refine Calls.callWith_builtin rfl (Calls.evalArgs_plain ?_);exact JN l λC D ⟨E,G,J,K,L⟩=>m b D σ G x E v C Q J k K L
theorem zEa{x:Str}{i:Int}{pos:Pos}(h:∃t,X.mg x=some (.int i t))(a:Gl X x:=by rfl)(b:(x ==("__debug__":Str))=false:=by decide):PE X (.Name x pos) (tC (.int i)):=by
 obtain⟨t,e⟩:=h;exact Kw a e ⟨t,rfl⟩ b
theorem zIy{x y:Str}{pos:Pos}(h:∃t,X.mg x=some (.str y t))(a:Gl X x:=by rfl)(b:(x ==("__debug__":Str))=false:=by decide):PE X (.Name x pos) (tC (.str y)):=by
 obtain⟨t,e⟩:=h;exact Kw a e ⟨t,rfl⟩ b
theorem V7{x:Str}{n:String}{pos:Pos}(a:X.mg x=none)(b:bootBuiltins x=some (.type n))(c:Gl X x:=by rfl)(d:x≠ "__name__":=by decide)(e:(x ==("__debug__":Str))=false:=by decide):PE X (.Name x pos) (tC (.ty n)) :=
 zBu c a b rfl d e
theorem E5{x:Str}{id:String}{r:A1 V->Hp->VK->Prop}{e:IW}{a:A1 IW}{t:TA}{p pos:Pos}(d:K3 X (.builtin id) r)(f:X.mg x=none)(g:bootBuiltins x=some (.builtin id))(h:PA X (e::a) t)(i:Gl X x:=by rfl)(j:x≠ "__name__":=by decide)(b:(x ==("__debug__":Str))=false:=by decide)
  (k:starEach (e::a) X.env =(false,eval e X.env)::starEach a X.env:=by rfl) (c:(backTo pos (starEach a X.env)).any (·.1)=false:=by rfl):PE X (.Call (.Name x p) (e::a) [] pos) (UN r t):=Xe d i f g h j b k c
theorem Cu{x:Str}{T:String}{r:A1 V->Hp->VK->Prop}{e:IW}{a:A1 IW}{t:TA}{p pos:Pos}(d:K3 X (.type T) r)(f:X.mg x=none)(g:bootBuiltins x=some (.type T))(h:PA X (e::a) t)(i:Gl X x:=by rfl)(j:x≠ "__name__":=by decide)(b:(x ==("__debug__":Str))=false:=by decide)
  (k:starEach (e::a) X.env =(false,eval e X.env)::starEach a X.env:=by rfl) (c:(backTo pos (starEach a X.env)).any (·.1)=false:=by rfl):PE X (.Call (.Name x p) (e::a) [] pos) (UN r t):=Rg d i f g h j b k c
theorem O7{a:JX}{cl:A1 (Str×A3)}{N':A1 Str}{cap:A1 (A5 Nat)}(c:PU X a cl N' cap)(e:R5 X cl)(d:closureFor a X.env=pure cl:=by rfl)(kind:a.kind = .function:=by rfl)(b:∀y∈a.names,y.2≠ .cell:=by decide +kernel)
  (f:∀y∈a.names,y.2 = .local->a.names.lookup y.1=some .local:=by decide +kernel) (g:((relabel a X.env).names.all λy=>!(y.2 == .cell||y.2 == .free)||(cl.lookup y.1).isSome)=true:=by rfl):OD X a cl N' cap:=⟨kind,b,f,d,e,g,c⟩
theorem NC{a:JX}{cl:A1 (Str×A3)}{N':A1 Str}{b:A1 (A3×Obj)}{c:A1 A3}{d:A4}{e:Hp}{x:Str}{pos:Pos}(i:Nat)(f:N'.Nodup:=by decide +kernel)(hi:N'[i]?=some x:=by rfl)(g:Loc (NQ X a cl N' b c d e).env.scope x:=by exact Or.inl rfl)
  (h:(NQ X a cl N' b c d e).env.scope.names.lookup x=some .local:=by rfl):PG (NQ X a cl N' b c d e) (.Name x pos) (V1 i):=D9 (X:=NQ X a cl N' b c d e) f hi g (.inr h)
def M0:bootBuiltins "len" = some (.builtin "len"):=by decide +kernel
def Gk:bootBuiltins "enumerate" = some (.type "enumerate"):=by decide +kernel
def Ze:bootBuiltins "min" = some (.builtin "min"):=by decide +kernel
def zDq:bootBuiltins "max" = some (.builtin "max"):=by decide +kernel
def Zx:bootBuiltins "abs" = some (.builtin "abs"):=by decide +kernel
def X1:bootBuiltins "sorted" = some (.builtin "sorted"):=by decide +kernel
def Nt:bootBuiltins "int" = some (.type "int"):=by decide +kernel
def Ir:bootBuiltins "str" = some (.type "str"):=by decide +kernel
def Kz:bootBuiltins "bool" = some (.type "bool"):=by decide +kernel
def V3:bootBuiltins "list" = some (.type "list"):=by decide +kernel
def S9:bootBuiltins "tuple" = some (.type "tuple"):=by decide +kernel
def Zv:bootBuiltins "set" = some (.type "set"):=by decide +kernel
def C3:bootBuiltins "isinstance" = some (.builtin "isinstance"):=by decide +kernel
def Zj:bootBuiltins "all" = some (.builtin "all"):=by decide +kernel
def LE(a:A3)(b H:Hp):Prop:=∀o,b a=some o->H a=some o
def Sm(D:A1 A3)(H H':Hp):Prop:=∀b o,H b=some o->b∉D->H' b=some o
def F1.at{b H:Hp}(h:F1 b H)(a:A3):LE a b H:=λo e=>h a o e
def F1.new{H:Hp}{p:A3}{o:HO}(h:H p=none):F1 H (IT H p o):=λb u e=>by rw[B6 (B2 e h)];exact e
def F1.upd{a H:Hp}{p:A3}{o:HO}(s:F1 a H)(h:a p=none):F1 a (IT H p o):=λb u e=>by rw[B6 (B2 e h)];exact s b u e
def F1.sm{D:A1 A3}{H H':Hp}(h:F1 H H'):Sm D H H':=λb o e _=>h b o e
def Sm.refl(D:A1 A3)(H:Hp):Sm D H H:=λ_ _ e _=>e
def Sm.trans{D:A1 A3}{H d e:Hp}(a:Sm D H d)(b:Sm D d e):Sm D H e:=λc o h n=>b c o (a c o h n) n
def Sm.new{D:A1 A3}{H c:Hp}{p:A3}{o:HO}(a:Sm D H c)(h:c p=none):Sm D H (L2.IT c p o):=λb u e n=>by
 have:=a b u e n;rw[B6 (B2 this h)];exact this
def Sm.upd{D:A1 A3}{H c:Hp}{p:A3}{o:HO}(a:Sm D H c)(h:p∈D):Sm D H (L2.IT c p o):=λb u e n=>by
 rw[B6 (show b≠p from λz=>n (by rw[z];exact h))];exact a b u e n
def Sm.updN{D:A1 A3}{H c:Hp}{p:A3}{o:HO}(a:Sm D H c)(h:H p=none):Sm D H (L2.IT c p o):=λb u e n=>by rw[B6 (B2 e h)];exact a b u e n
def Sm.at{D:A1 A3}{H H':Hp}(h:Sm D H H'){a:A3}(n:a∉D):LE a H H':=λo e=>h a o e n
def Sm.none{D:A1 A3}{H H':Hp}(h:Sm D H H'){a:A3}(n:a∉D)(e:H' a=Option.none):H a=Option.none:=by
 cases q:H a with
 | none=>rfl
 | some o=>rw[h a o q n]at e;cases e
def LE.seqL{K:VN}{H H':Hp}{a:A3}{xs:A1 V}(e:LE a H H')(h:IV K H a xs):IV K H' a xs:=by
 rcases h with(h | ⟨o,h⟩) | h
 .exact .inl (.inl (e _ h))
 .exact .inl (.inr ⟨o,e _ h⟩)
 .exact .inr h
def LE.seqT{K:VN}{H H':Hp}{a:A3}{xs:A1 V}(e:LE a H H')(h:JL K H a xs):JL K H' a xs:=by
 rcases h with(h | ⟨o,h⟩) | h
 .exact .inl (.inl (e _ h))
 .exact .inl (.inr ⟨o,e _ h⟩)
 .exact .inr h
def VG(K:VN)(H:Hp)(a:A3)(xs:A1 V):Prop:=IV K H a xs\/JL K H a xs
structure L_(J:It)(xs:A1 V)(a:A3)(H0:Hp):Prop where
 go:∀H i,LE a H0 H->i<xs.length->J.go i H
 stop:∀H,LE a H0 H->J.stop xs.length H
 yld:∀H i x H',LE a H0 H->i<xs.length->J.yld i H x H'->H'=H/\xs[i]?=some x
def ON{K:VN}{b:Hp}{a:A3}{xs:A1 V}(h:IV K b a xs):L_ (UU K a) xs a b :=
 ⟨λH i k c=>⟨xs,xs[i],k.seqL h,AC c⟩,λH k=>⟨xs,k.seqL h,VQ _⟩,λH i x d k c ⟨e,y⟩=>⟨e,y xs (k.seqL h)⟩⟩
def asT{K:VN}{b:Hp}{a:A3}{xs:A1 V}(h:JL K b a xs):L_ (Itt K a) xs a b :=
 ⟨λH i k c=>⟨xs,xs[i],k.seqT h,AC c⟩,λH k=>⟨xs,k.seqT h,VQ _⟩,λH i x d k c ⟨e,y⟩=>⟨e,y xs (k.seqT h)⟩⟩
def Xh{J:It}{n:Nat}{g:TG}{f:TS}{D:Ends}{σ:St}{H:Hp}(Pv:Nat->St->Hp->Prop)(j:Pv 0 σ H)(b:∀i σ H,i<n->Pv i σ H->J.go i H)(c:∀σ H,Pv n σ H->J.stop n H)
  (k:∀i σ H x H',i<n->Pv i σ H->J.yld i H x H'->g x σ H' λσ2 d=>f { D with nx:=Pv (i+1),ct:=Pv (i+1),bk:=D.nx } σ2 d) (l:∀σ H,Pv n σ H->D.nx σ H) :
  ∃W:Nat->Nat->St->Hp->Prop,(∃m,W 0 m σ H)/\∀i m σ H,W i m σ H ->
   (J.stop i H/\D.nx σ H)\/(J.go i H/\∃N:St->Hp->Prop,(∀σ' H',N σ' H'->∃h,h < m/\W (i+1) h σ' H')/\∀x H',J.yld i H x H'->g x σ H' λσ2 d=>f { D with nx:=N,ct:=N,bk:=D.nx } σ2 d):=by
 refine⟨λi m σ H=>m=n-i/\i<=n/\Pv i σ H,⟨n,by simp,CY _,j⟩,?_⟩;rintro i m σ H ⟨rfl,q,p⟩;by_cases a:i<n
 .exact .inr ⟨b i σ H a p,Pv (i+1),λσ' H' o=>⟨n-(i+1),by lia,rfl,a,o⟩,λx H' y=>k i σ H x H' a p y⟩
 .have e:i=n:=by lia
  subst e;exact .inl ⟨c σ H p,l σ H p⟩
def Zf{J:It}{xs:A1 V}{a:A3}{f:Hp}(as:L_ J xs a f){g:TG}{h:TS}{D:Ends}{σ:St}{H:Hp}(Pv:Nat->St->Hp->Prop)(k:Pv 0 σ H)(c:∀i σ H,i<=xs.length->Pv i σ H->LE a f H)
  (l:∀i σ H x,xs[i]?=some x->Pv i σ H->g x σ H λσ2 d=>h { D with nx:=Pv (i+1),ct:=Pv (i+1),bk:=D.nx } σ2 d) (o:∀σ H,Pv xs.length σ H->D.nx σ H) :
  ∃W:Nat->Nat->St->Hp->Prop,(∃m,W 0 m σ H)/\∀i m σ H,W i m σ H ->
   (J.stop i H/\D.nx σ H)\/(J.go i H/\∃N:St->Hp->Prop,(∀σ' H',N σ' H'->∃j,j < m/\W (i+1) j σ' H')/\∀x H',J.yld i H x H'->g x σ H' λσ2 d=>h { D with nx:=N,ct:=N,bk:=D.nx } σ2 d) :=
 Xh (n:=xs.length) Pv k (λi σ H b p=>as.go H i (c i σ H (DU b) p) b) (λσ H p=>as.stop H (c _ σ H (VQ _) p)) (λi σ H x H' b p y=>by
  obtain⟨rfl,e⟩:=as.yld H i x H' (c i σ H (DU b) p) b y;exact l i σ _ x e p) o
def n9{J:It}{n:Nat}{g:TG}{f:TT}{h:SO}{σ:St}{H:Hp}{Q:St->Hp->Prop}(Pv:Nat->St->Hp->Prop)(k:Pv 0 σ H)(c:∀i σ H,i<n->Pv i σ H->J.go i H)(d:∀σ H,Pv n σ H->J.stop n H)
  (l:∀i σ H x H' (N:St->Hp->Prop),i<n->Pv i σ H->J.yld i H x H'->(∀σ' H',Pv (i+1) σ' H'->N σ' H')->g x σ H' λσ2 o=>f σ2 o λb j=>if b=true then h σ2 j N else N σ2 j)
  (q:∀σ H,Pv n σ H->Q σ H):Ig g f h J σ H Q:=by
 refine⟨λi m σ H=>m=n-i/\i<=n/\Pv i σ H,⟨n,by simp,CY _,k⟩,?_⟩;rintro i m σ H ⟨rfl,s,p⟩;by_cases a:i<n
 .exact .inr ⟨c i σ H a p,λx H' y=>l i σ H x H' _ a p y λσ3 t r=>⟨n-(i+1),by lia,rfl,a,r⟩⟩
 .have e:i=n:=by lia
  subst e;exact .inl ⟨d σ H p,q σ H p⟩
def W0{J:It}{xs:A1 V}{a:A3}{f:Hp}(as:L_ J xs a f){g:TG}{h:TT}{j:SO}{σ:St}{H:Hp}{Q:St->Hp->Prop}(Pv:Nat->St->Hp->Prop)(l:Pv 0 σ H)(d:∀i σ H,i<=xs.length->Pv i σ H->LE a f H)
  (m:∀i σ H x (N:St->Hp->Prop),xs[i]?=some x->Pv i σ H->(∀σ' H',Pv (i+1) σ' H'->N σ' H')->g x σ H λσ2 o=>h σ2 o λb k=>if b=true then j σ2 k N else N σ2 k)
  (q:∀σ H,Pv xs.length σ H->Q σ H):Ig g h j J σ H Q :=
 n9 (n:=xs.length) Pv l (λi σ H c p=>as.go H i (d i σ H (DU c) p) c) (λσ H p=>as.stop H (d _ σ H (VQ _) p)) (λi σ H x H' N c p y r=>by
  obtain⟨rfl,e⟩:=as.yld H i x H' (d i σ H (DU c) p) c y;exact m i σ _ x N e p r) q
def Eg{a:SO}{N:St->Hp->Prop}{σ:St}{H:Hp}{i:Nat}{x:V}(h:a (σ.set i (some x)) H N):V1 i x σ H λσ2 d=>Aq σ2 d λb c=>if b=true then a σ2 c N else N σ2 c:=by
 show if true=true then a (σ.set i (some x)) H N else N (σ.set i (some x)) H
 rw[AQ rfl];exact h
def zCw{a:SO}{N:St->Hp->Prop}{σ:St}{H:Hp}(h:a σ H N):Aq σ H λb c=>if b=true then a σ c N else N σ c:=by
 show if true=true then a σ H N else N σ H
 rw[AQ rfl];exact h
section
variable{X:Cx}(K:VN)(P:A7)(w:F8){tg:IW}
theorem OL{l:IW}{a:TE}(b:PE X l a)(c:X.K=K:=by rfl):PI X tg l (zFc K a):=by subst c;exact zCl b
theorem piS{l:IW}{a:TE}(b:PE X l a)(c:X.K=K:=by rfl):PI X tg l (zJv K a):=by subst c;exact zGf b
theorem UP{b:A1 IW}{kk:Nat}{d:Pos}{a:IW}{c:TA}{p pos:Pos}(e:X.mg "enumerate" = none)(f:PA X [a] c)(g:Gl X "enumerate":=by rfl)(h:starEach [a] X.env = [(false,eval a X.env)]:=by rfl)(i:X.K=K:=by rfl) :
  PI X (.Tuple b kk d) (.Call (.Name "enumerate" p) [a] [] pos) (zEy K c):=by subst i;exact zCs g e Gk f h
theorem UV{a:IW}{b:TA}{p pos:Pos}(c:X.mg "range" = none)(d:PA X [a] b)(e:Gl X "range":=by rfl)(f:starEach [a] X.env = [(false,eval a X.env)]:=by rfl):PI X tg (.Call (.Name "range" p) [a] [] pos) (zGt b):=Tt e c d f
theorem QY{a:A1 IW}{k:Nat}{t:TQ}{n:Nat}{pos:Pos}(h:VI X a t)(c:X.calm=true:=by rfl)(d:(assignEach a X.env).length=n:=by rfl)(b:(assignEach a X.env).findIdx? (·.1)=none:=by rfl)(e:X.K=K:=by rfl):PG X (.Tuple a k pos) (zIx K n t):=by subst e;exact zGx c h d b
theorem OS{e:IW}{a:TE}{f:Str}{pos:Pos}(b:PE X e a)(c:attributeBase e f X.env (eval e X.env)=eval e X.env:=by rfl)(d:X.K=K:=by rfl):PE X (.Attribute e f pos) (zHj K a f):=by subst d;exact zEr b c
theorem SK{o a:IW}{c d:TE}{f:Str}{pos b:Pos}(e:PE X o c)(g:PE X a d)(h:swapsWith a (some (.Attribute o f b)) pos.line X.env=pure false:=by rfl)(i:X.K=K:=by rfl):PS X (.Assign [.Attribute o f b] a pos) (zJs K c d f):=by subst i;exact zDx e g h
theorem O0(b:X.K=K:=by rfl):K3 X (.builtin "len") (λxs H Q=>∃p a,xs = [.ref p]/\(IV K H p a\/JL K H p a)/\Q (.int a.length) H):=by subst b;exact Gw
theorem Er(b:X.K=K:=by rfl):K3 X (.type "list") (λxs H Q=>∃p a,xs = [.ref p]/\(IV K H p a\/JL K H p a)/\∀l,H l=none->Q (.ref l) (IT H l (.lst a))):=by subst b;exact Im
theorem Xu(b:X.K=K:=by rfl):K3 X (.type "tuple") (λxs H Q=>∃p a,xs = [.ref p]/\((IV K H p a/\∀l,H l=none->Q (.ref l) (IT H l (.tup a)))\/(JL K H p a/\Q (.ref p) H))):=by subst b;exact Ew
theorem Zr(a:X.calm=true:=by rfl)(b:X.K=K:=by rfl):K3 X (.builtin "all") (λxs H Q=>∃(p:A3) (bs:A1 Bool),xs = [.ref p]/\IV K H p (bs.map V.bl)/\Q (.bl (bs.all id)) H):=by subst b;exact Xm a
theorem Oi(b:X.K=K:=by rfl):K3 X (.builtin "sorted") (λxs H Q=>∃(p:A3) (ss:A1 Str),xs = [.ref p]/\IV K H p (ss.map V.str)/\∀(l:A3) (a:A1 Str),H l=none->a.Perm ss->a.Pairwise SM->Q (.ref l) (IT H l (.lst (a.map V.str)))):=by subst b;exact Je
theorem Xl(c:X.K=K:=by rfl):K3 X (.builtin "sorted") (λxs H Q=>∃(p:A3) (b:A1 KJ),xs = [.ref p]/\IV K H p (b.map λq=>V.ref q.1)/\(∀q∈b,G0 H q)/\∀(l:A3) (a:A1 KJ),H l=none->a.Perm b->a.Pairwise VC->Q (.ref l) (IT H l (.lst (a.map λq=>V.ref q.1)))):=by subst c;exact Gz
theorem M6(a:X.K=K:=by rfl):K3 X (.builtin "isinstance") (λxs H Q=>∃x n t b,xs = [x,.ty n]/\NM K H x t/\PySem.W.kitOne K t (.type n)=some b/\Q (.bl b) H):=by subst a;exact Vo
theorem zAu(a:X.prog=P:=by rfl)(hw:X.w=w:=by rfl):K3 X (.type "set") (λxs H Q=>xs = []/\∀p,H p=none->Q (.ref p) (IT H p (Qn P w p []))):=by subst a;subst hw;exact Re
theorem Vx(a:X.prog=P:=by rfl)(hw:X.w=w:=by rfl):K3 X (.type "set") (λxs H Q=>xs = []/\∀p,H p=none->Q (.ref p) (IT H p (Qp P w p []))):=by subst a;subst hw;exact Px
theorem Ar(a:X.A.units+64<cLine)(b:X.K=K:=by rfl):LR X (compareOp .NotIn) (zIm K true):=by subst b;exact Rv a
theorem zAe(a:X.A.units+64<cLine)(b:X.K=K:=by rfl):LR X (compareOp .Eq) (zHf K):=by subst b;exact zFg a
theorem zIk(a:X.A.units+64<cLine)(b:X.K=K:=by rfl):LR X (compareOp .NotEq) (zJh K):=by subst b;exact zEs a
theorem zCd(a:X.K=K:=by rfl):LR X (compareOp .In) (UO K false):=by subst a;exact Sf
theorem Ey(a:X.K=K:=by rfl):LR X (compareOp .NotIn) (UO K true):=by subst a;exact Hc
theorem zIt(a:X.prog=P:=by rfl)(hw:X.w=w:=by rfl):LR X (compareOp .In) (zJj P w false):=by subst a;subst hw;exact Ug
theorem zJd(a:X.A.units+1<cLine)(b:X.prog=P:=by rfl)(hw:X.w=w:=by rfl):LR X (compareOp .In) (zJz P w):=by subst b;subst hw;exact Ov a
theorem zDo(a:X.prog=P:=by rfl)(hw:X.w=w:=by rfl):RZ X "set.add" (zDy P w):=by subst a;subst hw;exact zGu
theorem zFj(a:X.A.units+1<cLine)(b:X.prog=P:=by rfl)(hw:X.w=w:=by rfl):RZ X "set.add" (zFf P w):=by subst b;subst hw;exact zBk a
theorem Zw{o e:IW}{g:TE}{t:TA}{b a:Pos}{r:V->A1 V->Hp->VK->Prop}(h:RZ X "set.add" r)(i:PE X o g)(j:PA X [e] t)
  (c:attributeBase o "add" X.env (eval o X.env)=eval o X.env:=by rfl)
  (f:((backTo a (starEach [e] X.env)).all (λx=>!x.1) &&(backToKw a (keywordEach [] X.env)).all (λx=>x.1.isSome)
   && decide ([e].length +([]:A1 Keyword).length +(if([]:A1 Keyword).isEmpty then 0 else 1)<30))=true:=by rfl)
  (d:(b.endLine == a.line)=true:=by rfl) (k:starEach [e] X.env = [(false,eval e X.env)]:=by rfl) (l:X.prog=P:=by rfl) (hw:X.w=w:=by rfl) :
  PE X (.Call (.Attribute o "add" b) [e] [] a) (zKd P w r g t):=by subst l;subst hw;exact zAs h i j c f d k
theorem MD(a:X.K=K:=by rfl):VM X (zJt K):=by subst a;exact zCb
theorem QD(a:X.K=K:=by rfl):VM X (zJy K):=by subst a;exact zDv
theorem Tg(a:X.K=K:=by rfl):VH X (zJw K):=by subst a;exact zAf
theorem T0(a:X.K=K:=by rfl):RZ X "list.index" (Qw K):=by subst a;exact Rj
theorem T_{a:IW}{c:TE}(d:PE X a c)(e:∀b,isTrue a X.env b =(do let v <-b;standAt a.pos;holding [v] (truthy v)):=by intro _;rfl)(f:X.K=K:=by rfl):PT X a (λσ H Q=>c σ H λx H'=>∃k,zHd K x H' k/\Q k H'):=by subst f;exact Wo d e
theorem Dk{T id:String}{name:Str}{o e:IW}{d:A1 IW}{k:TE}{t:TA}{c a:Pos}{r:V->A1 V->Hp->VK->Prop}(l:PlainAttrs T)(h:Slot T name id)(j:typeOf (.builtin id)=pure (.type "method_descriptor"))(m:RZ X id r)(n:PE X o k)(p:PA X (e::d) t)
  (f:attributeBase o name X.env (eval o X.env)=eval o X.env:=by rfl)
  (i:((backTo a (starEach (e::d) X.env)).all (λx=>!x.1) &&(backToKw a (keywordEach [] X.env)).all (λx=>x.1.isSome)
   && decide ((e::d).length +([]:A1 Keyword).length +(if([]:A1 Keyword).isEmpty then 0 else 1)<30))=true:=by rfl)
  (g:(c.endLine == a.line)=true:=by rfl) (q:starEach (e::d) X.env =(false,eval e X.env)::starEach d X.env:=by rfl) (b:(backTo a (starEach d X.env)).any (·.1)=false:=by rfl) (s:X.K=K:=by rfl) :
  PE X (.Call (.Attribute o name c) (e::d) [] a) (tBM K T r k t):=by subst s;exact zId l h j m n p f i g q b
end
def We:bootBuiltins "range" = some (.type "range"):=by decide +kernel
def Hy:∀(us:A1 A2) (b:Nat),(∀j v,us[j]?=some v->∃t,v=Value.int ((b+j:Nat):Int) t)->I_ ((List.range' b us.length).map λk:Nat=>V.int (k:Int)) us
 | [],_,_=>.nil
 | u::r,b,h=>by
  obtain⟨t,rfl⟩:=h 0 u rfl;refine .cons ⟨t,rfl⟩ (Hy r (b+1) λj v a=>?_);obtain⟨t,e⟩:=h (j+1) v a;exact⟨t,by rw[e];congr 2;lia⟩
theorem Kd:K3 X (.type "range") (λxs H Q=>∃j:Int,xs = [.int j]/\∀l,H l=none->Q (.ref l) (IT H l (.rng 0 j))):=by
 intro a s σ H xs c Q I r h;obtain⟨j,rfl,q⟩:=h;obtain⟨u,rfl,t,rfl⟩:=W5 r;refine call_range_1 ?_;exact⟨.ref s.heap.objs.size,_,I.laid (t':=s.toks+1+1) (λb o e=>AD _ e) (by lia) (show JB X.prog X.w _ _ _ (.rng 0 j)from⟨_,_,_,AO _ rfl⟩),rfl,q _ (I.hok.fresh (VQ _))⟩
theorem Qa(f:X.calm=true:=by rfl):K3 X (.type "list") (λxs H Q=>∃(p:A3) (n:Nat),xs = [.ref p]/\H p=some (.rng 0 (n:Int))/\n<=2^20/\∀l,H l=none->Q (.ref l) (IT H l (.lst ((List.range n).map λk:Nat=>V.int (k:Int))))):=by
 intro d s σ H xs B Q I r h;obtain⟨p,n,rfl,g,C,q⟩:=h;obtain⟨u,rfl,i⟩:=W5 r;cases i;obtain⟨t,u,v,e⟩:=I.hok _ _ g;refine call_list_range (n:=n) (I.ok.hd f) e ?_ ?_ (by lia) λm o a x y z b=>?_
 .exact small_one (by lia) (by lia) (by lia) (by lia)
 .rw[rangeSize_one];split<;>lia
 .have A:a.toList.length=n:=by simp[b.1]
  have c:I_ ((List.range n).map λk:Nat=>V.int (k:Int)) a.toList:=by
   have:=Hy a.toList 0 λj v c=>by
    obtain⟨t,e⟩:=b.2 j v (by simpa using c);exact⟨t,by rw[e];congr 1;lia⟩
   rw[A,<-List.range_eq_range']at this;exact this
  refine⟨.ref s.heap.objs.size,_,I.laid (t':=o) y (VQ _) (show JB X.prog X.w _ m _ (.lst _)from⟨by rw[AB,CU,sizeLine_eq];lia,a.toList,x,c,by simpa using z⟩),rfl,q _ (I.hok.fresh (VQ _))⟩
theorem Qi{f:A1 (A3×Obj)}{σ:St}{H:Hp}{s:A4}{A:IY}{E:A2->A4->Prop}{Q:A2->A4->Prop}{b:Bool}{x:V}{u t:A2}{l:A3}{its:A1 A2}(I:Inv X f σ H s)(g:RelV x u)(ty:NM X.K H x t)(i:IsTup s.heap l its.toArray)(e:PySem.W.kitAny X.K t its=some b)(m:(∃y,x = .str y)\/(∃a xs,x = .ref a/\(H a=some (.lst xs)\/H a=some (.tup xs))))(h:∀r,Q (.bool b) { s with toks:=r }) :
  wpAny (model X.prog X.w) A (call (.builtin "isinstance") [u,.ref l]) Q E s:=by
 obtain⟨⟨G,J,v,B⟩,j,C,n,D⟩:=i;cases C;cases D;rcases m with⟨y,rfl⟩ | ⟨a,xs,rfl,ea | ea⟩
 .cases ty;obtain⟨t,q⟩:=(show ∃t,u=Value.str y t from g);cases q;exact WE PySem.W.kitx_str I.kIn VP j e (λz=>nomatch z) h
 .cases(show u=Value.ref a from g);have d:t = .type "list":=by cases ty with
   | lst=>rfl
   | frz=>rfl
   | tup c=>rw[ea]at c;cases c
   | dK c=>rw[ea]at c;cases c
   | dT c=>rw[ea]at c;cases c
   | ins c=>rw[ea]at c;cases c
  subst d;obtain⟨_,_,n,_,k⟩:=(show JB X.prog X.w H s.heap a (.lst xs)from I.hok a _ ea);exact WE PySem.W.kitx_list I.kIn ⟨_,k,rfl⟩ j e (λz=>nomatch z) h
 .cases(show u=Value.ref a from g);have d:t = .type "tuple":=by cases ty with
   | tup=>rfl
   | frz c=>rw[ea]at c;cases c
   | lst c=>rw[ea]at c;cases c
   | dK c=>rw[ea]at c;cases c
   | dT c=>rw[ea]at c;cases c
   | ins c=>rw[ea]at c;cases c
  subst d;obtain⟨_,_,_,p⟩:=(show JB X.prog X.w H s.heap a (.tup xs)from I.hok a _ ea);obtain⟨o,k,F,_⟩:=p;exact WE PySem.W.kitx_tuple I.kIn ⟨o,k,F⟩ j e (λz=>nomatch z) h
def zCm(K:VN):A1 V->Hp->VK->Prop:=λc H Q=>∃(x:V) (p:A3) (d:A1 String) (t:A2) (b:Bool),c = [x,.ref p]/\H p=some (.tup (d.map V.ty))/\NM K H x t/\((∃y,x = .str y)\/(∃a c,x = .ref a/\(H a=some (.lst c)\/H a=some (.tup c))))/\PySem.W.kitAny K t (d.map Value.type)=some b/\Q (.bl b) H
theorem Lu:∀{ns:A1 String} {us:A1 A2},I_ (ns.map V.ty) us->us=ns.map Value.type
 | [],_,.nil=>rfl
 | _::_,_,.cons r t=>by rw[AZ,Lu t];cases r;rfl
theorem Qg:K3 X (.builtin "isinstance") (zCm X.K):=by
 intro c s σ H l m Q I r h;obtain⟨x,p,n,t,b,rfl,e,f,g,i,q⟩:=h;obtain⟨u,v,rfl,j,a⟩:=r.two;cases a;obtain⟨k,a,d,o⟩:=I.tuple (JL.of e);rw[Lu a]at d;exact Qi I j f d i g λw=>⟨.bl b,H,I.tok _,rfl,q⟩
variable(K:VN)
theorem Wb(a:X.K=K:=by rfl):K3 X (.builtin "isinstance") (zCm K):=by subst a;exact Qg
section
variable{prog:A7}{w:F8}{A:IY}{E:A2->A4->Prop}{s:A4}{it l:A3}{i:Nat}{items:CM A2}{x:A2}{Q:A2->A4->Prop}
theorem zBh{α:Type}{Q:α->A4->Prop}(a:A.handled=none)(h:∀h' e,(∀b o,s.heap.get? b=some o->h'.get? b=some o)->(∃o,h'.get? e=some o/\o.cls = .type "StopIteration")->E (.ref e) { s with heap:=h' }):wpAny (model prog w) A (Builtin.SmallTypes.stopIteration (α:=α)) Q E s:=by
 refine AA (AA (EU (AA (AF (EV ?_ (sizeOk_excFields ..)))) (by show 0<=sizeLine;decide)));refine AA (wpAny_handled ?_);rw[a];exact wpAny_throw (h _ _ (λb o e=>AD _ (AD _ e)) ⟨_,AO _ rfl,rfl⟩)
theorem R4(a:s.heap.IsTupleIter it l i)(g:s.heap.IsTuple l items)(h:items[i]?=some x)
  (j:∀h',h'.IsTupleIter it l (i+1)->Heap.SameBut it s.heap h'->Q x { s with heap:=h' }):wpAny (model prog w) A (Builtin.SmallTypes.nextOf (.ref it)) Q E s:=by
 obtain⟨o,d,k,b⟩:=id a;obtain⟨m,e,_,n,f⟩:=g;refine AA (DH a.typeIs F.slot_tuple_iterator_next (DK F.slot_tuple_iterator_next a.typeIs F.entry_tuple_iterator_next ?_ (F.args_tuple_iterator_next_1 _)));refine AA (AF (AA (CC d b rfl ?_)));refine CL (c:=(Value.ref l == Value.none)=true) rfl ?_;refine AA (CC d b rfl (AA (CJ e f ?_)));dsimp only;rw[show items[(i:Int).toNat]?=some x from h];refine AA (wpAny_setField d b (FC 1) (AF ⟨x,rfl,AF (j _ ⟨_,EH _ d (Obj.isFreed_of_fields (Obj.data_mapFields b _)),(Obj.cls_mapFields o _).trans k,(Obj.data_mapFields b _).trans ?_⟩ (EE _ _ _))⟩));rfl
theorem Cn(j:A.handled=none)(a:s.heap.IsTupleIter it l i)(m:s.heap.IsTuple l items)(n:items[i]?=none)
  (p:∀h' e,Heap.ExtBut it s.heap h'->(∃o,h'.get? e=some o/\o.cls = .type "StopIteration")->E (.ref e) { s with heap:=h' }):wpAny (model prog w) A (Builtin.SmallTypes.nextOf (.ref it)) Q E s:=by
 obtain⟨o,d,r,f⟩:=id a;obtain⟨t,g,_,u,h⟩:=m;refine AA (DH a.typeIs F.slot_tuple_iterator_next (DK F.slot_tuple_iterator_next a.typeIs F.entry_tuple_iterator_next ?_ (F.args_tuple_iterator_next_1 _)));refine AA (AF (AA (CC d f rfl ?_)));refine CL (c:=(Value.ref l == Value.none)=true) rfl ?_;refine AA (CC d f rfl (AA (CJ g h ?_)));dsimp only;rw[show items[(i:Int).toNat]?=none from n];refine AA (EL (AA (wpAny_setField d f (DW 1) ?_)));exact zBh j λh' e k d=>p h' e (λb o q e=>k b o (((EE _ _ _).2 b q).trans e)) d
theorem Fv{M:Model}{α β:Type}{a b:α}{i u v:β}{f:α->β->Sem (ForInStep β)}{Q:β->A4->Prop}(h:wpAny M A (f a i) (λr c=>r = .yield u/\wpAny M A (f b u) (λr c=>r = .yield v/\Q v c) E c) E s):wpAny M A (forIn [a,b] i f) Q E s:=by
 rw[FO];refine AA (CI h (λr c z=>?_) λe c z=>z);obtain⟨rfl,z⟩:=z;show wpAny M A (forIn [b] u f) Q E c;rw[FO];refine AA (CI z (λr c z=>?_) λe c z=>z);obtain⟨rfl,z⟩:=z;exact AF z
theorem Cw{z TI TO d f m l2:A3}{r t:Nat}{xs K:CM A2}{x y a b:A2}(D:ZipApart z TI TO d f m l2)(hz:IsZip s.heap z TI TO .none)(B:IsPair s.heap TI (.ref d) (.ref f))(C:IsPair s.heap TO a b)
  (h1:s.heap.IsTupleIter d m r) (h2:s.heap.IsTupleIter f l2 t) (T:s.heap.IsTuple m xs) (U:s.heap.IsTuple l2 K) (V:xs[r]?=some x) (W:K[t]?=some y)
  (X:∀h',IsZip h' z TI TO (rawInt s.heap.objs.size)->IsPair h' TO x y->h'.IsTupleIter d m (r+1)->h'.IsTupleIter f l2 (t+1)->IsPair h' s.heap.objs.size x y->h'.objs.size=s.heap.objs.size+1->(∀c o,c≠z->c≠TO->c≠d->c≠f->s.heap.get? c=some o->h'.get? c=some o)->Q (.ref s.heap.objs.size) { s with heap:=h' }) :
  wpAny (model prog w) A (Builtin.«zip.__next__» ⟨[.ref z],[]⟩) (λfin Y=>∃v,fin = .done (.ret v)/\Q v Y) E s:=by
 obtain⟨F,gg,dd,tt,oo⟩:=s;refine AA (AF (AA (CC hz rfl rfl (AA (CC hz rfl rfl (AA (CJ B rfl ?_)))))));refine CL rfl (AA (AA (CC hz rfl rfl (AF (IG rfl ?_)))));refine AA (EL (AA (CC hz rfl rfl (AA (DN hz (DW 4) λh3 Z g=>?_)))));have a3:=h1.extBut g.extBut D.i1z;have b3:=h2.extBut g.extBut D.i2z;have c3:=T.extBut g.extBut D.l1z;have d3:=U.extBut g.extBut D.l2z;have e3:=(g.2 TO D.TOz).trans C;refine AA ?_;rw[show(#[Value.ref d,Value.ref f].toList.zipIdx) = [(Value.ref d,0),(Value.ref f,1)]from rfl];refine Fv (u:=(none,())) (v:=(none,())) ?_;refine AA (HP (CL rfl (AA (R4 a3 c3 V λh4 a4 h=>AF ?_))));have L:=(h.2 TO D.TOi1).trans e3;refine AA (CJ L rfl (AA (HH L λh5 e5 i=>AA (GP (AF ⟨rfl,?_⟩)))));have b5:=(b3.extBut h.extBut D.i12.symm).extBut i.extBut D.TOi2.symm;have d5:=(d3.extBut h.extBut D.l2i1).extBut i.extBut D.l2TO;refine AA (HP (CL rfl (AA (R4 b5 d5 W λh6 b6 j=>AF ?_))));have M:=(j.2 TO D.TOi2).trans e5;refine AA (CJ M rfl (AA (HH M λn N k=>AA (GP (AF ⟨rfl,?_⟩)))));have z7:=(k.2 z D.TOz.symm).trans ((j.2 z D.i2z.symm).trans ((i.2 z D.TOz.symm).trans ((h.2 z D.i1z.symm).trans Z)));have G:n.objs.size=F.objs.size:=k.1.trans (j.1.trans (i.1.trans (h.1.trans g.1)));have O:∀{c:A3} {o:Obj},F.get? c=some o->c≠n.objs.size:=λe=>by rw[G];exact AV (AH e)
 refine AA (CJ N rfl (AA (EU (AA (AA (DN (AD _ z7) (DW 4) λh8 z8 H=>DN z8 (Nat.succ_lt_succ (DW 3)) λp P I=>AF ⟨_,rfl,?_⟩))) (by show 2<=sizeLine;decide))));have q:∀{c:A3} {o:Obj},c≠z->n.get? c=some o->p.get? c=some o:=λl e=>(I.2 _ l).trans ((H.2 _ l).trans (AD _ e));have J:p.objs.size=F.objs.size+1:=I.1.trans (H.1.trans ((DF ..).trans (congrArg (· + 1) G)));have R:p.get? n.objs.size=some ⟨.type "tuple",none,.seq #[x,y],#[]⟩:=(I.2 _ (O hz).symm).trans ((H.2 _ (O hz).symm).trans (AO _ rfl));rw[G]at P R⊢;refine X p P (q D.TOz N) (a4.at λo e=>?_) (b6.at λo e=>?_) R J λc o l S n1 n2 e=>q l ?_
 .exact q D.i1z ((k.2 _ D.TOi1.symm).trans ((j.2 _ D.i12).trans ((i.2 _ D.TOi1.symm).trans e)))
 .exact q D.i2z ((k.2 _ D.TOi2.symm).trans e)
 .exact(k.2 _ S).trans ((j.2 _ n2).trans ((i.2 _ S).trans ((h.2 _ n1).trans ((g.2 _ l).trans e))))
theorem Fz{z TI TO a b f l2:A3}{j:Nat}{xs:CM A2}{Q:PySem.Fin->A4->Prop}(p:A.handled=none)(D:ZipApart z TI TO a b f l2)(hz:IsZip s.heap z TI TO .none)(g:IsPair s.heap TI (.ref a) (.ref b))
  (h1:s.heap.IsTupleIter a f j) (r:s.heap.IsTuple f xs) (t:xs[j]?=none)
  (u:∀h' e,(∀c o,c≠z->c≠TO->c≠a->c≠b->s.heap.get? c=some o->h'.get? c=some o)->(∃o,h'.get? e=some o/\o.cls = .type "StopIteration")->E (.ref e) { s with heap:=h' }) :
  wpAny (model prog w) A (Builtin.«zip.__next__» ⟨[.ref z],[]⟩) Q E s:=by
 obtain⟨B,C,F,tt,G⟩:=s;refine AA (AF (AA (CC hz rfl rfl (AA (CC hz rfl rfl (AA (CJ g rfl ?_)))))));refine CL rfl (AA (AA (CC hz rfl rfl (AF (IG rfl ?_)))));refine AA (EL (AA (CC hz rfl rfl (AA (DN hz (DW 4) λH k h=>?_)))));refine AA ?_;rw[show(#[Value.ref a,Value.ref b].toList.zipIdx) = [(Value.ref a,0),(Value.ref b,1)]from rfl,FO];refine AA (AA (HP (CL rfl (AA (Cn p (h1.extBut h.extBut D.i1z) (r.extBut h.extBut D.l1z) t λI e i d=>?_)))));refine DN (i z _ D.i1z.symm k) (DW 4) λv J l=>u v e (λc o m _ x _ e=>(l.2 _ m).trans (i c o x ((h.2 _ m).trans e))) ?_;obtain⟨o,d,n⟩:=d;have y:e≠z:=λq=>by
  subst q;rw[i e _ D.i1z.symm k]at d;cases d;exact absurd (show Value.type "zip" = .type "StopIteration" from n) (by decide)
 exact⟨o,(l.2 _ y).trans d,n⟩
theorem z6{z TI TO:A3}{a:A2}(hz:IsZip s.heap z TI TO a):s.TypeIs (.ref z) "zip":=⟨_,hz,rfl⟩
theorem zAl(O:A.handled=none)(z TI TO f g j l2:A3)(D:ZipApart z TI TO f g j l2)(xs v:CM A2)(P:xs.size<=v.size) :
  WalksT prog w A z [z,TI,TO,f,g,j,l2] [z,TO,f,g] xs.size (λi C=>∃x y,xs[i]?=some x/\v[i]?=some y/\C = #[x,y])
   (λi h=>IsZip h z TI TO .none/\IsPair h TI (.ref f) (.ref g)/\(∃a b,IsPair h TO a b)/\h.IsTupleIter f j i/\h.IsTupleIter g l2 i/\h.IsTuple j xs/\h.IsTuple l2 v)
   (λi T h=>IsZip h z TI TO (rawInt T)/\IsPair h TI (.ref f) (.ref g)/\(∃a b,IsPair h TO a b)/\h.IsTupleIter f j (i+1)/\h.IsTupleIter g l2 (i+1)/\h.IsTuple j xs/\h.IsTuple l2 v/\T≠z/\T≠TO/\T≠f/\T≠g) where
 sub:=by simp
 frame:=λi h B ⟨c,l,⟨a,b,p⟩,m,r,n,t⟩ k=>⟨k z (by simp) _ c,k TI (by simp) _ l,⟨a,b,k TO (by simp) _ p⟩,m.at (k f (by simp)),r.at (k g (by simp)),n.at (k j (by simp)),t.at (k l2 (by simp))⟩
 item:=λi s Q E K ⟨c,l,⟨a,b,p⟩,m,r,n,t⟩ G=>by
  have H:xs[i]?=some xs[i]:=EC K;have L:v[i]?=some (v[i]'(BH K P)):=EC _;refine AA (GY (DH (z6 c) F.slot_zip_next (DK F.slot_zip_next (z6 c) F.entry_zip_next (Cw D c l p m r n t H L λB I R S U V sz k=>AF ?_) (F.args_zip_next_1 _))));refine G _ _ B s.toks ⟨_,_,H,L,rfl⟩ (VQ _) ⟨_,V,rfl,_,rfl⟩ ⟨I,k TI _ D.TIz D.TITO D.TIi1 D.TIi2 l,⟨_,_,R⟩,S,U,n.at λo e=>k j o D.l1z D.l1TO D.l1i1 D.l1i2 e,t.at λo e=>k l2 o D.l2z D.l2TO D.l2i1 D.l2i2 e,?_,?_,?_,?_⟩ λb o d e=>?_
  .exact(AV (AH c)).symm
  .exact(AV (AH p)).symm
  .obtain⟨o,e,_⟩:=m;exact(AV (AH e)).symm
  .obtain⟨o,e,_⟩:=r;exact(AV (AH e)).symm
  .simp only[AK,BB,or_false,not_or]at d;exact k b o d.1 d.2.1 d.2.2.1 d.2.2.2 e
 go:=λM k W i T s Q E ⟨c,l,⟨a,b,p⟩,m,r,n,t,_⟩ G=>wpAny_letOwnedTupleGo_zip c λB I u=>G B ⟨I,(u.2 _ D.TIz).trans l,⟨a,b,(u.2 _ D.TOz).trans p⟩,m.extBut u.extBut D.i1z,r.extBut u.extBut D.i2z,n.extBut u.extBut D.l1z,t.extBut u.extBut D.l2z⟩ λb o d e=>(u.2 b λq=>d (by rw[q];exact BN ..)).trans e
 apart:=λi T h ⟨_,_,_,_,_,_,_,X,Y,Z,n4⟩ N=>by
  simp only[AK,BB,or_false]at N;rcases N with e | e | e | e
  .exact X e
  .exact Y e
  .exact Z e
  .exact n4 e
 done:=λs Q E ⟨c,l,⟨a,b,p⟩,m,r,n,t⟩ G=>by
  have H:xs[xs.size]?=none:=Array.getElem?_eq_none (VQ _);refine AA (GY (DH (z6 c) F.slot_zip_next (DK F.slot_zip_next (z6 c) F.entry_zip_next (Fz O D c l m n H λB e k J=>?_) (F.args_zip_next_1 _))));obtain⟨o,J,hc⟩:=J;refine AA (wpAny_isInstance ⟨o,J,hc⟩ isSubtype_stop (AF (G B s.toks λb o d e=>?_)));simp only[AK,BB,or_false,not_or]at d;exact k b o d.1 d.2.1 d.2.2.1 d.2.2.2 e
 self:=λi s Q E ⟨c,_⟩ q=>ER c q
end
section
variable{prog:A7}{w:F8}{A:IY}{E:A2->A4->Prop}{s:A4}
theorem y3{M:Model}{T:String}{vs:A1 A2}{Q:A2->A4->Prop}(h:Q (.ref s.heap.objs.size) { s with heap:=s.heap.push { cls:=.type T,data:=.fields vs.toArray } })(a:sizeOk (.fields vs.toArray)):wpAny M A (Builtin.SmallTypes.newRecord (.type T) vs) Q E s:=EV h a
theorem Tb{d l2:A3}{xs n:CM A2}{Q:A2->A4->Prop}(y:s.heap.IsTuple d xs)(z:s.heap.IsTuple l2 n)
  (B:∀h',IsZip h' (s.heap.objs.size+4) (s.heap.objs.size+2) (s.heap.objs.size+3) .none->IsPair h' (s.heap.objs.size+2) (.ref s.heap.objs.size) (.ref (s.heap.objs.size+1))->IsPair h' (s.heap.objs.size+3) .none .none ->
   h'.IsTupleIter s.heap.objs.size d 0->h'.IsTupleIter (s.heap.objs.size+1) l2 0->(∀c o,s.heap.get? c=some o->h'.get? c=some o)->Q (.ref (s.heap.objs.size+4)) { s with heap:=h' }) :
  wpAny (model prog w) A (call (.type "zip") [.ref d,.ref l2]) Q E s:=by
 refine callType_new (S:=λA R j=>j=s/\∀h',IsZip h' (s.heap.objs.size+4) (s.heap.objs.size+2) (s.heap.objs.size+3) .none->IsPair h' (s.heap.objs.size+2) (.ref s.heap.objs.size) (.ref (s.heap.objs.size+1))->IsPair h' (s.heap.objs.size+3) .none .none ->
   h'.IsTupleIter s.heap.objs.size d 0->h'.IsTupleIter (s.heap.objs.size+1) l2 0->(∀c o,s.heap.get? c=some o->h'.get? c=some o)->R (.ok (.ret (.ref (s.heap.objs.size+4)))) { s with heap:=h' }) F.called_zip rfl (F.typeCall_zip_2 _ _) (F.newCall_zip_2 _ _) (λ_=>F.args_object_init_3 _ _ _) F.entry_zip_new (.of_wp λprog w A R j l=>?_) ⟨rfl,λh' p C D G H k=>⟨⟨_,p,rfl⟩,B h' p C D G H k⟩⟩
 obtain⟨rfl,l⟩:=l;obtain⟨a,I,J,tt,K⟩:=j;refine AA (AA (AF (CL rfl (AA (wpAny_of_eq sub_zip (CL rfl (AF ?_)))))))
 let b:=a.push { cls:=.type "tuple_iterator",data:=.fields #[.ref d,.int 0 0] }
 let f:=b.push { cls:=.type "tuple_iterator",data:=.fields #[.ref l2,.int 0 0] }
 let g:=f.push { cls:=.type "tuple",data:=.seq #[.ref a.objs.size,.ref b.objs.size] }
 let i:=g.push { cls:=.type "tuple",data:=.seq #[.none,.none] }
 have r:b.objs.size=a.objs.size+1:=DF ..;have t:f.objs.size=a.objs.size+2:=(DF ..).trans (congrArg (· + 1) r);have x:g.objs.size=a.objs.size+3:=(DF ..).trans (congrArg (· + 1) t);have L:i.objs.size=a.objs.size+4:=(DF ..).trans (congrArg (· + 1) x);have m:b.IsTuple l2 n:=z.at λo e=>AD _ e;have M:b.get? a.objs.size=some { cls:=.type "tuple_iterator",data:=.fields #[.ref d,.int 0 0] }:=AO _ rfl;have N:f.get? b.objs.size=some { cls:=.type "tuple_iterator",data:=.fields #[.ref l2,.int 0 0] }:=AO _ rfl;have O:g.get? f.objs.size=some { cls:=.type "tuple",data:=.seq #[.ref a.objs.size,.ref b.objs.size] }:=AO _ rfl;have P:i.get? g.objs.size=some { cls:=.type "tuple",data:=.seq #[.none,.none] }:=AO _ rfl;have u:∀{h:IU} {o:Obj} {c:A3} {q:Obj},h.get? c=some q->(h.push o).get? c=some q:=λe=>AD _ e;refine CL rfl (AA (AA (Fv (u:=#[.ref a.objs.size]) (v:=#[.ref a.objs.size,.ref b.objs.size]) (AA (BS (HW y (AF ⟨rfl,AA (BS (HW m (AF ⟨rfl,AF ?_⟩)))⟩)))))));refine AA (EU (AA (EU (AA (y3 (AF ⟨_,rfl,?_⟩) ?_)) (by show 2<=sizeLine;decide))) (by show 2<=sizeLine;decide))
 .have T:=AO i (o:={ cls:=.type "zip",data:=.fields #[.none,.bool false,.bool false,.ref f.objs.size,.ref g.objs.size] }) rfl;have q:=l (i.push { cls:=.type "zip",data:=.fields #[.none,.bool false,.bool false,.ref f.objs.size,.ref g.objs.size] });rw[show(Shared.mk a I J tt K).heap.objs.size=a.objs.size from rfl,<-r,<-t,<-x,<-L]at q;exact q T (u (u O)) (u P) ⟨_,u (u (u (u M))),rfl,rfl⟩ ⟨_,u (u (u N)),rfl,rfl⟩ λc o e=>u (u (u (u (u e))))
 .show 5<=sizeLine+2;decide
end
def UK(e:Hp->A3->A1 V->Prop)(a b:A3):It :=
  ⟨λi H=>∃c d x y,e H a c/\e H b d/\c.length<=d.length/\c[i]?=some x/\d[i]?=some y,λi H v f=>∃T x y,v = .ref T/\H T=none/\f=IT H T (.tup [x,y])/\(∀c,e H a c->c[i]?=some x)/\∀d,e H b d->d[i]?=some y,
   λi H=>∃c d,e H a c/\e H b d/\c.length<=d.length/\c.length=i⟩
def Qy(c:IU->A3->A3->Nat->Prop)(z TI TO d e a b:A3)(i:Nat)(h:IU):Prop:=IsZip h z TI TO .none/\IsPair h TI (.ref d) (.ref e)/\(∃u v,IsPair h TO u v)/\c h d a i/\c h e b i
section
variable{P:A7}{w:F8}{K:VN}{elts:A1 IW}{kk:Nat}{tp:Pos}{isIt:IU->A3->A3->Nat->Prop}{isq:IU->A3->CM A2->Prop}{sq:Hp->A3->A1 V->Prop}
theorem Ge(oI:∀h c l i,isIt h c l i->∃o,h.get? c=some o/\∀v,o.data≠ .cell v)(kI:∀h h' c l i,isIt h c l i->(∀o,h.get? c=some o->h'.get? c=some o)->isIt h' c l i)
  (gI:∀(X:Cx) f σ H s c xs,X.K=K->Inv X f σ H s->sq H c xs->∃its,I_ xs its/\isq s.heap c its.toArray) (uI:∀(X:Cx) f σ H s c xs D,X.K=K->Inv X f σ H s->sq H c xs->sq H c D->xs=D)
  (z TI TO g j a b:A3) (WI:∀(A:IY),A.handled=none->∀xs D:CM A2,xs.size<=D.size->WalksT P w A z [z,TI,TO,g,j,a,b] [z,TO,g,j] xs.size (λi G=>∃x y,xs[i]?=some x/\D[i]?=some y/\G = #[x,y])
   (λi h=>IsZip h z TI TO .none/\IsPair h TI (.ref g) (.ref j)/\(∃a b,IsPair h TO a b)/\isIt h g a i/\isIt h j b i/\isq h a xs/\isq h b D)
   (λi T h=>IsZip h z TI TO (rawInt T)/\IsPair h TI (.ref g) (.ref j)/\(∃a b,IsPair h TO a b)/\isIt h g a (i+1)/\isIt h j b (i+1)/\isq h a xs/\isq h b D/\T≠z/\T≠TO/\T≠g/\T≠j)) :
  MV P w K (.Tuple elts kk tp) (UK sq a b) [z,TI,TO,g,j] z (Qy isIt z TI TO g j a b) where
 mem:=BN ..
 obj:=λi h st c t=>by
  obtain⟨h1,R,⟨u,v,U⟩,V,Y⟩:=st;simp only[AK,BB,or_false]at t;rcases t with rfl | rfl | rfl | rfl | rfl
  .exact⟨_,h1,λv z=>by cases z⟩
  .exact⟨_,R,λv z=>by cases z⟩
  .exact⟨_,U,λv z=>by cases z⟩
  .exact oI _ _ _ _ V
  .exact oI _ _ _ _ Y
 keep:=λi h h' st k=>by
  obtain⟨h1,R,⟨u,v,U⟩,V,Y⟩:=st;exact⟨k z (by simp) _ h1,k TI (by simp) _ R,⟨u,v,k TO (by simp) _ U⟩,kI _ _ _ _ _ V (k g (by simp)),kI _ _ _ _ _ Y (k j (by simp))⟩
 item:=by
  intro X hP hw L t i f s σ H E I S st hg;subst hP hw;obtain⟨xs,D,x,y,hq,hr,M,hx,hy⟩:=hg;obtain⟨its,rv,p⟩:=gI _ _ _ _ _ _ _ L I hq;obtain⟨N,F,p'⟩:=gI _ _ _ _ _ _ _ L I hr;obtain⟨u,hu,ru⟩:=rv.get hx;obtain⟨v,hv,rv'⟩:=F.get hy;have hl:=rv.length;have O:=F.length;have W:=WI X.A (I.ok.hd t) its.toArray N.toArray (by rw[AL,AL,<-hl,<-O];exact M);have hi:i<its.toArray.size:=by rw[AL];exact(AE.mp hu).1
  obtain⟨s1,s2,s3,Z,s5⟩:=id st;refine W.item i s _ _ hi ⟨s1,s2,s3,Z,s5,p,p'⟩ λT G h' tk hvs hT ht hm k=>?_;obtain⟨x',y',hx',hy',rfl⟩:=hvs;have ex:x'=u:=BJ (hx'.symm.trans ((FW ..).trans hu));have ey:y'=v:=BJ (hy'.symm.trans ((FW ..).trans hv));subst ex ey;refine⟨.ref T,rfl,W.go elts kk tp i T _ _ _ hm λR C k2=>?_⟩;have kk2:∀b o,b∉[z,TI,TO,g,j]->s.heap.get? b=some o->R.get? b=some o:=λc o d ec=>by
   have n4:c∉[z,TO,g,j]:=λm=>d (by
    simp only[AK,BB,or_false]at m⊢;exact m.imp_right .inr)
   exact k2 c o n4 (k c o n4 ec)
  have hT2:R.IsTuple T #[x',y']:=ht.at λo e=>k2 T o (W.apart i T h' hm) e;have J:∀c∈[z,TI,TO,g,j],∃B,s.heap.get? c=some B:=λc d=>by
   obtain⟨u3,v3,U⟩:=s3;obtain⟨o4,V,_⟩:=oI _ _ _ _ Z;obtain⟨o5,Y,_⟩:=oI _ _ _ _ s5;simp only[AK,BB,or_false]at d;rcases d with rfl | rfl | rfl | rfl | rfl
   .exact⟨_,s1⟩
   .exact⟨_,s2⟩
   .exact⟨_,U⟩
   .exact⟨_,V⟩
   .exact⟨_,Y⟩
  refine⟨.ref T,IT H T (.tup [x,y]),I.turnLaid (fp:=[z,TI,TO,g,j]) kk2 S J hT ⟨?_,[x',y'],.cons ru (.cons rv' .nil),hT2⟩,rfl,⟨T,x,y,rfl,I.hok.fresh hT,rfl,λzs hz=>by rw[uI _ _ _ _ _ _ _ _ L I hz hq];exact hx,λzs hz=>by rw[uI _ _ _ _ _ _ _ _ L I hz hr];exact hy⟩,⟨C.1,C.2.1,C.2.2.1,C.2.2.2.1,C.2.2.2.2.1⟩,λc d=>?_⟩
  .show 2<=sizeLine;decide
  .obtain⟨B,eb⟩:=J c d;rw[B6 (AV (BH (AH eb) hT))];exact(S c d).1
 done:=by
  intro X hP hw L t i f s σ H E I S st hg;subst hP hw;obtain⟨xs,D,hq,hr,M,hx⟩:=hg;obtain⟨its,rv,p⟩:=gI _ _ _ _ _ _ _ L I hq;obtain⟨N,F,p'⟩:=gI _ _ _ _ _ _ _ L I hr;have hl:=rv.length;have O:=F.length;have W:=WI X.A (I.ok.hd t) its.toArray N.toArray (by rw[AL,AL,<-hl,<-O];exact M);have hi:i=its.toArray.size:=by rw[AL,<-hl,hx]
  obtain⟨s1,s2,s3,Z,s5⟩:=id st;rw[hi]at Z s5;refine W.done s _ _ ⟨s1,s2,s3,Z,s5,p,p'⟩ λh' tk k=>⟨rfl,?_⟩;have nf:∀b u,H b=some u->b∉[z,TI,TO,g,j]:=λb u e hb=>by rw[(S b hb).1]at e;cases e
  have k':∀c o,c∉[z,TI,TO,g,j]->s.heap.get? c=some o->h'.get? c=some o:=λc o d ec=>k c o (λm=>d (by
    simp only[AK,BB,or_false]at m⊢;exact m.imp_right .inr)) ec
  refine I.step (h':=h') (H':=H) (t':=tk) (g':=s.gens) (d':=s.drawn) (ch:=[z,TI,TO,g,j]) (λb hb=>let⟨_,f1,_,f3,f4,f5⟩:=S b hb;⟨f3,f1,f4,f5⟩) (λb B _ _ t e _=>k' b B t e) (λb B _ _ t e _=>⟨B.slots,k' b B t e⟩) (λ_ _ _ _ n=>n)
   (λb B t e=>⟨B,k' b B t e⟩) (λ_ _ e=>e) (λ_ _ _ e=>e) (λb ps e=>⟨#[],by rw[e];simp⟩) (λm hm=>?_) (λb u eb=>?_) I.bare
  .obtain⟨B,es,ep,ho,r⟩:=hm;exact⟨B,es,ep,k' _ B (λhb=>(S _ hb).2.1 rfl) ho,r⟩
  .refine(I.hok b u eb).stay (λc v t q=>k' c v ?_ q) (λ_ q=>q) λ_ _ q=>q;rcases t with z | z
   .rw[z];exact nf b u eb
   .exact nf c _ z
 self:=λA i s Q E st h=>ER st.1 h
theorem Sr(z TI TO f g a b:A3)(D:ZipApart z TI TO f g a b):MV P w K (.Tuple elts kk tp) (UK (IV K) a b) [z,TI,TO,f,g] z (Qy Heap.IsListIter z TI TO f g a b) :=
 Ge (isq:=Heap.IsList) (λh c l i ⟨o,e,_,d⟩=>⟨o,e,λv z=>by rw[d]at z;cases z⟩) (λh C c l i z k=>z.at k) (λX j σ H s c m n I q=>by subst n;obtain⟨r,u,p,_⟩:=I.list q;exact⟨r,u,p.isList⟩) (λX j σ H s c m t n I q x=>by subst n;exact I.list_inj q x)
  z TI TO f g a b λA y m t B=>by
   have W:=WalksT.zip2 (prog:=P) (w:=w) y z TI TO f g a b D m t
   rwa [FM B]at W
theorem To(z TI TO f g a b:A3)(D:ZipApart z TI TO f g a b):MV P w K (.Tuple elts kk tp) (UK (JL K) a b) [z,TI,TO,f,g] z (Qy Heap.IsTupleIter z TI TO f g a b) :=
 Ge (isq:=Heap.IsTuple) (λh c l i ⟨o,e,_,d⟩=>⟨o,e,λv z=>by rw[d]at z;cases z⟩) (λh C c l i z k=>z.at k) (λX j σ H s c m n I q=>by subst n;obtain⟨r,u,p,_⟩:=I.tuple q;exact⟨r,u,p⟩) (λX j σ H s c m t n I q x=>by subst n;exact I.tuple_inj q x)
  z TI TO f g a b λA y m t B=>zAl y z TI TO f g a b D m t B
end
section
variable{X:Cx}{elts:A1 IW}{kk:Nat}{tp:Pos}
def zJu(K:VN)(R:It->Hp->Prop)(a b:A3)(xs c:A1 V)(H:Hp):Prop:=IV K H a xs/\IV K H b c/\R (UK (IV K) a b) H\/JL K H a xs/\JL K H b c/\R (UK (JL K) a b) H
def zEo(K:VN)(c:TA):TI:=λσ H R=>c σ H λd e=>∃a b f g,d = [.ref a,.ref b]/\zJu K R a b f g e
theorem Kp:bootBuiltins "zip" = some (.type "zip"):=by decide +kernel
theorem zBl{a b:IW}{L:TA}{p pos:Pos}(N:Gl X "zip")(O:X.mg "zip" = none)(P:PA X [a,b] L)(Q:starEach [a,b] X.env =(false,eval a X.env)::starEach [b] X.env:=by rfl)(t:(backTo pos (starEach [b] X.env)).any (·.1)=false:=by rfl):PI X (.Tuple elts kk tp) (.Call (.Name "zip" p) [a,b] [] pos) (zEo X.K L):=by
 intro f s σ H R I h;refine Call_ (W9 I N O Kp (WC (JN (P pos f s σ H _ I h) λus d ⟨vs,w,g,S,T⟩=>?_) Q t));obtain⟨l,m,xs,ys,e,q⟩:=T;subst e;obtain⟨u,v,rfl,U,V⟩:=S.two;cases U;cases V;have i:∀c∈[d.heap.objs.size+4,d.heap.objs.size+2,d.heap.objs.size+3,d.heap.objs.size,d.heap.objs.size+1],Ds X f w c:=λc M=>by
  have j:d.heap.objs.size<=c:=by
   simp only[AK,BB,or_false]at M;rcases M with rfl | rfl | rfl | rfl | rfl
   .exact CO ..
   .exact CO ..
   .exact CO ..
   .exact VQ _
   .exact CO ..
  exact g.fpOk j (g.hok.fresh j)
 rcases q with⟨x,y,q⟩ | ⟨x,y,q⟩
 .obtain⟨z,W,n,Y⟩:=g.list x;obtain⟨A,Z,o,B⟩:=g.list y;have C:l<d.heap.objs.size:=by obtain⟨_,e,_⟩:=n.isList;exact AH e
  have D:m<d.heap.objs.size:=by obtain⟨_,e,_⟩:=o.isList;exact AH e
  refine call_zip_2 n.isList o.isList λh' r E F G J hsz k=>ER r ?_;exact⟨d.heap.objs.size+4,_,_,_,w,rfl,g.kept (t':=d.toks) k,Sr _ _ _ _ _ l m (zipApart_new C D),⟨r,E,⟨_,_,F⟩,G,J⟩,i,q⟩
 .obtain⟨z,W,n,Y⟩:=g.tuple x;obtain⟨A,Z,o,B⟩:=g.tuple y;have C:l<d.heap.objs.size:=by obtain⟨_,e,_⟩:=id n;exact AH e
  have D:m<d.heap.objs.size:=by obtain⟨_,e,_⟩:=id o;exact AH e
  refine Tb n o λh' r E F G J k=>ER r ?_;exact⟨d.heap.objs.size+4,_,_,_,w,rfl,g.kept (t':=d.toks) k,To _ _ _ _ _ l m (zipApart_new C D),⟨r,E,⟨_,_,F⟩,G,J⟩,i,q⟩
variable(K:VN)
theorem zKl{a b:IW}{d:TA}{p pos:Pos}(e:X.mg "zip" = none)(f:PA X [a,b] d)(g:Gl X "zip":=by rfl)(h:starEach [a,b] X.env =(false,eval a X.env)::starEach [b] X.env:=by rfl)(c:(backTo pos (starEach [b] X.env)).any (·.1)=false:=by rfl)(i:X.K=K:=by rfl):PI X (.Tuple elts kk tp) (.Call (.Name "zip" p) [a,b] [] pos) (zEo K d):=by subst i;exact zBl g e f h c
end
section
variable{X:Cx}{tg iter elt:IW}{ifs:A1 IW}{scope:JX}{cl:A1 (Str×A3)}{N':A1 Str}{cap:A1 (A5 Nat)}{wi:TI}{pos:Pos}
theorem Ur{e:IW}{gs:A1 Comprehension}{newAcc:Sem A2}{p2:Pos}{use:A5 (A2->Sem Unit)}{Qv:A2->A4->Prop}(q:clausesOf e =⟨tg,iter,ifs,0⟩::gs)(o:A3->HO)(hs:∀x,foldedSetIterable iter X.env x=pure x)(S:OD X scope cl N' cap)(hc:X.calm=true)(hi:PI X tg iter wi)
  {lp:A3->It->St->Hp->(St->Hp->Prop)->Prop}
  (r:∀(a:A1 (A3×Obj)) (s:A4) (σ:St) (H:Hp) (Q:A2->A4->Prop) (E:A2->A4->Prop),Inv X a σ H s->(∀g,Inv X a σ (IT H s.heap.objs.size (o s.heap.objs.size)) g->(∀b f,s.heap.get? b=some f->g.heap.get? b=some f)->Q (.ref s.heap.objs.size) g)->wpAny (model X.prog X.w) X.A newAcc Q E s)
  (L:∀(a:A1 (A3×Obj)) (M:A1 A3) (s3:A4) (N:Hp) (D l:A3) (fp:A1 A3) (t:Nat->IU->Prop) (J:It) (σ:St) (s:A4) (H:Hp) (Q:St->Hp->Prop) (R:Result->A4->Prop),
   MV X.prog X.w X.K tg J fp l t->Inv (NQ X scope cl N' a M s3 N) [] σ H s->t 0 s.heap->(∀b∈fp,Ds (NQ X scope cl N' a M s3 N) [] H b)->lp D J σ H Q ->
   (∀g σ' H',Inv (NQ X scope cl N' a M s3 N) [] σ' H' g->Q σ' H'->R (.ok .next) g) ->
   codeAny (model X.prog X.w) X.A (.compLoop e 0 (.ref l) (.ref D) (compEnvC scope cl s3.heap.objs.size X.env)) R s)
  (O:∀l D i,X.A.under (.compStart e 0 (.ref l) (.ref D) i)=X.A) (u:∀l D i,(model X.prog X.w).den (.compStart e 0 (.ref l) (.ref D) i) =(compStart e 0 (.ref l) (.ref D) i).onRaise (λx=>do noteFrame x i;standAt theWindowsPlace))
  {a:A1 (A3×Obj)} {s:A4} {σ:St} {H:Hp} {Q:V->Hp->Prop} (I:Inv X a σ H s) (h:Ry wi o cap lp σ H Q)
  (B:∀(D:A3) (fp:A1 A3) (k:Hp) (s3 g:A4) (σ':St) (H':Hp),Inv X a σ k s3->(∀b∈fp,Ds X a k b)->Inv (NQ X scope cl N' a fp s3 k) [] σ' H' g->Q (.ref D) H'->compPost (model X.prog X.w) X.A X.xe use Qv (.ref D) s3.heap.objs.size (.ok .next) g) :
  wpAny (model X.prog X.w) X.A (comprehension e scope X.env p2 newAcc false (eval iter X.env) use) Qv X.xe s:=by
 refine wpAny_comprehension_free q hs S.clos S.kind S.loc (JN (hi a s σ H _ I h) λv s1 C=>JN C λitv j h2=>?_);obtain⟨l,fp,t,J,k,P,I2,T,F,f2,R2⟩:=h2;subst P;refine r a j σ k _ _ I2 λs3 U k3=>?_;have hD:k j.heap.objs.size=none:=I2.hok.fresh (VQ _);have n:∀b∈fp,Ds X a (IT k j.heap.objs.size (o j.heap.objs.size)) b/\∃f,s3.heap.get? b=some f:=λb m=>by
  obtain⟨f,e,_⟩:=T.obj _ _ F b m;obtain⟨W,fr⟩:=f2 b m;exact⟨⟨by rw[B6 (AV (AH e))];exact W,fr⟩,f,k3 b f e⟩
 refine wpAny_newFunctionEnv S.nocell (by intro y hy;simp at hy) (λC Y Z=>?_) S.kind;have hk:∀b f,s3.heap.get? b=some f->C.get? b=some f:=λb f e=>(Z.2 b (AV (AH e))).trans (AD _ e);have I4:Inv (NQ X scope cl N' a fp s3 (IT k j.heap.objs.size (o j.heap.objs.size))) [] (Zt cap σ) (IT k j.heap.objs.size (o j.heap.objs.size)) { s3 with heap:=C,toks:=s3.toks +([]:A1 (Str×A2)).length } :=
  U.block S hc n Y hk
 have G:t 0 C:=T.keep 0 _ _ F λb m f e=>hk b f (k3 b f e);refine Eb (X:=NQ X scope cl N' a fp s3 (IT k j.heap.objs.size (o j.heap.objs.size))) (gs:=⟨tg,iter,ifs,0⟩::gs) (e:=e) (d:=0) (tg:=tg) (iter:=iter) (ifs:=ifs) (O _ _ _) (u _ _ _) q rfl T G ?_;refine L a fp s3 _ j.heap.objs.size l fp t J (Zt cap σ) _ _ _ _ T I4 G (λb m=>?_) (R2 _ hD) λg σ' H' I' q'=>?_
 .obtain⟨⟨W,f1,f2',f3,f4,f5⟩,f,eo⟩:=n b m;refine⟨W,AV (AH eo),λhf=>?_,.inl m,λx c e=>f4 x c (S.cin.get e),λp hp=>f5 p (by simpa [NQ] using hp)⟩;rcases AK.mp (U.stkSub b hf)with z | z
  .exact f1 z
  .exact f2' z
 .exact B _ fp _ s3 g σ' H' U (λb m=>(n b m).1) I' q'
theorem As{i:Nat}{x:Str}{o j:Pos}{g:TG}{V:TT}{W:TE}(hN:X.N.Nodup)(hi:X.N[i]?=some x)(hx:Loc X.env.scope x)(S:OD X scope cl N' cap)(p:X.calm=true)(hI:PI X tg iter wi)
  (t:∀(d:A1 (A3×Obj)) (y:A1 A3) (l:A4) (A:Hp),PG (NQ X scope cl N' d y l A) tg g/\UT (NQ X scope cl N' d y l A) ifs V/\PE (NQ X scope cl N' d y l A) elt W)
  (hs:∀x,foldedSetIterable iter X.env x=pure x:=by intro _;rfl)
  (F:swapsWith (.ListComp elt [⟨tg,iter,ifs,0⟩] scope j) (some (.Name x o)) pos.line X.env=pure true:=by rfl)
  (G:X.fn x=true\/X.env.scope.names.lookup x=some .local:=by first | exact .inl rfl | exact .inr rfl | assumption) :
  PS X (.Assign [.Name x o] (.ListComp elt [⟨tg,iter,ifs,0⟩] scope j) pos) (zHg (Ry wi (λ_=>.lst []) cap λD J σ H Q=>Ig g V (Af D W) J σ H Q) (V1 i)):=by
 intro d s σ H D I h;rw[exec_Assign];refine AA (G_ (AA (wpAny_of_eq F (IG rfl (AA (AA ?_))))));refine Ur (newAcc:=newList []) (p2:=firstIterPos [⟨tg,iter,ifs,0⟩] j) rfl (λ_=>.lst []) hs S p hI (λd s σ H Q E I h=>?_) (λd y l A D it fp tn J σ s H Q R T I st G h hR=>?_) (λ_ _ _=>rfl) (λ_ _ _=>rfl) I h λE fp H2 l s' σ' H' Y K L q=>?_
 .refine GZ ?_;exact h _ (I.lnew (t':=s.toks) (its:=[]) .nil (CY _)) λb f e=>AD _ e
 .obtain⟨b1,b2,b3⟩:=t d y l A;exact Cc (X:=NQ X scope cl N' d y l A) rfl rfl p rfl (Dx elt tg iter ifs scope j _ _ _) b1 b2 (Mn rfl b3) T I st G h hR
 .have IX:Inv X d σ H' s':=Y.unblock K L ⟨rfl,λ_ _=>rfl⟩;have w:Ds X d H' l.heap.objs.size:=Y.fpOk (VQ _) L.free;obtain⟨m,hn,_⟩:=L.loc;show wpAny _ _ (assign (.Name x o) X.env (.ref E)) _ _ _;refine wpAny_assign_Name (Iw (v:=.ref E) IX hN hi hx rfl (λC M ⟨a,O,ha⟩=>?_) G);have nC:l.heap.objs.size≠a:=by
   rcases ha with rfl | ha
   .exact w.2.1
   .exact(w.2.2.2.2.1 _ _ ha).symm
  refine⟨m,?_,λh' B=>AF (AF ?_)⟩
  .obtain⟨f,P,U,e1,r⟩:=hn;exact⟨f,P,U,(O.2 _ nC).trans e1,r⟩
  refine⟨_,H',?_,q⟩;have k:∀b f,b∉[l.heap.objs.size]->C.heap.get? b=some f->h'.get? b=some f:=λb f t e=>(B.2 b λz=>t (AG.mpr z)).trans e;refine M.step (h':=h') (H':=H') (t':=C.toks) (g':=C.gens) (d':=C.drawn) (ch:=[l.heap.objs.size]) (λb t=>by rw[AG.mp t];exact⟨w.2.2.2.1,w.2.1,w.2.2.2.2⟩) (λb f _ _ p e _=>k b f p e) (λb f _ _ p e _=>⟨f.slots,k b f p e⟩) (λ_ _ _ _ n=>n)
   (λb f p e=>⟨f,k b f p e⟩) (λ_ _ e=>e) (λ_ _ _ e=>e) (λb ps e=>⟨#[],by rw[e];simp⟩) (λm hm=>?_) (λb u Z=>?_) M.bare
  .obtain⟨f,P,U,ho,r⟩:=hm;exact⟨f,P,U,k _ f (λt=>w.2.1 (AG.mp t).symm) ho,r⟩
  .have nf:∀b u,H' b=some u->b∉[l.heap.objs.size]:=λb u e t=>by rw[AG.mp t,w.1]at e;cases e
   refine(M.hok b u Z).stay (λc v p q=>k c v ?_ q) (λ_ q=>q) λ_ _ q=>q;rcases p with z | z
   .rw[z];exact nf b u Z
   .exact nf c _ z
end
theorem zEh{x:Str}{C:A3}{pos:Pos}(h:X.mg x=some (.ref C))(a:Gl X x:=by rfl)(b:(x ==("__debug__":Str))=false:=by decide):PE X (.Name x pos) (tC (.ref C)):=Kw a h rfl b
theorem Ym(E:X.calm=true):K3 X (.builtin "any") (λxs H Q=>∃(p:A3) (bs:A1 Bool),xs = [.ref p]/\IV X.K H p (bs.map V.bl)/\Q (.bl (bs.any id)) H):=by
 intro B s σ H xs M Q I r h;obtain⟨p,bs,rfl,F,q⟩:=h;obtain⟨u,rfl,t⟩:=W5 r;cases t;obtain⟨a,w,x,N⟩:=I.list F;refine call_any_walk (GF x.isList ?_);have y:p≠s.heap.objs.size:=by
  obtain⟨o,n,e,_⟩:=x;exact AV (AH e)
 refine⟨s.heap.objs.size,_,_,_,_,_,λi=>bs.getD i false,rfl,Walks.list (A:=X.A.in1) (show X.A.in1.handled=none from I.ok.hd E) _ p y a.toArray,⟨⟨_,AO _ rfl,rfl,rfl⟩,?_⟩,λi v O P R G J=>?_,λS T k=>?_⟩
 .obtain⟨o,n,e,c,d,L⟩:=x;exact⟨o,AD _ e,c,n,L⟩
 .have f:(bs.map V.bl)[i]?=some (V.bl (bs.getD i false))/\RelV (V.bl (bs.getD i false)) v:=by
   have g:a[i]?=some v:=by simpa using G
   have j:i<a.length:=(AE.mp g).1;have m:=w.length;rw[AB]at m;have e:(bs.map V.bl)[i]?=some (V.bl (bs.getD i false)):=by
    rw[AI,AC (by lia)];simp[AU,AC (show i<bs.length by lia)]
   obtain⟨u,C,t⟩:=w.get e;rw[g]at C;cases C;exact⟨e,t⟩
  cases f.2;exact DB J
 .have m:=w.length;rw[AB]at m;have e:(List.range a.toArray.size).any (λi=>bs.getD i false)=bs.any id:=by
   rw[AL,<-m,BU,IM,IM];constructor
   .rintro⟨i,j,z⟩;have l:=BT.mp j;refine⟨bs[i],GM l,?_⟩;simpa [AU,AC l] using z
   .rintro⟨b,f,z⟩;obtain⟨i,j,rfl⟩:=GC.mp f;refine⟨i,BT.mpr j,?_⟩;simpa [AU,AC j] using z
  rw[e];exact⟨.bl (bs.any id),H,I.kept λb o D=>k b o (by
   intro f;have:b=s.heap.objs.size:=by simpa using f
   exact absurd (AH D) (by rw[this];exact EI _)) (AD _ D),rfl,q⟩
theorem zEv:bootBuiltins "any" = some (.builtin "any"):=by decide +kernel
variable(K:VN)
theorem zFl(a:X.calm=true:=by rfl)(b:X.K=K:=by rfl):K3 X (.builtin "any") (λxs H Q=>∃(p:A3) (bs:A1 Bool),xs = [.ref p]/\IV K H p (bs.map V.bl)/\Q (.bl (bs.any id)) H):=by subst b;exact Ym a
def Iy:bootBuiltins "sum" = some (.builtin "sum"):=by decide +kernel
theorem Tj(f:X.calm=true):K3 X (.builtin "sum") (λxs H Q=>∃(p:A3) (ns:A1 Int),xs = [.ref p]/\IV X.K H p (ns.map V.int)/\Q (.int ns.sum) H):=by
 intro b s σ H xs o Q I r h;obtain⟨p,ns,rfl,g,q⟩:=h;obtain⟨u,rfl,i⟩:=W5 r;cases i;obtain⟨a,j,l,t⟩:=I.list g;have c:=r8 j;obtain⟨xs,d⟩:=c.allInts.items;refine sum_intListG (xs:=xs) (I.ok.hd f) (by rw[<-d];exact l.isList) λv w m k=>⟨.int ns.sum,H,I.kept k,⟨m,?_⟩,q⟩;have e:numsOf a=ns:=c.numsOf;have n:numsOf (intItems xs).toList=numsOf a:=by rw[<-d]
 rw[preSum_eq,DL (by simp),<-nums_intItems,n,e]
theorem Nl(K:VN)(a:X.K=K:=by rfl)(b:X.calm=true:=by rfl):K3 X (.builtin "sum") (λxs H Q=>∃(p:A3) (ns:A1 Int),xs = [.ref p]/\IV K H p (ns.map V.int)/\Q (.int ns.sum) H):=by subst a;exact Tj b
end
def zFv{α:Type}:∀{a:A1 (A3×α)} {us:A1 A2},I_ (a.map λq=>V.ref q.1) us->us=a.map λq=>Value.ref q.1
 | [],_,.nil=>rfl
 | _::_,_,.cons r t=>by rw[AZ,zFv t];cases r;rfl
def zGl{α:Type}:∀(a:A1 (A3×α)),I_ (a.map λq=>V.ref q.1) (a.map λq=>Value.ref q.1)
 | []=>.nil
 | _::a=>.cons rfl (zGl a)
def Itd(d:A3)(o:Obj)(a:A1 (JH×V)):It :=
 ⟨λi H=>H d=some (.frz o (.dK a))/\i<a.length,λi H x b=>b=H/\∃k v,a[i]?=some (k,v)/\x=kV k,λi H=>H d=some (.frz o (.dK a))/\a.length<=i⟩
def KV.at{c:A1 (JH×V)}{vs:A1 (JH×A2)}(h:KV c vs):∀{i:Nat} {k:JH} {v:V},c[i]?=some (k,v)->∃u,vs[i]?=some (k,u):=by
 induction h with
 | nil=>intro i k v e;rw[List.getElem?_nil]at e;cases e
 | cons r _ d =>
  intro i k v e;cases i with
  | zero =>
   rw[HY]at e⊢;cases e;obtain⟨a,b⟩:=r;exact⟨_,by rw[show k=_ from a]⟩
  | succ i=>exact d e
def zBy{k:JH}{u:A2}(h:Hv k u=true):RelV (kV k) u:=by
 cases k with
 | inl i=>obtain⟨t,rfl⟩:=Value.isInt_shape h;exact⟨t,rfl⟩
 | inr x=>obtain⟨t,rfl⟩:=Value.isStrOf_shape h;exact⟨t,rfl⟩
section
variable{X:Cx}{tg:IW}
theorem Ux{P:A7}{w:F8}{K:VN}{d g:A3}{o:Obj}{a:A1 (JH×V)}{C:CM DictEntry}{ep:Nat}(t:o.data = .dict C ep):MV P w K tg (Itd d o a) [g] g (λi h=>h.IsKeyIter g d i a.length ep) where
 mem:=by simp
 obj:=λi h st b j=>by
  have e:b=g:=by simpa using j
  subst e;obtain⟨o,e,c,d⟩:=st;exact⟨o,e,λv z=>by rw[d]at z;cases z⟩
 keep:=λi h x st k=>by
  obtain⟨o,e,r⟩:=st;exact⟨o,k g (by simp) o e,r⟩
 item:=by
  intro X D F G hc i f s σ H E I y st J;subst D F G;obtain⟨L,A⟩:=J;obtain⟨M,N,f2,O,Q,R⟩:=y g (by simp);obtain⟨m,hz,hS,S,r,ob,T,U,n,Y,p,Z⟩:=(show JB X.prog X.w H s.heap d (.frz o (.dK a))from I.hok d _ L);rw[m]at n;cases n;rw[t]at p;cases p;have hx:a[i]?=some (a[i].1,a[i].2):=AC A;obtain⟨u,hu⟩:=r.at hx;have B:a.length=S.length:=r.length;rw[B]at st;refine wpAny_pyNext_dict_item (knd:=D0 X.prog X.w) st ⟨o,C,m,Y,t,Z⟩ hu λkey x q l sb=>?_;have I1:Inv X f σ H { s with heap:=x }:=I.turned (t':=s.toks) (λb o j e=>(sb.2 b j).trans e) M N O Q R;obtain⟨oi,ei,ci,di⟩:=id l;rw[<-B]at l;exact⟨key,rfl,Qk (s:={ s with heap:=x }) ei ci di (by decide) ⟨kV a[i].1,H,I1,zBy q,⟨rfl,_,_,hx,rfl⟩,l,λb j=>(y b j).1⟩⟩
 done:=by
  intro X D F G hc i f s σ H E I y st J;subst D F G;obtain⟨L,A⟩:=J;obtain⟨M,N,f2,O,Q,R⟩:=y g (by simp);obtain⟨m,hz,hS,S,r,ob,T,U,n,Y,p,Z⟩:=(show JB X.prog X.w H s.heap d (.frz o (.dK a))from I.hok d _ L);rw[m]at n;cases n;rw[t]at p;cases p;have B:a.length=S.length:=r.length;rw[B]at st A;exact wpAny_pyNext_dict_end (knd:=D0 X.prog X.w) (I.ok.hd hc) st ⟨o,C,m,Y,t,Z⟩ (EG A) λx eb=>⟨rfl,I.turned (t':=s.toks) (λb o j e=>eb b o j e) M N O Q R⟩
 self:=λ_ _ _ _ _ st h=>wpAny_pyIter_keyiter st h
end
section
variable{X:Cx}(K:VN)
theorem slT(a:X.K=K:=by rfl):VH X (zJx K):=by subst a;exact zEi
end
section
variable{prog:A7}{w:F8}{A:IY}{E:A2->A4->Prop}{s:A4}
theorem Wt{t b:A3}{vs g:A1 A2}{Q:A2->A4->Prop}(o:IsTup s.heap t vs.toArray)(p:IsTup s.heap b g.toArray)(q:vs = [])(h:Q (.ref b) s):wpAny (model prog w) A (binaryOp .Add (.ref t) (.ref b)) Q E s:=by
 obtain⟨⟨r,u,i,v⟩,j,k,n,l⟩:=id o;obtain⟨⟨m,e,data2,f⟩,a,c,x,d⟩:=id p;simp only at k l c d;subst k l c d;exact concat_meets ⟨_,j,rfl⟩ ⟨_,a,rfl⟩ noFill_tuple_add seq_tuple_add V_ WA (PySem.F.args_tuple_add_2 _ _)
  (tuple_addW0 t b vs.toArray g.toArray n x u e v f (by simp[q])) ⟨j,a,h⟩
end
section
variable{X:Cx}(K:VN)
def zIv:R2:=λx y H Q=>∃a b c d,x = .ref a/\y = .ref b/\JL K H a c/\JL K H b d/\d≠[]/\c.length+d.length<=sizeLine /\
 (c = []->Q (.ref b) H)/\(c≠[]->∀p,H p=none->Q (.ref p) (IT H p (.tup (c++d))))
theorem zCo(n:X.K=K:=by rfl):LR X (binaryOp .Add) (zIv K):=by
 subst n;intro d s σ H x y v u Q I e f h;obtain⟨a,b,g,o,i,j,k,l,p,q,r,t⟩:=h;by_cases c:g = []
 .subst i j c;cases e;cases f;obtain⟨w,A,B,_⟩:=I.tuple k;obtain⟨m,D,C,_⟩:=I.tuple l;exact Wt B C (A.nil_iff.mpr rfl) ⟨.ref b,H,I,rfl,r rfl⟩
 .exact zBv _ _ _ _ _ _ _ _ _ I e f ⟨a,b,g,o,i,j,k,l,c,q,λz=>absurd z p,λ_=>t c⟩
end
end L2
namespace TS
open PySem PyProof.Rows
section
variable{prog:A7}{w:F8}{A:IY}{E:A2->A4->Prop}{s:A4}{κ:KeyKind}{kd:JR}
structure SG(prog:A7)(w:F8)(a:A3)(s:A4)(κ:KeyKind)(kd:JR)(vs:A1 A2):Prop where
 cmp:∀(A:IY) (s':A4),A.units+4<cLine->SU a s s'->RU prog w A s' κ kd
 key:∀v∈vs,∃k,κ.keyOf v=some k
 kind:2<=vs.length->∀(A:IY) (E:A2->A4->Prop) (s':A4) (Q:JR->A4->Prop),SU a s s'->Q kd s'->wpAny (model prog w) A (keyKind' vs.toArray) Q E s'
theorem Dd{a:A3}{vs:A1 A2}{n:Nat}{P:Fin->A4->Prop}(r:A.units+4<cLine)(k:s.heap.get? a=some (seqObj "list" vs.toArray n))(hz:vs.length<=sizeLine)(K:SG prog w a s κ kd vs)
  (h:∀out:CM A2,VJ κ vs out->P (.done (.ret .none)) { s with heap:=sortedHeap s.heap a vs out }) :
  wpAny (model prog w) A (Builtin.«list.sort» ⟨[.ref a],[]⟩) P E s:=by
 rw[list_sort_plain];have m:a<s.heap.objs.size:=AH k;have i:vs.toArray.size=vs.length:=by simp
 refine AA (listItems_at k rfl ?_);refine AA (listUpdate_at k rfl ?_ (by rw[i];exact hz) (by simp));obtain⟨l,j⟩:∃l,(s.heap.update a (Obj.mapSeq λ_=>#[])).get? a=some (seqObj "list" #[] l):=⟨_,get?_update_seq k (λ_=>#[])⟩;refine AA (seqEpoch_at j rfl ?_);refine AA (EU ?_ (by simpa using hz));refine AA (GZ ?_);refine BS ?_;have d:(((s.heap.update a (Obj.mapSeq λ_=>#[])).push (seqObj "tuple" vs.toArray 0)).push (seqObj "list" #[] 0)).get? a=some (seqObj "list" #[] l):=by
  rw[IA _ _ _ (by rw[size_push',FR];exact AV (DT m)),IA _ _ _ (by rw[FR];exact AV m)];exact j
 show wpAny (model prog w) A _ P E { s with heap:=((s.heap.update a (Obj.mapSeq λ_=>#[])).push (seqObj "tuple" vs.toArray 0)).push (seqObj "list" #[] 0) };dsimp only;have q:SU a s { s with heap:=((s.heap.update a (Obj.mapSeq λ_=>#[])).push (seqObj "tuple" vs.toArray 0)).push (seqObj "list" #[] 0) }:=λb o t e =>
  AD _ (AD _ ((CS s.heap _ (Ne.symm t)).trans e))
 by_cases f:vs.toArray.size<2
 .rw[AQ f,AQ f];refine AA (AF ?_);rw[StateT.run_pure];refine AA (AF ?_);dsimp only;refine AA (seqEpoch_at d rfl ?_);refine AA (listUpdate_at d rfl ?_ (by simp) (by rw[GL];show(pairsOf vs).size<=_;rw[pairsOf_size];lia));simp only[bne_self_eq_false,AY,CT];refine AF (h _ (Op (κ:=κ) (xs:=pairsOf vs) (HF _) ?_));rw[pairsOf_toList];rw[i]at f
  match vs,f with
  | [],_=>exact List.Pairwise.nil
  | [v],_=>exact EQ _ _
  | _::_::_,f=>simp at f;lia
 .rw[AN f,AN f];refine AA (K.kind (by lia) A E _ _ q ?_);refine AA (CI (j9 (K.cmp A _ r q) (a₀:=pairsOf vs) (st:=SortSt.mk' kd (vs.toArray.zip vs.toArray) #[] 7 none)
   (Q:=λ_ c=>St κ kd (pairsOf vs) c/\LQ κ (arrOf c).toList)
   (λp g=>?_) ⟨HF _,rfl,rfl⟩ rfl λc u x=>⟨u,x⟩) ?_ λ_ _ e=>e)
  .rw[pairsOf_toList]at g;exact K.key _ (mem_zip_self g).2
  rintro⟨⟨⟩,c⟩ z ⟨rfl,g,y⟩;dsimp only;refine AA (seqEpoch_at d rfl ?_);refine AA (listUpdate_at d rfl ?_ (by simp) (by rw[GL];show(arrOf c).size<=_;rw[g.size,pairsOf_size];lia));rw[show failedOf c=none from g.failed];simp only[bne_self_eq_false,AY,CT];exact AF (h _ (Op g.perm y))
theorem QU{x:A2}{Q:A2->A4->Prop}(p:A.units+6<cLine)
  (g:wpAny (model prog w) A.in1 (collect x) (λvs s1=>s1.os=s.os/\vs.length<=sizeLine/\(∃(κ:KeyKind) (kd:JR),(∀d:A4,SU s1.heap.objs.size s1 d->SG prog w s1.heap.objs.size d κ kd vs) /\
   ∀(out:CM A2) (h':IU) (e:Nat),VJ κ vs out->(∀b o,s1.heap.get? b=some o->h'.get? b=some o)->h'.get? s1.heap.objs.size=some (seqObj "list" out e)->Q (.ref s1.heap.objs.size) { s1 with heap:=h' })) E s) :
  wpAny (model prog w) A (call (.builtin "sorted") [x]) Q E s:=by
 refine Calls.call_function_entry kind_sorted plain_sorted entry_sorted (args_sorted1 _) ?_;unfold Builtin.«sorted»;refine AA (m:=checkCount "sorted" 1 1 _) (AF ?_);refine AA (CI g (λvs s1 ⟨i,j,κ,kd,K,q⟩=>?_) λ_ _ z=>z);refine AA (GZ ?_);have a:(s1.heap.push (seqObj "list" vs.toArray 0)).get? s1.heap.objs.size=some (seqObj "list" vs.toArray 0):=AO _ rfl;show wpAny _ _ _ _ _ { s1 with heap:=s1.heap.push (seqObj "list" vs.toArray 0) };have k:SU s1.heap.objs.size s1 { s1 with heap:=s1.heap.push (seqObj "list" vs.toArray 0) }:=λb o _ e=>AD _ e;refine AA (BS (DK slot_list_sort ⟨_,a,rfl⟩ entry_list_sort (Dd (s:={ s1 with heap:=s1.heap.push (seqObj "list" vs.toArray 0) }) (by simp only[Around.in1_units];lia) a j (K _ k) λout l=>⟨_,rfl,?_⟩) (args_list_sort _)));obtain⟨e,n⟩:=sortedHeap_at (h:=s1.heap.push (seqObj "list" vs.toArray 0)) (out:=out) a;refine AF ⟨_,rfl,q out _ e l (λb o f=>?_) n⟩;have c:=AH f;rw[sortedHeap_old (AV c) (by rw[size_push'];exact DT c)];exact AD _ f
open PySem.SeqAt PySem.MeetsSeq PySem.MeetsSeq3
open AutoSeq1 (wpAny_loadPart')
theorem QZ{l b:A3}{items a:CM A2}{n d:Nat}{r:Bool}{Q:Bool->A4->Prop}(e:A.units<cLine)(c:s.heap.get? l=some (seqObj "list" items n))(f:s.heap.get? b=some (seqObj "list" a d))
  (g:Meets (Builtin.«list.__lt__» ⟨[.ref l,.ref b],[]⟩) (λA R s=>s.heap.get? l=some (seqObj "list" items n)/\s.heap.get? b=some (seqObj "list" a d)/\R (.ok (.ret (.bool r))) s)) (h:Q r s) :
  wpAny (model prog w) A (oneLt' true (.ref l) (.ref b)) Q E s:=by
 rw[oneLt'_eq];simp only[FE];refine AA (wpAny_cRoomFor e ?_);refine AA (wpAny_callSpecialIfBound?_slot (T := "list") ⟨_,c,rfl⟩ F.slot_list_lt (call_meets F.slot_list_lt ⟨_,c,rfl⟩ F.entry_list_lt (F.args_list_lt_2 _ _) g ⟨c,f,?_⟩));exact DB h
end
end TS
namespace L2
open PySem PySem.Spec PyProof.Rows
def LAt(h:IU)(p:A3)(us:A1 A2):Prop:=∃n,h.get? p=some (seqObj "list" us.toArray n)
def Mv:∀{a b:A1 Str},a.map V.str=b.map V.str->a=b
 | [],[],_=>rfl
 | [],_::_,h=>(by cases h)
 | _::_,[],h=>(by cases h)
 | x::r,y::t,h=>by
  rw[AZ,AZ]at h;injection h with c d;injection c with c;rw[c,Mv d]
def Ba:∀{xs:A1 V} {us:A1 A2},I_ xs us->∀i:Nat,(xs[i]?=none/\us[i]?=none)\/∃x u,xs[i]?=some x/\us[i]?=some u/\RelV x u
 | _,_,.nil,i=>.inl ⟨rfl,rfl⟩
 | x::xs,u::us,.cons r t,0=>.inr ⟨x,u,rfl,rfl,r⟩
 | x::xs,u::us,.cons r t,i+1=>Ba t i
section
variable{prog:A7}{w:F8}{A:IY}{E:A2->A4->Prop}{s:A4}{it l:A3}{i:Nat}{items:CM A2}{x:A2}{Q:A2->A4->Prop}
theorem Dc{z TI TO d f m l2:A3}{r t:Nat}{xs K:CM A2}{x y a b:A2}(D:ZipApart z TI TO d f m l2)(hz:IsZip s.heap z TI TO .none)(B:IsPair s.heap TI (.ref d) (.ref f))(C:IsPair s.heap TO a b)
  (h1:s.heap.IsListIter d m r) (h2:s.heap.IsTupleIter f l2 t) (T:s.heap.IsList m xs) (U:s.heap.IsTuple l2 K) (V:xs[r]?=some x) (W:K[t]?=some y)
  (X:∀h',IsZip h' z TI TO (rawInt s.heap.objs.size)->IsPair h' TO x y->h'.IsListIter d m (r+1)->h'.IsTupleIter f l2 (t+1)->IsPair h' s.heap.objs.size x y->h'.objs.size=s.heap.objs.size+1->(∀c o,c≠z->c≠TO->c≠d->c≠f->s.heap.get? c=some o->h'.get? c=some o)->Q (.ref s.heap.objs.size) { s with heap:=h' }) :
  wpAny (model prog w) A (Builtin.«zip.__next__» ⟨[.ref z],[]⟩) (λfin Y=>∃v,fin = .done (.ret v)/\Q v Y) E s:=by
 obtain⟨F,gg,dd,tt,oo⟩:=s;refine AA (AF (AA (CC hz rfl rfl (AA (CC hz rfl rfl (AA (CJ B rfl ?_)))))));refine CL rfl (AA (AA (CC hz rfl rfl (AF (IG rfl ?_)))));refine AA (EL (AA (CC hz rfl rfl (AA (DN hz (DW 4) λh3 Z g=>?_)))));have a3:=h1.extBut g.extBut D.i1z;have b3:=h2.extBut g.extBut D.i2z;have c3:=T.extBut g.extBut D.l1z;have d3:=U.extBut g.extBut D.l2z;have e3:=(g.2 TO D.TOz).trans C;refine AA ?_;rw[show(#[Value.ref d,Value.ref f].toList.zipIdx) = [(Value.ref d,0),(Value.ref f,1)]from rfl];refine Fv (u:=(none,())) (v:=(none,())) ?_;refine AA (HP (CL rfl (AA (GU a3 c3 V λh4 a4 h=>AF ?_))));have L:=(h.2 TO D.TOi1).trans e3;refine AA (CJ L rfl (AA (HH L λh5 e5 i=>AA (GP (AF ⟨rfl,?_⟩)))));have b5:=(b3.extBut h.extBut D.i12.symm).extBut i.extBut D.TOi2.symm;have d5:=(d3.extBut h.extBut D.l2i1).extBut i.extBut D.l2TO;refine AA (HP (CL rfl (AA (R4 b5 d5 W λh6 b6 j=>AF ?_))));have M:=(j.2 TO D.TOi2).trans e5;refine AA (CJ M rfl (AA (HH M λn N k=>AA (GP (AF ⟨rfl,?_⟩)))));have z7:=(k.2 z D.TOz.symm).trans ((j.2 z D.i2z.symm).trans ((i.2 z D.TOz.symm).trans ((h.2 z D.i1z.symm).trans Z)));have G:n.objs.size=F.objs.size:=k.1.trans (j.1.trans (i.1.trans (h.1.trans g.1)));have O:∀{c:A3} {o:Obj},F.get? c=some o->c≠n.objs.size:=λe=>by rw[G];exact AV (AH e)
 refine AA (CJ N rfl (AA (EU (AA (AA (DN (AD _ z7) (DW 4) λh8 z8 H=>DN z8 (Nat.succ_lt_succ (DW 3)) λp P I=>AF ⟨_,rfl,?_⟩))) (by show 2<=sizeLine;decide))));have q:∀{c:A3} {o:Obj},c≠z->n.get? c=some o->p.get? c=some o:=λl e=>(I.2 _ l).trans ((H.2 _ l).trans (AD _ e));have J:p.objs.size=F.objs.size+1:=I.1.trans (H.1.trans ((DF ..).trans (congrArg (· + 1) G)));have R:p.get? n.objs.size=some ⟨.type "tuple",none,.seq #[x,y],#[]⟩:=(I.2 _ (O hz).symm).trans ((H.2 _ (O hz).symm).trans (AO _ rfl));rw[G]at P R⊢;refine X p P (q D.TOz N) (a4.at λo e=>?_) (b6.at λo e=>?_) R J λc o l S n1 n2 e=>q l ?_
 .exact q D.i1z ((k.2 _ D.TOi1.symm).trans ((j.2 _ D.i12).trans ((i.2 _ D.TOi1.symm).trans e)))
 .exact q D.i2z ((k.2 _ D.TOi2.symm).trans e)
 .exact(k.2 _ S).trans ((j.2 _ n2).trans ((i.2 _ S).trans ((h.2 _ n1).trans ((g.2 _ l).trans e))))
theorem Ek{z TI TO a b f l2:A3}{j:Nat}{xs:CM A2}{Q:PySem.Fin->A4->Prop}(p:A.handled=none)(D:ZipApart z TI TO a b f l2)(hz:IsZip s.heap z TI TO .none)(g:IsPair s.heap TI (.ref a) (.ref b))
  (h1:s.heap.IsListIter a f j) (r:s.heap.IsList f xs) (t:xs[j]?=none)
  (u:∀h' e,(∀c o,c≠z->c≠TO->c≠a->c≠b->s.heap.get? c=some o->h'.get? c=some o)->(∃o,h'.get? e=some o/\o.cls = .type "StopIteration")->E (.ref e) { s with heap:=h' }) :
  wpAny (model prog w) A (Builtin.«zip.__next__» ⟨[.ref z],[]⟩) Q E s:=by
 obtain⟨B,C,F,tt,G⟩:=s;refine AA (AF (AA (CC hz rfl rfl (AA (CC hz rfl rfl (AA (CJ g rfl ?_)))))));refine CL rfl (AA (AA (CC hz rfl rfl (AF (IG rfl ?_)))));refine AA (EL (AA (CC hz rfl rfl (AA (DN hz (DW 4) λH k h=>?_)))));refine AA ?_;rw[show(#[Value.ref a,Value.ref b].toList.zipIdx) = [(Value.ref a,0),(Value.ref b,1)]from rfl,FO];refine AA (AA (HP (CL rfl (AA (wpAny_nextOf_list_end p (h1.extBut h.extBut D.i1z) (r.extBut h.extBut D.l1z) t λI e i d=>?_)))));refine DN (i z _ D.i1z.symm k) (DW 4) λv J l=>u v e (λc o m _ x _ e=>(l.2 _ m).trans (i c o x ((h.2 _ m).trans e))) ?_;obtain⟨o,d,n⟩:=d;have y:e≠z:=λq=>by
  subst q;rw[i e _ D.i1z.symm k]at d;cases d;exact absurd (show Value.type "zip" = .type "StopIteration" from n) (by decide)
 exact⟨o,(l.2 _ y).trans d,n⟩
theorem zAz(O:A.handled=none)(z TI TO f g j l2:A3)(D:ZipApart z TI TO f g j l2)(xs v:CM A2)(P:xs.size<=v.size) :
  WalksT prog w A z [z,TI,TO,f,g,j,l2] [z,TO,f,g] xs.size (λi C=>∃x y,xs[i]?=some x/\v[i]?=some y/\C = #[x,y])
   (λi h=>IsZip h z TI TO .none/\IsPair h TI (.ref f) (.ref g)/\(∃a b,IsPair h TO a b)/\h.IsListIter f j i/\h.IsTupleIter g l2 i/\h.IsList j xs/\h.IsTuple l2 v)
   (λi T h=>IsZip h z TI TO (rawInt T)/\IsPair h TI (.ref f) (.ref g)/\(∃a b,IsPair h TO a b)/\h.IsListIter f j (i+1)/\h.IsTupleIter g l2 (i+1)/\h.IsList j xs/\h.IsTuple l2 v/\T≠z/\T≠TO/\T≠f/\T≠g) where
 sub:=by simp
 frame:=λi h B ⟨c,l,⟨a,b,p⟩,m,r,n,t⟩ k=>⟨k z (by simp) _ c,k TI (by simp) _ l,⟨a,b,k TO (by simp) _ p⟩,m.at (k f (by simp)),r.at (k g (by simp)),n.at (k j (by simp)),t.at (k l2 (by simp))⟩
 item:=λi s Q E K ⟨c,l,⟨a,b,p⟩,m,r,n,t⟩ G=>by
  have H:xs[i]?=some xs[i]:=EC K;have L:v[i]?=some (v[i]'(BH K P)):=EC _;refine AA (GY (DH (z6 c) F.slot_zip_next (DK F.slot_zip_next (z6 c) F.entry_zip_next (Dc D c l p m r n t H L λB I R S U V sz k=>AF ?_) (F.args_zip_next_1 _))));refine G _ _ B s.toks ⟨_,_,H,L,rfl⟩ (VQ _) ⟨_,V,rfl,_,rfl⟩ ⟨I,k TI _ D.TIz D.TITO D.TIi1 D.TIi2 l,⟨_,_,R⟩,S,U,n.at λo e=>k j o D.l1z D.l1TO D.l1i1 D.l1i2 e,t.at λo e=>k l2 o D.l2z D.l2TO D.l2i1 D.l2i2 e,?_,?_,?_,?_⟩ λb o d e=>?_
  .exact(AV (AH c)).symm
  .exact(AV (AH p)).symm
  .obtain⟨o,e,_⟩:=m;exact(AV (AH e)).symm
  .obtain⟨o,e,_⟩:=r;exact(AV (AH e)).symm
  .simp only[AK,BB,or_false,not_or]at d;exact k b o d.1 d.2.1 d.2.2.1 d.2.2.2 e
 go:=λM k W i T s Q E ⟨c,l,⟨a,b,p⟩,m,r,n,t,_⟩ G=>wpAny_letOwnedTupleGo_zip c λB I u=>G B ⟨I,(u.2 _ D.TIz).trans l,⟨a,b,(u.2 _ D.TOz).trans p⟩,m.extBut u.extBut D.i1z,r.extBut u.extBut D.i2z,n.extBut u.extBut D.l1z,t.extBut u.extBut D.l2z⟩ λb o d e=>(u.2 b λq=>d (by rw[q];exact BN ..)).trans e
 apart:=λi T h ⟨_,_,_,_,_,_,_,X,Y,Z,n4⟩ N=>by
  simp only[AK,BB,or_false]at N;rcases N with e | e | e | e
  .exact X e
  .exact Y e
  .exact Z e
  .exact n4 e
 done:=λs Q E ⟨c,l,⟨a,b,p⟩,m,r,n,t⟩ G=>by
  have H:xs[xs.size]?=none:=Array.getElem?_eq_none (VQ _);refine AA (GY (DH (z6 c) F.slot_zip_next (DK F.slot_zip_next (z6 c) F.entry_zip_next (Ek O D c l m n H λB e k J=>?_) (F.args_zip_next_1 _))));obtain⟨o,J,hc⟩:=J;refine AA (wpAny_isInstance ⟨o,J,hc⟩ isSubtype_stop (AF (G B s.toks λb o d e=>?_)));simp only[AK,BB,or_false,not_or]at d;exact k b o d.1 d.2.1 d.2.2.1 d.2.2.2 e
 self:=λi s Q E ⟨c,_⟩ q=>ER c q
end
section
variable{prog:A7}{w:F8}{A:IY}{E:A2->A4->Prop}{s:A4}
theorem Te{d l2:A3}{xs n:CM A2}{Q:A2->A4->Prop}(y:s.heap.IsList d xs)(z:s.heap.IsTuple l2 n)
  (B:∀h',IsZip h' (s.heap.objs.size+4) (s.heap.objs.size+2) (s.heap.objs.size+3) .none->IsPair h' (s.heap.objs.size+2) (.ref s.heap.objs.size) (.ref (s.heap.objs.size+1))->IsPair h' (s.heap.objs.size+3) .none .none ->
   h'.IsListIter s.heap.objs.size d 0->h'.IsTupleIter (s.heap.objs.size+1) l2 0->(∀c o,s.heap.get? c=some o->h'.get? c=some o)->Q (.ref (s.heap.objs.size+4)) { s with heap:=h' }) :
  wpAny (model prog w) A (call (.type "zip") [.ref d,.ref l2]) Q E s:=by
 refine callType_new (S:=λA R j=>j=s/\∀h',IsZip h' (s.heap.objs.size+4) (s.heap.objs.size+2) (s.heap.objs.size+3) .none->IsPair h' (s.heap.objs.size+2) (.ref s.heap.objs.size) (.ref (s.heap.objs.size+1))->IsPair h' (s.heap.objs.size+3) .none .none ->
   h'.IsListIter s.heap.objs.size d 0->h'.IsTupleIter (s.heap.objs.size+1) l2 0->(∀c o,s.heap.get? c=some o->h'.get? c=some o)->R (.ok (.ret (.ref (s.heap.objs.size+4)))) { s with heap:=h' }) F.called_zip rfl (F.typeCall_zip_2 _ _) (F.newCall_zip_2 _ _) (λ_=>F.args_object_init_3 _ _ _) F.entry_zip_new (.of_wp λprog w A R j l=>?_) ⟨rfl,λh' p C D G H k=>⟨⟨_,p,rfl⟩,B h' p C D G H k⟩⟩
 obtain⟨rfl,l⟩:=l;obtain⟨a,I,J,tt,K⟩:=j;refine AA (AA (AF (CL rfl (AA (wpAny_of_eq sub_zip (CL rfl (AF ?_)))))))
 let b:=a.push { cls:=.type "list_iterator",data:=.fields #[.ref d,.int 0 0] }
 let f:=b.push { cls:=.type "tuple_iterator",data:=.fields #[.ref l2,.int 0 0] }
 let g:=f.push { cls:=.type "tuple",data:=.seq #[.ref a.objs.size,.ref b.objs.size] }
 let i:=g.push { cls:=.type "tuple",data:=.seq #[.none,.none] }
 have r:b.objs.size=a.objs.size+1:=DF ..;have t:f.objs.size=a.objs.size+2:=(DF ..).trans (congrArg (· + 1) r);have x:g.objs.size=a.objs.size+3:=(DF ..).trans (congrArg (· + 1) t);have L:i.objs.size=a.objs.size+4:=(DF ..).trans (congrArg (· + 1) x);have m:b.IsTuple l2 n:=z.at λo e=>AD _ e;have M:b.get? a.objs.size=some { cls:=.type "list_iterator",data:=.fields #[.ref d,.int 0 0] }:=AO _ rfl;have N:f.get? b.objs.size=some { cls:=.type "tuple_iterator",data:=.fields #[.ref l2,.int 0 0] }:=AO _ rfl;have O:g.get? f.objs.size=some { cls:=.type "tuple",data:=.seq #[.ref a.objs.size,.ref b.objs.size] }:=AO _ rfl;have P:i.get? g.objs.size=some { cls:=.type "tuple",data:=.seq #[.none,.none] }:=AO _ rfl;have u:∀{h:IU} {o:Obj} {c:A3} {q:Obj},h.get? c=some q->(h.push o).get? c=some q:=λe=>AD _ e;refine CL rfl (AA (AA (Fv (u:=#[.ref a.objs.size]) (v:=#[.ref a.objs.size,.ref b.objs.size]) (AA (BS (GF y (AF ⟨rfl,AA (BS (HW m (AF ⟨rfl,AF ?_⟩)))⟩)))))));refine AA (EU (AA (EU (AA (y3 (AF ⟨_,rfl,?_⟩) ?_)) (by show 2<=sizeLine;decide))) (by show 2<=sizeLine;decide))
 .have T:=AO i (o:={ cls:=.type "zip",data:=.fields #[.none,.bool false,.bool false,.ref f.objs.size,.ref g.objs.size] }) rfl;have q:=l (i.push { cls:=.type "zip",data:=.fields #[.none,.bool false,.bool false,.ref f.objs.size,.ref g.objs.size] });rw[show(Shared.mk a I J tt K).heap.objs.size=a.objs.size from rfl,<-r,<-t,<-x,<-L]at q;exact q T (u (u O)) (u P) ⟨_,u (u (u (u M))),rfl,rfl⟩ ⟨_,u (u (u N)),rfl,rfl⟩ λc o e=>u (u (u (u (u e))))
 .show 5<=sizeLine+2;decide
end
def UZ(e f:Hp->A3->A1 V->Prop)(a b:A3):It :=
  ⟨λi H=>∃c d x y,e H a c/\f H b d/\c.length<=d.length/\c[i]?=some x/\d[i]?=some y,λi H v g=>∃T x y,v = .ref T/\H T=none/\g=IT H T (.tup [x,y])/\(∀c,e H a c->c[i]?=some x)/\∀d,f H b d->d[i]?=some y,
   λi H=>∃c d,e H a c/\f H b d/\c.length<=d.length/\c.length=i⟩
def Tp(c d:IU->A3->A3->Nat->Prop)(z TI TO e f a b:A3)(i:Nat)(h:IU):Prop:=IsZip h z TI TO .none/\IsPair h TI (.ref e) (.ref f)/\(∃u v,IsPair h TO u v)/\c h e a i/\d h f b i
section
variable{P:A7}{w:F8}{K:VN}{elts:A1 IW}{kk:Nat}{tp:Pos}{isIt isJt:IU->A3->A3->Nat->Prop}{isq isr:IU->A3->CM A2->Prop}{sq sr:Hp->A3->A1 V->Prop}
theorem Ic(oI:∀h c l i,isIt h c l i->∃o,h.get? c=some o/\∀v,o.data≠ .cell v)(kI:∀h h' c l i,isIt h c l i->(∀o,h.get? c=some o->h'.get? c=some o)->isIt h' c l i)(oJ:∀h c l i,isJt h c l i->∃o,h.get? c=some o/\∀v,o.data≠ .cell v)(kJ:∀h h' c l i,isJt h c l i->(∀o,h.get? c=some o->h'.get? c=some o)->isJt h' c l i)
  (gI:∀(X:Cx) d σ H s c xs,X.K=K->Inv X d σ H s->sq H c xs->∃its,I_ xs its/\isq s.heap c its.toArray) (uI:∀(X:Cx) d σ H s c xs C,X.K=K->Inv X d σ H s->sq H c xs->sq H c C->xs=C) (gJ:∀(X:Cx) d σ H s c xs,X.K=K->Inv X d σ H s->sr H c xs->∃its,I_ xs its/\isr s.heap c its.toArray) (uJ:∀(X:Cx) d σ H s c xs C,X.K=K->Inv X d σ H s->sr H c xs->sr H c C->xs=C)
  (z TI TO g j a b:A3) (WI:∀(A:IY),A.handled=none->∀xs C:CM A2,xs.size<=C.size->WalksT P w A z [z,TI,TO,g,j,a,b] [z,TO,g,j] xs.size (λi G=>∃x y,xs[i]?=some x/\C[i]?=some y/\G = #[x,y])
   (λi h=>IsZip h z TI TO .none/\IsPair h TI (.ref g) (.ref j)/\(∃a b,IsPair h TO a b)/\isIt h g a i/\isJt h j b i/\isq h a xs/\isr h b C)
   (λi T h=>IsZip h z TI TO (rawInt T)/\IsPair h TI (.ref g) (.ref j)/\(∃a b,IsPair h TO a b)/\isIt h g a (i+1)/\isJt h j b (i+1)/\isq h a xs/\isr h b C/\T≠z/\T≠TO/\T≠g/\T≠j)) :
  MV P w K (.Tuple elts kk tp) (UZ sq sr a b) [z,TI,TO,g,j] z (Tp isIt isJt z TI TO g j a b) where
 mem:=BN ..
 obj:=λi h st c t=>by
  obtain⟨h1,R,⟨u,v,U⟩,V,Y⟩:=st;simp only[AK,BB,or_false]at t;rcases t with rfl | rfl | rfl | rfl | rfl
  .exact⟨_,h1,λv z=>by cases z⟩
  .exact⟨_,R,λv z=>by cases z⟩
  .exact⟨_,U,λv z=>by cases z⟩
  .exact oI _ _ _ _ V
  .exact oJ _ _ _ _ Y
 keep:=λi h h' st k=>by
  obtain⟨h1,R,⟨u,v,U⟩,V,Y⟩:=st;exact⟨k z (by simp) _ h1,k TI (by simp) _ R,⟨u,v,k TO (by simp) _ U⟩,kI _ _ _ _ _ V (k g (by simp)),kJ _ _ _ _ _ Y (k j (by simp))⟩
 item:=by
  intro X hP hw L t i d s σ H E I S st hg;subst hP hw;obtain⟨xs,C,x,y,hq,hr,M,hx,hy⟩:=hg;obtain⟨its,rv,p⟩:=gI _ _ _ _ _ _ _ L I hq;obtain⟨N,F,p'⟩:=gJ _ _ _ _ _ _ _ L I hr;obtain⟨u,hu,ru⟩:=rv.get hx;obtain⟨v,hv,rv'⟩:=F.get hy;have hl:=rv.length;have O:=F.length;have W:=WI X.A (I.ok.hd t) its.toArray N.toArray (by rw[AL,AL,<-hl,<-O];exact M);have hi:i<its.toArray.size:=by rw[AL];exact(AE.mp hu).1
  obtain⟨s1,s2,s3,Z,s5⟩:=id st;refine W.item i s _ _ hi ⟨s1,s2,s3,Z,s5,p,p'⟩ λT G h' tk hvs hT ht hm k=>?_;obtain⟨x',y',hx',hy',rfl⟩:=hvs;have ex:x'=u:=BJ (hx'.symm.trans ((FW ..).trans hu));have ey:y'=v:=BJ (hy'.symm.trans ((FW ..).trans hv));subst ex ey;refine⟨.ref T,rfl,W.go elts kk tp i T _ _ _ hm λR D k2=>?_⟩;have kk2:∀b o,b∉[z,TI,TO,g,j]->s.heap.get? b=some o->R.get? b=some o:=λc o f ec=>by
   have n4:c∉[z,TO,g,j]:=λm=>f (by
    simp only[AK,BB,or_false]at m⊢;exact m.imp_right .inr)
   exact k2 c o n4 (k c o n4 ec)
  have hT2:R.IsTuple T #[x',y']:=ht.at λo e=>k2 T o (W.apart i T h' hm) e;have J:∀c∈[z,TI,TO,g,j],∃B,s.heap.get? c=some B:=λc f=>by
   obtain⟨u3,v3,U⟩:=s3;obtain⟨o4,V,_⟩:=oI _ _ _ _ Z;obtain⟨o5,Y,_⟩:=oJ _ _ _ _ s5;simp only[AK,BB,or_false]at f;rcases f with rfl | rfl | rfl | rfl | rfl
   .exact⟨_,s1⟩
   .exact⟨_,s2⟩
   .exact⟨_,U⟩
   .exact⟨_,V⟩
   .exact⟨_,Y⟩
  refine⟨.ref T,IT H T (.tup [x,y]),I.turnLaid (fp:=[z,TI,TO,g,j]) kk2 S J hT ⟨?_,[x',y'],.cons ru (.cons rv' .nil),hT2⟩,rfl,⟨T,x,y,rfl,I.hok.fresh hT,rfl,λzs hz=>by rw[uI _ _ _ _ _ _ _ _ L I hz hq];exact hx,λzs hz=>by rw[uJ _ _ _ _ _ _ _ _ L I hz hr];exact hy⟩,⟨D.1,D.2.1,D.2.2.1,D.2.2.2.1,D.2.2.2.2.1⟩,λc f=>?_⟩
  .show 2<=sizeLine;decide
  .obtain⟨B,eb⟩:=J c f;rw[B6 (AV (BH (AH eb) hT))];exact(S c f).1
 done:=by
  intro X hP hw L t i d s σ H E I S st hg;subst hP hw;obtain⟨xs,C,hq,hr,M,hx⟩:=hg;obtain⟨its,rv,p⟩:=gI _ _ _ _ _ _ _ L I hq;obtain⟨N,F,p'⟩:=gJ _ _ _ _ _ _ _ L I hr;have hl:=rv.length;have O:=F.length;have W:=WI X.A (I.ok.hd t) its.toArray N.toArray (by rw[AL,AL,<-hl,<-O];exact M);have hi:i=its.toArray.size:=by rw[AL,<-hl,hx]
  obtain⟨s1,s2,s3,Z,s5⟩:=id st;rw[hi]at Z s5;refine W.done s _ _ ⟨s1,s2,s3,Z,s5,p,p'⟩ λh' tk k=>⟨rfl,?_⟩;have nf:∀b u,H b=some u->b∉[z,TI,TO,g,j]:=λb u e hb=>by rw[(S b hb).1]at e;cases e
  have k':∀c o,c∉[z,TI,TO,g,j]->s.heap.get? c=some o->h'.get? c=some o:=λc o f ec=>k c o (λm=>f (by
    simp only[AK,BB,or_false]at m⊢;exact m.imp_right .inr)) ec
  refine I.step (h':=h') (H':=H) (t':=tk) (g':=s.gens) (d':=s.drawn) (ch:=[z,TI,TO,g,j]) (λb hb=>let⟨_,f1,_,f3,f4,f5⟩:=S b hb;⟨f3,f1,f4,f5⟩) (λb B _ _ t e _=>k' b B t e) (λb B _ _ t e _=>⟨B.slots,k' b B t e⟩) (λ_ _ _ _ n=>n)
   (λb B t e=>⟨B,k' b B t e⟩) (λ_ _ e=>e) (λ_ _ _ e=>e) (λb ps e=>⟨#[],by rw[e];simp⟩) (λm hm=>?_) (λb u eb=>?_) I.bare
  .obtain⟨B,es,ep,ho,r⟩:=hm;exact⟨B,es,ep,k' _ B (λhb=>(S _ hb).2.1 rfl) ho,r⟩
  .refine(I.hok b u eb).stay (λc v t q=>k' c v ?_ q) (λ_ q=>q) λ_ _ q=>q;rcases t with z | z
   .rw[z];exact nf b u eb
   .exact nf c _ z
 self:=λA i s Q E st h=>ER st.1 h
theorem Pn(z TI TO n q a b:A3)(D:ZipApart z TI TO n q a b):MV P w K (.Tuple elts kk tp) (UZ (IV K) (IV K) a b) [z,TI,TO,n,q] z (Tp Heap.IsListIter Heap.IsListIter z TI TO n q a b) :=
 Ic (isq:=Heap.IsList) (isr:=Heap.IsList) (λh c l i ⟨o,e,_,d⟩=>⟨o,e,λv z=>by rw[d]at z;cases z⟩) (λh y c l i z k=>z.at k) (λh c l i ⟨o,e,_,d⟩=>⟨o,e,λv z=>by rw[d]at z;cases z⟩) (λh y c l i z k=>z.at k)
  (λX f σ H s c r g I j=>by subst g;obtain⟨m,t,p,_⟩:=I.list j;exact⟨m,t,p.isList⟩) (λX f σ H s c r u g I j x=>by subst g;exact I.list_inj j x) (λX f σ H s c r g I j=>by subst g;obtain⟨m,t,p,_⟩:=I.list j;exact⟨m,t,p.isList⟩) (λX f σ H s c r u g I j x=>by subst g;exact I.list_inj j x)
  z TI TO n q a b λA B r u C=>by
   have W:=WalksT.zip2 (prog:=P) (w:=w) B z TI TO n q a b D r u
   rwa [FM C]at W
theorem Vj(z TI TO n q a b:A3)(D:ZipApart z TI TO n q a b):MV P w K (.Tuple elts kk tp) (UZ (IV K) (JL K) a b) [z,TI,TO,n,q] z (Tp Heap.IsListIter Heap.IsTupleIter z TI TO n q a b) :=
 Ic (isq:=Heap.IsList) (isr:=Heap.IsTuple) (λh c l i ⟨o,e,_,d⟩=>⟨o,e,λv z=>by rw[d]at z;cases z⟩) (λh y c l i z k=>z.at k) (λh c l i ⟨o,e,_,d⟩=>⟨o,e,λv z=>by rw[d]at z;cases z⟩) (λh y c l i z k=>z.at k)
  (λX f σ H s c r g I j=>by subst g;obtain⟨m,t,p,_⟩:=I.list j;exact⟨m,t,p.isList⟩) (λX f σ H s c r u g I j x=>by subst g;exact I.list_inj j x) (λX f σ H s c r g I j=>by subst g;obtain⟨m,t,p,_⟩:=I.tuple j;exact⟨m,t,p⟩) (λX f σ H s c r u g I j x=>by subst g;exact I.tuple_inj j x)
  z TI TO n q a b λA B r u C=>zAz B z TI TO n q a b D r u C
end
section
variable{X:Cx}{elts:A1 IW}{kk:Nat}{tp:Pos}
def zJa(K:VN)(R:It->Hp->Prop)(a b:A3)(xs c:A1 V)(H:Hp):Prop:=IV K H a xs/\IV K H b c/\R (UZ (IV K) (IV K) a b) H\/IV K H a xs/\JL K H b c/\R (UZ (IV K) (JL K) a b) H
def zGd(K:VN)(c:TA):TI:=λσ H R=>c σ H λd e=>∃a b f g,d = [.ref a,.ref b]/\zJa K R a b f g e
theorem zBm{a b:IW}{L:TA}{p pos:Pos}(N:Gl X "zip")(O:X.mg "zip" = none)(P:PA X [a,b] L)(Q:starEach [a,b] X.env =(false,eval a X.env)::starEach [b] X.env:=by rfl)(t:(backTo pos (starEach [b] X.env)).any (·.1)=false:=by rfl):PI X (.Tuple elts kk tp) (.Call (.Name "zip" p) [a,b] [] pos) (zGd X.K L):=by
 intro f s σ H R I h;refine Call_ (W9 I N O Kp (WC (JN (P pos f s σ H _ I h) λus d ⟨vs,w,g,S,T⟩=>?_) Q t));obtain⟨l,m,xs,ys,e,q⟩:=T;subst e;obtain⟨u,v,rfl,U,V⟩:=S.two;cases U;cases V;have i:∀c∈[d.heap.objs.size+4,d.heap.objs.size+2,d.heap.objs.size+3,d.heap.objs.size,d.heap.objs.size+1],Ds X f w c:=λc M=>by
  have j:d.heap.objs.size<=c:=by
   simp only[AK,BB,or_false]at M;rcases M with rfl | rfl | rfl | rfl | rfl
   .exact CO ..
   .exact CO ..
   .exact CO ..
   .exact VQ _
   .exact CO ..
  exact g.fpOk j (g.hok.fresh j)
 rcases q with⟨x,y,q⟩ | ⟨x,y,q⟩
 .obtain⟨z,W,n,Y⟩:=g.list x;obtain⟨A,Z,o,B⟩:=g.list y;have C:l<d.heap.objs.size:=by obtain⟨_,e,_⟩:=n.isList;exact AH e
  have D:m<d.heap.objs.size:=by obtain⟨_,e,_⟩:=o.isList;exact AH e
  refine call_zip_2 n.isList o.isList λh' r E F G J hsz k=>ER r ?_;exact⟨d.heap.objs.size+4,_,_,_,w,rfl,g.kept (t':=d.toks) k,Pn _ _ _ _ _ l m (zipApart_new C D),⟨r,E,⟨_,_,F⟩,G,J⟩,i,q⟩
 .obtain⟨z,W,n,Y⟩:=g.list x;obtain⟨A,Z,o,B⟩:=g.tuple y;have C:l<d.heap.objs.size:=by obtain⟨_,e,_⟩:=n.isList;exact AH e
  have D:m<d.heap.objs.size:=by obtain⟨_,e,_⟩:=id o;exact AH e
  refine Te n.isList o λh' r E F G J k=>ER r ?_;exact⟨d.heap.objs.size+4,_,_,_,w,rfl,g.kept (t':=d.toks) k,Vj _ _ _ _ _ l m (zipApart_new C D),⟨r,E,⟨_,_,F⟩,G,J⟩,i,q⟩
variable(K:VN)
theorem zKu{a b:IW}{d:TA}{p pos:Pos}(e:X.mg "zip" = none)(f:PA X [a,b] d)(g:Gl X "zip":=by rfl)(h:starEach [a,b] X.env =(false,eval a X.env)::starEach [b] X.env:=by rfl)(c:(backTo pos (starEach [b] X.env)).any (·.1)=false:=by rfl)(i:X.K=K:=by rfl):PI X (.Tuple elts kk tp) (.Call (.Name "zip" p) [a,b] [] pos) (zGd K d):=by subst i;exact zBm g e f h c
end
def zGc(i:Nat)(f:A3)(sp:Sp)(E:XK)(t:TA):TE:=λσ H Q=>σ[i]?=some (some (.ref f))/\zDc sp [] E t σ H Q
section
variable{X:Cx}{CX:SJ}{k:Nat}{f:A3}{fd:JC}{ps:A1 Str}{sp:Sp}{x:Str}{e:IW}{es:A1 IW}{t:TA}{p pos:Pos}{E:XK}{ds:A1 A2}
theorem Mg{i:Nat}(F:IZ X.prog X.w X.K X.mg X.base CX k f fd ps sp)(l:JY k X.A)(m:PySem.W.keepIn X.K (.ref f)=true)(n:Binds X.K fd ps [])(o:y4 CX X E)
  (y:PA X (e::es) t) (z:X.N[i]?=some x:=by rfl) (B:VE X.env.scope x:=by first | exact Or.inl rfl | exact Or.inr (Or.inl rfl) | exact Or.inr (Or.inr rfl)) (b:(x ==("__debug__":Str))=false:=by decide) (c:(x ==("__classdict__":Str))=false:=by decide)
  (C:starEach (e::es) X.env =(false,eval e X.env)::starEach es X.env:=by rfl) (d:(backTo pos (starEach es X.env)).any (·.1)=false:=by rfl) :
  PE X (.Call (.Name x p) (e::es) [] pos) (zGc i f sp E t):=by
 intro a s σ H Q I h;obtain⟨D,h⟩:=h;refine EM (JN (Zl (i:=i) (pos:=p) z B b c a s σ H (λv G=>v = .ref f/\G=H) I ⟨_,D,rfl,rfl⟩) λu J ⟨v,L,g,M,O,P⟩=>?_);subst O P;cases M;refine PySem.W.callWith_K (h₀:=X.base) g.ok.mod.kin m (JN (y pos a J σ L _ g h) λR S ⟨T,U,j,r,q⟩=>⟨j.kIn,?_⟩) C d;exact Ml F l n .nil o j r q
end
end L2
namespace TS
open PySem PyProof.Rows
def KN:A1 (A1 Nat)->A1 (A1 Nat)->Bool
 | _,[]=>false
 | [],_::_=>true
 | x::a,y::b=>decide (x<y)||(decide (x=y)&&KN a b)
def KO{x y:A1 Nat}{a b:A1 (A1 Nat)}:KN (x::a) (y::b)=true↔x<y\/(x=y/\KN a b=true):=by
 rw[KN];simp
def Az(a:A1 (A1 Nat)):KN a []=false:=by cases a<;>rfl
def Bw:∀a,KN a a=false
 | []=>rfl
 | x::a=>by
  rw[BQ];intro z;rcases KO.mp z with z | ⟨_,z⟩
  .exact IB _ z
  .rw[Bw a]at z;cases z
def Ef:∀a b c,KN a b=true->KN b c=true->KN a c=true
 | _,[],_,h,_=>by rw[Az]at h;cases h
 | _,_::_,[],_,h=>by rw[Az]at h;cases h
 | [],_::_,_::_,_,_=>rfl
 | x::a,y::b,z::c,e,d=>by
  rw[KO]at *;rcases e with e | ⟨e,f⟩
  .rcases d with d | ⟨d,_⟩
   .exact .inl (HN e d)
   .exact .inl (d▸e)
  .rcases d with d | ⟨d,g⟩
   .exact .inl (e▸d)
   .exact .inr ⟨e.trans d,Ef a b c f g⟩
def Mr:∀a b c,KN a c=true->KN a b=true\/KN b c=true
 | _,_,[],h=>by rw[Az]at h;cases h
 | [],[],_::_,_=>.inr rfl
 | _::_,[],_::_,_=>.inr rfl
 | [],_::_,_::_,_=>.inl rfl
 | x::a,y::b,z::c,h=>by
  rw[KO]at h;simp only[KO];rcases TX x y with q | q | q
  .exact .inl (.inl q)
  .rcases h with h | ⟨h,d⟩
   .exact .inr (.inl (q▸h))
   .rcases Mr a b c d with r | r
    .exact .inl (.inr ⟨q,r⟩)
    .exact .inr (.inr ⟨q▸h,r⟩)
  .rcases h with h | ⟨h,_⟩
   .exact .inr (.inl (HN q h))
   .exact .inr (.inl (h▸q))
def NZ:∀a b,KN a b=false->KN b a=false->a=b
 | [],[],_,_=>rfl
 | [],_::_,h,_=>by cases h
 | _::_,[],_,h=>by cases h
 | x::a,y::b,c,d=>by
  rw[BQ]at c d;rcases TX x y with q | q | q
  .exact absurd (KO.mpr (.inl q)) c
  .rw[q,NZ a b (BQ.mpr λz=>c (KO.mpr (.inr ⟨q,z⟩))) (BQ.mpr λz=>d (KO.mpr (.inr ⟨q.symm,z⟩)))]
  .exact absurd (KO.mpr (.inl q)) d
def OV(tab:A1 (A3×A1 (A1 Nat))):A2->A5 (A1 (A1 Nat))
 | .ref a=>(tab.find? λq=>decide (q.1=a)).map λq=>q.2
 | _=>none
@[reducible] def lexKind(tab:A1 (A3×A1 (A1 Nat))):PyProof.Rows.KeyKind where
 α:=A1 (A1 Nat)
 blt:=KN
 irrefl:=Bw
 trans:=Ef
 negTrans:=Mr
 total:=NZ
 keyOf:=OV tab
 dflt:=[]
def NY{tab:A1 (A3×A1 (A1 Nat))}{v:A2}{k:A1 (A1 Nat)}(h:OV tab v=some k):∃q∈tab,v = .ref q.1/\q.2=k:=by
 match v,h with
 | .ref a,h =>
  obtain⟨q,e,b⟩:=BC.mp h;exact⟨q,List.mem_of_find?_eq_some e,by rw[BZ (List.find?_some (p:=λq:A3×A1 (A1 Nat)=>decide (q.1=a)) e)],b⟩
def PQ{tab:A1 (A3×A1 (A1 Nat))}{q:A3×A1 (A1 Nat)}(h:q∈tab):∃k,OV tab (.ref q.1)=some k:=by
 show ∃k,(tab.find? λr=>decide (r.1=q.1)).map (λr=>r.2)=some k;cases e:tab.find? λr=>decide (r.1=q.1)with
 | none=>exact absurd (AX rfl) (List.find?_eq_none.mp e _ h)
 | some r=>exact⟨r.2,rfl⟩
open PySem.SeqAt PySem.MeetsSeq PySem.MeetsSeq3
open AutoSeq1 (wpAny_loadPart')
def TD(items:CM A2)(as:A1 Str):Prop:=items.size=as.length/\∀(j:Nat) (x:Str),as[j]?=some x->∃t,items[j]?=some (.str x t)
abbrev ND(as:A1 Str):A1 (A1 Nat):=as.map λx=>x.cps.toList
def Jz(l b:A3)(items a:CM A2)(n B:Nat)(as bs:A1 Str)(v:TD items as)(x:TD a bs)(k:Nat) :
  ∀i:Nat,as.length-i=k->i<=as.length->i<=bs.length->Meets (Builtin.«list.__eq__.loop» ⟨[.ref l,.ref b,rawInt i,rawInt 0],[]⟩)
   (λA R s=>s.heap.get? l=some (seqObj "list" items n)/\s.heap.get? b=some (seqObj "list" a B)/\R (.ok (.ret (.bool (KN (ND (as.drop i)) (ND (bs.drop i)))))) s):=by
 induction k with
 | zero =>
  intro i C D E o w A R s h;obtain⟨F,g,d,G,os⟩:=s;obtain⟨p,f,h⟩:=h;wp_walk using CP p,CP f;have j:items[((i:Nat):Int).toNat]?=none:=by have:=v.1;simp;lia
  rw[j];have e:KN (ND (as.drop i)) (ND (bs.drop i))=decide (items.size<a.size):=by
   rw[v.1,x.1,IH (by lia)];by_cases c:i<bs.length
   .rw[AX (by lia),EB c];rfl
   .rw[BA (by lia),IH (by lia)];rfl
  rw[e]at h;wp_walk using CP p,CP f;exact h
 | succ k H =>
  intro i C D E o w A R s h;obtain⟨F,g,d,G,os⟩:=s;obtain⟨p,f,h⟩:=h;wp_walk using CP p,CP f;have q:i<as.length:=by lia
  obtain⟨t,I⟩:=v.2 i as[i] (AC q);have j:items[((i:Nat):Int).toNat]?=some (.str as[i] t):=by simpa using I
  by_cases c:i<bs.length
  .obtain⟨u,J⟩:=x.2 i bs[i] (AC c);have m:a[((i:Nat):Int).toNat]?=some (.str bs[i] u):=by simpa using J
   have K:((i:Int)+1) =((i+1:Nat):Int):=by push_cast;rfl
   rw[EB q,EB c]at h;have h:R (.ok (.ret (.bool (decide (as[i].cps.toList<bs[i].cps.toList)||(decide (as[i].cps.toList=bs[i].cps.toList)&&KN (ND (as.drop (i+1))) (ND (bs.drop (i+1)))))))) _:=h;rw[j,m];refine AA (IK ?_);by_cases e:as[i]=bs[i]
   .rw[AX e];rw[e,BA (IB _),AX rfl,Bool.false_or,Bool.true_and]at h;wp_walk;rw[K];exact⟨plainId_quiet plain_eq_loop _,F_ entry_eq_loop (by
     rw[Around.under_plainId plain_eq_loop _];exact H (i+1) (by lia) (by lia) (by lia) o w A R _ ⟨p,f,h⟩)⟩
   .rw[BA e];have L:as[i].cps.toList≠bs[i].cps.toList:=λz=>e (by
     have y:=Array.toList_inj.mp z;cases M:as[i];cases N:bs[i];rw[M,N]at y;exact congrArg Str.mk y)
    rw[BA L,EW,IP]at h;wp_walk using CP p,CP f;rw[j,m];show wpAny _ _ (richCompare CmpOp.Lt (.str as[i] t) (.str bs[i] u) >>= λr=>ret r) _ _ _;refine AA (wpAny_richCompare_same (typeIs_str _ _ _) (typeIs_str _ _ _) slot_str_lt (call_str_lt ⟨(by intro z;cases z),AF h⟩) rfl)
  .have m:a[((i:Nat):Int).toNat]?=none:=by have:=x.1;simp;lia
   rw[j,m];have e:KN (ND (as.drop i)) (ND (bs.drop i))=decide (items.size<a.size):=by
    rw[v.1,x.1,IH (l:=bs) (by lia),BA (by lia)];exact Az _
   rw[e]at h;wp_walk using CP p,CP f;exact h
def Q_(l b:A3)(items a:CM A2)(n f:Nat)(as bs:A1 Str)(j:TD items as)(k:TD a bs) :
  Meets (Builtin.«list.__lt__» ⟨[.ref l,.ref b],[]⟩)
   (λA R s=>s.heap.get? l=some (seqObj "list" items n)/\s.heap.get? b=some (seqObj "list" a f)/\R (.ok (.ret (.bool (KN (ND as) (ND bs))))) s):=by
 intro c w A R s h;obtain⟨m,g,d,o,os⟩:=s;obtain⟨i,e,h⟩:=h;have p:=AutoSeq1.sub_list_list;wp_walk using CP i,CP e;exact⟨plainId_quiet plain_eq_loop _,F_ entry_eq_loop (by
  rw[Around.under_plainId plain_eq_loop _];exact Jz l b items a n f as bs j k _ 0 rfl (CY _) (CY _) c w A R _ ⟨i,e,h⟩)⟩
end TS
namespace L2
open PySem PySem.Spec PyProof.Rows
def zAb{l:A1 Str}{us:A1 A2}(r:I_ (l.map V.str) us):TS.TD us.toArray l:=by
 induction l generalizing us with
 | nil =>
  cases r;exact⟨rfl,λj x h=>by rw[List.getElem?_nil]at h;cases h⟩
 | cons y l b =>
  cases r with
  | cons c d =>
   obtain⟨f,rfl⟩:=c;obtain⟨a,g⟩:=b d;refine⟨by simp only[AL,BK]at a⊢;rw[a],λj x h=>?_⟩;cases j with
   | zero =>
    rw[HY]at h;cases h;exact⟨f,rfl⟩
   | succ j =>
    rw[List.getElem?_cons_succ]at h;obtain⟨t,e⟩:=g j x h;exact⟨t,by simpa using e⟩
def UL(ts:A1 (A3×A1 Str)):A1 (A3×A1 (A1 Nat)):=ts.map λq=>(q.1,TS.ND q.2)
def Qf{P:A7}{w:F8}{s:A4}{a:A3}{ts:A1 (A3×A1 Str)}{m:IU}(g:∀q∈ts,∃us,I_ (q.2.map V.str) us/\LAt m q.1 us)(d:∀b o,m.get? b=some o->b≠a/\s.heap.get? b=some o) :
  TS.SG P w a s (TS.lexKind (UL ts)) oneType' (ts.map λq=>Value.ref q.1):=by
 refine⟨λA r I f=>⟨λx y k l Q E t u q=>?_⟩,λv c=>?_,λz A E r Q f q=>?_⟩
 .obtain⟨_,B,rfl,rfl⟩:=TS.NY t;obtain⟨_,C,rfl,rfl⟩:=TS.NY u;obtain⟨x,D,rfl⟩:=AJ.mp B;obtain⟨y,F,rfl⟩:=AJ.mp C;obtain⟨us,n,G,e⟩:=g x D;obtain⟨J,H,K,p⟩:=g y F;have h:=f _ _ (d _ _ e).1 (d _ _ e).2;have i:=f _ _ (d _ _ p).1 (d _ _ p).2;rw[keyLt'_oneType];exact TS.QZ (by lia) h i (TS.Q_ _ _ _ _ _ _ _ _ (zAb n) (zAb H)) q
 .obtain⟨q,j,rfl⟩:=AJ.mp c;exact TS.PQ (q:=(q.1,TS.ND q.2)) (AJ.mpr ⟨q,j,rfl⟩)
 .refine PySem.W.kas_kind (T:=.type "list") z (λv c=>?_) (by decide) (by decide) q;obtain⟨q,j,rfl⟩:=AJ.mp c;obtain⟨us,n,G,e⟩:=g q j;exact(PySem.W.Looks.ld (f _ _ (d _ _ e).1 (d _ _ e).2)).andThen .now
section
variable{X:Cx}
def Yu(K:VN):A1 V->Hp->VK->Prop:=λe H Q=>∃(p:A3) (d:A1 (A3×A1 Str)),e = [.ref p]/\IV K H p (d.map λq=>V.ref q.1)/\(∀q∈d,H q.1=some (.lst (q.2.map V.str))) /\
  ∀(l:A3) (c:A1 (A3×A1 Str)),H l=none->c.Perm d->c.Pairwise (λa b=>TS.KN (TS.ND b.2) (TS.ND a.2)=false)->Q (.ref l) (IT H l (.lst (c.map λq=>V.ref q.1)))
theorem Hu(hu:X.A.units+64<cLine):K3 X (.builtin "sorted") (Yu X.K):=by
 intro J s σ H xs B Q I r h;obtain⟨p,d,rfl,l,f,q⟩:=h;obtain⟨u,rfl,S⟩:=W5 r;cases S;obtain⟨c,x,T,L⟩:=I.list l;have C:=zFv x;have hl:=x.length;refine TS.QU (by lia) (collect_list (vs:=c) T.isList ?_ (by lia));have g:((s.heap.push (seqObj "list" #[] 0)).update s.heap.objs.size (Obj.mapSeq (· ++ c.toArray))).objs.size=s.heap.objs.size+1:=by rw[FR,size_push']
 have t:∀b o,s.heap.get? b=some o->((s.heap.push (seqObj "list" #[] 0)).update s.heap.objs.size (Obj.mapSeq (· ++ c.toArray))).get? b=some o:=λb o i=>by
  rw[Heap.get?_update_ne _ _ _ _ (AV (AH i))];exact AD _ i
 have D:∀q∈d,∃B,I_ (q.2.map V.str) B/\LAt s.heap q.1 B:=λq l=>by
  obtain⟨z,c,n,x,e⟩:=I.hok _ _ (f q l);exact⟨c,x,n,e⟩
 refine⟨rfl,by lia,TS.lexKind (UL d),oneType',λs2 U=>?_,λv W e Y k Z=>?_⟩
 .rw[C];refine Qf D λb o i=>?_;rw[<-C];have w:b≠((s.heap.push (seqObj "list" #[] 0)).update s.heap.objs.size (Obj.mapSeq (· ++ c.toArray))).objs.size:=by
   rw[g];exact AV (DT (AH i))
  exact⟨w,U b o w (t b o i)⟩
 .obtain⟨M,N⟩:=Y;rw[C]at M;obtain⟨j,y,O⟩:=Aa (λq:A3×A1 Str=>Value.ref q.1) M d rfl;have P:∀q∈d,TS.OV (UL d) (.ref q.1)=some (TS.ND q.2):=λq l=>by
   obtain⟨k,e⟩:=TS.PQ (tab:=UL d) (q:=(q.1,TS.ND q.2)) (AJ.mpr ⟨q,l,rfl⟩);obtain⟨_,m,E,e2⟩:=TS.NY e;obtain⟨r,mr,rfl⟩:=AJ.mp m;have E:q.1=r.1:=Value.ref.inj E;have e3:=(f q l).symm.trans ((congrArg H E).trans (f r mr));have e4:q.2=r.2:=Mv (HO.lst.inj (BJ e3));rw[e,<-e2,e4]
  have F:j.Pairwise (λa b=>TS.KN (TS.ND b.2) (TS.ND a.2)=false):=by
   rw[O,CG]at N;refine(List.Pairwise.and_mem.mp N).imp fun{a b} ⟨ha,hb,z⟩=>?_;have R:TS.KN ((TS.OV (UL d) (.ref b.1)).getD []) ((TS.OV (UL d) (.ref a.1)).getD [])=false:=z;rw[P a (y.mem_iff.mp ha),P b (y.mem_iff.mp hb)]at R;exact R
  have hn:H (s.heap.objs.size+1)=none:=I.hok.fresh (EO _);have G:W.get? (s.heap.objs.size+1)=some (seqObj "list" v e):=by rw[<-g];exact Z
  refine⟨.ref (s.heap.objs.size+1),IT H (s.heap.objs.size+1) (.lst (j.map λq=>V.ref q.1)),?_,by show Value.ref _=_;rw[<-g],q _ _ hn y F⟩;refine I.laid (t':=s.toks) (λb o i=>k b o (t b o i)) (EO _) ⟨?_,v.toList,e,by rw[O];exact zGl j,by simpa using G⟩;rw[AB,y.length_eq];rw[AB]at L;exact L
theorem Oj(K:VN)(a:X.A.units+64<cLine)(b:X.K=K:=by rfl):K3 X (.builtin "sorted") (Yu K):=by subst b;exact Hu a
def Ol(v d:A3):HO:=.ext λh=>h.IsValuesView v d
def Itv(d:A3)(o:Obj)(a:A1 (JH×V)):It :=
 ⟨λi H=>H d=some (.frz o (.dK a))/\i<a.length,λi H x b=>b=H/\∃k,a[i]?=some (k,x),λi H=>H d=some (.frz o (.dK a))/\a.length<=i⟩
def KV.atV{c:A1 (JH×V)}{vs:A1 (JH×A2)}(h:KV c vs):∀{i:Nat} {k:JH} {v:V},c[i]?=some (k,v)->∃u,vs[i]?=some (k,u)/\RelV v u:=by
 induction h with
 | nil=>intro i k v e;rw[List.getElem?_nil]at e;cases e
 | cons r _ d =>
  intro i k v e;cases i with
  | zero =>
   rw[HY]at e⊢;cases e;obtain⟨a,b⟩:=r;exact⟨_,by rw[show k=_ from a],b⟩
  | succ i=>exact d e
section
variable{X:Cx}{tg:IW}
def zHp(d:TE):TE:=λσ H Q=>d σ H λx b=>∃a c,x = .ref a/\b a=some (.dK c)/\∀v,b v=none->Q (.ref v) (IT b v (Ol v a))
theorem Tz{o:IW}{c d:Pos}{m:TE}(t:PE X o m)(f:attributeBase o "values" X.env (eval o X.env)=eval o X.env:=by rfl)(g:(c.endLine == d.line)=true:=by rfl):PE X (.Call (.Attribute o "values" c) [] [] d) (zHp m):=by
 intro i s σ H Q I h;refine wpAny_Call_method0_late f g (JN (t i s σ H _ I h) λv n ⟨x,u,j,y,a,l,A,p,B⟩=>?_);subst A;obtain rfl:v=Value.ref a:=y;obtain⟨z,C,D,E,q⟩:=Yk j.hok p;obtain⟨G,J,_⟩:=zEn j (.inl ⟨l,.inl p⟩);refine⟨"dict", "dict.values",PySem.F.plainAttrs_dict,PySem.F.slot_dict_values,PySem.F.type_dict_values,G,J,Calls.callWith_builtin rfl (PySem.evalArgs_none ?_)⟩;refine call_meetsIn PySem.F.slot_dict_values q.typeIs PySem.F.entry_dict_values (PySem.F.args_dict_values_1 _) (meets_dict_values (D0 X.prog X.w) a C) ⟨⟨D,q⟩,?_⟩;exact⟨.ref n.heap.objs.size,IT u _ (Ol _ a),j.laid (t':=n.toks) (λb o K=>AD _ K) (VQ _) ⟨⟨_,AO _ rfl,rfl,rfl⟩,⟨_,AO _ rfl⟩,λL M ⟨o,e,r⟩ k=>⟨o,k o e,r⟩⟩,rfl,B _ j.fresh⟩
theorem Qt{P:A7}{w:F8}{K:VN}{d g:A3}{o:Obj}{a:A1 (JH×V)}{B:CM DictEntry}{ep:Nat}(q:o.data = .dict B ep):MV P w K tg (Itv d o a) [g] g (λi h=>h.IsValIter g d i a.length ep) where
 mem:=by simp
 obj:=λi h st b j=>by
  have e:b=g:=by simpa using j
  subst e;obtain⟨o,e,c,d⟩:=st;exact⟨o,e,λv z=>by rw[d]at z;cases z⟩
 keep:=λi h t st k=>by
  obtain⟨o,e,r⟩:=st;exact⟨o,k g (by simp) o e,r⟩
 item:=by
  intro X C D F Z i f s σ H E I x st G;subst C D F;obtain⟨J,y⟩:=G;obtain⟨L,M,f2,N,O,Q⟩:=x g (by simp);obtain⟨m,hz,hS,R,r,ob,S,T,n,U,p,Y⟩:=(show JB X.prog X.w H s.heap d (.frz o (.dK a))from I.hok d _ J);rw[m]at n;cases n;rw[q]at p;cases p;have hx:a[i]?=some (a[i].1,a[i].2):=AC y;obtain⟨u,hu,ru⟩:=r.atV hx;have A:a.length=R.length:=r.length;rw[A]at st;refine wpAny_pyNext_values_item (knd:=D0 X.prog X.w) st ⟨o,B,m,U,q,Y⟩ hu λt l sb=>?_;have I1:Inv X f σ H { s with heap:=t }:=I.turned (t':=s.toks) (λb o j e=>(sb.2 b j).trans e) L M N O Q;obtain⟨oi,ei,ci,di⟩:=id l;rw[<-A]at l;exact⟨u,rfl,Qk (s:={ s with heap:=t }) ei ci di (by decide) ⟨a[i].2,H,I1,ru,⟨rfl,_,hx⟩,l,λb j=>(x b j).1⟩⟩
 done:=by
  intro X C D F Z i f s σ H E I x st G;subst C D F;obtain⟨J,y⟩:=G;obtain⟨L,M,f2,N,O,Q⟩:=x g (by simp);obtain⟨m,hz,hS,R,r,ob,S,T,n,U,p,Y⟩:=(show JB X.prog X.w H s.heap d (.frz o (.dK a))from I.hok d _ J);rw[m]at n;cases n;rw[q]at p;cases p;have A:a.length=R.length:=r.length;rw[A]at st y;exact wpAny_pyNext_values_end (knd:=D0 X.prog X.w) (I.ok.hd Z) st ⟨o,B,m,U,q,Y⟩ (EG y) λt eb=>⟨rfl,I.turned (t':=s.toks) (λb o j e=>eb b o j e) L M N O Q⟩
 self:=λ_ _ _ _ _ st h=>wpAny_pyIter_valiter st h
def zKm(c:TE):TI:=λσ H R=>c σ H λx b=>∃v d a,x = .ref v/\b v=some (Ol v d)/\b d=some (.dK a)/\∀o,R (Itv d o a) (IT b d (.frz o (.dK a)))
theorem zGm{l:IW}{t:TE}(j:PE X l t):PI X tg l (zKm t):=by
 intro c s σ H R I h;refine JN (j c s σ H _ I h) λv s1 ⟨x,g,k,D,E⟩=>?_;obtain⟨m,d,a,e,F,y,q⟩:=E;subst e;cases D;obtain⟨f,_⟩:=(show JB X.prog X.w g s1.heap m (Ol m d)from k.hok m _ F);obtain⟨G,J,z,r,o,A,ep,i,B,n,C⟩:=(show JB X.prog X.w g s1.heap d (.dK a)from k.hok d _ y);have p:Inv X c σ (IT g d (.frz o (.dK a))) { s1 with heap:=s1.heap,toks:=s1.toks }:=k.write (t':=s1.toks) (by rw[y];trivial) (.inl rfl) (λb u _ e=>e) ⟨_,i⟩ ⟨i,G,J,z,r,o,A,ep,i,B,n,C⟩;have j:a.length=z.length:=r.length;refine wpAny_pyIter_values (knd:=D0 X.prog X.w) (ep:=ep) f ⟨o,A,i,B,n,C⟩ ?_;refine⟨s1.heap.objs.size,[s1.heap.objs.size],_,_,IT g d (.frz o (.dK a)),rfl,p.kept (t':=s1.toks) λb o e=>AD _ e,Qt n,?_,λb K=>?_,q o⟩
 .rw[j];exact⟨_,AO _ rfl,rfl,rfl⟩
 have e:b=s1.heap.objs.size:=by simpa using K
 subst e;exact p.fpOk (VQ _) (p.hok.fresh (VQ _))
theorem Bo(ns:A1 Int):∀{n:Nat},n<=ns.length->preSum (λi=>ns.getD i 0) n =(ns.take n).sum
 | 0,_=>rfl
 | n+1,h=>by
  have e:ns[n]?=some ns[n]:=AC (by lia);show preSum (λi=>ns.getD i 0) n+ns.getD n 0=_;rw[Bo ns (by lia),List.take_succ,List.sum_append,AU,e];simp
def zHx:A1 V->Hp->VK->Prop:=λc H Q=>∃(v d:A3) (a:A1 (JH×V)) (b:A1 Int),c = [.ref v]/\H v=some (Ol v d)/\H d=some (.dK a)/\(a.map λq=>q.2)=b.map V.int/\Q (.int b.sum) H
theorem zBx(F:X.calm=true:=by rfl):K3 X (.builtin "sum") zHx:=by
 intro p s σ H N O Q I r h;obtain⟨v,d,a,c,rfl,G,J,x,q⟩:=h;obtain⟨u,rfl,j⟩:=W5 r;cases j;obtain⟨f,_⟩:=(show JB X.prog X.w H s.heap v (Ol v d)from I.hok v _ G);obtain⟨P,R,g,r,o,y,ep,m,z,A,B⟩:=(show JB X.prog X.w H s.heap d (.dK a)from I.hok d _ J);have S:a.length=g.length:=r.length;have K:a.length=c.length:=by have:=congrArg List.length x;rw[AB,AB]at this;exact this
 refine call_sum_walkG (wpAny_pyIter_values (knd:=D0 X.prog X.w) (ep:=ep) f ⟨o,y,m,z,A,B⟩ ?_);have n:d≠s.heap.objs.size:=AV (AH m);refine⟨s.heap.objs.size,_,_,g.length,_,_,λi=>c.getD i 0,rfl,Walks.dictValues (knd:=D0 X.prog X.w) (by simp only[Around.in1_handled];exact I.ok.hd F) s.heap.objs.size d n g ep,⟨⟨_,AO _ rfl,rfl,rfl⟩,o,y,AD _ m,z,A,B⟩,λb hb=>?_,λi u ⟨k,C⟩=>?_,λT L t' M=>⟨.int c.sum,H,I.kept (t':=L) λb o e=>M b o (by simpa using AV (AH e)) (AD _ e),⟨t',?_⟩,q⟩⟩
 .rw[DF];rcases AK.mp hb with rfl | hb
  .exact FC _
  .rw[AG.mp hb];exact DT (AH m)
 .have U:i<g.length:=(AE.mp C).1;have D:a[i]?=some (a[i].1,a[i].2):=AC (by lia);obtain⟨W,E,j⟩:=r.atV D;rw[C]at E;cases E;have e:=congrArg (λl=>l[i]?) x;rw[AI,AI,D,AC (by lia:i<c.length)]at e;have e:a[i].2=V.int c[i]:=BJ e;rw[e]at j;obtain⟨t,rfl⟩:=j;exact⟨t,by show Value.int c[i] t=Value.int (c.getD i 0) t;rw[AU,AC (by lia:i<c.length)];rfl⟩
 .have:preSum (λi=>c.getD i 0) g.length=c.sum:=by
   rw[Bo _ (by lia),DL (by lia)]
  rw[this]
end
theorem zIb:PIp X .BitOr (ipI λi j=>Builtin.bitOr i j):=by
 intro a s σ H x y v u Q I b c h;obtain⟨i,j,d,e,q⟩:=h;subst d;subst e;obtain⟨t,rfl⟩:=b;obtain⟨f,rfl⟩:=c;exact ior_int ⟨.int _,H,I.tok _,⟨_,rfl⟩,q⟩
section
variable{X:Cx}{tg:IW}
def zIr(c:TE):TI:=λσ H R=>c σ H λx b=>∃d a,x = .ref d/\Rd b d (.dK a)/\∀o,R (Itd d o a) (IT b d (.frz o (.dK a)))
theorem Wy{H:Hp}{d:A3}{o:HO}(h:H d=some o):IT H d o=H:=funext λb=>by
 by_cases e:b=d
 .subst e;rw[A9,h]
 .rw[B6 e]
theorem zAj{l:IW}{D:TE}(B:PE X l D):PI X tg l (zIr D):=by
 intro i s σ H R I h;refine JN (B i s σ H _ I h) λv s1 ⟨x,z,A,E,F⟩=>?_;obtain⟨d,a,e,j,q⟩:=F;subst e;cases E;obtain⟨o,C,t,m,c,r,f,ep,g,n,k,p⟩:∃o,Inv X i σ (IT z d (.frz o (.dK a))) { s1 with heap:=s1.heap,toks:=s1.toks }/\a.length<=sizeLine/\(d == sysModules)=false/\∃c,KV a c/\∃f ep,s1.heap.get? d=some o/\o.ExactDict/\o.data = .dict f ep/\(PySem.KeysOf (D0 X.prog X.w) f/\Pairs (D0 X.prog X.w) f.toList c/\(c.map (·.1)).Nodup):=by
  rcases j with j | ⟨o,j⟩
  .obtain⟨t,m,c,r,o,f,ep,g,n,k,p⟩:=(show JB X.prog X.w z s1.heap d (.dK a)from A.hok d _ j);exact⟨o,A.write (t':=s1.toks) (by rw[j];trivial) (.inl rfl) (λb u _ e=>e) ⟨_,g⟩ ⟨g,t,m,c,r,o,f,ep,g,n,k,p⟩,t,m,c,r,f,ep,g,n,k,p⟩
  .obtain⟨g,t,m,c,r,J,f,ep,y,n,k,p⟩:=(show JB X.prog X.w z s1.heap d (.frz o (.dK a))from A.hok d _ j);rw[g]at y;cases y;exact⟨o,by rw[Wy j];exact A,t,m,c,r,f,ep,g,n,k,p⟩
 have B:a.length=c.length:=r.length;refine wpAny_pyIter_dict (knd:=D0 X.prog X.w) (ep:=ep) m ⟨o,f,g,n,k,p⟩ ?_;refine⟨s1.heap.objs.size,[s1.heap.objs.size],_,_,IT z d (.frz o (.dK a)),rfl,C.kept (t':=s1.toks) λb o e=>AD _ e,Ux k,?_,λb G=>?_,q o⟩
 .rw[B];exact⟨_,AO _ rfl,rfl,rfl⟩
 have e:b=s1.heap.objs.size:=by simpa using G
 subst e;exact C.fpOk (VQ _) (C.hok.fresh (VQ _))
end
def t6{a b:A3}{n:Nat}(h1:a<n)(h2:n<=b):b≠a:=λz=>by subst z;exact absurd h2 (Nat.not_le_of_lt h1)
section
variable{fs ex:A1 A3}{H:Hp}{h h':IU}{a:A3}
theorem NE.table{P:A7}{w:F8}{f g:CM A2}(i:NE P w H h)(j:H a=some (.tbl f))(k:∀b u,b≠a->h.get? b=some u->h'.get? b=some u)(l:h'.get? a=some { cls:=.none,data:=.fields g }):NE P w (IT H a (.tbl g)) h':=λb u q=>by
 by_cases d:b=a
 .subst d;rw[A9]at q;cases q;exact l
 .rw[B6 d]at q;have n:∀c o,H c=some o->o≠ .tbl f->c≠a:=λc o e m z=>by rw[z,j]at e;cases e;exact m rfl
  refine(i b u q).stay (λc v hc r=>k c v ?_ r) (λc r=>by rw[B6 (n c _ r (by intro z;cases z))];exact r) λc p r=>by rw[B6 (n c _ r (by intro z;cases z))];exact r
  rcases hc with rfl | hc
  .exact d
  .exact n c _ hc (by intro z;cases z)
end
section
variable{P:A7}{w:F8}{fs ex:A1 A3}{H H':Hp}{h h':IU}{a:A3}{o:HO}
theorem Un.more{p:A3}{g more:CM A2}(c:H p=some (.tbl g))(d:H' p=some (.tbl (g++more)))(a:∀b o,H b=some o->b≠p->H' b=some o)(f:∀b,b<h.objs.size->H b=none->H' b=none)
  (k:∀b u,b≠p->h.get? b=some u->h'.get? b=some u) (j:∃u,h'.get? p=some u):Un fs ex H H' h h':=by
 have i:∀b,H b=none->b≠p:=λb n e=>by rw[e,c]at n;cases n
 refine⟨λb u q n _ _=>k b u (i b n) q,λb u q n _ _=>⟨u.slots,k b u (i b n) q⟩,λb u q n _=>f b (AH q) n,λb u q _=>?_,λb l q=>a b _ q λe=>?_,λb o u q=>a b _ q λe=>?_,λb m q=>?_⟩
 .by_cases e:b=p
  .subst e;exact j
  .exact⟨u,k b u e q⟩
 .rw[e,c]at q;cases q
 .rw[e,c]at q;cases q
 .by_cases e:b=p
  .subst e;rw[c]at q;cases q;exact⟨more,d⟩
  .exact⟨#[],by rw[a b _ q e];simp⟩
theorem NE.track(x:NE P w H h)(f:H a=none)(d:JB P w (IT H a o) h a o):NE P w (IT H a o) h:=λb u e=>by
 by_cases g:b=a
 .subst g;rw[A9]at e;cases e;exact d
 .rw[B6 g]at e;exact(x b u e).stay (λc v _ q=>q) (λc q=>by rw[B6 (B2 q f)];exact q) λc i q=>by rw[B6 (B2 q f)];exact q
end
def Le(c:A3)(q:Str):HO:=.ext λh=>h.CodeRec (.ref c) q
def OW(f c:A3)(q:Str)(a:Arguments)(b:IW)(d:JX)(cl:A1 (Str×A3)):HO:=.ext λh=>∃e g,h.get? f=some (PySem.W.kla_obj "<lambda>" q a b d cl e c g)
def Le.ok{P:A7}{w:F8}{H:Hp}{h:IU}{c:A3}{q:Str}(r:h.CodeRec (.ref c) q):JB P w H h c (Le c q):=by
 have g:=r;obtain⟨i,o,b,t,e,a,d,f⟩:=r;cases e;refine⟨g,⟨o,a⟩,λl m j k=>?_⟩;obtain⟨i,o,b,t,e,a,d,f⟩:=j;cases e;exact⟨c,o,b,t,rfl,k o a,d,f⟩
def OW.ok{P:A7}{w:F8}{H:Hp}{h:IU}{f c:A3}{q:Str}{d:Arguments}{b:IW}{g:JX}{cl:A1 (Str×A3)}{a ct:A2}(r:h.get? f=some (PySem.W.kla_obj "<lambda>" q d b g cl a c ct)):JB P w H h f (OW f c q d b g cl) :=
 ⟨⟨a,ct,r⟩,⟨_,r⟩,λi j ⟨a,ct,e⟩ k=>⟨a,ct,k _ e⟩⟩
def P9(cells:A1 (Str×A3)):A1 (Str×KQ)->A1 (Str×A3)->A1 (Str×A3)
 | [],a=>a
 | (n,k)::r,a=>P9 cells r (if(k == NameKind.free)=true then(n,(cells.lookup n).getD 0)::a else a)
def p9{b:JX}{a:RM}(h:∀x∈b.names,x.2 = .free->(a.cells.lookup x.1).isSome=true):closureFor b a=pure (P9 a.cells b.names []):=by
 have g:∀(l:A1 (Str×KQ)) (f:A1 (Str×A3)),(∀x∈l,x.2 = .free->(a.cells.lookup x.1).isSome=true) ->
   (forIn (m:=Sem) l f λx i=>match x with
    | (name,j)=>if(j == NameKind.free)=true then do
      let d <-cellOf a name
      pure (ForInStep.yield ((name,d)::i))
     else pure (ForInStep.yield i))=pure (P9 a.cells l f):=by
  intro l
  induction l with
  | nil=>intro f _;rfl
  | cons x r s =>
   obtain⟨n,k⟩:=x;intro f o;rw[FO];by_cases e:(k == NameKind.free)=true
   .have u:k = .free:=eq_of_beq e;obtain⟨c,t⟩:=FF.mp (o (n,k) (BN ..) u);have p:cellOf a n=pure c:=by
     unfold cellOf;rw[show List.lookup n a.cells=some c from t]
    simp only[e,FE,p,pure_bind];rw[s _ λy q=>o y (BG _ q)];show _=pure (P9 a.cells r (if(k == NameKind.free)=true then(n,(a.cells.lookup n).getD 0)::f else f));rw[AQ e,show List.lookup n a.cells=some c from t];rfl
   .simp only[e,AY,CT,pure_bind];rw[s _ λy q=>o y (BG _ q)];show _=pure (P9 a.cells r (if(k == NameKind.free)=true then(n,(a.cells.lookup n).getD 0)::f else f));rw[AN e]
 unfold closureFor;simp only[g b.names [] h,pure_bind]
def Cj{pos q:Pos}{c:A2}:∀(l:A1 A2),TriplesOk l->¬(pos.line=q.line/\pos.col=q.col)->codeAmong q (l ++ [rawInt pos.line,rawInt pos.col,c])=codeAmong q l
 | [],_,n=>by
  show(if((pos.line:Int) ==(q.line:Int) &&(pos.col:Int) ==(q.col:Int))=true then some c else none)=none;rw[AN];intro z;rw[BL,beq_iff_eq,beq_iff_eq]at z;exact n ⟨by lia,by lia⟩
 | .int a _ :: .int b _::x::r,h,n=>by
  show(if(a ==(q.line:Int)&&b ==(q.col:Int))=true then some x else codeAmong q (r ++ [rawInt pos.line,rawInt pos.col,c]))=if(a ==(q.line:Int)&&b ==(q.col:Int))=true then some x else codeAmong q r
  rw[Cj r h n]
def O9(H:Hp)(P:A3)(ls:A1 (Pos×Str)):Prop:=∃a,H P=some (.tbl a)/\TriplesOk a.toList/\∀l∈ls,codeAmong l.1 a.toList=none\/∃c,codeAmong l.1 a.toList=some (.ref c)/\H c=some (Le c l.2)
structure TabAt(K:VN)(mg:Str->A5 A2)(c P:A3):Prop where
 hd:∀h:IU,K.In h->PySem.W.CodeHd h c P
 ne:mainGlobals≠P
def zKn(P:A3)(ls:A1 (Pos×Str))(cl:A1 (Str×A3))(q:Str)(e:Arguments)(b:IW)(g:JX):TE:=λ_ H Q=>O9 H P ls/\∀f c d,H f=none->O9 d P ls->d c=some (Le c q)->d f=some (OW f c q e b g cl)->f≠P->(∀a o,H a=some o->a≠P->d a=some o)->Q (.ref f) d
theorem zEc{args:Arguments}{f:IW}{a:JX}{pos:Pos}{c P:A3}{ls:A1 (Pos×Str)}(T:TabAt X.K X.mg c P)(U:X.base.BuiltinsAt X.mg P)(V:X.env.code = .ref c)(hd1:args.defaults = [])(hd2:args.kw_defaults = [])
  (r:∀x∈a.names,x.2 = .free->X.env.scope.names.lookup x.1=some .cell) (hl:(pos,X.env.qual ++ "<lambda>")∈ls) (hu:∀l∈ls,∀l'∈ls,l.1.line=l'.1.line->l.1.col=l'.1.col->l=l') :
  PE X (.Lambda args f a pos) (zKn P ls (P9 X.env.cells a.names []) (X.env.qual ++ "<lambda>") args f a):=by
 intro pins s σ H Q I h;obtain⟨⟨A,C,D,B⟩,q⟩:=h;have E:defaultsOf args X.env =([],[]):=by
  cases args;cases hd1;cases hd2;rfl
 rw[arm_eval_Lambda,E];refine AA (AF (AA (BS (AF ?_))));have v:s.heap.get? P=some (PySem.W.tabObj A):=I.hok P _ C;have r:∀x∈a.names,x.2 = .free->(X.env.cells.lookup x.1).isSome=true:=λx hx e=>by
  obtain⟨c,V⟩:=I.ok.has x.1 (.inl (r x hx e));rw[V];rfl
 have F:s.heap.Ns mainGlobals X.mg:=I.mod.glob.keeps I.bk;have U:s.heap.BuiltinsAt X.mg P:=let⟨bm,o,h1,Y,h3,h4,h5,h6⟩:=U;⟨bm,o,h1,Y,h3,h4,I.bk _ _ h5,h6⟩;rcases B _ hl with e | ⟨d,e,hc'⟩
 .refine PySem.W.kla_makeFunction (p9 r) I.ok.glob F V (T.hd _ I.kIn) v D e T.ne U λd m g tk xb le Z cr eP=>?_;have w:P<s.heap.objs.size:=AH v;have G:d≠P:=t6 w le;have p:g.objs.size≠P:=t6 w (VR le (DU Z));have J:g.objs.size≠d:=t6 Z (VQ _);have L:H d=none:=I.hok.fresh le;have j:H g.objs.size=none:=I.hok.fresh (VR le (DU Z));have eO:(g.push (PySem.W.kla_obj "<lambda>" (X.env.qual ++ "<lambda>") args f a (P9 X.env.cells a.names []) ((X.mg "__name__").getD .none) d m)).get? g.objs.size=some (PySem.W.kla_obj "<lambda>" (X.env.qual ++ "<lambda>") args f a (P9 X.env.cells a.names []) ((X.mg "__name__").getD .none) d m):=AO _ rfl;have kk:∀b u,g.get? b=some u->(g.push (PySem.W.kla_obj "<lambda>" (X.env.qual ++ "<lambda>") args f a (P9 X.env.cells a.names []) ((X.mg "__name__").getD .none) d m)).get? b=some u:=λb u e=>AD _ e;generalize g.push (PySem.W.kla_obj "<lambda>" (X.env.qual ++ "<lambda>") args f a (P9 X.env.cells a.names []) ((X.mg "__name__").getD .none) d m)=Y at eO kk⊢;have k:∀b u,b≠P->s.heap.get? b=some u->Y.get? b=some u:=λb u n e=>kk b u (xb b u n e);have cr2:Y.CodeRec (.ref d) (X.env.qual ++ "<lambda>"):=by
   obtain⟨c1,o,vs,t,e1,ho,hd,hv⟩:=cr;exact⟨c1,o,vs,t,e1,kk _ _ ho,hd,hv⟩
  have M:=kk _ _ eP;have u1:IT H P (.tbl (A ++ #[rawInt pos.line,rawInt pos.col,.ref d])) d=none:=by rw[B6 G];exact L
  have u2:IT (IT H P (.tbl (A ++ #[rawInt pos.line,rawInt pos.col,.ref d]))) d (Le d (X.env.qual ++ "<lambda>")) g.objs.size=none:=by rw[B6 J,B6 p];exact j
  have N:=((I.hok.table C k M).track u1 (Le.ok cr2)).track u2 (OW.ok eO);have O:IT (IT (IT H P (.tbl (A ++ #[rawInt pos.line,rawInt pos.col,.ref d]))) d (Le d (X.env.qual ++ "<lambda>"))) g.objs.size (OW g.objs.size d (X.env.qual ++ "<lambda>") args f a (P9 X.env.cells a.names [])) P=some (.tbl (A ++ #[rawInt pos.line,rawInt pos.col,.ref d])):=by rw[B6 p.symm,B6 G.symm,A9]
  have R:IT (IT (IT H P (.tbl (A ++ #[rawInt pos.line,rawInt pos.col,.ref d]))) d (Le d (X.env.qual ++ "<lambda>"))) g.objs.size (OW g.objs.size d (X.env.qual ++ "<lambda>") args f a (P9 X.env.cells a.names [])) d=some (Le d (X.env.qual ++ "<lambda>")):=by rw[B6 J.symm,A9]
  have i:∀b o,H b=some o->b≠P->IT (IT (IT H P (.tbl (A ++ #[rawInt pos.line,rawInt pos.col,.ref d]))) d (Le d (X.env.qual ++ "<lambda>"))) g.objs.size (OW g.objs.size d (X.env.qual ++ "<lambda>") args f a (P9 X.env.cells a.names [])) b=some o:=λb o e n=>by
   rw[B6 (B2 e j),B6 (B2 e L),B6 n];exact e
  refine⟨.ref g.objs.size,_,I.un (Un.more C O i (λb lb n=>?_) k ⟨_,M⟩) N,rfl,q _ d _ j ⟨_,O,?_,λl ml=>?_⟩ R A9 p i⟩
  .rw[B6 (t6 lb (VR le (DU Z))).symm,B6 (t6 lb le).symm,B6 (by intro z;rw[z,C]at n;cases n)];exact n
  .rw[BR];exact TriplesOk_snoc _ _ _ _ D
  .rw[BR];by_cases el:l =(pos,X.env.qual ++ "<lambda>")
   .subst el;exact .inr ⟨d,codeAmong_snoc _ D e,R⟩
   .have ne:¬(pos.line=l.1.line/\pos.col=l.1.col):=λz=>el (hu l ml _ hl z.1.symm z.2.symm);rw[show(#[rawInt pos.line,rawInt pos.col,Value.ref d]:CM A2).toList = [rawInt pos.line,rawInt pos.col,Value.ref d]from rfl,Cj _ D ne];rcases B l ml with z | ⟨cc,z,S⟩
    .exact .inl z
    .exact .inr ⟨cc,z,i _ _ S λy=>by rw[y,C]at S;cases S⟩
 .refine PySem.W.kla_makeFunctionHit (p9 r) I.ok.glob F V (T.hd _ I.kIn) v D e U λm g tk k le=>?_;have w:P<s.heap.objs.size:=AH v;have p:g.objs.size≠P:=t6 w le;have j:H g.objs.size=none:=I.hok.fresh le;have i:∀b o,H b=some o->IT H g.objs.size (OW g.objs.size d (X.env.qual ++ "<lambda>") args f a (P9 X.env.cells a.names [])) b=some o:=λb o e=>by rw[B6 (B2 e j)];exact e
  refine⟨.ref g.objs.size,_,I.laid (t':=tk) (λb u e=>AD _ (k b u e)) le (OW.ok (AO _ rfl)),rfl,q _ d _ j ⟨A,i _ _ C,D,λl ml=>?_⟩ (i _ _ hc') A9 p λb o e _=>i b o e⟩;rcases B l ml with z | ⟨cc,z,S⟩
  .exact .inl z
  .exact .inr ⟨cc,z,i _ _ S⟩
structure OQ(X:Cx)(base':IU)(σ:St):Prop where
 val:∀(i:Nat) (x:Str) (v:V) (c:A3),X.N[i]?=some x->σ[i]?=some (some v)->X.env.scope.names.lookup x=some .cell->X.env.cells.lookup x=some c->∃u,RelV v u/\base'.IsCell c (some u)
 inj:∀x y c,X.env.cells.lookup x=some c->X.env.cells.lookup y=some c->x=y
 has:∀x,X.env.scope.names.lookup x=some .cell->∃c,X.env.cells.lookup x=some c
def Ch(X:Cx)(h:IU):IU:=Vu h λb=>open Classical in if(X.base.get? b).isSome=true\/∃x,X.fn x=true/\X.env.cells.lookup x=some b then none else some (.own 0)
theorem Jg{h:IU}{b:A3}{o:Obj}(e:h.get? b=some o)(p:(X.base.get? b).isSome=true\/∃x,X.fn x=true/\X.env.cells.lookup x=some b):(Ch X h).get? b=some o:=At e (by rw[AQ p])
theorem Oe{h:IU}{b:A3}{o:Obj}(e:(Ch X h).get? b=some o):h.get? b=some o/\((X.base.get? b).isSome=true\/∃x,X.fn x=true/\X.env.cells.lookup x=some b):=by
 obtain⟨c,a⟩:=Ss e;refine⟨c,FX λz=>?_⟩;rw[AN z]at a;cases a
variable{pins:A1 (A3×Obj)}{σ:St}{H:Hp}{s:A4}
theorem Inv.wbs(I:Inv X pins σ H s){b:A3}{o:Obj}(e:X.base.get? b=some o):(Ch X s.heap).get? b=some o:=Jg (I.bk b o e) (.inl (by rw[e];rfl))
theorem Inv.wmod(I:Inv X pins σ H s):Mod X.K X.mg (Ch X s.heap):=by
 obtain⟨c,a,⟨g,h,d⟩,f⟩:=I.ok.mod;exact⟨c.keeps λb o e=>I.wbs e,a.keeps λb o e=>I.wbs e,⟨g,h.keeps λb o e=>I.wbs e,d⟩,f.keeps λb o e=>I.wbs e⟩
theorem Inv.cell_nofs(I:Inv X pins σ H s){x:Str}{c:A3}(a:X.fn x=true)(e:X.env.cells.lookup x=some c):c∉RA X.stack:=λz=>by
 rcases AK.mp (I.stkSub c z)with y | y
 .exact I.cne x c e y
 .obtain⟨_,o,b,_⟩:=I.ok.funs.mem y;exact absurd (AH b) (Nat.not_lt_of_le (I.ok.cab x c a e))
theorem Inv.wfuns(I:Inv X pins σ H s):s.heap.FunFrames (Ch X s.heap) X.stack:=by
 have a:∀l:A1 RM,(∀b∈RA l,b∈RA X.stack)->s.heap.FunFrames X.base l->s.heap.FunFrames (Ch X s.heap) l:=by
  intro l
  induction l with
  | nil=>intro _ _;trivial
  | cons e r f =>
   intro d g;obtain⟨i,⟨L,o,c,j,k,m⟩,n⟩:=g;have p:L∈RA X.stack:=d L (by unfold RA;rw[EY,c];exact BN);refine⟨i,⟨L,o,c,?_,k,m⟩,f (λb t=>d b (by unfold RA;rw[EY,c];exact BG _ t)) n⟩;cases q:(Ch X s.heap).get? L with
   | none=>rfl
   | some u =>
    rcases(Oe q).2 with z | ⟨x,z,y⟩
    .rw[j]at z;cases z
    .exact absurd p (I.cell_nofs z y)
 exact a X.stack (λ_ h=>h) I.stack
theorem Inv.wenv(I:Inv X pins σ H s):QR X.prog X.w X.K X.mg (Ch X s.heap) X.A X.stack s H:=by
 refine⟨I.ok.frames,I.wmod,λb o e=>?_,ID (Gh _ _),I.wfuns,I.stkFree,I.hok,I.bare⟩;obtain⟨a,c⟩:=Oe e;refine⟨a,?_⟩;rcases c with z | ⟨x,_,y⟩
 .obtain⟨u,d⟩:=FF.mp z;exact(I.bs b u d).2
 .exact I.freeC x b y
theorem Inv.wcells(I:Inv X pins σ H s)(e:∀x,X.fn x=true):OQ X (Ch X s.heap) σ:=by
 refine⟨λi x v c f g a b=>?_,I.ok.inj,λx h=>I.ok.has x (.inl h)⟩;obtain⟨m,_,h⟩:=I.loc;obtain⟨u,r,l⟩:=h i x v f g (.inr (.inl a));refine⟨u,r,?_⟩;rcases l with⟨z,_⟩ | ⟨_,n,d,o,j,k⟩
 .rw[show X.env.kindOf x=some .cell from a]at z;cases z
 .rw[b]at d;cases d;exact⟨o,Jg j (.inr ⟨x,e x,b⟩),k⟩
end
structure OP(N ps fr:A1 Str)(sc:JX):Prop where
 kind:sc.kind = .function
 co:sc.isCoroutine=false
 gen:sc.isGenerator=false
 eq:N=ps++fr
 nd:N.Nodup
 par:∀x∈ps,sc.names.lookup x=some .local
 fre:∀x∈fr,sc.names.lookup x=some .free
 nocell:∀y∈sc.names,y.2≠ .cell
 has:∀y∈sc.names,y.2 = .free->y.1∈fr
def Qm(P:A7)(w:F8)(K:VN)(mg:Str->A5 A2)(base:IU)(N:A1 Str)(b:Str)(a:JX)(f:A3)(c:A2)(cl:A1 (Str×A3))(A:IY)(outer:A1 RM)(s:A4)(H:Hp):Cx where
 prog:=P
 w:=w
 K:=K
 mg:=mg
 base:=base
 A:=A.deeper (PySem.W.envX b a s.heap.objs.size f c cl)
 N:=N
 s₀:=s
 H₀:=H
 env:=PySem.W.envX b a s.heap.objs.size f c cl
 outer:=outer
 stack:=PySem.W.envX b a s.heap.objs.size f c cl::outer
 ex:=[]
 calm:=true
 fn:=λ_=>false
 pn:=[]
 xe:=λ_ _=>False
def Dy{us:A1 A2}:∀{a:A1 Str} {us:A1 A2} {i:Nat} {x:Str} {u:A2},a.Nodup->a[i]?=some x->us[i]?=some u->(a.zip us).reverse.lookup x=some u
 | [],_,_,_,_,_,h,_=>by simp at h
 | _::_,[],_,_,_,_,_,h=>by simp at h
 | p::a,w::us,0,x,u,d,b,c=>by
  simp at b c;subst b c;rw[GT,List.reverse_cons,List.lookup_append];have:(a.zip us).reverse.lookup p=none:=by
   rw[List.lookup_eq_none_iff];intro q f;have:=(FZ (List.mem_reverse.mp f)).1;simp;intro e;exact(DC.mp d).1 (e▸this)
  rw[this];simp
 | p::a,w::us,i+1,x,u,d,b,c=>by
  rw[GT,List.reverse_cons,List.lookup_append,Dy (us:=us) (DC.mp d).2 (by simpa using b) (by simpa using c)];rfl
section
variable{P:A7}{w:F8}{K:VN}{mg:Str->A5 A2}{base:IU}{N ps fr:A1 Str}{qual:Str}{scope:JX}{f c:A3}{cl:A1 (Str×A3)}{A:IY}{outer:A1 RM}{s:A4}{H:Hp}
structure RJ(base:IU)(cl:A1 (Str×A3))(fr:A1 Str)(gs:A1 V):Prop where
 len:gs.length=fr.length
 val:∀(i:Nat) (x:Str) (v:V),fr[i]?=some x->gs[i]?=some v->∃c u,cl.lookup x=some c/\RelV v u/\base.IsCell c (some u)
 only:∀x c,cl.lookup x=some c->x∈fr
 inj:∀x y c,cl.lookup x=some c->cl.lookup y=some c->x=y
theorem zCx{us:A1 A2}{vs gs:A1 V}{h':IU}{J:Nat}(S:OP N ps fr scope)(C:RJ base cl fr gs)(g:A.handled=none)(a:QR P w K mg base A outer s H)(G:vs.length=ps.length)(r:I_ vs us)
  (ns:h'.Ns s.heap.objs.size λx=>(ps.zip us).reverse.lookup x) (k:∀b o,s.heap.get? b=some o->h'.get? b=some o) :
  Inv (Qm P w K mg base N qual scope f (.ref c) cl A outer s H) [] (vs.map some++gs.map some) H { s with heap:=h',toks:=J }:=by
 have j:∀x d,cl.lookup x=some d->∃u o,base.get? d=some o/\o.data = .cell (some u):=λx d e=>by
  obtain⟨i,q⟩:=CV.mp (C.only x d e);have t:i<gs.length:=by rw[C.len];exact(AE.mp q).1
  obtain⟨I,u,B,_,o,m,g⟩:=C.val i x gs[i] q (AC t);rw[e]at B;cases B;exact⟨u,o,m,g⟩
 have n:∀b:A3,b∉(Qm P w K mg base N qual scope f (.ref c) cl A outer s H).ex:=λb z=>absurd (show b∈([]:A1 A3)from z) (by simp);refine⟨⟨a.mod,S.kind,rfl,rfl,VQ _,C.inj,λy hy=>?_,λy d z _=>?_,λ_=>g,Around.frames_deeper a.frames,.inr ⟨rfl,rfl⟩,λb z=>absurd z (n b),a.bs,a.bsz,λb _ _=>n b,λb z=>absurd z (n b),a.funs,a.frf⟩,
  rfl,a.bare,Un.kept k,⟨_,ns,λi y v l D T=>?_⟩,λy d h=>?_,a.hok.fresh (VQ _),λy d h=>?_,λp L=>absurd (show p∈([]:A1 (A3×Obj))from L) (by simp),a.hok.kept k,?_⟩
 .have hy:scope.names.lookup y=some .cell\/scope.names.lookup y=some .free:=hy;rcases hy with hy | hy
  .exact absurd rfl (S.nocell _ (PySem.mem_of_lookup hy))
  .obtain⟨i,q⟩:=CV.mp (S.has _ (PySem.mem_of_lookup hy) rfl);have t:i<gs.length:=by rw[C.len];exact(AE.mp q).1
   obtain⟨I,_,B,_⟩:=C.val i y gs[i] q (AC t);exact⟨I,B⟩
 .cases(show false=true from z)
 .have l:(ps++fr)[i]?=some y:=by rw[<-S.eq];exact l
  have M:(ps++fr).Nodup:=by rw[<-S.eq];exact S.nd
  by_cases t:i<vs.length
  .rw[DI (by rw[AB];exact t),AI]at D;rw[DI (by lia)]at l;obtain⟨O,E,e⟩:=BC.mp D;cases e;obtain⟨u,Q,F⟩:=r.get E;exact⟨u,F,.inl ⟨S.par y (AM l),Dy (us:=us) (EF.mp M).1 l Q⟩⟩
  .rw[DE (by rw[AB];lia),AI,AB]at D;rw[DE (by lia)]at l;obtain⟨O,E,e⟩:=BC.mp D;cases e;rw[G]at E;obtain⟨d,u,R,F,o,m,g⟩:=C.val _ y v l E;exact⟨u,F,.inr ⟨.inr (S.fre y (AM l)),d,R,o,k _ _ (a.bs _ _ m).1,g⟩⟩
 .obtain⟨u,o,m,g⟩:=j y d h;exact⟨_,o,k _ _ (a.bs _ _ m).1,g⟩
 .obtain⟨u,o,m,g⟩:=j y d h;exact(a.bs _ _ m).2
 .show _=N.length;rw[S.eq,AW,AB,AB,AW,G,C.len]
theorem zGe{args:Arguments}{a:IW}{k:Nat}{gs:A1 V}{sp:Sp}{L ct:A2}(S:OP N ps fr scope)(C:RJ base cl fr gs)(i:∀vs H Q E,sp vs H Q E->vs.length=ps.length)
  (l:∀vs H Q E,sp vs H Q E->H f=some (OW f c qual args a scope cl)/\H c=some (Le c qual))
  (d:∀(A:IY) (outer:A1 RM) (s:A4) (H:Hp) (vs:A1 V) (Q:VK) (E:XK),JY k (A.deeper (PySem.W.envX qual scope s.heap.objs.size f (.ref c) cl))->sp vs H Q E ->
   ∃t,PE (Qm P w K mg base N qual scope f (.ref c) cl A outer s H) a t/\t (vs.map some++gs.map some) H Q) :
  IZ P w K mg base JK (k+1) f (PySem.W.kla_fn "<lambda>" qual args a scope cl L (.ref c) ct) ps sp:=by
 refine⟨i,λA outer s H g m vs Q E p j M r h=>?_⟩;have O:=i _ _ _ _ h;obtain⟨R,T⟩:=l _ _ _ _ h;obtain⟨⟨q,x,U⟩,_⟩:=(show JB P w H s.heap f (OW f c qual args a scope cl)from j.hok f _ R);obtain⟨X,_⟩:=(show JB P w H s.heap c (Le c qual)from j.hok c _ T);have z:s.heap.NoLimit:=j.mod.nolimit.keeps λb o e=>(j.bs b o e).1;have Y:∀y∈ps.zip m,scope.names.lookup y.1=some .local:=λ⟨n,v⟩ Z=>S.par n (FZ Z).1;have B:BindsTo s (PySem.W.kla_fn "<lambda>" qual args a scope cl q (.ref c) x) g (ps.zip m):=M;refine PySem.W.kla_callFunE p.depth U rfl S.co S.gen rfl X (B _ _ _ _ ?_);refine wpAny_newFunctionEnv S.nocell Y (λF ns sb=>?_) S.kind;have G:∀b o,s.heap.get? b=some o->F.get? b=some o:=λb o e=>by
  rw[sb.2 b (AV (AH e))];exact AD _ e
 refine⟨z.keeps G,PySem.W.kla_codeExpr ?_⟩;obtain⟨t,ht,hq⟩:=d A outer s H vs Q E (p.deeper _) h;have I:Inv (Qm P w K mg base N qual scope f (.ref c) cl A outer s H) [] (vs.map some++gs.map some) H { s with heap:=F,toks:=s.toks +(ps.zip m).length }:=zCx S C p.hd j O r ns G;refine CI (ht [] _ _ H Q I hq) (λu s' D=>?_) λe s' D=>D.elim;obtain⟨v,H',J,rv,qv⟩:=D;exact⟨v,H',J.os,J.bare,J.base,J.hok,rv,qv⟩
theorem Mu{cells:A1 (Str×A3)}:∀{names:A1 (Str×KQ)} {cs:A1 (Str×A3)} {x:Str} {c:A3},(P9 cells names cs).lookup x=some c->((x,NameKind.free)∈names/\c =(cells.lookup x).getD 0)\/cs.lookup x=some c
 | [],_,_,_,h=>.inr h
 | (n,k)::r,cs,x,c,h=>by
  rcases Mu (names:=r) h with⟨z,e⟩ | z
  .exact .inl ⟨BG _ z,e⟩
  .by_cases f:(k == NameKind.free)=true
   .rw[AQ f]at z;by_cases e:x=n
    .subst e;rw[List.lookup_cons_self]at z;cases z;exact .inl ⟨by rw[eq_of_beq f];exact BN ..,rfl⟩
    .rw[IL,show(x == n)=false from by simpa using e]at z;exact .inr z
   .rw[AN f]at z;exact .inr z
theorem Oq{cells:A1 (Str×A3)}{x:Str}:∀{names:A1 (Str×KQ)} {cs:A1 (Str×A3)},(x,NameKind.free)∈names\/(∃c,cs.lookup x=some c)->∃c,(P9 cells names cs).lookup x=some c
 | [],_,h=>h.resolve_left (by simp)
 | (n,k)::r,cs,h=>by
  refine Oq (names:=r) ?_;by_cases e:x=n
  .by_cases f:(k == NameKind.free)=true
   .subst e;exact .inr ⟨_,by rw[AQ f,List.lookup_cons_self]⟩
   .rw[AN f];rcases h with z | z
    .rcases AK.mp z with y | y
     .cases y;exact absurd rfl f
     .exact .inl y
    .exact .inr z
  .rcases h with z | ⟨c,z⟩
   .rcases AK.mp z with y | y
    .cases y;exact absurd rfl e
    .exact .inl y
   .refine .inr ⟨c,?_⟩;by_cases f:(k == NameKind.free)=true
    .rw[AQ f,IL,show(x == n)=false from by simpa using e];exact z
    .rw[AN f];exact z
theorem OQ.clos{X:Cx}{a:IU}{σ:St}{fr:A1 Str}{gs:A1 V}{names:A1 (Str×KQ)}(h:OQ X a σ)(n:∀y∈names,y.2=NameKind.free->y.1∈fr)(o:∀x∈fr,(x,NameKind.free)∈names)(g:∀x∈fr,X.env.scope.names.lookup x=some .cell)(f:gs.length=fr.length)
  (p:∀(i:Nat) (x:Str) (v:V),fr[i]?=some x->gs[i]?=some v->∃j:Nat,X.N[j]?=some x/\σ[j]?=some (some v)):RJ a (P9 X.env.cells names []) fr gs:=by
 have b:∀{x c},(P9 X.env.cells names []).lookup x=some c->x∈fr/\X.env.cells.lookup x=some c:=fun{x c} e=>by
  rcases Mu e with⟨z,y⟩ | z
  .have m:=n _ z rfl;obtain⟨d,k⟩:=h.has x (g x m);rw[k]at y;rw[k,y];exact⟨m,rfl⟩
  .cases z
 refine⟨f,λi x v l q=>?_,λx c e=>(b e).1,λx y c s t=>h.inj x y c (b s).2 (b t).2⟩;have m:=AM l;obtain⟨c,e⟩:=Oq (cells:=X.env.cells) (cs:=[]) (.inl (o x m));obtain⟨j,w,A⟩:=p i x v l q;obtain⟨u,r,B⟩:=h.val j x v c w A (g x m) (b e).2;exact⟨c,u,e,r,B⟩
end
def QT.okC{P:A7}{w:F8}{K:VN}{mg:Str->A5 A2}{base:IU}{x b:Str}{st:JD}{f:A3}{e:JC}{N g:A1 Str}{k:Nat}{sp:Sp}(F:QT K x b st f e)(S:IR N g (B7 st))(i:∀vs H Q E,sp vs H Q E->vs.length=g.length)
  (d:∀(c:A2) (A:IY) (a:A1 RM) (s:A4) (H:Hp) (vs:A1 V) (Q:VK) (E:XK),e.code=c->JY k (A.deeper (envOfC b (B7 st) s.heap.objs.size f c))->sp vs H Q E ->
   ∃t,RL (Vz JK P w K mg base N b (B7 st) f c A a s H E).nox (P2 st) t/\t { nx:=λ_ H'=>Q .non H',rt:=Q } (Bz N vs) H):IZ P w K mg base JK (k+1) f e g sp:=by
 obtain⟨p,r,kV,m,u,v,c,y,n,rfl,lk,j⟩:=F.ex;refine zGb lk j S i λA a s H vs Q E o l=>?_;obtain⟨t,h,q⟩:=d c A a s H vs Q E rfl o l;exact⟨t,h.nox,q⟩
def Tu{P:A7}{w:F8}{K:VN}{mg N:Str->A5 A2}{k:Nat}{fa a:A3}{fd:JC}{x:Str}{sp:Sp}{d4:A4}{vs:A1 A2}{ns:A1 Int}{ts:A1 A3}
  (f:∀p∈ts,d4.heap.get? p=some (PySem.W.tabObj #[])) (O:∀p∈ts,isCodeTable d4.heap p) (Q:∀p∈ts,d4.heap.BuiltinsAt mg p) (t:∀p∈ts,K.lookup p=none)
  (KX:K.In d4.heap) (y:d4.heap.Ns mainGlobals mg) (R:d4.heap.Ns builtinsNs N) (S:∀x:Str,x≠ "__name__"->N x=bootBuiltins x) (A:d4.heap.NoLimit) (hg:d4.gens = #[])
  (l:d4.heap.get? a=some { cls:=.type "list",data:=.seq vs.toArray }) (hi:IntsAre vs ns) (hl:ns.length<=sizeLine) (hr:JY k callerA)
  (F:∀base:IU,K.In base->base.Ns mainGlobals mg->(∀p∈ts,base.BuiltinsAt mg p)->IZ P w K mg base JK k fa fd [x] sp) (j:∀(s:A4) (u:A2),BindsTo s fd ⟨[u],[]⟩ [(x,u)])
  (T:∀H:Hp,(∀p∈ts,H p=some (.tbl #[]))->IV K H a (ns.map V.int)->sp [.ref a] H (λv _=>v = .bl true) λ_ _ _=>False) :
  codeAny (model P w) callerA (.call (.ref fa) ⟨[.ref a],[]⟩) (λr B=>r = .ok (.ret (.bool true))/\OldK d4.heap B.heap/\B.os=d4.os/\AllBare B.gens) d4:=by
 have rv:=Jh hi;have U:a∉ts:=λz=>by
  have:=f a z;rw[l]at this;cases this
 obtain⟨H,hT,hS,X,ok,hK⟩:∃H:Hp,(∀p∈ts,H p=some (.tbl #[]))/\IV K H a (ns.map V.int)/\(∀b o,H b=some o->(b∈ts/\o = .tbl #[])\/(b=a/\∃Y xs,o = .frz Y (.lst xs)))/\NE P w H d4.heap/\∀b,H b≠none->K.lookup b=none:=by
  cases Z:K.lookup a with
  | some o =>
   have e:=KX a o Z;rw[l]at e;cases e;refine⟨λb=>if b∈ts then some (.tbl #[])else none,λp n=>AQ n,.inr ⟨_,vs.toArray,_,Z,rfl,rfl,rfl,by rw[AL,hi.length];exact hl,by simpa using rv⟩,λb o e=>?_,λb o e=>?_,λb e=>?_⟩
   .dsimp only at e;by_cases c:b∈ts
    .rw[AQ c]at e;cases e;exact .inl ⟨c,rfl⟩
    .rw[AN c]at e;cases e
   .dsimp only at e;by_cases c:b∈ts
    .rw[AQ c]at e;cases e;exact f b c
    .rw[AN c]at e;cases e
   .by_cases c:b∈ts
    .exact t b c
    .exact absurd (AN c) e
  | none =>
   refine⟨λb=>if b=a then some (.frz { cls:=.type "list",data:=.seq vs.toArray } (.lst (ns.map V.int)))else if b∈ts then some (.tbl #[])else none,λp n=>?_,.inl (.inr ⟨{ cls:=.type "list",data:=.seq vs.toArray },AQ rfl⟩),λb o e=>?_,λb o e=>?_,λb e=>?_⟩
   .show(if p=a then _ else if p∈ts then _ else _)=_;have np:p≠a:=λz=>U (z▸n);rw[AN np,AQ n]
   .dsimp only at e;by_cases d:b=a
    .rw[AQ d]at e;cases e;exact .inr ⟨d,_,_,rfl⟩
    .rw[AN d]at e;by_cases c:b∈ts
     .rw[AQ c]at e;cases e;exact .inl ⟨c,rfl⟩
     .rw[AN c]at e;cases e
   .dsimp only at e;by_cases d:b=a
    .rw[AQ d]at e;cases e;subst d;exact⟨l,by rw[AB];exact hl,vs,_,rv,l⟩
    .rw[AN d]at e;by_cases c:b∈ts
     .rw[AQ c]at e;cases e;exact f b c
     .rw[AN c]at e;cases e
   .by_cases d:b=a
    .rw[d];exact Z
    .by_cases c:b∈ts
     .exact t b c
     .exact absurd ((AN d).trans (AN c)) e
 have nod:∀{b:A3} {o:Obj} {I:CM DictEntry} {J:Nat},d4.heap.get? b=some o->o.data = .dict I J->H b=none:=fun{b o I J} e d=>by
  cases q:H b with
  | none=>rfl
  | some u =>
   rcases X b u q with⟨z,_⟩ | ⟨z,_⟩
   .rw[f b z]at e;cases e;cases d
   .rw[z,l]at e;cases e;cases d
 have g:∀{b:A3} {m:Str->A5 A2},d4.heap.Ns b m->(Vu d4.heap H).Ns b m:=fun{b m} ⟨o,I,J,e,d,r⟩=>⟨o,I,J,At e (nod e d),d,r⟩;have hBb:∀p∈ts,(Vu d4.heap H).BuiltinsAt mg p:=λp n=>by
  obtain⟨L,o,h1,h2,h3,h4,C,h6,h7,h8⟩:=Q p n;refine⟨L,o,h1,h2,h3,h4,At C ?_,h6,h7,h8⟩;cases q:H L with
  | none=>rfl
  | some u =>
   rcases X L u q with⟨z,_⟩ | ⟨z,_⟩
   .rw[f L z]at C;cases C;cases h8
   .rw[z,l]at C;cases C;cases h8
 have D:K.In (Vu d4.heap H):=λb o e=>At (KX b o e) (by
  cases q:H b with
  | none=>rfl
  | some u=>rw[hK b (by rw[q];simp)]at e;cases e)
 have hM:Mod K mg (Vu d4.heap H):=⟨D,g y,⟨N,g R,S⟩,let⟨mc,h1,h2⟩:=A;⟨mc,g h1,h2⟩⟩;have e0:QR P w K mg (Vu d4.heap H) callerA [] d4 H:=⟨rfl,hM,λb o e=>Ss e,ID (Gh _ _),trivial,λb R=>absurd (show b∈([]:A1 A3)from R) (by simp),ok,.of_eq hg⟩;refine codeAny_mono ((F _ D (g y) hBb).run callerA [] d4 H ⟨[.ref a],[]⟩ [.ref a] [.ref a] _ _ hr e0 (j d4 (.ref a)) (.cons rfl .nil) (T H hT hS)) λr B h=>?_;cases r with
 | error e=>exact h.elim
 | ok fl =>
  cases fl with
  | next=>exact VO h
  | brk=>exact VO h
  | cont=>exact VO h
  | ret u =>
   obtain⟨v,H',os,E,M,G,r',q⟩:=h;have q':v = .bl true:=q;subst q';obtain rfl:u=Value.bool true:=r';refine⟨rfl,⟨λb o e=>?_,λb o e=>M.there b o e (by simp)⟩,os,E⟩;cases q:H b with
   | none=>exact .inl (M.keep b o e q (λz=>absurd (show b∈([]:A1 A3)from z) (by simp)) (by simp))
   | some u =>
    rcases X b u q with⟨z,rfl⟩ | ⟨_,Y,xs,rfl⟩
    .obtain⟨i,em⟩:=M.tbls b _ q;have e2:B.heap.get? b=some { cls:=.none,data:=.fields (#[]++i) }:=G b _ em;rw[f b z]at e;cases e;exact .inr (.inl ⟨O b z,rfl,#[],i,rfl,e2⟩)
    .obtain⟨e1,_⟩:=ok b _ q;obtain⟨e2,_⟩:=G b _ (M.frzs b Y _ q);rw[e]at e1;cases e1;exact .inl e2
def R_{l:PySem.W.OpenLaw}{n k:Nat}{q:A7}{e:A1 Str}{O:(Str->A5 A2)->IU->Prop}{t:F8->IU->Prop}{d:DefRec}{K:Params->VN}{sp:F8->Sp}{x:Str}{ts:A1 A3}
  (P:l.most=some n) (y:n<=sizeLine) (A:d.params.defaults = []) (Q:JY k callerA) (R:∀(w:F8) (h:IU),t w h->(K w.params).In h) (j:∀(w:F8) (h:IU),t w h->∀p∈ts,h.get? p=some (PySem.W.tabObj #[]))
  (F:∀(w:F8) (mg:Str->A5 A2) (r:A3) (h:IU),(K w.params).In h->h.Ns mainGlobals mg->mg d.name=some (.ref r) ->
   (∀p∈ts,isCodeTable h p)/\(∀p∈ts,(K w.params).lookup p=none)/\∃B:JC,(∀(s:A4) (u:A2),BindsTo s B ⟨[u],[]⟩ [(x,u)]) /\
    ∀base:IU,(K w.params).In base->base.Ns mainGlobals mg->(∀p∈ts,base.BuiltinsAt mg p)->IZ l.prog w (K w.params) mg base JK k r B [x] (sp w))
  (C:∀(w:F8) (H:Hp) (a:A3) (ns:A1 Int),ns.length<=n->(∀p∈ts,H p=some (.tbl #[]))->IV (K w.params) H a (ns.map V.int)->sp w [.ref a] H (λv _=>v = .bl true) λ_ _ _=>False) :
  PySem.W.WalkO q e O t l.row.toRowW d [] (λf vs=>PySem.call f vs):=by
 refine Att.RC P A λw s₀ d4 mg mb r o pm cd S a vs ns G Y ho hd U D m i c X=>?_;have L:=R w _ Y;obtain⟨Z,h2,B,hb,hF⟩:=F w mg r _ L G.T.g D;have E:∀p∈ts,d4.heap.BuiltinsAt mg p:=λp hp=>by
  obtain⟨bm,o,b1,b2,I,b4,b5,J⟩:=G.T.bmain;refine⟨bm,o,b1,b2,λz=>?_,λz=>?_,I,b4,b5,J⟩
  .obtain⟨o',es,ep,M,N,_⟩:=G.T.g;rw[<-z,I]at M;cases M;rw[J]at N;cases N
  .have:=j w _ Y p hp;rw[<-z,I]at this;cases this;cases J
 exact Tu (j w _ Y) Z E h2 L G.T.g G.T.b G.T.builtins G.T.nolimit X m i (VR c y) Q hF hb λH hO hS=>C w H a ns c hO hS
section
variable{prog:A7}{w:F8}{A:IY}{s:A4}{I:A3}{fp wr:A1 A3}{n:Nat}{P:Nat->A2->Prop}{St:Nat->IU->Prop}{R:Result->A4->Prop}
theorem Hq{id:String}{b:Builtin}{args:A1 A2}{d:A1 (Str×A2)}{Q E:A2->A4->Prop}(k:builtinKind id=none)(l:plainId id=true)(m:entryFor table id=some b)(n:argsOk id ⟨args,d⟩)
  (i:wpAny (model prog w) A.in1 (b ⟨args,d⟩) (λfin a=>match fin with
   | .done f=>(match(Except.ok f:Result)with | .ok (.ret v)=>Q v a | .ok _=>False | .error e=>E e a)
   | .again j=>j.quiet=true/\codeAny (model prog w) A j (λr a=>match r with | .ok (.ret v)=>Q v a | .ok _=>False | .error e=>E e a) a) E s) :
  wpAny (model prog w) A (call (.builtin id) args d) Q E s:=by
 refine wpAny_call (codeAny_call_builtin l m ?_);simp only[checkBuiltinCall,k];cases c:Manifest.signature? id with
 | none=>exact AF i
 | some g =>
  have h:Bind.checkArgs id g ⟨args,d⟩=pure ():=by simpa only[argsOk,c] using n
  simp only[h];exact AF i
end
def Cx.i1(X:Cx):Cx:={ X with A:=X.A.in1,xe:=λ_ _=>False }
section
variable{X:Cx}{pins:A1 (A3×Obj)}{σ:St}{H:Hp}{s:A4}
theorem Cx.Ok.i1(a:X.Ok):X.i1.Ok :=
 ⟨a.mod,a.kind,a.glob,a.blt,a.above,a.inj,a.has,a.cab,a.hd,a.frames,a.stk,a.exf,a.bs,a.bsz,a.noex,a.exfs,a.funs,a.frf⟩
theorem Cx.Ok.o1(a:X.i1.Ok):X.Ok :=
 ⟨a.mod,a.kind,a.glob,a.blt,a.above,a.inj,a.has,a.cab,a.hd,a.frames,a.stk,a.exf,a.bs,a.bsz,a.noex,a.exfs,a.funs,a.frf⟩
theorem Inv.i1(I:Inv X pins σ H s):Inv X.i1 pins σ H s:=⟨I.ok.i1,I.os,I.bare,I.base,I.loc,I.cell,I.free,I.freeC,I.pin,I.hok,I.len⟩
theorem Inv.o1(I:Inv X.i1 pins σ H s):Inv X pins σ H s:=⟨I.ok.o1,I.os,I.bare,I.base,I.loc,I.cell,I.free,I.freeC,I.pin,I.hok,I.len⟩
def PR(X:Cx)(pins:A1 (A3×Obj))(b:A3):Prop:=(b∈X.ex\/X.s₀.heap.objs.size<=b)/\(∀x c,X.env.cells.lookup x=some c->c≠b)/\∀p∈X.pn++pins,p.1≠b
theorem PR.turned{t':Nat}{a:A3}{h':IU}(o:PR X pins a)(I:Inv X pins σ H s)(c:H a=none)(d:a≠X.env.locals)(k:∀b o,b≠a->s.heap.get? b=some o->h'.get? b=some o):Inv X pins σ H { s with heap:=h',toks:=t' } :=
 I.turned k c d o.1 o.2.1 o.2.2
end
def Jk(a:Nat->A1 Int):Nat->Nat
 | 0=>0
 | n+1=>if HT.lexLt (a (n+1)) (a (Jk a n))=true then n+1 else Jk a n
def Sb(a:Nat->A1 Int):∀n,Jk a n<=n
 | 0=>VQ _
 | n+1=>by
  unfold Jk;split
  .exact VQ _
  .exact Nat.le_succ_of_le (Sb a n)
section
variable{X:Cx}{pins:A1 (A3×Obj)}{σ:St}{l I S f:A3}{cs:A1 A3}{xs:A1 V}{kf:Nat->A1 Int}{G:Hp->Prop}{R:Result->A4->Prop}
def zIs(X:Cx)(cs:A1 A3)(σ:St)(f:A3)(xs:A1 V)(kf:Nat->A1 Int)(G:Hp->Prop):Prop:=∀(j:Nat) (x:V) (u:A2) (pins:A1 (A3×Obj)) (s:A4) (H:Hp),xs[j]?=some x->RelV x u->Inv X pins σ H s->G H ->
 wpAny (model X.prog X.w) X.A (call (.ref f) [u]) (EP X pins σ λv b=>∃a,v = .ref a/\a∉cs/\Sm cs H b/\G b/\JL X.K b a ((kf j).map V.int)) X.xe s
theorem Ay{X:Cx}{pins:A1 (A3×Obj)}{σ:St}{H:Hp}{s:A4}{S I:A3}{a oI:Obj}(J:Inv X ((S,a) ::(I,oI)::pins) σ H s) :
  (s.heap.get? S=some a/\H S=none/\S≠X.env.locals/\S∉X.fs/\∀v,a.data≠ .cell v)/\(s.heap.get? I=some oI/\H I=none/\I≠X.env.locals/\I∉X.fs/\∀v,oI.data≠ .cell v)/\Inv X pins σ H s :=
 ⟨J.pin (S,a) (BO _ (.head _)),J.pin (I,oI) (BO _ (.tail _ (.head _))),J.pins_of λp b=>J.pin p (BO _ (.tail _ (.tail _ b)))⟩
theorem Wq{X:Cx}{pins:A1 (A3×Obj)}{σ:St}{H:Hp}{s:A4}{S I:A3}{a oI:Obj}(J:Inv X pins σ H s)(b:s.heap.get? S=some a/\H S=none/\S≠X.env.locals/\S∉X.fs/\∀v,a.data≠ .cell v)
  (c:s.heap.get? I=some oI/\H I=none/\I≠X.env.locals/\I∉X.fs/\∀v,oI.data≠ .cell v):Inv X ((S,a) ::(I,oI)::pins) σ H s:=J.pins_of λp hp=>by
 rcases AK.mp hp with rfl | hp
 .exact b
 rcases AK.mp hp with rfl | hp
 .exact c
 exact J.pin p (BO _ hp)
theorem Sq(hc:X.calm=true)(hu:X.A.units+1<cLine)(turn:zIs X.i1 cs σ f xs kf G)(hG:∀H,G H->IV X.K H l xs)(oI:PR X pins I)(oS:PR X pins S)(y:S≠I)(U:l≠I) :
  ∀(r j:Nat) (s:A4) (H:Hp) (P:A2) (b:A3) (c:Nat) (ob:Obj),xs.length-(j+1)=r->j+1<=xs.length->Inv X.i1 ((S,seqObj "list" #[P,.ref b] c) ::(I,ob)::pins) σ H s->s.heap.IsListIter I l (j+1) ->
   RelV (xs.getD (Jk kf j) .non) P->b∉cs->JL X.K H b ((kf (Jk kf j)).map V.int)->G H ->
   (∀u Q H',Inv X pins σ H' Q->RelV (xs.getD (Jk kf (xs.length-1)) .non) u->Sm cs H H'->G H'->R (.ok (.ret u)) Q) ->
   codeAny (model X.prog X.w) X.A (.builtin "min.loop" ⟨[.ref I,.ref f,.ref S],[]⟩) R s:=by
 have n:(toString "min" ++ toString ".loop":String) = "min.loop":=by decide
 intro r
 induction r with
 | zero =>
  intro j s H P b c ob hr hj J L rb nb x g hR;have ej:j=xs.length-1:=by lia
  obtain⟨D,E,Y⟩:=Ay J;obtain⟨m,rv,pl,hz⟩:=J.list (hG H g);have p:m.toArray.size=xs.length:=by rw[AL];exact rv.length.symm
  have W:=Walks.list (prog:=X.prog) (w:=X.w) (A:=X.A.in1) (show X.A.in1.handled=none from Y.o1.ok.hd hc) I l U m.toArray;refine F_ WB ?_;rw[Around.under_plainId VY _];show wpAny _ X.A.in1 (seqItems? (.ref S) >>= _) _ _ _;refine AA (CJ D.1 rfl ?_);show wpAny _ X.A.in1 (tryCatch (pyNext (.ref I)) _ >>= _) _ _ _;refine AA (GO (W.done _ _ _ ⟨by rw[p,show xs.length=j+1 by lia];exact L,pl.isList⟩ λh' M q=>?_));have J1:Inv X.i1 pins σ H { s with heap:=h',toks:=M }:=PR.turned (X:=X.i1) oI Y E.2.1 E.2.2.1 λb o x e=>q b o (by simpa using x) e;have hS':=q S _ (by simpa using y) D.1;show wpAny _ X.A.in1 (updateSeq S (λ_=>#[]) >>= _) _ _ _;refine AA ?_;refine GA hS' rfl (AA (GP (AF ?_)));refine hR P _ H (PR.turned (X:=X.i1) oS J1 D.2.1 D.2.2.1 λb o x e=>(CS _ _ (Ne.symm x)).trans e).o1 (by rw[<-ej];exact rb) (Sm.refl _ _) g
 | succ r ih =>
  intro j s H P b c ob hr hj J L rb nb x g hR;have B:j+1<xs.length:=by lia
  obtain⟨D,E,Y⟩:=Ay J;obtain⟨m,rv,pl,hz⟩:=J.list (hG H g);have p:m.toArray.size=xs.length:=by rw[AL];exact rv.length.symm
  have W:=Walks.list (prog:=X.prog) (w:=X.w) (A:=X.A.in1) (show X.A.in1.handled=none from Y.o1.ok.hd hc) I l U m.toArray;refine F_ WB ?_;rw[Around.under_plainId VY _];show wpAny _ X.A.in1 (seqItems? (.ref S) >>= _) _ _ _;refine AA (CJ D.1 rfl ?_);show wpAny _ X.A.in1 (tryCatch (pyNext (.ref I)) _ >>= _) _ _ _;refine AA (GO (W.item (j+1) _ _ _ (by rw[p];exact B) ⟨L,pl.isList⟩ λv h' M hP Z q=>?_));have hv:m[j+1]?=some v:=by simpa using hP
  have ex:xs[j+1]?=some xs[j+1]:=AC B;obtain⟨v',hv',rx⟩:=rv.get ex;rw[hv]at hv';cases hv';obtain⟨t,hob',hoc,N⟩:=id Z.1;have J1:Inv X.i1 pins σ H { s with heap:=h',toks:=M }:=PR.turned (X:=X.i1) oI Y E.2.1 E.2.2.1 λb o x e=>q b o (by simpa using x) e;have J2:=Wq J1 (S:=S) (I:=I) (oI:=t) ⟨q S _ (by simpa using y) D.1,D.2⟩ ⟨hob',E.2.1,E.2.2.1,E.2.2.2.1,λv z=>by rw[N]at z;cases z⟩;show wpAny _ X.A.in1 (tryCatch (holding [v] (call (.ref f) [v])) _ >>= _) _ _ _;refine AA (GO (BS (CI (turn (j+1) _ v _ _ _ ex rx J2 g) (λu2 s2 he=>?_) λ_ _ hF=>VO hF)));obtain⟨v2,H2,J3,r2,a,rfl,na,sm,g2,ha⟩:=he;cases r2;have hb2:JL X.K H2 b ((kf (Jk kf j)).map V.int):=x.imp (λh=>h.imp (λe=>sm _ _ e nb) λ⟨o,e⟩=>⟨o,sm _ _ e nb⟩) id;show wpAny _ X.A.in1 (tryCatch (holding [v,.ref a] (richCompare .Lt (.ref a) (.ref b) >>= _)) _ >>= _) _ _ _;refine AA (GO (BS (AA (CI (zGk (X:=X.i1) hu _ s2 σ H2 (.ref a) (.ref b) (.ref a) (.ref b) (λv H'=>v = .bl (HT.lexLt (kf (j+1)) (kf (Jk kf j)))/\H'=H2) J3 rfl rfl ⟨a,b,_,_,rfl,rfl,ha,hb2,rfl,rfl⟩) (λu3 s3 he=>?_) λ_ _ hF=>VO hF))));obtain⟨v3,H3,J4,r3,rfl,rfl⟩:=he;cases r3;refine AA (BS (DB ?_));refine AA (GP (AF ?_));obtain⟨d,C,J5⟩:=Ay J4;have T:Jk kf (j+1)=if HT.lexLt (kf (j+1)) (kf (Jk kf j))=true then j+1 else Jk kf j:=rfl
  cases hb':HT.lexLt (kf (j+1)) (kf (Jk kf j))with
  | true =>
   rw[hb',AQ rfl]at T;simp only[FE];refine AA ?_;refine GA d.1 rfl (AA (GP ?_));rw[n];have k:∀b o,b≠S->s3.heap.get? b=some o->(s3.heap.update S (Obj.mapSeq λ_=>#[v,.ref a])).get? b=some o:=λb o x e=>(CS _ _ (Ne.symm x)).trans e;have J6:=PR.turned (X:=X.i1) (t':=s3.toks) oS J5 d.2.1 d.2.2.1 k;obtain⟨c2,hc2⟩:∃c2,(s3.heap.update S (Obj.mapSeq λ_=>#[v,.ref a])).get? S=some (seqObj "list" #[v,.ref a] c2):=⟨_,get?_update_seq d.1 λ_=>#[v,.ref a]⟩;refine AF ⟨plainId_quiet VY _,ih (j+1) _ H3 v a c2 t (by lia) B (Wq J6 ⟨hc2,d.2.1,d.2.2.1,d.2.2.2.1,λv z=>by cases z⟩ ⟨k _ _ (Ne.symm y) C.1,C.2⟩) ⟨t,k _ _ (Ne.symm y) C.1,hoc,N⟩ ?_ na ?_ g2 λu Q H' i r' O g'=>hR u Q H' i r' (sm.trans O) g'⟩
   .rw[T,AU,ex];exact rx
   .rw[T];exact ha
  | false =>
   rw[hb',AN (by simp)]at T;simp only[AY,CT];refine AA (GP ?_);rw[n];refine AF ⟨plainId_quiet VY _,ih (j+1) _ H3 P b c t (by lia) B J4 ⟨t,C.1,hoc,N⟩ ?_ nb ?_ g2 λu Q H' i r' O g'=>hR u Q H' i r' (sm.trans O) g'⟩
   .rw[T];exact rb
   .rw[T];exact hb2
theorem Qs(a v:A2):argsOk "min" ⟨[a],[("key",v)]⟩:=by unfold argsOk;kernel_rfl
theorem Ui{H:Hp}{s:A4}{Q:VK}(hc:X.calm=true)(hu:X.A.units+1<cLine)(turn:zIs X.i1 cs σ f xs kf G)(hG:∀H,G H->IV X.K H l xs)(J:Inv X pins σ H s)(g:G H)(hx:xs≠[])
  (h:∀H',Sm cs H H'->G H'->Q (xs.getD (Jk kf (xs.length-1)) .non) H'):wpAny (model X.prog X.w) X.A (call (.builtin "min") [.ref l] [("key",.ref f)]) (EP X pins σ Q) X.xe s:=by
 have j:(toString "min" ++ toString ".loop":String) = "min.loop":=by decide
 obtain⟨n,rv,pl,hz⟩:=J.list (hG H g);have t:=pl.isList;obtain⟨ol,U,_⟩:=id t;have V:l<s.heap.objs.size:=AH U;have E:n.toArray.size=xs.length:=by rw[AL];exact rv.length.symm
 have m:0<xs.length:=List.length_pos_iff.mpr hx;refine Hq PySem.F.kind_min PySem.F.plain_min PySem.F.entry_min (Qs _ _) ?_;show wpAny _ X.A.in1 (Builtin.Builtins.bindParams "min" ["key","default"] 0 ⟨[],[("key",.ref f)]⟩ >>= _) _ _ s;refine AA (wpAny_of_eq (show Builtin.Builtins.bindParams "min" ["key","default"] 0 ⟨[],[("key",.ref f)]⟩=pure [some (.ref f),none]from rfl) ?_);refine AA (AF ?_);refine AA (GF t ?_);refine AA (GZ ?_ (CY _));rw[j];have hS:(s.heap.push { cls:=.type "list_iterator",data:=.fields #[.ref l,.int 0 0] }).objs.size=s.heap.objs.size+1:=DF ..;have d:(s.heap.push { cls:=.type "list_iterator",data:=.fields #[.ref l,.int 0 0] }).objs.size≠s.heap.objs.size:=by lia
 have x:l≠s.heap.objs.size:=AV V;have y:s.heap.objs.size<=(s.heap.push { cls:=.type "list_iterator",data:=.fields #[.ref l,.int 0 0] }).objs.size:=by lia
 have hle0:s.heap.objs.size<=s.heap.objs.size:=VQ _;generalize Y:(s.heap.push { cls:=.type "list_iterator",data:=.fields #[.ref l,.int 0 0] }).objs.size=S at d y⊢;obtain⟨I,Z⟩:∃I,s.heap.objs.size=I:=⟨_,rfl⟩;rw[Z]at d x;have p:s.heap.objs.size<=I:=by lia
 rw[show(Value.ref s.heap.objs.size)=Value.ref I by rw[Z]];refine AF ⟨plainId_quiet VY _,?_⟩;have kk:∀b o,s.heap.get? b=some o->((s.heap.push { cls:=.type "list_iterator",data:=.fields #[.ref l,.int 0 0] }).push (seqObj "list" #[] 0)).get? b=some o:=λb o e=>AD _ (AD _ e);have gI:((s.heap.push { cls:=.type "list_iterator",data:=.fields #[.ref l,.int 0 0] }).push (seqObj "list" #[] 0)).get? I=some { cls:=.type "list_iterator",data:=.fields #[.ref l,.int 0 0] } :=
  Z▸AD _ (AO _ rfl)
 have gS:((s.heap.push { cls:=.type "list_iterator",data:=.fields #[.ref l,.int 0 0] }).push (seqObj "list" #[] 0)).get? S=some (seqObj "list" #[] 0):=Y▸AO _ rfl;have q:=J.fpOk (H':=H) (b:=I) p (J.hok.fresh p);have D:=J.fpOk (H':=H) (b:=S) y (J.hok.fresh y);have oI:PR X pins I:=⟨q.2.2.2.1,q.2.2.2.2.1,q.2.2.2.2.2⟩;have oS:PR X pins S:=⟨D.2.2.2.1,D.2.2.2.2.1,D.2.2.2.2.2⟩;have W:=Walks.list (prog:=X.prog) (w:=X.w) (A:=X.A.in1) (show X.A.in1.handled=none from J.ok.hd hc) I l x n.toArray;have J0:=(J.kept (t':=s.toks) kk).i1;have L:((s.heap.push { cls:=.type "list_iterator",data:=.fields #[.ref l,.int 0 0] }).push (seqObj "list" #[] 0)).IsList l n.toArray:=by
  obtain⟨o,e,r⟩:=t;exact⟨o,kk _ _ e,r⟩
 refine F_ WB ?_;rw[Around.under_plainId VY _];show wpAny _ X.A.in1 (seqItems? (.ref S) >>= _) _ _ _;refine AA (CJ gS rfl ?_);show wpAny _ X.A.in1 (tryCatch (pyNext (.ref I)) _ >>= _) _ _ _;refine AA (GO (W.item 0 _ _ _ (by rw[E];exact m) ⟨⟨_,gI,rfl,rfl⟩,L⟩ λv h' tk' hP M N=>?_));have hv:n[0]?=some v:=by simpa using hP
 have ex:xs[0]?=some xs[0]:=AC m;obtain⟨v',O,rx⟩:=rv.get ex;rw[hv]at O;cases O;obtain⟨B,P,hoc,R⟩:=id M.1;have J1:=PR.turned (X:=X.i1) (h':=h') (t':=tk') oI J0 q.1 q.2.1 λb o hb e=>N b o (by simpa using hb) e;have J2:=Wq J1 (S:=S) (I:=I) (oI:=B) ⟨N S _ (by simpa using d) gS,D.1,D.2.1,D.2.2.1,λv z=>by cases z⟩ ⟨P,q.1,q.2.1,q.2.2.1,λv z=>by rw[R]at z;cases z⟩;show wpAny _ X.A.in1 (tryCatch (holding [v] (call (.ref f) [v])) _ >>= _) _ _ _;refine AA (GO (BS (CI (turn 0 _ v _ _ _ ex rx J2 g) (λu2 T he=>?_) λ_ _ hF=>VO hF)));obtain⟨v2,H2,J3,r2,a,rfl,na,sm,g2,ha⟩:=he;cases r2;obtain⟨c,C,J5⟩:=Ay J3;show wpAny _ X.A.in1 (updateSeq S (λ_=>#[v,.ref a]) >>= _) _ _ _;refine AA ?_;refine GA c.1 rfl ?_;rw[j];have k:∀b o,b≠S->T.heap.get? b=some o->(T.heap.update S (Obj.mapSeq λ_=>#[v,.ref a])).get? b=some o:=λb o hb e=>(CS _ _ (Ne.symm hb)).trans e;have J6:=PR.turned (X:=X.i1) (t':=T.toks) oS J5 c.2.1 c.2.2.1 k;obtain⟨c2,hc2⟩:∃c2,(T.heap.update S (Obj.mapSeq λ_=>#[v,.ref a])).get? S=some (seqObj "list" #[v,.ref a] c2):=⟨_,get?_update_seq c.1 λ_=>#[v,.ref a]⟩;refine AF ⟨plainId_quiet VY _,Sq hc hu turn hG oI oS d x _ 0 _ H2 v a c2 B rfl m (Wq J6 ⟨hc2,c.2.1,c.2.2.1,c.2.2.2.1,λv z=>by cases z⟩ ⟨k _ _ (Ne.symm d) C.1,C.2⟩) ⟨B,k _ _ (Ne.symm d) C.1,hoc,R⟩ ?_ na ha g2 λu s' H' i r' sm' g'=>⟨_,H',i,r',h H' (sm.trans sm') g'⟩⟩;show RelV (xs.getD 0 .non) v;rw[AU,ex];exact rx
end
def UE(X:Cx)(k:Nat)(cs:A1 A3)(σ:St)(f:A3)(xs:A1 V)(h:Nat->A1 Int)(G:Hp->Prop):Prop:=∀b:IU,OQ X b σ->X.K.In b->∃(d:JC) (e:A1 Str) (g:Sp),IZ X.prog X.w X.K X.mg b JK k f d e g/\Binds X.K d e [] /\
 ∀(j:Nat) (x:V) (H:Hp),xs[j]?=some x->G H->g [x] H (λv c=>∃a,v = .ref a/\a∉cs/\Sm cs H c/\G c/\JL X.K c a ((h j).map V.int)) E0
def zIi(X:Cx)(k:Nat)(h:TA)(i:TE):TE:=λσ H Q=>h σ H λj m=>i σ m λd c=>∃(l f:A3) (e:A1 A3) (a:A1 V) (g:Nat->A1 Int) (G:Hp->Prop),j = [.ref l]/\d = .ref f/\a≠[]/\G c/\(∀H,G H->IV X.K H l a)/\UE X k e σ f a g G /\
 ∀b,Sm e c b->G b->Q (a.getD (Jk g (a.length-1)) .non) b
section
variable{X:Cx}{k:Nat}{e ed:IW}{ta:TA}{td:TE}{p kp pos:Pos}
theorem UE.keyR{cs:A1 A3}{σ:St}{f:A3}{xs:A1 V}{l:Nat->A1 Int}{G:Hp->Prop}(h:UE X k cs σ f xs l G)(n:∀x,X.fn x=true)(d:JY (k+1) X.A):zIs X.i1 cs σ f xs l G:=by
 intro j x u m s H o p I g;have cs:OQ X.i1 (Ch X.i1 s.heap) σ:=I.wcells n;obtain⟨y,q,z,F,c,t⟩:=h (Ch X.i1 s.heap) ⟨cs.val,cs.inj,cs.has⟩ I.wmod.kin;have a:=t j x H o g;have r:I_ [x] [u]:=.cons p .nil;have v:[u].length=q.length:=by rw[<-r.length];exact F.len _ _ _ _ a
 have c:=c s [u] I.kIn (by rw[CD];exact v);rw[CD]at c;have i:JY k X.A.in1:=⟨d.hd,by have:=d.dp;show X.A.depth+3*k+5<_;lia,by have:=d.un;show X.A.units+1+16*k+200<_;lia⟩;refine wpAny_call (codeAny_mono (F.run X.A.in1 X.stack s H ⟨[u],[]⟩ [u] [x] _ E0 i I.wenv c r a) λr B b=>?_);cases r with
 | error e=>exact b.elim
 | ok w =>
  cases w with
  | ret u=>exact I.after b
  | next=>exact VO b
  | brk=>exact VO b
  | cont=>exact VO b
theorem zBi(d:∀x,X.fn x=true)(b:JY (k+1) X.A)(i:X.mg "min" = none)(j:PA X [e] ta)(m:PE X ed td)(n:X.calm=true:=by rfl)(o:Gl X "min":=by rfl)
  (c:starEach [e] X.env = [(false,eval e X.env)]:=by rfl):PE X (.Call (.Name "min" p) [e] [⟨some "key",ed,kp⟩] pos) (zIi X k ta td):=by
 intro a s σ H Q I h;refine EM (W9 I o i Ze ?_ (by decide) (by decide));refine callWith_kw (JN (j pos a s σ H _ I h) λL q ⟨M,r,t,v,w⟩=>kws_cons (JN (m a q σ r _ t w) λN O ⟨P,R,y,z,l,f,S,T,U,G,B,C,D,g,E,F,J⟩=>kws_nil ?_)) (by rw[c];rfl) (by rw[c];rfl);subst B C;obtain⟨u,rfl,K⟩:=W5 v;cases K;cases z;have:=b.un;exact Ui n (by lia) (F.keyR d b) E y g D J
end
section
variable{P:A7}{w:F8}{K:VN}{mg:Str->A5 A2}{base:IU}
theorem QT.o1{x a:Str}{st:JD}{f:A3}{i:JC}{N e:A1 Str}{k:Nat}{sp:Sp}(F:QT K x a st f i)(S:IR N e (B7 st))
  (b:∀(d:A2) (A:IY) (c:A1 RM) (s:A4) (H:Hp) (vs:A1 V) (Q:VK) (E:XK),JY k (A.deeper (envOfC a (B7 st) s.heap.objs.size f d))->sp vs H Q E ->
   ∃t,RL (Vz JK P w K mg base N a (B7 st) f d A c s H E).nox (P2 st) t/\t { nx:=λ_ H'=>Q .non H',rt:=Q } (Bz N vs) H) (g:∀vs H Q E,sp vs H Q E->vs.length=e.length:=by intro _ _ _ _ h;repeat first | (obtain⟨h,_⟩:=h;subst h;rfl) | (obtain⟨_,h⟩:=h)):IZ P w K mg base JK (k+1) f i e sp:=F.ok S g b
end
def QT.oC{P:A7}{w:F8}{K:VN}{mg:Str->A5 A2}{base:IU}{x a:Str}{st:JD}{f:A3}{e:JC}{N g:A1 Str}{k:Nat}{sp:Sp}(F:QT K x a st f e)(S:IR N g (B7 st))
  (b:∀(c:A2) (A:IY) (d:A1 RM) (s:A4) (H:Hp) (vs:A1 V) (Q:VK) (E:XK),e.code=c->JY k (A.deeper (envOfC a (B7 st) s.heap.objs.size f c))->sp vs H Q E ->
   ∃t,RL (Vz JK P w K mg base N a (B7 st) f c A d s H E).nox (P2 st) t/\t { nx:=λ_ H'=>Q .non H',rt:=Q } (Bz N vs) H) (i:∀vs H Q E,sp vs H Q E->vs.length=g.length:=by intro _ _ _ _ h;repeat first | (obtain⟨h,_⟩:=h;subst h;rfl) | (obtain⟨_,h⟩:=h)):IZ P w K mg base JK (k+1) f e g sp:=F.okC S i b
end L2
namespace TS
open PySem
section
variable{prog:A7}{w:F8}{A:IY}{E:A2->A4->Prop}{s:A4}
theorem Lf{a:A3}{Q:A5 Obj->A4->Prop}(h:Q (s.heap.get? a) s):wpAny (model prog w) A (loadIfAlive a) Q E s:=λΓ p _=>(Sem.wp_loadIfAlive (M:=model prog w) (Γ:=Γ) (a:=a) ..).mpr h
abbrev OX(h:IU)(z TI TO:A3)(a:A2)(b:Bool):Prop :=
 h.get? z=some { cls:=.type "zip",dict:=none,data:=.fields #[a,.bool b,.bool false,.ref TI,.ref TO],slots:=#[] }
theorem Mq{z TI TO T:A3}{b:Bool}{o:Obj}{Q:Bool->A4->Prop}(hz:OX s.heap z TI TO (rawInt T) b)(c:s.heap.get? T=some o)
  (a:∀h',OX h' z TI TO (rawInt T) true->Heap.SameBut z s.heap h'->Q false { s with heap:=h' }):wpAny (model prog w) A (Builtin.SmallTypes.ownedTupleIsFree (.ref z)) Q E s:=by
 unfold Builtin.SmallTypes.ownedTupleIsFree;refine AA (CC hz rfl (x:=rawInt T) rfl ?_);show wpAny _ _ (loadIfAlive T >>= _) _ _ _;refine AA (Lf ?_);rw[c];show wpAny _ _ (field (.ref z) 1 >>= _) _ _ _;refine AA (CC hz rfl (x:=.bool b) rfl ?_);cases b with
 | true=>exact AF (a s.heap hz ⟨rfl,λ_ _=>rfl⟩)
 | false =>
  show wpAny _ _ (setField (.ref z) 1 (.bool true) >>= _) _ _ _;refine AA (DN hz (by simp) λp0 hz₁ d₁=>?_);exact AF (a p0 hz₁ d₁)
theorem Tq{z TI TO d f i l2 T:A3}{b:Bool}{o:Obj}{j k:Nat}{xs p:CM A2}{x y:A2}{Q:A2->A4->Prop}(D:ZipApart z TI TO d f i l2)
  (hz:OX s.heap z TI TO (rawInt T) b) (r:s.heap.get? T=some o) (l:IsPair s.heap TI (.ref d) (.ref f))
  (h1:s.heap.IsListIter d i j) (h2:s.heap.IsListIter f l2 k) (m:s.heap.IsList i xs) (n:s.heap.IsList l2 p) (t:xs[j]?=some x) (u:p[k]?=some y)
  (B:∀h',OX h' z TI TO (rawInt T) true->h'.IsListIter d i (j+1)->h'.IsListIter f l2 (k+1)->IsPair h' s.heap.objs.size x y->h'.objs.size=s.heap.objs.size+1 ->
   (∀c o,c≠z->c≠d->c≠f->s.heap.get? c=some o->h'.get? c=some o)->Q (.ref s.heap.objs.size) { s with heap:=h' }) :
  wpAny (model prog w) A (Builtin.«zip.__next__» ⟨[.ref z],[]⟩) (λfin C=>∃v,fin = .done (.ret v)/\Q v C) E s:=by
 show wpAny _ _ (field (.ref z) 2 >>= _) _ _ _;refine AA (CC hz rfl (x:=.bool false) rfl ?_);show wpAny _ _ (field (.ref z) 3 >>= _) _ _ _;refine AA (CC hz rfl (x:=.ref TI) rfl ?_);refine AA (CJ l rfl ?_);show wpAny _ _ (Builtin.SmallTypes.ownedTupleIsFree (.ref z) >>= _) _ _ _;refine AA (Mq hz r λp0 hz₁ e9=>?_);show wpAny _ _ (forIn (#[Value.ref d,.ref f]) _ _ >>= _) _ _ _;refine AA ?_;simp only[<-HV,FO,List.forIn_nil];refine AA (AA (BS ?_));show wpAny _ _ (Builtin.SmallTypes.nextOf (.ref d) >>= _) _ _ _;refine AA (GU (h1.extBut e9.extBut D.i1z) (m.extBut e9.extBut D.l1z) t λp3 h1₂ f9=>AF (AF ?_));refine AA (AA (BS ?_));show wpAny _ _ (Builtin.SmallTypes.nextOf (.ref f) >>= _) _ _ _;refine AA (GU ((h2.extBut e9.extBut D.i2z).extBut f9.extBut D.i12.symm) ((n.extBut e9.extBut D.l2z).extBut f9.extBut D.l2i1) u λh9 h2₃ a₃=>AF (AF (AF ?_)));show wpAny _ _ (newTuple [x,y] >>= _) _ _ _;refine AA (EU ?_);have g:h9.objs.size=s.heap.objs.size:=by rw[a₃.1,f9.1,e9.1]
 refine AF ⟨_,rfl,?_⟩;show Q (.ref h9.objs.size) _;have F:∀c o,c≠z->c≠d->c≠f->s.heap.get? c=some o->(h9.push { cls:=.type "tuple",data:=.seq #[x,y] }).get? c=some o:=λc o G H I e=>AD _ (a₃.extBut _ _ I (f9.extBut _ _ H (e9.extBut _ _ G e)));have q:=B (h9.push { cls:=.type "tuple",data:=.seq #[x,y] }) (AD _ (a₃.extBut _ _ D.i2z.symm (f9.extBut _ _ D.i1z.symm hz₁)))
  (((h1₂.extBut a₃.extBut D.i12)).at λo e=>AD _ e) (h2₃.at λo e=>AD _ e) (by rw[<-g];exact AO _ rfl) (by rw[DF,g]) F
 rw[g];exact q
theorem Ev{z TI TO d f j l2 T:A3}{b:Bool}{o:Obj}{k l:Nat}{xs m:CM A2}{Q:PySem.Fin->A4->Prop}(v:A.handled=none)(D:ZipApart z TI TO d f j l2)
  (hz:OX s.heap z TI TO (rawInt T) b) (B:s.heap.get? T=some o) (n:IsPair s.heap TI (.ref d) (.ref f))
  (h1:s.heap.IsListIter d j k) (h2:s.heap.IsListIter f l2 l) (g:s.heap.IsList j xs) (p:s.heap.IsList l2 m) (i:xs[k]?=none\/m[l]?=none)
  (y:∀h' e,(∀c o,c≠z->c≠d->c≠f->s.heap.get? c=some o->h'.get? c=some o)->(∃o,h'.get? e=some o/\o.cls = .type "StopIteration")->E (.ref e) { s with heap:=h' }) :
  wpAny (model prog w) A (Builtin.«zip.__next__» ⟨[.ref z],[]⟩) Q E s:=by
 show wpAny _ _ (field (.ref z) 2 >>= _) _ _ _;refine AA (CC hz rfl (x:=.bool false) rfl ?_);show wpAny _ _ (field (.ref z) 3 >>= _) _ _ _;refine AA (CC hz rfl (x:=.ref TI) rfl ?_);refine AA (CJ n rfl ?_);show wpAny _ _ (Builtin.SmallTypes.ownedTupleIsFree (.ref z) >>= _) _ _ _;refine AA (Mq hz B λp0 hz₁ e9=>?_);show wpAny _ _ (forIn (#[Value.ref d,.ref f]) _ _ >>= _) _ _ _;refine AA ?_;simp only[<-HV,FO,List.forIn_nil];refine AA (AA (BS ?_));show wpAny _ _ (Builtin.SmallTypes.nextOf (.ref d) >>= _) _ _ _;cases q:xs[k]? with
 | none =>
  exact AA (wpAny_nextOf_list_end v (h1.extBut e9.extBut D.i1z) (g.extBut e9.extBut D.l1z) q λp3 e f9 r=>y p3 e (λc o t u _ x=>f9 _ _ u (e9.extBut _ _ t x)) r)
 | some x =>
  have C:m[l]?=none:=by rcases i with h | h;rw[q]at h;cases h;exact h
  refine AA (GU (h1.extBut e9.extBut D.i1z) (g.extBut e9.extBut D.l1z) q λp3 h1₂ f9=>AF (AF ?_));refine AA (AA (BS ?_));show wpAny _ _ (Builtin.SmallTypes.nextOf (.ref f) >>= _) _ _ _;exact AA (wpAny_nextOf_list_end v ((h2.extBut e9.extBut D.i2z).extBut f9.extBut D.i12.symm) ((p.extBut e9.extBut D.l2z).extBut f9.extBut D.l2i1) C λh9 e a₃ r=>y h9 e (λc o t u F x=>a₃ _ _ F (f9.extBut _ _ u (e9.extBut _ _ t x))) r)
structure TL(z TI TO i1 i2 l1 l2:A3)(xs ys:CM A2)(i:Nat)(h:IU):Prop where
 own:(IsZip h z TI TO .none/\∃a b,IsPair h TO a b)\/∃(T:A3) (b:Bool) (o:Obj),OX h z TI TO (rawInt T) b/\h.get? T=some o/\T≠z
 ti:IsPair h TI (.ref i1) (.ref i2)
 a1:h.IsListIter i1 l1 i
 a2:h.IsListIter i2 l2 i
 h1:h.IsList l1 xs
 h2:h.IsList l2 ys
theorem TL.at{z TI TO d f g l2 S:A3}{xs l:CM A2}{i:Nat}{h h':IU}(x:TL z TI TO d f g l2 xs l i h)(k:∀b o,b≠S->h.get? b=some o->h'.get? b=some o)(q:∃o,h'.get? S=some o)(n:S≠z/\S≠TI/\S≠TO/\S≠d/\S≠f/\S≠g/\S≠l2):TL z TI TO d f g l2 xs l i h':=by
 obtain⟨j,r,s,t,u,v,w⟩:=n;refine⟨?_,k _ _ r.symm x.ti,x.a1.at λo e=>k _ o t.symm e,x.a2.at λo e=>k _ o u.symm e,x.h1.at λo e=>k _ o v.symm e,x.h2.at λo e=>k _ o w.symm e⟩;rcases x.own with⟨e,a,b,p⟩ | ⟨T,b,o,e,y,m⟩
 .exact .inl ⟨k _ _ j.symm e,a,b,k _ _ s.symm p⟩
 .by_cases c:T=S
  .obtain⟨A,B⟩:=q;exact .inr ⟨T,b,A,k _ _ j.symm e,by rw[c];exact B,m⟩
  .exact .inr ⟨T,b,o,k _ _ j.symm e,k _ _ c y,m⟩
theorem zHv{z TI TO d f j l2:A3}{xs l:CM A2}{i:Nat}{x y:A2}{Q:A5 A2->A4->Prop}(D:ZipApart z TI TO d f j l2)(st:TL z TI TO d f j l2 xs l i s.heap)(K:xs[i]?=some x)(L:l[i]?=some y)
  (M:∀h',TL z TI TO d f j l2 xs l (i+1) h'->IsPair h' s.heap.objs.size x y->h'.objs.size=s.heap.objs.size+1->(∀c o,c≠z->c≠TO->c≠d->c≠f->s.heap.get? c=some o->h'.get? c=some o)->Q (some (.ref s.heap.objs.size)) { s with heap:=h' }) :
  wpAny (model prog w) A (pyNext (.ref z)) Q E s:=by
 have N:∀{h':IU},(∀c o,c≠z->c≠TO->c≠d->c≠f->s.heap.get? c=some o->h'.get? c=some o)->h'.IsList j xs/\h'.IsList l2 l/\IsPair h' TI (.ref d) (.ref f):=λk =>
  ⟨st.h1.at λo e=>k _ o D.l1z D.l1TO D.l1i1 D.l1i2 e,st.h2.at λo e=>k _ o D.l2z D.l2TO D.l2i1 D.l2i2 e,k _ _ D.TIz D.TITO D.TIi1 D.TIi2 st.ti⟩
 rcases st.own with⟨e,a,b,p⟩ | ⟨T,b,o,e,v,m⟩
 .have O:=(AV (AH e)).symm;refine wpAny_pyNext_zip_item D e st.ti p st.a1 st.a2 st.h1 st.h2 K L λh' g S n q r B k=>?_;obtain⟨C,G,H⟩:=N k;exact M h' ⟨.inr ⟨_,false,_,g,r,O⟩,H,n,q,C,G⟩ r B k
 .have h:s.TypeIs (.ref z) "zip":=⟨_,e,rfl⟩;have O:=(AV (AH e)).symm;have U:=AH v;unfold pyNext;refine AA (GY (DH (name:=Str.ofString "__next__") h F.slot_zip_next (DK F.slot_zip_next h F.entry_zip_next
   (Tq D e v st.ti st.a1 st.a2 st.h1 st.h2 K L λh' g n q r B k=>AF ?_) (F.args_zip_next_1 _))))
  have P:∀c o,c≠z->c≠TO->c≠d->c≠f->s.heap.get? c=some o->h'.get? c=some o:=λc o R _ t u x=>k c o R t u x;obtain⟨C,G,H⟩:=N P;refine M h' ⟨.inr ?_,H,n,q,C,G⟩ r B P;by_cases t:T=d
  .obtain⟨I,J,_⟩:=n;exact⟨T,true,I,g,by rw[t];exact J,m⟩
  by_cases u:T=f
  .obtain⟨I,J,_⟩:=q;exact⟨T,true,I,g,by rw[u];exact J,m⟩
  exact⟨T,true,o,g,k _ _ m t u v,m⟩
theorem zKr{z TI TO g h j l2:A3}{xs l:CM A2}{i:Nat}{Q:A5 A2->A4->Prop}(m:A.handled=none)(D:ZipApart z TI TO g h j l2)(st:TL z TI TO g h j l2 xs l i s.heap)(d:xs[i]?=none\/l[i]?=none)
  (n:∀h',(∀c o,c≠z->c≠TO->c≠g->c≠h->s.heap.get? c=some o->h'.get? c=some o)->Q none { s with heap:=h' }) :
  wpAny (model prog w) A (pyNext (.ref z)) Q E s:=by
 rcases st.own with⟨e,a,b,p⟩ | ⟨T,b,o,e,q,G⟩
 .exact wpAny_pyNext_zip_end m D e st.ti p st.a1 st.a2 st.h1 st.h2 d n
 .have f:s.TypeIs (.ref z) "zip":=⟨_,e,rfl⟩;unfold pyNext;refine AA (GY (DH (name:=Str.ofString "__next__") f F.slot_zip_next (DK F.slot_zip_next f F.entry_zip_next
   (Ev m D e q st.ti st.a1 st.a2 st.h1 st.h2 d λh' H k r=>?_) (F.args_zip_next_1 _))))
  obtain⟨t,u,v⟩:=r;refine AA (wpAny_isInstance (T := "StopIteration") (b:=true) ⟨t,u,v⟩ isSubtype_stop ?_);exact AF (n _ λc o y _ B C x=>k c o y B C x)
structure PSt(base:Nat)(xs ys:CM A2)(acc:CM A2)(i:Nat)(h:IU)(ps:A1 (A3×A2×A2)):Prop where
 len:ps.length=i
 acc:acc.toList=ps.map λp=>Value.ref p.1
 get:∀(j:Nat) (p:A3×A2×A2),ps[j]?=some p->xs[j]?=some p.2.1/\ys[j]?=some p.2.2
 at_:∀p∈ps,base<=p.1/\IsPair h p.1 p.2.1 p.2.2
 nd:(ps.map λp=>p.1).Nodup
theorem zIf{R:Result->A4->Prop}{z TI TO C E T l2 S:A3}{xs q:CM A2}{base:Nat}(hh:A.handled=none)(D:ZipApart z TI TO C E T l2)(n:S≠z/\S≠TI/\S≠TO/\S≠C/\S≠E/\S≠T/\S≠l2)(lt:S<base/\z<base/\TO<base/\C<base/\E<base){m:Nat}(m1:m<=xs.size)(m2:m<=q.size)(me:xs[m]?=none\/q[m]?=none)(hn:m<=sizeLine)(res:A2) :
  ∀(k i:Nat) (s:A4) (d:CM A2) (c:Nat) (G:A1 (A3×A2×A2)),m-i=k->i<=m->TL z TI TO C E T l2 xs q i s.heap->s.heap.get? S=some { cls:=.type "list",dict:=none,data:=.seq d c,slots:=#[] }->base<=s.heap.objs.size->PSt base xs q d i s.heap G ->
  (∀h' U g V t,(∀b o,b<base->b≠S->b≠z->b≠TO->b≠C->b≠E->s.heap.get? b=some o->h'.get? b=some o)->h'.get? S=some { cls:=.type "list",dict:=none,data:=.seq g V,slots:=#[] }->PSt base xs q g m h' t->R (.ok (.ret res)) { s with heap:=h',toks:=U }) ->
  codeAny (model prog w) A (.builtin "list.extend.loop" ⟨[.ref S,.ref z,res],[]⟩) R s:=by
 obtain⟨n1,n2,n3,n4,n5,n6,n7⟩:=id n;obtain⟨t1,t2,t3,t4,t5⟩:=lt;have l:∀{a b:Nat},base<=a->b<base->a≠b:=fun{a b} u P=>(AV (BH P u)).symm;intro k
 induction k with
 | zero =>
  intro i s d c G hk hi v W H f X;have Y:i=m:=by lia
  subst Y;refine F_ F.entry_extend_loop ?_;rw[Around.under_plainId F.plain_extend_loop _];show wpAny _ A.in1 (pyNext (.ref z) >>= _) _ _ s;refine AA (zKr hh D v me λh' k=>?_);refine AF (X h' s.toks d c G (λb o _ _ I J K L e=>k b o I J K L e) (k _ _ n1 n3 n4 n5 W) ⟨f.len,f.acc,f.get,λp hp=>?_,f.nd⟩);obtain⟨h,Z⟩:=f.at_ p hp;exact⟨h,k _ _ (l h t2) (l h t3) (l h t4) (l h t5) Z⟩
 | succ k ih =>
  intro i s d c G hk hi v W H f X;have hlt:i<m:=by lia
  have hx:xs[i]?=some (xs[i]'(by lia)):=EC _;have hy:q[i]?=some (q[i]'(by lia)):=EC _;generalize (xs[i]'(by lia))=x at hx;generalize (q[i]'(by lia))=y at hy;refine F_ F.entry_extend_loop ?_;rw[Around.under_plainId F.plain_extend_loop _];show wpAny _ A.in1 (pyNext (.ref z) >>= _) _ _ s;refine AA (zHv D v hx hy λu st1 pr hsz k1=>?_);have M:=k1 _ _ n1 n3 n4 n5 W;show wpAny _ A.in1 (updateSeq S (·.push (.ref s.heap.objs.size)) >>= _) _ _ _;refine AA ?_;have N:d.size=i:=by have:=congrArg List.length f.acc;rw[AB,f.len,BF]at this;exact this
  refine GA M rfl (AF ⟨plainId_quiet F.plain_extend_loop _,?_⟩) (by rw[N];lia) (by show(d.push (Value.ref s.heap.objs.size)).size<=sizeLine+1;rw[Array.size_push,N];lia);have B:=EH (Obj.mapSeq (·.push (.ref s.heap.objs.size))) M rfl;have Q:∀b o,b≠S->u.get? b=some o->(u.update S (Obj.mapSeq (·.push (.ref s.heap.objs.size)))).get? b=some o:=λb o H e=>(CS _ _ (Ne.symm H)).trans e;have r:(u.update S (Obj.mapSeq (·.push (.ref s.heap.objs.size)))).objs.size=u.objs.size:=(EE ..).1;generalize u.update S (Obj.mapSeq (·.push (.ref s.heap.objs.size)))=P at B Q r⊢;have O:∀b o,b≠S->b≠z->b≠TO->b≠C->b≠E->s.heap.get? b=some o->P.get? b=some o:=λb o b0 I J K L e=>Q b o b0 (k1 b o I J K L e);refine ih (i+1) _ (d.push (.ref s.heap.objs.size)) _ (G ++ [(s.heap.objs.size,x,y)]) (by lia) hlt (st1.at Q ⟨_,B⟩ n) B (by show base<=P.objs.size;rw[r,hsz];exact Nat.le_succ_of_le H) ⟨by rw[AW,f.len];rfl,by rw[DZ,f.acc,AR];rfl,λj p e=>?_,λp hp=>?_,?_⟩ λh' U g V t kk hS' hP'=>?_
  .rcases II j G.length with c | c
   .rw[DI c]at e;exact f.get j p e
   .rw[DE c]at e;have:j=i:=by have:=(AE.mp e).1;rw[f.len]at this c;simp at this;lia
    subst this;rw[f.len,Nat.sub_self]at e;cases e;exact⟨hx,hy⟩
  .rcases A_.mp hp with hp | hp
   .obtain⟨h,Z⟩:=f.at_ p hp;exact⟨h,O _ _ (l h t1) (l h t2) (l h t3) (l h t4) (l h t5) Z⟩
   .rw[AG.mp hp];exact⟨H,Q _ _ (l H t1) pr⟩
  .rw[AR,EF];refine⟨f.nd,DC.mpr ⟨BB,FU⟩,λa ha b hb'=>?_⟩;obtain⟨p,hp,rfl⟩:=AJ.mp ha;have:=AH (f.at_ p hp).2;rw[AG.mp hb'];exact AV this
  .exact X h' U g V t (λb o b0 I J K L b5 e=>kk b o b0 I J K L b5 (O b o I J K L b5 e)) hS' hP'
theorem Pc:typeLookup (.type "zip") "__len__" = pure none:=by rw[typeLookup_type,builtinLookup_eq_fast];kernel_rfl
theorem Lk:typeLookup (.type "zip") "__length_hint__" = pure none:=by rw[typeLookup_type,builtinLookup_eq_fast];kernel_rfl
theorem Wv{z:A3}{Q:Bool->A4->Prop}(a:s.TypeIs (.ref z) "zip")(h:Q true s):wpAny (model prog w) A (Builtin.List.listLengthHint (.ref z)) Q E s:=by
 unfold Builtin.List.listLengthHint;refine AA (HU a Pc ?_);show wpAny _ A (specialOf (Value.ref z) (Str.ofString "__length_hint__") >>= _) _ _ _;refine AA (HU a Lk ?_);exact AF h
theorem QG{Q:A2->A4->Prop}{z TI TO u v B l2:A3}{xs C:CM A2}(hh:A.handled=none)(D:ZipApart z TI TO u v B l2)(hz:IsZip s.heap z TI TO .none)(G:IsPair s.heap TO .none .none)(H:IsPair s.heap TI (.ref u) (.ref v))(Y:s.heap.IsListIter u B 0)(Z:s.heap.IsListIter v l2 0)(h1:s.heap.IsList B xs)(h2:s.heap.IsList l2 C){m:Nat}(m1:m<=xs.size)(m2:m<=C.size)(me:xs[m]?=none\/C[m]?=none)(hn:m<=sizeLine)
  (hQ:∀h' x a P i,(∀b o,b≠z->b≠TO->b≠u->b≠v->s.heap.get? b=some o->h'.get? b=some o) ->
   h'.get? s.heap.objs.size=some { cls:=.type "list",dict:=none,data:=.seq a P,slots:=#[] }->PSt (s.heap.objs.size+1) xs C a m h' i->Q (.ref s.heap.objs.size) { s with heap:=h',toks:=x }) :
  wpAny (model prog w) A (call (.type "list") [.ref z]) Q E s:=by
 have I:=AH hz;have k:=AH G;have J:=AH H;have l:u<s.heap.objs.size:=by obtain⟨_,e,_⟩:=Y;exact AH e
 have n:v<s.heap.objs.size:=by obtain⟨_,e,_⟩:=Z;exact AH e
 have K:B<s.heap.objs.size:=by obtain⟨_,e,_⟩:=h1;exact AH e
 have L:l2<s.heap.objs.size:=by obtain⟨_,e,_⟩:=h2;exact AH e
 have d:∀{b:Nat},b<s.heap.objs.size->s.heap.objs.size≠b:=λh=>(AV h).symm;refine callType_codes (Q₁:=λM d4=>M = .ref s.heap.objs.size/\d4 ={ s with heap:=s.heap.push { cls:=.type "list",data:=.seq #[] } }) F.called_list (F.typeCall_list_1 _) F.entry_list_init
  (code_list_new _ ⟨rfl,rfl⟩) λM d4 p0=>?_
 obtain⟨rfl,rfl⟩:=p0;have f:(s.heap.push { cls:=.type "list",data:=.seq #[] }).get? s.heap.objs.size=some { cls:=.type "list",data:=.seq #[] }:=AO _ rfl;refine⟨⟨_,f,rfl⟩,F.args_list_init_2 _ _,?_⟩;have k1:∀b o,s.heap.get? b=some o->(s.heap.push { cls:=.type "list",data:=.seq #[] }).get? b=some o:=λb o e=>AD _ e;have R:(s.heap.push { cls:=.type "list",data:=.seq #[] }).objs.size=s.heap.objs.size+1:=DF ..;show wpAny _ _ (do let S <-Builtin.List.listItems (.ref s.heap.objs.size);Builtin.List.listUpdate (.ref s.heap.objs.size) (λ_=>#[]);letGo S.toList.reverse;Builtin.List.listExtendWith (.ref s.heap.objs.size) (.ref z) .none) _ _ _;refine AA ?_;unfold Builtin.List.listItems;refine AA (CJ f rfl (AF ?_));show wpAny _ _ (updateSeq s.heap.objs.size (λ_=>#[]) >>= λ_=>letGo (#[]:CM A2).toList.reverse >>= λ_=>Builtin.List.listExtendWith (.ref s.heap.objs.size) (.ref z) .none) _ _ _;refine AA (GA f rfl ?_);have f₂:=EH (Obj.mapSeq (λ_=>(#[]:CM A2))) f rfl;have O:∀b o,b≠s.heap.objs.size->s.heap.get? b=some o->((s.heap.push { cls:=.type "list",data:=.seq #[] }).update s.heap.objs.size (Obj.mapSeq (λ_=>(#[]:CM A2)))).get? b=some o :=
  λb o q e=>(CS _ _ (Ne.symm q)).trans (k1 b o e)
 have N:((s.heap.push { cls:=.type "list",data:=.seq #[] }).update s.heap.objs.size (Obj.mapSeq (λ_=>(#[]:CM A2)))).objs.size=s.heap.objs.size+1:=(EE ..).1.trans R;refine AA (GP ?_);generalize (s.heap.push { cls:=.type "list",data:=.seq #[] }).update s.heap.objs.size (Obj.mapSeq (λ_=>(#[]:CM A2)))=y at f₂ O N⊢;have zp:IsZip y z TI TO .none:=O _ _ (d I).symm hz;have hT:∀{x:Nat},Shared.TypeIs { s with heap:=y,toks:=x } (.ref z) "zip":=fun{x}=>⟨_,zp,rfl⟩;unfold Builtin.List.listExtendWith;refine AA (wpAny_typeOf (T := "zip") hT ?_);have e1:Builtin.List.listSameRef (.ref s.heap.objs.size) (.ref z)=false:=by simp[Builtin.List.listSameRef,d I]
 have e2:(Value.type "zip" == Value.type "list")=false:=by decide
 have e3:(Value.type "zip" == Value.type "tuple")=false:=by decide
 simp only[e1,e2,e3,IP,AY,CT];refine AA (ER zp ?_);refine AA (BS (Wv hT ?_));have U:∀{h':IU},(∀b o,b≠s.heap.objs.size->y.get? b=some o->h'.get? b=some o)->TL z TI TO u v B l2 xs C 0 h':=fun{h'} kk=>by
  have t:∀b o,b<s.heap.objs.size->s.heap.get? b=some o->h'.get? b=some o:=λb o q e=>kk b o (d q).symm (O b o (d q).symm e);exact⟨.inl ⟨t _ _ I hz,_,_,t _ _ k G⟩,t _ _ J H,Y.at λo e=>t _ o l e,Z.at λo e=>t _ o n e,h1.at λo e=>t _ o K e,h2.at λo e=>t _ o L e⟩
 have g:∀{b:Nat},b<s.heap.objs.size->b<s.heap.objs.size+1:=λh=>DT h;have V:∀(h:IU) (c₁:Nat),(∀b o,b≠s.heap.objs.size->y.get? b=some o->h.get? b=some o)->h.objs.size=s.heap.objs.size+1->h.get? s.heap.objs.size=some { cls:=.type "list",data:=.seq #[] c₁ } ->
   codeAny (model prog w) A.in1 (.builtin "list.extend.loop" ⟨[.ref s.heap.objs.size,.ref z,.none],[]⟩) (wants (λr f7=>r=Value.none/\Q (.ref s.heap.objs.size) f7) E) { s with heap:=h }:=by
  intro h c₁ kk sz hc;refine zIf (A:=A.in1) hh D ⟨d I,d J,d k,d l,d n,d K,d L⟩ ⟨FC _,g I,g k,g l,g n⟩ m1 m2 me hn .none _ 0 _ #[] c₁ [] rfl (CY _) (U kk) hc (ID sz.symm) ⟨rfl,rfl,λj p e=>by simp at e,λp y=>absurd y BB,FU⟩ λh' x a P i k4 W hP=>⟨rfl,?_⟩;exact hQ h' x a P i (λb o b1 b2 b3 b4 e=>k4 b o (g (AH e)) (d (AH e)).symm b1 b2 b3 b4 (kk b o (d (AH e)).symm (O b o (d (AH e)).symm e))) W hP
 refine wpAny_ite_split (λ_=>?_) (λX=>absurd rfl X);refine AA (EL ?_);refine AA ?_;show wpAny _ _ (updateSeq s.heap.objs.size (·.push .none) >>= λ_=>updateSeq s.heap.objs.size (·.pop)) _ _ _;refine AA (GA f₂ rfl ?_);have f₃:=EH (Obj.mapSeq (·.push Value.none)) f₂ rfl;refine GA (hz:=by seq_fits) f₃ rfl ?_;have f₄:=EH (Obj.mapSeq (·.pop)) f₃ rfl;refine AF ⟨plainId_quiet F.plain_extend_loop _,V _ _ (λb o q e=>?_) ?_ f₄⟩
 .exact(CS _ _ (Ne.symm q)).trans ((CS _ _ (Ne.symm q)).trans e)
 .rw[(EE ..).1,(EE ..).1];exact N
end
end TS
namespace L2
open PySem PySem.Spec PyProof.Rows
section
variable{X:Cx}{H:Hp}
def UJ(H:Hp):A1 (A3×V×V)->Hp
 | []=>H
 | q::l=>IT (UJ H l) q.1 (.tup [q.2.1,q.2.2])
theorem Fs{b:A3}:∀{a:A1 (A3×V×V)},b∉a.map (λp=>p.1)->UJ H a b=H b
 | [],_=>rfl
 | q::l,h=>by
  rw[AZ,AK,not_or]at h;show IT (UJ H l) q.1 _ b=_;rw[B6 h.1,Fs h.2]
theorem Jl:∀{a:A1 (A3×V×V)},(a.map λp=>p.1).Nodup->∀p∈a,UJ H a p.1=some (.tup [p.2.1,p.2.2])
 | [],_,p,h=>absurd h BB
 | q::l,b,p,h=>by
  rw[AZ,DC]at b;show IT (UJ H l) q.1 _ p.1=_;rcases AK.mp h with rfl | h
  .exact A9
  .rw[B6 λe=>b.1 (by rw[<-e];exact AJ.mpr ⟨p,h,rfl⟩)];exact Jl b.2 p h
theorem Inv.more{a:A1 (A3×Obj)}{σ:St}{H':Hp}{s:A4}{h':IU}{t':Nat}(I:Inv X a σ H s)(k:∀b u,s.heap.get? b=some u->h'.get? b=some u)(d:∀b,b<s.heap.objs.size->H' b=H b)(g:∀b o,s.heap.objs.size<=b->H' b=some o->JB X.prog X.w H' h' b o):Inv X a σ H' { s with heap:=h',toks:=t' }:=by
 have f:∀b o,H b=some o->H' b=some o:=λb o e=>(d b (I.hok.lt e)).trans e;refine I.un ⟨λb o q _ _ _=>k b o q,λb o q _ _ _=>⟨o.slots,k b o q⟩,λb o q n _=>(d b (AH q)).trans n,λb o q _=>⟨o,k b o q⟩,λb h q=>f _ _ q,λb o u q=>f _ _ q,λb i q=>⟨#[],by rw[f _ _ q];simp⟩⟩ λb o e=>?_;by_cases c:b<s.heap.objs.size
 .rw[d b c]at e;exact(I.hok b o e).stay (λb u _ q=>k b u q) (λb q=>f _ _ q) λb h q=>f _ _ q
 .exact g b o (Nat.le_of_not_lt c) e
def zHb(K:VN)(h:TA):TE:=λσ H Q=>h σ H λi c=>∃a b f g,i = [.ref a,.ref b]/\IV K c a f/\IV K c b g /\
 ∀(e:A1 (A3×V×V)) l d,F1 c d->c l=none->d l=some (.lst (e.map λp=>.ref p.1))->(e.map λp=>p.2)=f.zip g->(∀p∈e,c p.1=none/\d p.1=some (.tup [p.2.1,p.2.2]))->Q (.ref l) d
theorem zCk{a b:IW}{ta:TA}{p g pos d:Pos}(G:X.mg "list" = none)(Y:X.mg "zip" = none)(ha:PA X [a,b] ta)(hc:X.calm=true:=by rfl)(hg:Gl X "list":=by rfl)(Z:Gl X "zip":=by rfl)
  (hs:starEach [a,b] X.env =(false,eval a X.env)::starEach [b] X.env:=by rfl) (hpl:(backTo d (starEach [b] X.env)).any (·.1)=false:=by rfl) (M:starEach [Expr.Call (.Name "zip" g) [a,b] [] d] X.env =(false,eval (.Call (.Name "zip" g) [a,b] [] d) X.env)::starEach [] X.env:=by rfl):PE X (.Call (.Name "list" p) [.Call (.Name "zip" g) [a,b] [] d] [] pos) (zHb X.K ta):=by
 intro N s σ H Q I h;refine EM (W9 I hg G V3 ?_ (by decide) (by decide));refine callWith_type1 ?_ M rfl;rw[M];refine Calls.spliced_cons ?_;refine Call_ (W9 I Z Y Kp (WC (JN (ha d N s σ H _ I h) λus s1 ⟨vs,U,F,r1,l,m,xs,ys,e,hq,hr,q⟩=>?_) hs hpl));subst e;obtain⟨u,v,rfl,ru,rv⟩:=r1.two;cases ru;cases rv;obtain⟨n,rx,pl,hz⟩:=F.list hq;obtain⟨t,ry,pm,hz'⟩:=F.list hr;have a1:l<s1.heap.objs.size:=by obtain⟨_,e,_⟩:=pl.isList;exact AH e
 have a2:m<s1.heap.objs.size:=by obtain⟨_,e,_⟩:=pm.isList;exact AH e
 refine call_zip_2 pl.isList pm.isList λC g1 g2 g3 g4 g5 D k=>Calls.spliced_nil ?_;have lx:=rx.length;have ly:=ry.length;have me:(n.toArray)[min n.length t.length]?=none\/(t.toArray)[min n.length t.length]?=none:=by
  rcases Nat.le_total n.length t.length with h | h
  .exact .inl (by rw[FM h];simp)
  .exact .inr (by rw[Nat.min_eq_right h];simp)
 refine TS.QG (s:={ s1 with heap:=C }) (m:=min n.length t.length) (F.ok.hd hc) (zipApart_new a1 a2) g1 g3 g2 g4 g5 (pl.isList.at λo e=>k _ o e) (pm.isList.at λo e=>k _ o e) (by simp;exact Nat.min_le_left ..) (by simp;exact Nat.min_le_right ..) me (by have:=Nat.min_le_left n.length t.length;lia) λh2 tk O c y k2 hS L=>?_;have kk:∀b o,s1.heap.get? b=some o->h2.get? b=some o:=λb o e=>by
  have lt:=AH e;have W:∀j:Nat,b≠s1.heap.objs.size+j:=λj=>AV (BH lt (CO _ _));exact k2 b o (W 4) (W 3) (W 0) (W 1) (k b o e)
 have D:C.objs.size=s1.heap.objs.size+5:=D;have hb:∀p∈y,s1.heap.objs.size<=p.1/\p.1≠C.objs.size:=λp i=>by
  have:=(L.at_ p i).1;have this:C.objs.size+1<=p.1:=this;exact⟨VR (by rw[D];exact CO _ 6) this,(AV this).symm⟩
 have OU:=L.len;have lz:(xs.zip ys).length=y.length:=by rw[OU,List.length_zip,lx,ly]
 generalize J:(y.map λp=>p.1).zip (xs.zip ys)=w;have P:(w.map λp=>p.1)=y.map λp=>p.1:=by rw[<-J];exact List.map_fst_zip (by rw[AB,lz];exact VQ _)
 have f2:(w.map λp=>p.2)=xs.zip ys:=by rw[<-J];exact List.map_snd_zip (by rw[AB,lz];exact VQ _)
 have nd:(w.map λp=>p.1).Nodup:=by rw[P];exact L.nd
 have bp:∀p∈w,∃g∈y,g.1=p.1/\RelV p.2.1 g.2.1/\RelV p.2.2 g.2.2:=λp i=>by
  obtain⟨j,hj⟩:=CV.mp i;rw[<-J,HK,AI]at hj;obtain⟨j1,E⟩:=hj;obtain⟨g,A,e'⟩:=BC.mp j1;obtain⟨q1,q2⟩:=L.get j g A;rw[show p.2 =(p.2.1,p.2.2)from rfl,HK]at E;rw[FW]at q1 q2;refine⟨g,AM A,e',?_,?_⟩
  .rcases Ba rx j with⟨z,_⟩ | ⟨x,u,z1,z2,r⟩
   .rw[z]at E;cases E.1
   .rw[z1]at E;rw[z2]at q1;cases E.1;cases q1;exact r
  .rcases Ba ry j with⟨z,_⟩ | ⟨x,u,z1,z2,r⟩
   .rw[z]at E;cases E.2
   .rw[z1]at E;rw[z2]at q2;cases E.2;cases q2;exact r
 have R:s1.heap.objs.size<=C.objs.size:=by rw[D];exact CO ..
 have Sn:C.objs.size∉w.map λp=>p.1:=λG=>by
  rw[P]at G;obtain⟨p,i,e⟩:=AJ.mp G;exact(hb p i).2 e
 have S:∀b,b<s1.heap.objs.size->b∉w.map λp=>p.1:=λb B G=>by
  rw[P]at G;obtain⟨p,i,e⟩:=AJ.mp G;have:=(hb p i).1;rw[e]at this;exact absurd B (Nat.not_lt.mpr this)
 have fr:∀p∈w,U p.1=none:=λp i=>by
  obtain⟨g,A,e,_⟩:=bp p i;exact F.hok.fresh (by rw[<-e];exact(hb g A).1)
 have hv:I_ (w.map λp=>V.ref p.1) O.toList:=by
  rw[L.acc,show(w.map λp=>V.ref p.1) =(w.map λp=>p.1).map V.ref by rw[BV];rfl,P,BV];generalize y=l
  induction l with
  | nil=>exact .nil
  | cons p l ih=>exact .cons rfl ih
 have hl:U C.objs.size=none:=F.hok.fresh R;have T:∀b,b<s1.heap.objs.size->IT (UJ U w) C.objs.size (.lst (w.map λp=>V.ref p.1)) b=U b:=λb B=>by
  rw[B6 (AV (BH B R)),Fs (S b B)]
 refine⟨.ref C.objs.size,_,F.more (t':=tk) kk T λb o B e=>?_,rfl,q w _ _ (λb o e=>(T b (F.hok.lt e)).trans e) hl A9 f2 λp i=>⟨fr p i,?_⟩⟩
 .by_cases c1:b=C.objs.size
  .subst c1;rw[A9]at e;cases e;exact⟨by rw[AB,<-AB (f:=λp:A3×V×V=>p.1),P,AB,OU];have:=Nat.min_le_left n.length t.length;lia,O.toList,c,hv,by simpa using hS⟩
  rw[B6 c1]at e;by_cases c2:b∈w.map λp=>p.1
  .obtain⟨p,i,rfl⟩:=AJ.mp c2;rw[Jl nd p i]at e;cases e;obtain⟨g,A,e',r1,r2⟩:=bp p i;have ip:=(L.at_ g A).2;rw[e']at ip;exact⟨by show 2<=sizeLine;decide,[g.2.1,g.2.2],.cons r1 (.cons r2 .nil),⟨_,ip,rfl,_,rfl⟩⟩
  .rw[Fs c2,F.hok.fresh B]at e;cases e
 .rw[B6 λe=>Sn (by rw[<-e];exact AJ.mpr ⟨p,i,rfl⟩)];exact Jl nd p i
theorem Zu{a b:IW}{i:TA}{p d pos c:Pos}(K:VN)(j:X.mg "list" = none)(e:X.mg "zip" = none)(k:PA X [a,b] i)(l:X.calm=true:=by rfl)(m:Gl X "list":=by rfl)(f:Gl X "zip":=by rfl)
  (n:starEach [a,b] X.env =(false,eval a X.env)::starEach [b] X.env:=by rfl) (g:(backTo c (starEach [b] X.env)).any (·.1)=false:=by rfl) (h:starEach [Expr.Call (.Name "zip" d) [a,b] [] c] X.env =(false,eval (.Call (.Name "zip" d) [a,b] [] c) X.env)::starEach [] X.env:=by rfl) (o:X.K=K:=by rfl):PE X (.Call (.Name "list" p) [.Call (.Name "zip" d) [a,b] [] c] [] pos) (zHb K i):=by subst o;exact zCk j e k l m f n g h
end
def T5{α:Type}(a:A1 Nat)(xs:A1 α):A1 α:=a.filterMap λk=>xs[k]?
def q0(n:Nat)(lo hi st:A5 Int):A1 Nat:=sliceRange (sliceBounds lo hi st n).1 (sliceBounds lo hi st n).2.1 (sliceBounds lo hi st n).2.2
def Eu{α:Type}{xs:A1 α}:∀{a:A1 Nat},(∀r∈a,r<xs.length)->∀j:Nat,(T5 a xs)[j]?=a[j]?.bind λk=>xs[k]?
 | [],_,j=>rfl
 | r::a,h,j=>by
  have e:=AC (h r (.head _));unfold T5;rw[DM e];cases j with
  | zero=>exact e.symm
  | succ j=>exact Eu (λr b=>h r (.tail _ b)) j
def u9{xs:A1 V}{us:A1 A2}(r:I_ xs us):∀l:A1 Nat,I_ (T5 l xs) (T5 l us)
 | []=>.nil
 | k::l=>by
  unfold T5;rcases Ba r k with⟨a,b⟩ | ⟨x,u,a,b,c⟩
  .rw[FG a,FG b];exact u9 r l
  .rw[DM a,DM b];exact .cons c (u9 r l)
def zKh(K:VN)(e:TE)(f g ts:TO):TE:=λσ H Q=>e σ H λx h=>f σ h λl i=>g σ i λu j=>ts σ j λc d=>c≠some 0/\∃a b,x = .ref a/\IV K d a b/\(T5 (q0 b.length l u c) b).length<=sizeLine/\∀p,d p=none->Q (.ref p) (IT d p (.lst (T5 (q0 b.length l u c) b)))
def Jf{X:Cx}(K:VN){e:IW}{p:TE}{lo hi:A5 IW}{st:IW}{t y ts:TO}{pos p2:Pos}(B:PE X e p)(C:PO X lo t)(D:PO X hi y)(i:PO X (some st) ts)(E:X.K=K:=by rfl):PE X (.Subscript e (.Slice lo hi (some st) p2) pos) (zKh K p t y ts):=by
 subst E;intro d s σ H Q I h;refine Subscript_ (JN (B d s σ H _ I h) λv F ⟨x,G,J,L,M⟩=>?_);refine wpAny_Slice (JN (C d F σ G _ J M) λj N ⟨l,O,P,R,S⟩=>?_);refine JN (D d N σ O _ P S) λvu T ⟨u,U,V,Y,Z⟩=>JN (i d T σ U _ V Z) λk s4 ⟨c,H4,I4,ps,hc,a,m,ex,hx,hn,q⟩=>?_;subst ex;cases L;have n:Inv X d σ H4 { s4 with heap:=s4.heap.push { cls:=.type "slice",data:=.fields #[j,vu,k] } }:=I4.kept (t':=s4.toks) λb ob q=>AD _ q;obtain⟨f,r,z,hz⟩:=n.list hx;have g:=r.length;have hg:wpAny (model X.prog X.w) X.A (getItem (.ref a) (.ref s4.heap.objs.size)) (EP X d σ Q) X.xe { s4 with heap:=s4.heap.push { cls:=.type "slice",data:=.fields #[j,vu,k] } }:=by
  refine wpAny_getItem_list_slice z.isList (Heap.IsSliceOf.new ..) R Y ps hc ?_ (by rw[AL]<;>lia);have es:slicePick f.toArray l u c =(T5 (q0 m.length l u c) f).toArray:=by
   unfold slicePick T5 q0;rw[AL,<-g];congr 1;simp
  rw[es];refine⟨.ref _,_,n.laid (t':=s4.toks) (o:=.lst (T5 (q0 m.length l u c) m)) (λb ob q=>AD _ q) (VQ _) ?_,rfl,q _ (n.hok.fresh (VQ _))⟩;exact⟨hn,_,0,u9 r _,AO _ rfl⟩
 show wpAny (model X.prog X.w) X.A (subscriptTail e (.Slice lo hi (some st) p2) (.ref a) (.ref s4.heap.objs.size)) (EP X d σ Q) X.xe { s4 with heap:=s4.heap.push { cls:=.type "slice",data:=.fields #[j,vu,k] } };exact tail_any (ops:=[.ref a,.ref s4.heap.objs.size]) z.isList.typeIs slot_list_getitem.lookup hg (by with_unfolding_all rfl)
def zKt(K:VN)(b c:TE):TE:=λσ H Q=>b σ H λx a=>∃k,zHd K x a k/\if k=true then Q x a else c σ a Q
section
variable{X:Cx}{a b:IW}{rest:A1 IW}{pos:Pos}
theorem zGn{K:VN}{i f:TE}(n:PE X a i)(o:PE X (.BoolOp .Or (b::rest) pos) f)(p:X.K=K:=by rfl):PE X (.BoolOp .Or (a::b::rest) pos) (zKt K i f):=by
 subst p;intro d s σ H Q I h;refine BoolOp_or (JN (n d s σ H _ I h) λv q ⟨x,r,t,j,g⟩=>?_);obtain⟨k,u,g⟩:=g;have:=Yq d q σ r x v (λc e=>if c=true then Q x e else f σ e Q) t j ⟨k,u,g⟩;refine JN this λc w ⟨e,l,m⟩=>?_;cases c with
 | true=>exact⟨x,e,l,j,m⟩
 | false=>exact o d w σ e Q l m
end
end L2
namespace Sw
open PySem L2
def KR(i:Nat):JD:=PySem.Challenge.pw_strikeweave_k33_outright_ones_and_no_oth.main.body.getD i (.Pass ⟨0,0,0,0⟩)
abbrev QV:JD:=KR 10
abbrev PM:JD:=KR 11
abbrev MX:JD:=KR 12
abbrev PP:JD:=KR 13
abbrev QW:JD:=KR 14
abbrev LU:JD:=KR 15
abbrev LV:JD:=KR 16
abbrev MW:JD:=KR 18
abbrev NT:JD:=KR 19
abbrev QI:JD:=KR 20
abbrev QC:JD:=KR 21
abbrev LW:JD:=KR 22
abbrev LJ:JD:=KR 23
abbrev OF:JD:=KR 24
abbrev OI:JD:=KR 25
abbrev PN:JD:=KR 26
abbrev QL:JD:=KR 31
abbrev NX:JD:=KR 32
abbrev MZ:JD:=KR 33
abbrev PL:JD:=KR 34
abbrev QJ:JD:=KR 36
abbrev QA:JD:=KR 37
abbrev P_:JD:=KR 38
abbrev PH:JD:=KR 39
abbrev PZ:JD:=KR 40
abbrev NU:JD:=KR 41
abbrev PJ:JD:=KR 42
abbrev NV:JD:=KR 43
abbrev OH:JD:=KR 44
abbrev QK:JD:=KR 45
abbrev QB:JD:=KR 46
abbrev NG:JD:=KR 47
abbrev OG:JD:=KR 48
abbrev LY:JD:=KR 49
abbrev LO:JD:=KR 50
abbrev P6:JD:=KR 51
abbrev P7:JD:=KR 52
abbrev MY:JD:=KR 53
abbrev MK:JD:=KR 54
abbrev MJ:JD:=KR 55
abbrev NW:JD:=KR 56
abbrev LX:JD:=KR 57
abbrev MI:JD:=KR 58
abbrev PK:JD:=KR 59
abbrev MN:JD:=O6 (KR 9) 0
abbrev NB:JD:=O6 (KR 9) 1
abbrev MM:JD:=O6 (KR 9) 2
abbrev LP:JD:=O6 (KR 9) 3
abbrev NK:JD:=O6 (KR 9) 4
abbrev LZ:JD:=O6 (KR 9) 5
abbrev LG:JD:=O6 (KR 9) 6
abbrev LF:JD:=O6 (KR 9) 7
abbrev QO:JD:=O6 (KR 9) 8
abbrev NJ:JD:=O6 (KR 30) 0
abbrev NA:JD:=O6 (KR 30) 1
abbrev OK:JD:=O6 (KR 30) 2
abbrev NH:JD:=O6 (KR 30) 3
abbrev OJ:JD:=O6 (KR 30) 4
abbrev M_:JD:=O6 (KR 30) 5
def Ie:Str:=("best_split":Str) ++ ".<locals>." ++ "<lambda>"
def C9:A1 (Pos×Str):=[(⟨122,27,122,74⟩,Ie)]
set_option genInjectivity false in
structure Tx(K:VN)(mg:Str->A5 A2) where
 bn:Fn K mg "joined" QV ["sets"]
 aM:Fn K mg "first_bit" PM ["some"]
 aZ:Fn K mg "outright_sets" MX ["web"]
 aY:Fn K mg "all_found" PP ["web","settle","greatest"]
 aD:Fn K mg "gather" QW ["marks","settle","greatest","chosen","barred","found"]
 aP:Fn K mg "settle_standing" LU ["marks","chosen","barred"]
 aq:Fn K mg "settle_outright" LV ["marks","chosen","barred"]
 ax:Fn K mg "outright_with" MW ["web"]
 aH:Fn K mg "tree_beside" NT ["web","splits_at","sets"]
 aB:Fn K mg "tree_at" QI ["marks","splits_at","sets","held","known"]
 a3:Fn K mg "clash_at" QC ["marks","held"]
 ar:Fn K mg "outright_splits" LW ["marks","sets","held"]
 aQ:Fn K mg "best_split" LJ ["marks","held","splits"]
 bS:A3
 ab:A3
 br:TabAt K mg bS ab
 bH:aQ.fd.code = .ref bS
 a7:Fn K mg "split_cost" OF ["marks","held","added"]
 aR:Fn K mg "beyonds_at" OI ["marks","sets","held"]
 bb:Fn K mg "covers_at" PN ["marks","held"]
 bq:Fn K mg "is_name" QL ["thing"]
 a4:Fn K mg "check_names" NX ["names"]
 a0:Fn K mg "check_strikes" MZ ["names","strikes"]
 bc:Fn K mg "is_strike" PL ["names","thing"]
 bg:Fn K mg "_law_mix" QJ ["_law_cell","_law_k"]
 bh:Fn K mg "_law_left" QA ["_law_script","_law_k"]
 as:Fn K mg "_law_pick" P_ ["_law_left_here","_law_many"]
 bd:Fn K mg "_law_names" PH ["_law_left_here","_law_many"]
 bi:Fn K mg "_law_size" PZ ["_law_left_here"]
 a5:Fn K mg "_law_strikes" NU ["_law_left_here","_law_names_here"]
 be:Fn K mg "_law_masks" PJ ["_law_names_here","_law_strikes_here"]
 ap:Fn K mg "_law_mask_of" NV ["_law_view","_law_some"]
 aA:Fn K mg "_law_set_of" OH ["_law_view","_law_mask"]
 aN:Fn K mg "_law_hit" QK ["_law_view","_law_mask"]
 bj:Fn K mg "_law_kept" QB ["_law_view","_law_mask"]
 aE:Fn K mg "_law_is_quiet" NG ["_law_view","_law_mask"]
 a8:Fn K mg "_law_stands" OG ["_law_view","_law_mask"]
 aS:Fn K mg "_law_is_outright" LY ["_law_view","_law_mask"]
 aL:Fn K mg "_law_all_standing" LO ["_law_view"]
 bk:Fn K mg "_law_sets" P6 ["_law_view","_law_masks_here"]
 aw:Fn K mg "_law_same" P7 ["_law_found","_law_due"]
 a1:Fn K mg "_law_web_drawn" MY ["_law_left_here","_law_most"]
 ao:Fn K mg "_law_is_name_of" MK ["_law_view","_law_thing"]
 au:Fn K mg "_law_strikes_it" MJ ["_law_view","_law_one","_law_other"]
 az:Fn K mg "_law_is_held" NW ["_law_view","_law_held","_law_thing"]
 am:Fn K mg "_law_twigs_right" LX ["_law_view","_law_sets_here","_law_words","_law_held","_law_more","_law_twigs"]
 aj:Fn K mg "_law_tree_right" MI ["_law_view","_law_sets_here","_law_words","_law_held","_law_tree"]
 aa:A3
 ac:R6 K aa
 bA:mg "Marks" = some (.ref aa)
 aT:KC K aa "names"
 aC:KC K aa "full"
 ba:KC K aa "bit_of"
 aF:KC K aa "strikers_of"
 bl:KC K aa "struck_of"
 bf:KC K aa "loops"
 bo:A3
 bm:JC
 bz:QT K "__init__" "Marks.__init__" MN bo bm
 bp:Binds K bm ["self","web"] []
 bB:Mk K aa bo
 ad:Mt K aa "bits_in" "Marks.bits_in" NB ["self","some"]
 al:Mt K aa "names_in" "Marks.names_in" MM ["self","some"]
 ak:Mt K aa "first_name" "Marks.first_name" LP ["self","some"]
 aJ:Mt K aa "set_of" "Marks.set_of" NK ["self","some"]
 af:Mt K aa "struck_by" "Marks.struck_by" LZ ["self","some"]
 ag:Mt K aa "strikers_at" "Marks.strikers_at" LG ["self","some"]
 ai:Mt K aa "unstruck_by" "Marks.unstruck_by" LF ["self","some"]
 bT:Mt K aa "kept" "Marks.kept" QO ["self","some"]
 ah:A3
 ay:R6 K ah
 bN:mg "Web" = some (.ref ah)
 a2:KC K ah "names"
 bu:KC K ah "strikes"
 aO:KC K ah "strikers_by_name"
 aV:KC K ah "struck_by_name"
 bD:A3
 bC:JC
 bE:QT K "__init__" "Web.__init__" NJ bD bC
 bF:Binds K bC ["self","names","strikes"] []
 bO:Mk K ah bD
 aG:Mt K ah "all_names" "Web.all_names" NA ["self"]
 bU:Mt K ah "all_strikes" "Web.all_strikes" OK ["self"]
 aK:Mt K ah "strikers" "Web.strikers" NH ["self","name"]
 aX:Mt K ah "struck" "Web.struck" OJ ["self","name"]
 av:Mt K ah "check_has" "Web.check_has" M_ ["self","name"]
 bP:∃t,mg "MOST" = some (.int 300 t)
 bM:∃t,mg "LETTERS" = some (.str "abcdefghijklmnopqrstuvwxyz" t)
 bG:∃t,mg "LONGEST_NAME" = some (.int 8 t)
 an:mg "len" = none
 a6:mg "range" = none
 aI:mg "enumerate" = none
 bv:mg "zip" = none
 bI:mg "min" = none
 bQ:mg "max" = none
 bs:mg "sum" = none
 bJ:mg "abs" = none
 a9:mg "sorted" = none
 bw:mg "int" = none
 bt:mg "str" = none
 bx:mg "bool" = none
 aU:mg "list" = none
 aW:mg "tuple" = none
 bK:mg "set" = none
 ae:mg "isinstance" = none
 bL:mg "all" = none
 bR:mg "any" = none
 bV:mg "ValueError" = none
end Sw
namespace L2
open PySem
def KZ{N b:A1 Str}{a:JX}(h1:a.kind = .function:=by rfl)(h2:a.isCoroutine=false:=by rfl)(c:a.isGenerator=false:=by rfl)(d:N.Nodup:=by decide +kernel)(e:N.take b.length=b:=by rfl)(f:∀x∈b,a.names.lookup x=some .local\/a.names.lookup x=some .cell:=by decide +kernel)(g:∀y∈a.names,y.2≠ .free:=by decide +kernel):IR N b a:=⟨h1,h2,c,d,e,f,g⟩
def Rm{j k:Nat}{A:IY}(h:JY k A)(e:j<=k:=by decide):JY j A:=h.mono e
def X4{J:It}{xs:A1 V}{a:A3}{d:Hp}(as:L_ J xs a d){g:TG}{e:TS}{D:Ends}{σ:St}{H:Hp}(Pv:Nat->St->Hp->Prop)(h:Pv 0 σ H)(j:∀i σ H,i<=xs.length->Pv i σ H->LE a d H)
  (k:∀i σ H x,xs[i]?=some x->Pv i σ H->∀b:Ends,(∀σ' H',Pv (i+1) σ' H'->b.nx σ' H')->b.rt=D.rt->g x σ H λσ2 c=>e b σ2 c) (l:∀σ H,Pv xs.length σ H->D.nx σ H) :
  ∃W:Nat->Nat->St->Hp->Prop,(∃m,W 0 m σ H)/\∀i m σ H,W i m σ H ->
   (J.stop i H/\D.nx σ H)\/(J.go i H/\∃N:St->Hp->Prop,(∀σ' H',N σ' H'->∃f,f < m/\W (i+1) f σ' H')/\∀x H',J.yld i H x H'->g x σ H' λσ2 c=>e { D with nx:=N,ct:=N,bk:=D.nx } σ2 c) :=
 Zf as Pv h j (λi σ H x n o=>k i σ H x n o _ (λ_ _ z=>z) rfl) l
def U7{lo:Int}{n:Nat}{g:TG}{c:TS}{D:Ends}{σ:St}{H:Hp}(Pv:Nat->St->Hp->Prop)(e:Pv 0 σ H)
  (f:∀i σ H,i<n->Pv i σ H->∀a:Ends,(∀σ' H',Pv (i+1) σ' H'->a.nx σ' H')->a.rt=D.rt->g (.int (lo+i)) σ H λσ2 b=>c a σ2 b) (h:∀σ H,Pv n σ H->D.nx σ H) :
  ∃W:Nat->Nat->St->Hp->Prop,(∃m,W 0 m σ H)/\∀i m σ H,W i m σ H ->
   ((TH lo n).stop i H/\D.nx σ H)\/((TH lo n).go i H/\∃N:St->Hp->Prop,(∀σ' H',N σ' H'->∃d,d < m/\W (i+1) d σ' H')/\∀x H',(TH lo n).yld i H x H'->g x σ H' λσ2 b=>c { D with nx:=N,ct:=N,bk:=D.nx } σ2 b) :=
 Sj Pv e (λi σ H j k=>f i σ H j k _ (λ_ _ z=>z) rfl) h
def A6{α:Type}{A C:α->Prop}{a:α}(e:A a)(h:C a):∃v,A v/\C v:=⟨a,e,h⟩
def Cy{α0 α1 α2:Type}{d e f g h i:α0->α1->α2->Prop}{a:α0}{b:α1}{c:α2}(j:d a b c)(h1:e a b c)(h2:f a b c)(k:g a b c)(l:h a b c)(m:i a b c):∃a b c,d a b c/\e a b c/\f a b c/\g a b c/\h a b c/\i a b c:=⟨a,b,c,j,h1,h2,k,l,m⟩
def Xj{α0 α1 α2 α3 α4 α5 α6:Type}{h i j k:α0->α1->α2->α3->α4->α5->α6->Prop}{a:α0}{b:α1}{c:α2}{d:α3}{e:α4}{f:α5}{g:α6}(l:h a b c d e f g)(h1:i a b c d e f g)(h2:j a b c d e f g)(m:k a b c d e f g):∃a b c d e f g,h a b c d e f g/\i a b c d e f g/\j a b c d e f g/\k a b c d e f g:=⟨a,b,c,d,e,f,g,l,h1,h2,m⟩
def zHq{α0 α1 α2 α3 α4 α5:Type}{g h i j k l m n:α0->α1->α2->α3->α4->α5->Prop}{a:α0}{b:α1}{c:α2}{d:α3}{e:α4}{f:α5}(o:g a b c d e f)(h1:h a b c d e f)(h2:i a b c d e f)(p:j a b c d e f)(q:k a b c d e f)(r:l a b c d e f)(s:m a b c d e f)(t:n a b c d e f):∃a b c d e f,g a b c d e f/\h a b c d e f/\i a b c d e f/\j a b c d e f/\k a b c d e f/\l a b c d e f/\m a b c d e f/\n a b c d e f:=⟨a,b,c,d,e,f,o,h1,h2,p,q,r,s,t⟩
def zIp{α0 α1 α2 α3:Type}{e f g h i j k:α0->α1->α2->α3->Prop}{a:α0}{b:α1}{c:α2}{d:α3}(l:e a b c d)(h1:f a b c d)(h2:g a b c d)(m:h a b c d)(n:i a b c d)(o:j a b c d)(p:k a b c d):∃a b c d,e a b c d/\f a b c d/\g a b c d/\h a b c d/\i a b c d/\j a b c d/\k a b c d:=⟨a,b,c,d,l,h1,h2,m,n,o,p⟩
def B8{α0 α1:Type}{c d e:α0->α1->Prop}{a:α0}{b:α1}(f:c a b)(h1:d a b)(h2:e a b):∃a b,c a b/\d a b/\e a b:=⟨a,b,f,h1,h2⟩
def B9{t u:TS}{D:Ends}{σ:St}{H:Hp}(h:∀N:St->Hp->Prop,(∀σ' H',u D σ' H'->N σ' H')->t { D with nx:=N } σ H):UY t u D σ H:=h _ λ_ _ z=>z
def zJg{i:Nat}{v:V}{t u:TS}{D:Ends}{σ:St}{H:Hp}(h:∀N:St->Hp->Prop,(∀σ' H',u D σ' H'->N σ' H')->t { D with nx:=N } (σ.set i (some v)) H):V1 i v σ H (λσ2 a=>UY t u D σ2 a):=h _ λ_ _ z=>z
end L2
namespace Sw
open PySem L2
section
variable{P:A7}{w:F8}{K:VN}{mg:Str->A5 A2}{base:IU}
def TV(c:Nat):Bool:=decide (97<=c)&&decide (c<=122)
def Q7(x:Str):Bool:=decide (1<=x.length)&&decide (x.length<=8)&&x.cps.toList.all TV
theorem Jv:("abcdefghijklmnopqrstuvwxyz":Str).cps.toList=List.range' 97 26:=by decide +kernel
theorem zDe(c:Nat):decide (c∈("abcdefghijklmnopqrstuvwxyz":Str).cps.toList)=TV c:=by
 rw[Jv];unfold TV;by_cases a:97<=c
 .by_cases b:c<=122
  .rw[AX (List.mem_range'_1.mpr (by lia)),AX a,AX b];rfl
  .rw[BA (λz=>by have:=List.mem_range'_1.mp z;lia),BA b,IE]
 .rw[BA (λz=>by have:=List.mem_range'_1.mp z;lia),BA a,EW]
theorem Ox:IR ["thing"] ["thing"] (B7 QL):=KZ
def Pk:Sp:=λb H Q _=>∃x,b = [.str x]/\x.length<=1000/\∀a,F1 H a->Q (.bl (Q7 x)) a
theorem Qe(T:Tx K mg):IZ P w K mg base JK 1 T.bq.f T.bq.fd ["thing"] Pk:=by
 refine T.bq.F.o1 Ox λr A b s H B Q E C h=>?_
 .obtain⟨x,rfl,G,k⟩:=h;refine⟨_,(B3 (G9 (PW.pt (d0 (Q0 (K7 (E5 (M6 K) T.ae C3 (A8 (pv 0) (A8 (V7 T.bt Ir) B1))))) (W1 (Q0 (Wi zDz zDz B5 (E5 Iq T.an M0 (A8 (pv 0) B1)) (zEa T.bG)))))) (B4 (C0 U2)) C5)
   (B4 (C0 (E5 (Zr K) T.bL Zj (A8 (S7 (N':=["letter"]) (cap:=[none]) (cl:=[]) (O7 trivial trivial) rfl (zFz (pv 0)) (λ_ _ _ _=>by exact⟨(NC 0),G7,(K5 Uj (pv 0) (zIy T.bM) rfl)⟩)) B1))))),?_⟩
  have d:x.length<=sizeLine:=by rw[sizeLine_eq];lia
  have m:x.cps.size=x.length:=rfl;refine A6 rfl ⟨.str x, "str",_,true,rfl,.str x,rfl,A6 rfl ?_⟩;refine S6 ?_;refine A6 rfl ⟨x,rfl,d,B8 rfl rfl (A6 rfl ?_)⟩;refine V0 (λa=>?_) (λa=>?_)
  .have a:(1:Int)<=(x.length:Int):=BZ a;refine B8 rfl rfl (A6 rfl ?_);by_cases o:(x.length:Int)<=8
   .rw[AX o];refine S6 ?_;refine A6 rfl ⟨x,rfl,λD p=>?_⟩;refine n9 (n:=x.cps.size) (λi σ g=>(∃v,σ = [v])/\F1 H g/\g D=some (.lst ((x.cps.toList.take i).map λc=>V.bl (TV c)))) ⟨⟨_,rfl⟩,F1.new p,A9⟩ (λi _ _ q _=>q) (λ_ _ _=>rfl) ?_ ?_
    .rintro i σ t v g N q ⟨⟨I,rfl⟩,j,l⟩ ⟨rfl,c,u,rfl⟩ y;refine Eg ?_;refine A6 rfl (B8 rfl rfl ⟨_,l,?_,?_⟩)
     .rw[AB,AS,sizeLine_eq];lia
     .rw[PySem.StrLaws.found_one,zDe];refine y _ _ ⟨⟨_,rfl⟩,j.upd p,?_⟩;rw[A9];have:x.cps.toList[i]?=some c:=by rw[BW];exact u
      rw[List.take_add_one,this,AR];rfl
    .rintro σ t ⟨_,j,l⟩;refine⟨D,x.cps.toList.map TV,rfl,IV.of ?_,?_⟩
     .rw[l,<-BF,CA,BV];rfl
     .have e:(x.cps.toList.map TV).all id=Q7 x:=by
       unfold Q7;rw[AX (show 1<=x.length by lia),AX (show x.length<=8 by lia),List.all_map];rfl
      rw[e];exact k _ j
   .rw[BA o];refine Gc ?_;have e:Q7 x=false:=by
     unfold Q7;rw[BA (show ¬x.length<=8 by lia),IE,EW]
    have:=k H (F1.refl H);rw[e]at this;exact this
  .have a:¬(1:Int)<=(x.length:Int):=λz=>a (AX z);refine A6 rfl ?_;refine Gc ?_;have e:Q7 x=false:=by
    unfold Q7;rw[BA (show ¬1<=x.length by lia),EW,EW]
   have:=k H (F1.refl H);rw[e]at this;exact this
theorem JE{α:Type}{l:A1 α}{i:Nat}{x:α}(h:l[i]?=some x):l.take (i+1)=l.take i ++ [x]:=by
 rw[List.take_add_one,h];rfl
theorem Dz{α:Type}{l:A1 α}{i:Nat}{x:α}(a:l.Nodup)(h:l[i]?=some x):x∉l.take i:=by
 intro b;obtain⟨j,c,e⟩:=List.getElem_of_mem b;have d:j<i:=by rw[AS]at c;lia
 rw[List.getElem_take]at e;obtain⟨g,f⟩:=AE.mp h;have:=(List.getElem_inj a).mp (e.trans f.symm);lia
theorem KU:IR ["names","seen","place","name"] ["names"] (B7 NX):=KZ
def LA(ss:A1 Str):Prop:=(∀x∈ss,Q7 x=true)/\ss.Nodup/\ss.length<=100
def Co(K:VN):Sp:=λc H Q _=>∃(p:A3) (a:A1 Str),c = [.ref p]/\IV K H p (a.map V.str)/\LA a/\∀b,F1 H b->Q .non b
theorem Tf{x:Str}(h:Q7 x=true):1<=x.length/\x.length<=8:=by
 unfold Q7 at h;rw[BL,BL]at h;exact⟨BZ h.1.1,BZ h.1.2⟩
theorem Cz(T:Tx K mg):IZ P w K mg base JK 2 T.a4.f T.a4.fd ["names"] (Co K):=by
 refine T.a4.F.o1 KU λU A C s H Z Q E J h=>?_
 .obtain⟨a,b,rfl,r,⟨V,W,hL⟩,k⟩:=h;have hu:=b9 J;refine⟨_,(B3 (D6 (i:=1) KU.nd rfl (.inl rfl) (Dq (zAu P w) (by rfl) T.bK Zv))
   (B4 (Q5 PassesOwn.never rfl (UP K T.aI (A8 (pv 0) B1)) (QY K (n:=2) (C6 (D9 (i:=2) KU.nd rfl (.inl rfl)) (C6 (D9 (i:=3) KU.nd rfl (.inl rfl)) M7)))
   (B3 (G9 (PW.pt (d0 (Q0 (K7 (D4 T.bq (Qe T) (Rm J) (A8 (pv 3) B1)))) (W1 (C7 (zIt P w) (pv 3) (pv 1) rfl)))) (B4 Aw) C5)
   (B4 (K4 (Zw P w (zDo P w) (pv 1) (A8 (pv 3) B1)))))))),?_⟩
  refine⟨rfl,λp L=>?_⟩;have M:F1 H (IT H p (Qn P w p [])):=F1.new L;refine A6 rfl ⟨a,A6 rfl ⟨(M.at a).seqL r,Xh (n:=b.length) (λi σ g=>∃l m,σ = [some (.ref a),some (.ref p),l,m]/\F1 H g/\g p=some (Qn P w p ((b.take i).map Sum.inr))) ⟨_,_,rfl,M,A9⟩ ?_ ?_ ?_ ?_⟩⟩
  .rintro i σ g u ⟨l,m,rfl,c,o⟩;exact⟨_,_,(c.at a).seqL r,by rw[AI,AC u];rfl⟩
  .rintro σ g ⟨l,m,rfl,c,o⟩;exact⟨_,(c.at a).seqL r,by rw[AB]⟩
  .rintro i σ g v H' u ⟨l,m,rfl,c,o⟩ ⟨t,x,rfl,N,rfl,B⟩;have B:=B _ ((c.at a).seqL r);have j:b[i]?=some b[i]:=AC u;rw[AI,j]at B;cases B;have X:b[i]∈b:=GM u;have q:=V _ X;have O:=Tf q;have D:p≠t:=B2 o N;refine⟨t,A6 rfl ⟨JL.of A9,rfl,_,A6 rfl (B8 rfl rfl ?_)⟩⟩;refine A6 rfl ⟨b[i],rfl,by lia,λR S=>⟨_,rfl,?_⟩⟩;rw[q];refine S6 ?_;have G:F1 H R:=(c.trans (F1.new N)).trans S;have I:R p=some (Qn P w p ((b.take i).map Sum.inr)):=S _ _ (by rw[B6 D];exact o);have d:¬(Sum.inr b[i]:JH)∈(b.take i).map Sum.inr:=λz=>by
    obtain⟨y,Y,e⟩:=AJ.mp z;cases e;exact Dz W j Y
   refine A6 rfl (A6 rfl ⟨p,_,Sum.inr b[i],rfl,rfl,I,A6 rfl ?_⟩);rw[AN (by decide),BA d];refine S6 ?_;refine A6 rfl ⟨⟨p,rfl,.inl ⟨_,I⟩⟩,A6 rfl ⟨p,_,Sum.inr b[i],rfl,rfl,I,?_,?_⟩⟩
   .rw[AB,AS];lia
   .refine⟨_,A6 rfl ⟨G.upd L,?_⟩⟩;rw[A9];unfold zHe;rw[AN d,JE j,AR];rfl
  .rintro σ g ⟨l,m,rfl,c,o⟩;exact k g c
def Gn(ss:A1 Str):(ss.map V.str).all Cm=true:=by
 rw[FD];intro v a;obtain⟨x,_,rfl⟩:=AJ.mp a;rfl
def Ud(x:Str)(ss:A1 Str):US (.str x) (ss.map V.str)=decide (x∈ss):=by
 unfold US;rw[List.any_map]
 induction ss with
 | nil=>rfl
 | cons y r a =>
  rw[HA,a];show((y == x)||decide (x∈r))=decide (x∈y::r);by_cases e:x=y
  .subst e;simp
  .have:(y == x)=false:=by simpa using λz=>e z.symm
   rw[this,Bool.false_or];by_cases h:x∈r
   .rw[AX h,AX (BG _ h)]
   .rw[BA h,BA (λz=>(AK.mp z).elim e h)]
def Lw{K:VN}{H:Hp}{p:A3}{x:Str}{ss:A1 Str}{Q:VK}(h:VG K H p (ss.map V.str))(q:Q (.bl (decide (x∈ss))) H):UO K false (.str x) (.ref p) H Q :=
 ⟨p,_,rfl,h,rfl,Gn ss,by rw[AN (by decide),Ud];exact q⟩
def Dm{K:VN}{H:Hp}{p:A3}{x:Str}{ss:A1 Str}{Q:VK}(h:VG K H p (ss.map V.str))(q:Q (.bl (!decide (x∈ss))) H):UO K true (.str x) (.ref p) H Q :=
 ⟨p,_,rfl,h,rfl,Gn ss,by rw[AQ rfl,Ud];exact q⟩
theorem Ja:IR ["names","thing"] ["names","thing"] (B7 PL):=KZ
def Hk(K:VN):Sp:=λb H Q _=>∃(p:A3) (a:A1 Str) (t:A3) (x y:Str),b = [.ref p,.ref t]/\IV K H p (a.map V.str)/\H t=some (.tup [.str x,.str y])/\x∈a/\y∈a/\Q (.bl true) H
theorem Gp(T:Tx K mg):IZ P w K mg base JK 1 T.bc.f T.bc.fd ["names","thing"] (Hk K):=by
 refine T.bc.F.o1 Ja λe A c s H j Q E l h=>?_
 .obtain⟨p,m,t,x,y,rfl,d,b,g,i,k⟩:=h;refine⟨_,(B3 (G9 (PW.pt (d0 (Q0 (K7 (E5 (M6 K) T.ae C3 (A8 (pv 1) (A8 (V7 T.aW S9) B1))))) (W1 (C7 Es (E5 (O0 K) T.an M0 (A8 (pv 1) B1)) B5 (D8 _))))) (B4 (C0 U2)) C5)
   (B4 (C0 (U3 (K5 (zCd K) (E1 (QD K) (pv 1) B5 (λ_ _=>rfl)) (pv 0) rfl) (W3 (K5 (zCd K) (E1 (QD K) (pv 1) B5 (λ_ _=>rfl)) (pv 0) rfl)))))),?_⟩
  refine A6 rfl ⟨_, "tuple",_,true,rfl,.tup b,rfl,A6 rfl ?_⟩;refine S6 ?_;refine A6 rfl (B8 (a:=t) rfl (.inr (JL.of b)) ⟨rfl,A6 rfl ?_⟩);refine S6 ?_;refine A6 rfl ⟨t,_,B8 rfl rfl ⟨JL.of b,rfl,A6 rfl (Lw (.inl d) ⟨_,rfl,?_⟩)⟩⟩;rw[AX g];refine Gc ?_;refine A6 rfl ⟨t,_,B8 rfl rfl ⟨JL.of b,rfl,A6 rfl (Lw (.inl d) ?_)⟩⟩;rw[AX i];exact k
structure OA(ss:A1 Str)(ps:A1 KJ):Prop where
 nm:∀q∈ps,q.2.1∈ss/\q.2.2∈ss
 nd:(ps.map λq=>q.2).Nodup
 len:ps.length<=200
def M9(a:A1 KJ):A1 V:=a.map λq=>V.ref q.1
def Js(a:A1 KJ):A1 (A1 JH×A3):=a.map λq=>([.inr q.2.1,.inr q.2.2],q.1)
theorem Xq{H:Hp}{a:A1 KJ}(h:∀q∈a,G0 H q):Nm H (Js a):=λk b=>by
 obtain⟨q,c,rfl⟩:=AJ.mp b;exact h q c
theorem Q9{H H':Hp}{a:A1 KJ}(s:F1 H H')(h:∀q∈a,G0 H q):∀q∈a,G0 H' q:=λq b=>s _ _ (h q b)
theorem KH:IR ["names","strikes","seen","place","strike"] ["names","strikes"] (B7 MZ):=KZ
def Ah(K:VN):Sp:=λe H Q _=>∃(p:A3) (c:A1 Str) (a:A3) (b:A1 KJ),e = [.ref p,.ref a]/\IV K H p (c.map V.str)/\IV K H a (M9 b)/\(∀q∈b,G0 H q)/\OA c b/\∀d,F1 H d->Q .non d
theorem Ap(T:Tx K mg):IZ P w K mg base JK 2 T.a0.f T.a0.fd ["names","strikes"] (Ah K):=by
 refine T.a0.F.o1 KH λX A D s H vs Q E N h=>?_
 .obtain⟨n,Y,a,b,rfl,Z,y,O,⟨hN,hD,hL⟩,k⟩:=h;have R:=b9 N;refine⟨_,(B3 (D6 (i:=2) KH.nd rfl (.inl rfl) (Dq (Vx P w) (by rfl) T.bK Zv))
   (B4 (Q5 PassesOwn.never rfl (UP K T.aI (A8 (pv 1) B1)) (QY K (n:=2) (C6 (D9 (i:=3) KH.nd rfl (.inl rfl)) (C6 (D9 (i:=4) KH.nd rfl (.inl rfl)) M7)))
   (B3 (G9 (PW.pt (d0 (Q0 (K7 (D4 T.bc (Gp T) (Rm N) (A8 (pv 0) (A8 (pv 4) B1))))) (W1 (C7 (zJd P w R) (pv 4) (pv 2) rfl)))) (B4 Aw) C5)
   (B4 (K4 (Zw P w (zFj P w R) (pv 2) (A8 (pv 4) B1)))))))),?_⟩
  refine⟨rfl,λp S=>?_⟩;have U:F1 H (IT H p (Qp P w p [])):=F1.new S;refine A6 rfl ⟨a,A6 rfl ⟨(U.at a).seqL y,Xh (n:=b.length) (λi σ c=>∃l v4,σ = [some (.ref n),some (.ref a),some (.ref p),l,v4]/\F1 H c/\c p=some (Qp P w p (Js (b.take i)))) ⟨_,_,rfl,U,A9⟩ ?_ ?_ ?_ ?_⟩⟩
  .rintro i σ c B ⟨G,l,rfl,d,m⟩;exact⟨_,_,(d.at a).seqL y,by unfold M9;rw[AI,AC B];rfl⟩
  .rintro σ c ⟨G,l,rfl,d,m⟩;exact⟨_,(d.at a).seqL y,by unfold M9;rw[AB]⟩
  .rintro i σ c v H' B ⟨G,l,rfl,d,m⟩ ⟨t,x,rfl,V,rfl,o⟩;have o:=o _ ((d.at a).seqL y);have g:b[i]?=some b[i]:=AC B;unfold M9 at o;rw[AI,g]at o;cases o;have W:b[i]∈b:=GM B;obtain⟨I,J⟩:=hN _ W;have L:p≠t:=B2 m V;have C:F1 H (IT c t (.tup [.int i,.ref b[i].1])):=d.trans (F1.new V);have j:=C _ _ (O _ W);refine⟨t,A6 rfl ⟨JL.of A9,rfl,_,A6 rfl (B8 rfl rfl ?_)⟩⟩;refine A6 rfl (A6 rfl ⟨n,Y,b[i].1,b[i].2.1,b[i].2.2,rfl,(C.at n).seqL Z,j,I,J,A6 rfl ?_⟩);refine S6 ?_;have M:(IT c t (.tup [.int i,.ref b[i].1])) p=some (Qp P w p (Js (b.take i))):=by rw[B6 L];exact m
   have r:Nm (IT c t (.tup [.int i,.ref b[i].1])) (Js (b.take i)):=Xq (Q9 C λq j=>O q (CK j));have u:∀q∈Js (b.take i),q.1≠[.inr b[i].2.1,.inr b[i].2.2]:=λq j e=>by
    obtain⟨z,hz,rfl⟩:=AJ.mp j;have e':z.2=b[i].2:=by
     obtain⟨z1,z2,z3⟩:=z;simp only[List.cons.injEq,Sum.inr.injEq,and_true]at e;exact Prod.ext e.1 e.2
    have h1:(b.map λq=>q.2)[i]?=some b[i].2:=by rw[AI,g];rfl
    refine Dz hD h1 ?_;rw[<-List.map_take,<-e'];exact AJ.mpr ⟨z,hz,rfl⟩
   refine A6 rfl (A6 rfl ⟨p,b[i].1,_,[.inr b[i].2.1,.inr b[i].2.2],rfl,rfl,M,j,r,u,A6 rfl ?_⟩);refine S6 ?_;refine A6 rfl ⟨⟨p,rfl,.inr (.inr ⟨_,M⟩)⟩,A6 rfl ⟨p,b[i].1,_,[.inr b[i].2.1,.inr b[i].2.2],rfl,rfl,M,j,r,u,?_,?_⟩⟩
   .unfold Js;rw[AB,AS];lia
   .refine⟨_,A6 rfl ⟨C.upd S,?_⟩⟩;rw[A9,JE g];unfold Js;rw[AR];rfl
  .rintro σ c ⟨G,l,rfl,d,m⟩;exact k c d
def la(a:A1 (JH×V))(n:Str):A3:=match U5 a (.inr n)with | some (.ref l)=>l | _=>0
def Qx(a:A1 (JH×V))(n m:Str)(v:V):U5 (y0 a (Sum.inr n:JH) v) (.inr m)=if m=n then some v else U5 a (.inr m):=by
 rw[Au];by_cases e:m=n
 .rw[AQ e,AQ (by rw[e])]
 .rw[AN e,AN (λz=>e (Sum.inr.inj z))]
def Ed(a:A1 (JH×V))(n m:Str)(p:A3):la (y0 a (.inr n) (.ref p)) m=if m=n then p else la a m:=by
 unfold la;rw[Qx];by_cases e:m=n
 .rw[AQ e,AQ e]
 .rw[AN e,AN e]
structure DOk(H0:Hp)(kvs:A1 (JH×V))(ns:A1 Str):Prop where
 val:∀n∈ns,U5 kvs (.inr n)=some (.ref (la kvs n))
 inj:∀n∈ns,∀m∈ns,la kvs n=la kvs m->n=m
 fr:∀n∈ns,H0 (la kvs n)=none
def zAa{K:VN}{J:It}{a:A3}{ns:A1 Str}{H:Hp}{σ:St}{Q:St->Hp->Prop}(as:L_ J (ns.map V.str) a H)(hσ:∃v,σ = [v])(I:ns.Nodup)(L:ns.length<=1000){D:A3}(A:H D=none)
  (q:∀σ b H',F1 H H'->H' D=some (.dK b)->DOk H b ns->(∀n∈ns,H' (la b n)=some (.lst []))->(∀n∈ns,la b n≠D)->Q σ H') :
  Ig (V1 0) Aq (Yd D (Sc 0) (zKc TW)) J σ (IT H D (.dK [])) Q:=by
 obtain⟨v,rfl⟩:=hσ;refine W0 as (λi σ f=>(∃v,σ = [v])/\∃b,F1 H f/\f D=some (.dK b)/\b.length<=i/\DOk H b (ns.take i)/\(∀n∈ns.take i,f (la b n)=some (.lst []))/\∀n∈ns.take i,la b n≠D)
  ⟨⟨v,rfl⟩,[],F1.new A,A9,CY _,⟨λn h=>by simp at h,λn h=>by simp at h,λn h=>by simp at h⟩,λn h=>by simp at h,λn h=>by simp at h⟩ (λi σ f _ ⟨_,b,l,_⟩=>l.at a) ?_ ?_
 .rintro i σ f x N s ⟨⟨v,rfl⟩,b,l,w,C,t,o,y⟩ E;rw[AI]at s;have F:i<ns.length:=by
   rcases II i ns.length with z | z
   .exact z
   .rw[EG z]at s;cases s
  have u:ns[i]?=some ns[i]:=AC F;rw[u]at s;cases s;refine Eg ?_;refine A6 rfl ⟨CY _,λp r=>?_⟩;have g:D≠p:=B2 w r;refine⟨b,.inr ns[i],by rw[B6 g];exact w,rfl,by rw[sizeLine_eq];lia,E _ _ ⟨⟨_,rfl⟩,y0 b (.inr ns[i]) (.ref p),?_,A9,?_,⟨?_,?_,?_⟩,?_,?_⟩⟩
  .exact(l.trans (F1.new r)).upd A
  .have:=R8 b (Sum.inr ns[i]:JH) (.ref p);lia
  all_goals rw[JE u]
  .intro n c;rw[Qx,Ed];by_cases e:n=ns[i]
   .rw[AQ e,AQ e]
   .rw[AN e,AN e];rcases A_.mp c with z | z
    .exact t.val n z
    .exact absurd (AG.mp z) e
  .intro n c m B;rw[Ed,Ed];have d:∀k∈ns.take i ++ [ns[i]],k≠ns[i]->k∈ns.take i:=λk G e=>(A_.mp G).elim id λz=>absurd (AG.mp z) e;by_cases e:n=ns[i]
   .by_cases j:m=ns[i]
    .exact λ_=>e.trans j.symm
    .rw[AQ e,AN j];intro z;have:=o m (d m B j);rw[<-z,r]at this;cases this
   .by_cases j:m=ns[i]
    .rw[AN e,AQ j];intro z;have:=o n (d n c e);rw[z,r]at this;cases this
    .rw[AN e,AN j];exact t.inj n (d n c e) m (d m B j)
  .intro n c;rw[Ed];by_cases e:n=ns[i]
   .rw[AQ e];exact l.free r
   .rw[AN e];rcases A_.mp c with z | z
    .exact t.fr n z
    .exact absurd (AG.mp z) e
  .intro n c;rw[Ed];by_cases e:n=ns[i]
   .rw[AQ e,B6 g.symm,A9]
   .rw[AN e];rcases A_.mp c with z | z
    .rw[B6 (y n z),B6 (B2 (o n z) r)];exact o n z
    .exact absurd (AG.mp z) e
  .intro n c;rw[Ed];by_cases e:n=ns[i]
   .rw[AQ e];exact g.symm
   .rw[AN e];rcases A_.mp c with z | z
    .exact y n z
    .exact absurd (AG.mp z) e
 .rintro σ f ⟨_,b,l,w,C,t,o,y⟩;rw[AB]at *;rw[CA]at *;exact q σ b f l w t o y
def C8(a:A1 KJ)(n:Str):A1 Str:=(a.filter λq=>decide (q.2.2=n)).map λq=>q.2.1
def E7(a:A1 KJ)(n:Str):A1 Str:=(a.filter λq=>decide (q.2.1=n)).map λq=>q.2.2
def Cl(a:A1 KJ)(q:KJ)(n:Str):C8 (a ++ [q]) n=C8 a n ++(if q.2.2=n then [q.2.1]else []):=by
 unfold C8;rw[D_,AR];by_cases e:q.2.2=n
 .rw[AQ e,DQ,AQ (AX e)];rfl
 .rw[AN e,DQ,AN (by simp[e])];rfl
def Fr(a:A1 KJ)(q:KJ)(n:Str):E7 (a ++ [q]) n=E7 a n ++(if q.2.1=n then [q.2.2]else []):=by
 unfold E7;rw[D_,AR];by_cases e:q.2.1=n
 .rw[AQ e,DQ,AQ (AX e)];rfl
 .rw[AN e,DQ,AN (by simp[e])];rfl
def wf(a b c d:A3):A1 (Str×V):=[("names",.ref a),("strikes",.ref b),("strikers_by_name",.ref c),("struck_by_name",.ref d)]
structure VD(ns:A1 Str)(qs:A1 KJ):Prop where
 nd:ns.Nodup
 len:ns.length<=100
 srt:ns.Pairwise SM
 mem:∀q∈qs,q.2.1∈ns/\q.2.2∈ns
 ndq:(qs.map λq=>q.2).Nodup
 lenq:qs.length<=200
 srq:qs.Pairwise VC
structure K_(C:A3)(H:Hp)(x:A3)(ns:A1 Str)(qs:A1 KJ):Prop where
 ok:VD ns qs
 ex:∃dx a b c d kc kd,H x=some (.ins C dx (wf a b c d))/\H a=some (.lst (ns.map V.str))/\H b=some (.lst (M9 qs))/\(∀q∈qs,G0 H q)/\H c=some (.dK kc)/\H d=some (.dK kd) /\
  (∀n∈ns,∃l,U5 kc (.inr n)=some (.ref l)/\H l=some (.lst ((C8 qs n).map V.str)))/\∀n∈ns,∃l,U5 kd (.inr n)=some (.ref l)/\H l=some (.lst ((E7 qs n).map V.str))
theorem LD:IR ["self","names","strikes","one","other"] ["self","names","strikes"] (B7 NJ):=KZ
def Kx(K:VN)(C:A3):Sp:=λg H Q _=>∃(x h n:A3) (b:A1 Str) (a:A3) (c:A1 KJ),g = [.ref x,.ref n,.ref a]/\H x=some (.ins C h [])/\H n=some (.lst (b.map V.str))/\LA b /\
 H a=some (.lst (M9 c))/\(∀q∈c,G0 H q)/\OA b c/\∀d e f,d.Perm b->d.Pairwise SM->e.Perm c->e.Pairwise VC->Sm [x] H f->K_ C f x d e->Q .non f
theorem Lv(T:Tx K mg):IZ P w K mg base JK 3 T.bD T.bC ["self","names","strikes"] (Kx K T.ah):=by
 refine T.bE.o1 LD λcdv A outer s H vs Q E hr h=>?_
 .obtain⟨x,g,n,ss,a,ps,rfl,hx,hS,hN,hP,hI,hO,k⟩:=h;have hu:=b9 hr;refine⟨_,(B3 (K4 (D4 T.a4 (Cz T) (Rm hr) (A8 (pv 1) B1)))
   (B3 (K4 (D4 T.a0 (Ap T) (Rm hr) (A8 (pv 1) (A8 (pv 2) B1))))
   (B3 (SK K (pv 0) (E5 (Oi K) T.a9 X1 (A8 (pv 1) B1)))
   (B3 (SK K (pv 0) (E5 (Xl K) T.a9 X1 (A8 (pv 2) B1)))
   (B3 (SK K (pv 0) (Sk (N':=["name"]) (cap:=[none]) (cl:=[]) (O7 trivial trivial) rfl (OL K (OS K (pv 0))) (λ_ _ _ _=>by exact⟨(NC 0),G7,(pv 0),(P8 B1)⟩)))
   (B3 (SK K (pv 0) (Sk (N':=["name"]) (cap:=[none]) (cl:=[]) (O7 trivial trivial) rfl (OL K (OS K (pv 0))) (λ_ _ _ _=>by exact⟨(NC 0),G7,(pv 0),(P8 B1)⟩)))
   (B4 (Q5 PassesOwn.never rfl (OL K (OS K (pv 0))) (QY K (n:=2) (C6 (D9 (i:=3) LD.nd rfl (.inl rfl)) (C6 (D9 (i:=4) LD.nd rfl (.inl rfl)) M7)))
   (B3 (K4 (Dk K VS VT VU O4 (O1 hu (OS K (pv 0)) (pv 4) (λ_ _=>rfl)) (A8 (pv 3) B1)))
   (B4 (K4 (Dk K VS VT VU O4 (O1 hu (OS K (pv 0)) (pv 3) (λ_ _=>rfl)) (A8 (pv 4) B1))))))))))))),?_⟩
  obtain⟨hN1,hN2,hN3⟩:=id hN;obtain⟨hO1,hO2,hO3⟩:=id hO;refine B9 λZ1 hZ1=>?_;refine A6 rfl ⟨n,ss,rfl,IV.of hS,hN,λH1 s1=>?_⟩;refine hZ1 _ _ (B9 λZ2 hZ2=>?_);refine A6 rfl (A6 rfl ⟨n,ss,a,ps,rfl,IV.of (s1 _ _ hS),IV.of (s1 _ _ hP),Q9 s1 hI,hO,λH2 s2=>?_⟩);refine hZ2 _ _ (B9 λZ3 hZ3=>?_);have s12:=s1.trans s2;refine A6 rfl ⟨n,ss,rfl,IV.of (s12 _ _ hS),λj p hl1 p1 w1=>?_⟩;have M:x≠j:=B2 (s12 _ _ hx) hl1;refine A6 rfl ⟨x,T.ah,g,[],rfl,by rw[B6 M];exact s12 _ _ hx,T.ay,T.a2,by decide,?_⟩;have hxa:a≠x:=S8 hP hx (by intro z;cases z);have k3:Sm [x] H (IT (IT H2 j (.lst (p.map V.str))) x (.ins T.ah g (Q8 "names" (.ref j) []))):=(Sm.new s12.sm hl1).upd (by simp);have e3:(IT (IT H2 j (.lst (p.map V.str))) x (.ins T.ah g (Q8 "names" (.ref j) []))) j=some (.lst (p.map V.str)):=by rw[B6 M.symm,A9]
  generalize hH3:IT (IT H2 j (.lst (p.map V.str))) x (.ins T.ah g (Q8 "names" (.ref j) []))=H3 at k3 e3⊢;refine hZ3 _ _ (B9 λZ4 hZ4=>?_);have x3:H3 x=some (.ins T.ah g [("names",.ref j)]):=by rw[<-hH3,A9];rfl
  have r:∀{b:A3},b≠x->b∉[x]:=λh z=>h (AG.mp z);have U:∀q∈ps,G0 H3 q:=λq D=>k3 _ _ (hI q D) (r (S8 (hI q D) hx (by intro z;cases z)));refine A6 rfl ⟨a,ps,rfl,IV.of (k3 _ _ hP (r hxa)),U,λt y hl2 p2 w2=>?_⟩;have N:x≠t:=B2 x3 hl2;refine A6 rfl ⟨x,T.ah,g,[("names",.ref j)],rfl,by rw[B6 N];exact x3,T.ay,T.bu,by simp,?_⟩;have k4:Sm [x] H3 (IT (IT H3 t (.lst (M9 y))) x (.ins T.ah g (Q8 "strikes" (.ref t) [("names",.ref j)]))):=(Sm.new (Sm.refl _ _) hl2).upd (by simp);have e4:(IT (IT H3 t (.lst (M9 y))) x (.ins T.ah g (Q8 "strikes" (.ref t) [("names",.ref j)]))) t=some (.lst (M9 y)):=by rw[B6 N.symm,A9]
  have R:(IT (IT H3 t (.lst (M9 y))) x (.ins T.ah g (Q8 "strikes" (.ref t) [("names",.ref j)]))) x=some (.ins T.ah g [("names",.ref j),("strikes",.ref t)]):=by rw[A9];rfl
  refine hZ4 _ _ ?_;show UY _ _ _ _ (IT (IT H3 t (.lst (M9 y))) x (.ins T.ah g (Q8 "strikes" (.ref t) [("names",.ref j)])));generalize IT (IT H3 t (.lst (M9 y))) x (.ins T.ah g (Q8 "strikes" (.ref t) [("names",.ref j)]))=H4 at k4 e4 R⊢;have f4:H4 j=some (.lst (p.map V.str)):=k4 _ _ e3 (r M.symm);have u:∀q∈y,G0 H4 q:=λq D=>k4 _ _ (U q (p2.mem_iff.mp D)) (r (S8 (U q (p2.mem_iff.mp D)) x3 (by intro z;cases z)));have ndn:p.Nodup:=p1.nodup_iff.mpr hN2;have lnn:p.length<=1000:=by rw[p1.length_eq];lia
  refine B9 λZ5 hZ5=>?_;refine A6 rfl ⟨x,T.ah,g,_,A6 rfl ⟨R,T.ay,T.a2,rfl,j,rfl,⟨_,IV.of f4⟩,λc hc=>zAa (K:=K) (ON (IV.of f4)) ⟨_,rfl⟩ ndn lnn hc λ_ I H5 s5 e5 D5 c5 n5=>?_⟩⟩;have x5:=s5 _ _ R;refine A6 rfl ⟨x,T.ah,g,A6 rfl ⟨x5,T.ay,T.aO,by simp,?_⟩⟩;have k6:Sm [x] H5 (IT H5 x (.ins T.ah g (Q8 "strikers_by_name" (.ref c) [("names",.ref j),("strikes",.ref t)]))):=(Sm.refl _ _).upd (by simp);have x6:(IT H5 x (.ins T.ah g (Q8 "strikers_by_name" (.ref c) [("names",.ref j),("strikes",.ref t)]))) x=some (.ins T.ah g [("names",.ref j),("strikes",.ref t),("strikers_by_name",.ref c)]):=by rw[A9];rfl
  generalize IT H5 x (.ins T.ah g (Q8 "strikers_by_name" (.ref c) [("names",.ref j),("strikes",.ref t)]))=H6 at k6 x6⊢;refine hZ5 _ _ (B9 λZ6 hZ6=>?_);have W:∀{b:A3} {o:HO},H4 b=some o->b≠x->H6 b=some o:=λe B=>k6 _ _ (s5 _ _ e) (r B);have f6:=W f4 M.symm;have g6:=W e4 N.symm;have c6:H6 c=some (.dK I):=k6 _ _ e5 (r (B2 R hc).symm);have cl6:∀n∈p,H6 (la I n)=some (.lst []):=λn f=>k6 _ _ (c5 n f) (r (B2 R (D5.fr n f)).symm);refine A6 rfl ⟨x,T.ah,g,_,A6 rfl ⟨x6,T.ay,T.a2,rfl,j,rfl,⟨_,IV.of f6⟩,λd hd=>zAa (K:=K) (ON (IV.of f6)) ⟨_,rfl⟩ ndn lnn hd λ_ L H7 s7 e7 D7 c7 n7=>?_⟩⟩;have x7:=s7 _ _ x6;refine A6 rfl ⟨x,T.ah,g,A6 rfl ⟨x7,T.ay,T.aV,by simp,?_⟩⟩;have k8:Sm [x] H7 (IT H7 x (.ins T.ah g (Q8 "struck_by_name" (.ref d) [("names",.ref j),("strikes",.ref t),("strikers_by_name",.ref c)]))):=(Sm.refl _ _).upd (by simp);have x8:(IT H7 x (.ins T.ah g (Q8 "struck_by_name" (.ref d) [("names",.ref j),("strikes",.ref t),("strikers_by_name",.ref c)]))) x=some (.ins T.ah g (wf j t c d)):=by rw[A9];rfl
  generalize IT H7 x (.ins T.ah g (Q8 "struck_by_name" (.ref d) [("names",.ref j),("strikes",.ref t),("strikers_by_name",.ref c)]))=H8 at k8 x8⊢;refine hZ6 _ _ ?_;have O:∀{b:A3} {o:HO},H6 b=some o->b≠x->H8 b=some o:=λe B=>k8 _ _ (s7 _ _ e) (r B);have f8:=O f6 M.symm;have g8:=O g6 N.symm;have c8:=O c6 (B2 R hc).symm;have d8:H8 d=some (.dK L):=k8 _ _ e7 (r (B2 x6 hd).symm);have cl8:∀n∈p,H8 (la I n)=some (.lst []):=λn f=>O (cl6 n f) (B2 R (D5.fr n f)).symm;have dl8:∀n∈p,H8 (la L n)=some (.lst []):=λn f=>k8 _ _ (c7 n f) (r (B2 x6 (D7.fr n f)).symm);have pin8:∀q∈y,G0 H8 q:=λq D=>O (W (u q D) (S8 (u q D) R (by intro z;cases z))) (S8 (u q D) R (by intro z;cases z));have dif:∀n∈p,∀m∈p,la I n≠la L m:=λn f m G=>B2 (cl6 n f) (D7.fr m G);have C:∀{b:A3} {o:HO},H4 b=some o->b≠x->(∀n∈p,b≠la I n)/\∀n∈p,b≠la L n:=λe B=>⟨λn f=>B2 e (D5.fr n f),λn f=>B2 (W e B) (D7.fr n f)⟩;have kall:Sm [x] H H8:=λb o e B=>by
   have hb':b≠x:=λz=>B (by simp[z]);exact O (W (k4 _ _ (k3 _ _ e B) B) hb') hb'
  have odif:∀{b:A3} {o:HO},H b=some o->b≠x->(∀n∈p,b≠la I n)/\∀n∈p,b≠la L n:=λe B=>C (k4 _ _ (k3 _ _ e (r B)) (r B)) B;have X:(∀n∈p,x≠la I n)/\∀n∈p,x≠la L n:=⟨λn f=>B2 R (D5.fr n f),λn f=>B2 x6 (D7.fr n f)⟩;have cdif:(∀n∈p,c≠la I n)/\∀n∈p,c≠la L n:=⟨λn f=>(n5 n f).symm,λn f=>B2 c6 (D7.fr n f)⟩;have Y:(∀n∈p,d≠la I n)/\∀n∈p,d≠la L n:=⟨λn f=>(B2 (cl6 n f) hd).symm,λn f=>(n7 n f).symm⟩;refine⟨_,rfl,x,T.ah,g,_,_,rfl,x8,T.ay,T.bu,rfl,t,rfl,⟨_,IV.of g8⟩,X4 (ON (IV.of g8)) (λi σ S=>(∃v3 v4,σ = [some (.ref x),some (.ref n),some (.ref a),v3,v4]) /\
   (∀b o,H8 b=some o->((∀n∈p,b≠la I n)/\∀n∈p,b≠la L n)->S b=some o)/\(∀n∈p,S (la I n)=some (.lst ((C8 (y.take i) n).map V.str)))/\∀n∈p,S (la L n)=some (.lst ((E7 (y.take i) n).map V.str)))
   ⟨⟨_,_,rfl⟩,λb o e _=>e,cl8,dl8⟩ ?_ ?_ ?_⟩
  .rintro i σ S _ ⟨_,J,_⟩ o e;exact J _ _ e (C e4 N.symm)
  .rintro i σ S v hv ⟨⟨v3,v4,rfl⟩,J,h2,h3⟩ D1 hD1 _;unfold M9 at hv;rw[AI]at hv;cases D:y[i]? with
   | none=>rw[D]at hv;cases hv
   | some q =>
    rw[D]at hv;cases hv;have G:q∈y:=AM D;have hq9:G0 S q:=J _ _ (pin8 q G) (C (u q G) (S8 (u q G) R (by intro z;cases z)));obtain⟨m1,Z⟩:=hO1 q (p2.mem_iff.mp G);have m1:q.2.1∈p:=p1.mem_iff.mpr m1;have Z:q.2.2∈p:=p1.mem_iff.mpr Z;have hlen:∀l:A1 KJ,l.length<=200->∀n,(C8 l n).length<=200/\(E7 l n).length<=200:=λl hl n=>by
     unfold C8 E7;rw[AB,AB];exact⟨VR (CB ..) hl,VR (CB ..) hl⟩
    have hl200:(y.take i).length<=200:=by
     rw[AS];have:=p2.length_eq;lia
    have x9:S x=some (.ins T.ah g (wf j t c d)):=J _ _ x8 X;refine⟨q.1,A6 rfl ⟨JL.of hq9,rfl,_,A6 rfl (B8 rfl rfl ?_)⟩⟩;refine A6 rfl ⟨x,T.ah,g,_,A6 rfl ⟨x9,T.ay,T.aO,rfl,A6 rfl ⟨c,.ref (la I q.2.2),rfl,by rw[<-D5.val _ Z];exact OY.k (k:=Sum.inr q.2.2) (J _ _ c8 cdif),.inl ⟨rfl,_,IV.of (h2 _ Z)⟩,A6 rfl ⟨_,B8 rfl rfl ⟨h2 _ Z,?_,?_⟩⟩⟩⟩⟩
    .rw[AB,sizeLine_eq];have:=(hlen _ hl200 q.2.2).1;lia
    have x10:(IT S (la I q.2.2) (.lst ((C8 (y.take i) q.2.2).map V.str ++ [.str q.2.1]))) x=some (.ins T.ah g (wf j t c d)):=by rw[B6 (X.1 _ Z)];exact x9
    have d10:(IT S (la I q.2.2) (.lst ((C8 (y.take i) q.2.2).map V.str ++ [.str q.2.1]))) d=some (.dK L):=by rw[B6 (Y.1 _ Z)];exact J _ _ d8 Y
    have l10:(IT S (la I q.2.2) (.lst ((C8 (y.take i) q.2.2).map V.str ++ [.str q.2.1]))) (la L q.2.1)=some (.lst ((E7 (y.take i) q.2.1).map V.str)):=by rw[B6 (dif _ Z _ m1).symm];exact h3 _ m1
    refine A6 rfl ⟨x,T.ah,g,_,A6 rfl ⟨x10,T.ay,T.aV,rfl,A6 rfl ⟨d,.ref (la L q.2.1),rfl,by rw[<-D7.val _ m1];exact OY.k (k:=Sum.inr q.2.1) d10,.inl ⟨rfl,_,IV.of l10⟩,A6 rfl ⟨_,B8 rfl rfl ⟨l10,?_,?_⟩⟩⟩⟩⟩
    .rw[AB,sizeLine_eq];have:=(hlen _ hl200 q.2.1).2;lia
    refine hD1 _ _ ⟨⟨_,_,rfl⟩,λb o e B=>?_,λm G=>?_,λm G=>?_⟩
    .rw[B6 (B.2 _ m1),B6 (B.1 _ Z)];exact J b o e B
    .rw[B6 (dif m G _ m1),JE D,Cl];by_cases e:q.2.2=m
     .rw[<-e,A9,AQ rfl,AR];rfl
     .rw[AN e,CD,B6 (λz=>e (D5.inj _ G _ Z z).symm)];exact h2 m G
    .rw[JE D,Fr];by_cases e:q.2.1=m
     .rw[<-e,A9,AQ rfl,AR];rfl
     .rw[AN e,CD,B6 (λz=>e (D7.inj _ G _ m1 z).symm),B6 (dif _ Z _ G).symm];exact h3 m G
  .rintro σ S ⟨_,J,h2,h3⟩;have hlq:(M9 y).length=y.length:=by unfold M9;rw[AB]
   rw[hlq,CA]at h2 h3;refine k p y S p1 w1 p2 w2 (λb o e B=>?_) ⟨⟨ndn,by rw[p1.length_eq];exact hN3,w1,λq D=>⟨p1.mem_iff.mpr (hO1 q (p2.mem_iff.mp D)).1,p1.mem_iff.mpr (hO1 q (p2.mem_iff.mp D)).2⟩,(p2.map _).nodup_iff.mpr hO2,by rw[p2.length_eq];exact hO3,w2⟩,g,j,t,c,d,I,L,J _ _ x8 X,J _ _ f8 (C f4 M.symm),J _ _ g8 (C e4 N.symm),λq G=>J _ _ (pin8 q G) (C (u q G) (S8 (u q G) R (by intro z;cases z))),J _ _ c8 cdif,J _ _ d8 Y,λn f=>⟨_,D5.val n f,h2 n f⟩,λn f=>⟨_,D7.val n f,h3 n f⟩⟩;have hb':b≠x:=λz=>B (by simp[z]);exact J _ _ (kall b o e B) (odif e hb')
def K_.same{C:A3}{H H':Hp}{x:A3}{ns:A1 Str}{g:A1 KJ}(h:K_ C H x ns g)(s:F1 H H'):K_ C H' x ns g:=by
 obtain⟨i,j,a,b,c,d,k,m,o,p,q,r,t,u,w,y⟩:=h;exact⟨i,j,a,b,c,d,k,m,s _ _ o,s _ _ p,s _ _ q,Q9 s r,s _ _ t,s _ _ u,λn f=>let⟨l,v,e⟩:=w n f;⟨l,v,s _ _ e⟩,λn f=>let⟨l,v,e⟩:=y n f;⟨l,v,s _ _ e⟩⟩
theorem Aj:IR ["self"] ["self"] (B7 NA):=KZ
def He(C:A3):Sp:=λb H Q _=>∃(x:A3) (a:A1 Str) (c:A1 KJ),b = [.ref x]/\K_ C H x a c/\∀l,H l=none->Q (.ref l) (IT H l (.lst (a.map V.str)))
theorem Al(T:Tx K mg):IZ P w K mg base JK 1 T.aG.f T.aG.fd ["self"] (He T.ah):=by
 refine T.aG.F.o1 Aj λg A e s H m Q E n h=>?_
 .obtain⟨x,o,p,rfl,⟨q,i,a,b,c,d,r,t,j,l,u,v,y,z,B,C⟩,k⟩:=h;refine⟨_,(B4 (C0 (Cu (Er K) T.aU V3 (A8 (OS K (pv 0)) B1)))),?_⟩;exact⟨_,rfl,x,T.ah,i,_,_,rfl,j,T.ay,T.a2,rfl,a,_,rfl,.inl (IV.of l),k⟩
theorem Am:IR ["self","name"] ["self","name"] (B7 M_):=KZ
def Gu(C:A3):Sp:=λb H Q _=>∃(x:A3) (n:Str) (a:A1 Str) (c:A1 KJ),b = [.ref x,.str n]/\K_ C H x a c/\n∈a/\Q .non H
theorem W2(T:Tx K mg):IZ P w K mg base JK 1 T.av.f T.av.fd ["self","name"] (Gu T.ah):=by
 refine T.av.F.o1 Am λg A e s H o Q E p h=>?_
 .obtain⟨x,n,q,r,rfl,⟨t,i,a,b,c,d,u,v,j,l,y,z,B,C,D,G⟩,m,k⟩:=h;refine⟨_,(B4 (G9 (C7 (Ey K) (pv 1) (OS K (pv 0)) rfl) (B4 Aw) C5)),?_⟩;refine A6 rfl (A6 rfl ⟨x,T.ah,i,_,A6 rfl ⟨j,T.ay,T.a2,rfl,Dm (.inl (IV.of l)) ⟨_,rfl,?_⟩⟩⟩);rw[AX m];exact S6 k
theorem Eo:IR ["self","name"] ["self","name"] (B7 OJ):=KZ
def Tw(C:A3):Sp:=λc H Q _=>∃(x:A3) (n:Str) (a:A1 Str) (b:A1 KJ),c = [.ref x,.str n]/\K_ C H x a b/\n∈a/\∀l,H l=none->Q (.ref l) (IT H l (.lst ((E7 b n).map V.str)))
theorem Fp(T:Tx K mg):IZ P w K mg base JK 2 T.aX.f T.aX.fd ["self","name"] (Tw T.ah):=by
 refine T.aX.F.o1 Eo λr A g s H C Q E i h=>?_
 .obtain⟨x,n,t,u,rfl,j,o,k⟩:=h;have y:=b9 i;obtain⟨D,p,a,b,c,d,G,I,q,J,L,M,N,z,O,B⟩:=id j;refine⟨_,(B3 (K4 (E6 (pv 0) T.ay T.av.m (W2 T) (Rm i) T.av.b .nil M5 (A8 (pv 1) B1)))
   (B4 (C0 (Cu (Er K) T.aU V3 (A8 (O1 y (OS K (pv 0)) (pv 1) (λ_ _=>rfl)) B1))))),?_⟩
  refine A6 rfl ⟨x,p,A6 rfl ⟨q,rfl,A6 rfl ⟨x,n,t,u,rfl,j,o,?_⟩⟩⟩;obtain⟨l,v,e⟩:=B n o;exact⟨_,rfl,x,T.ah,p,_,_,rfl,q,T.ay,T.aV,rfl,_,rfl,d,_,rfl,by rw[<-v];exact OY.k (k:=Sum.inr n) z,l,_,rfl,.inl (IV.of e),k⟩
theorem Bs:IR ["self","name"] ["self","name"] (B7 NH):=KZ
def La(C:A3):Sp:=λc H Q _=>∃(x:A3) (n:Str) (a:A1 Str) (b:A1 KJ),c = [.ref x,.str n]/\K_ C H x a b/\n∈a/\∀l,H l=none->Q (.ref l) (IT H l (.lst ((C8 b n).map V.str)))
theorem Cg(T:Tx K mg):IZ P w K mg base JK 2 T.aK.f T.aK.fd ["self","name"] (La T.ah):=by
 refine T.aK.F.o1 Bs λr A g s H C Q E i h=>?_
 .obtain⟨x,n,t,u,rfl,j,o,k⟩:=h;have y:=b9 i;obtain⟨D,p,a,b,c,d,G,I,q,J,L,M,z,N,B,O⟩:=id j;refine⟨_,(B3 (K4 (E6 (pv 0) T.ay T.av.m (W2 T) (Rm i) T.av.b .nil M5 (A8 (pv 1) B1)))
   (B4 (C0 (Cu (Er K) T.aU V3 (A8 (O1 y (OS K (pv 0)) (pv 1) (λ_ _=>rfl)) B1))))),?_⟩
  refine A6 rfl ⟨x,p,A6 rfl ⟨q,rfl,A6 rfl ⟨x,n,t,u,rfl,j,o,?_⟩⟩⟩;obtain⟨l,v,e⟩:=B n o;exact⟨_,rfl,x,T.ah,p,_,_,rfl,q,T.ay,T.aO,rfl,_,rfl,c,_,rfl,by rw[<-v];exact OY.k (k:=Sum.inr n) z,l,_,rfl,.inl (IV.of e),k⟩
theorem PY:IR ["_law_cell","_law_k","_law_m"] ["_law_cell","_law_k"] (B7 QJ):=KZ
def zFo:Sp:=λb H Q _=>∃(a k:Int),b = [.int a,.int k]/\0<=k/\k<=2000000/\∀m:Int,0<=m->m<1999999973->Q (.int m) H
theorem Dn(T:Tx K mg):IZ P w K mg base JK 1 T.bg.f T.bg.fd ["_law_cell","_law_k"] zFo:=by
 refine T.bg.F.o1 PY λd A b s H e Q E g h=>?_
 .obtain⟨a,k,rfl,j,l,q⟩:=h;refine⟨_,(B3 (D6 (i:=2) PY.nd rfl (.inl rfl) (C4 Hn (C4 Dt (C4 Ce (C4 Ce (C4 Hn (pv 0) B5) (C4 Dt (C4 Dt (pv 1) (pv 1)) B5)) B5) B5) B5))
   (B4 (C0 (C4 Hn (C4 Dt (pv 2) (pv 2)) B5)))),?_⟩
  refine A6 rfl (B8 rfl rfl ⟨(show(0:Int)<2147483629 by decide),A6 rfl (A6 rfl (B8 rfl rfl ⟨.inl ⟨by lia,by lia⟩,B8 rfl rfl ⟨.inr ⟨by decide,by decide⟩,B8 rfl rfl (B8 rfl rfl (B8 rfl rfl ⟨.inr ⟨by decide,by decide⟩,B8 rfl rfl ⟨(show(0:Int)<2147483647 by decide),?_⟩⟩))⟩⟩))⟩);generalize c:(a % 2147483629+k*k*7919+11)*48271 % 2147483647=m;have n:0<=m:=by rw[<-c];exact GV _ (by decide)
  have o:m<2147483647:=by rw[<-c];exact FT _ (by decide)
  exact⟨_,rfl,_,rfl,_,_,rfl,rfl,.inl ⟨by lia,by lia⟩,_,_,rfl,rfl,(show(0:Int)<1999999973 by decide),q _ (GV _ (by decide)) (FT _ (by decide))⟩
def JG(H:Hp)(p:A3)(c:Int):Prop:=∃a b:Int,H p=some (.lst [.int a,.int b,.int c])/\0<=c
theorem JG.isS{H:Hp}{p:A3}{c:Int}(h:JG H p c):(H p).isSome=true:=by
 obtain⟨_,_,e,_⟩:=h;rw[e];rfl
theorem JG.get{H:Hp}{p:A3}{c:Int}(h:JG H p c):H p=some ((H p).get h.isS):=(Option.some_get _).symm
theorem JG.cast{H:Hp}{p:A3}{c a:Int}(h:JG H p c)(e:c=a):JG H p a:=e▸h
theorem JG.upd{H:Hp}{p a:A3}{c:Int}{o:HO}(h:JG H p c)(n:p≠a):JG (L2.IT H a o) p c:=by
 obtain⟨x,y,e,z⟩:=h;exact⟨x,y,by rw[B6 n];exact e,z⟩
theorem JG.same{H H':Hp}{p:A3}{c:Int}(h:JG H p c)(s:F1 H H'):JG H' p c:=by
 obtain⟨x,y,e,z⟩:=h;exact⟨x,y,s _ _ e,z⟩
theorem zJl(c:Bool):-(2^64) <(if c=true then(1:Int)else 0)/\(if c=true then(1:Int)else 0)<2^64:=by cases c<;>exact⟨by decide,by decide⟩
theorem PD:IR ["_law_script","_law_k","_law_cell"] ["_law_script","_law_k"] (B7 QA):=KZ
def zAg(K:VN):Sp:=λb H Q _=>∃(p:A3) (c:A1 Int) (k:Nat),b = [.ref p,.int (k:Int)]/\IV K H p (c.map V.int)/\k<=1000/\∀l a,H l=none->F1 H a->JG a l 0->Q (.ref l) a
theorem Kc(T:Tx K mg):IZ P w K mg base JK 1 T.bh.f T.bh.fd ["_law_script","_law_k"] (zAg K):=by
 refine T.bh.F.o1 PD λo A g s H t Q E u h=>?_
 .obtain⟨p,d,k,rfl,n,v,q⟩:=h;refine⟨_,(B3 (D6 (i:=2) PD.nd rfl (.inl rfl) (Xb (C7 zEu (pv 1) (E5 (O0 K) T.an M0 (A8 (pv 0) B1)) (D8 _)) (E1 (MD K) (pv 0) (pv 1) (λ_ _=>rfl)) B5))
   (B4 (C0 (P8 (A8 (C4 Dt (E5 Os T.bJ Zx (A8 (pv 2) B1)) (Cu Bv T.bw Nt (A8 (K5 zIn (E5 Os T.bJ Zx (A8 (pv 2) B1)) (C4 zDr B5 B5) (D8 _)) B1))) (A8 (C4 Ce (pv 2) (C4 Dt B5 (pv 1))) (A8 B5 B1))))))),?_⟩
  refine A6 rfl (A6 rfl (B8 (a:=p) rfl (.inl n) (B8 rfl rfl (A6 rfl ?_))));have j:decide ((k:Int) <((d.map V.int).length:Int))=true->∃c:Int,QS (d.map V.int) (k:Int)=some (.int c):=λb=>by
   have b:(k:Int) <((d.map V.int).length:Int):=BZ b;rw[AB]at b;have m:d[k]?=some (d[k]'(by lia)):=AC (by lia);exact⟨_,E2 (by rw[AI,m];rfl)⟩
  refine V0 (λb=>?_) (λb=>?_)
  .obtain⟨c,r⟩:=j b;refine A6 rfl (A6 rfl ⟨p,_,B8 rfl rfl ⟨n,r,?_⟩⟩)
   (repeat first | refine⟨_,rfl,?_⟩ | refine⟨_,_,rfl,rfl,?_⟩)
   refine⟨⟨by decide,by decide,by decide⟩,?_⟩
   (repeat first | refine⟨_,rfl,?_⟩ | refine⟨_,_,rfl,rfl,?_⟩)
   refine .inr ⟨_,rfl,?_⟩
   (repeat first | refine⟨_,rfl,?_⟩ | refine⟨_,_,rfl,rfl,?_⟩)
   refine⟨.inr ?_,?_⟩
   .exact zJl _
   (repeat first | refine⟨_,rfl,?_⟩ | refine⟨_,_,rfl,rfl,?_⟩)
   refine⟨.inl ⟨by decide,by decide⟩,?_⟩
   (repeat first | refine⟨_,rfl,?_⟩ | refine⟨_,_,rfl,rfl,?_⟩)
   exact⟨by show 3<=sizeLine;decide,λl e=>q l _ e (F1.new e) ⟨_,_,A9,by decide⟩⟩
  .skip;(repeat first | refine⟨_,rfl,?_⟩ | refine⟨_,_,rfl,rfl,?_⟩)
   refine⟨⟨by decide,by decide,by decide⟩,?_⟩
   (repeat first | refine⟨_,rfl,?_⟩ | refine⟨_,_,rfl,rfl,?_⟩)
   refine .inr ⟨_,rfl,?_⟩
   (repeat first | refine⟨_,rfl,?_⟩ | refine⟨_,_,rfl,rfl,?_⟩)
   refine⟨.inr ?_,?_⟩
   .exact zJl _
   (repeat first | refine⟨_,rfl,?_⟩ | refine⟨_,_,rfl,rfl,?_⟩)
   refine⟨.inl ⟨by decide,by decide⟩,?_⟩
   (repeat first | refine⟨_,rfl,?_⟩ | refine⟨_,_,rfl,rfl,?_⟩)
   exact⟨by show 3<=sizeLine;decide,λl e=>q l _ e (F1.new e) ⟨_,_,A9,by decide⟩⟩
theorem O_:IR ["_law_left_here","_law_many","_law_digit"] ["_law_left_here","_law_many"] (B7 P_):=KZ
def zCv:Sp:=λe H Q _=>∃(p:A3) (c a:Int),e = [.ref p,.int a]/\JG H p c/\c<=1000000/\0<a/\a<=1000000 /\
 ∀(d:Nat) b,(d:Int)<a->Sm [p] H b->JG b p (c+1)->Q (.int (d:Int)) b
theorem J7(T:Tx K mg):IZ P w K mg base JK 2 T.as.f T.as.fd ["_law_left_here","_law_many"] zCv:=by
 refine T.as.F.o1 O_ λu A o s H x Q E r h=>?_
 .obtain⟨p,c,j,rfl,⟨a,b,e,y⟩,z,k,B,q⟩:=h;refine⟨_,(B3 (Y9 (C4 Ce (E1 (MD K) (pv 0) B5 (λ_ _=>rfl)) B5) (On (pv 0) B5 Bb))
   (B3 (G9 (C7 zEt (E1 (MD K) (pv 0) B5 (λ_ _=>rfl)) B5 (D8 _)) (B3 (D6 (i:=2) O_.nd rfl (.inl rfl) (C4 Hn (E1 (MD K) (pv 0) B5 (λ_ _=>rfl)) (pv 1)))
   (B3 (Y9 (C4 Ul (E1 (MD K) (pv 0) B5 (λ_ _=>rfl)) (pv 1)) (On (pv 0) B5 Bb))
   (B4 (C0 (pv 2))))) C5)
   (B4 (C0 (C4 Hn (C4 Ul (D4 T.bg (Dn T) (Rm r) (A8 (D4 T.bg (Dn T) (Rm r) (A8 (E1 (MD K) (pv 0) B5 (λ_ _=>rfl)) (A8 (E1 (MD K) (pv 0) B5 (λ_ _=>rfl)) B1))) (A8 (C4 Ce (E1 (MD K) (pv 0) B5 (λ_ _=>rfl)) B5) B1))) B5) (pv 1)))))),?_⟩
  have t:∀d:Int,0<=d->d<j->∀l m,Q (.int d) (IT (IT H p (.lst [.int a,.int b,.int (c+1)])) p (.lst [.int l,.int m,.int (c+1)]))/\Q (.int d) (IT H p (.lst [.int l,.int m,.int (c+1)])):=λd v g l m=>by
   obtain⟨n,rfl⟩:=Int.eq_ofNat_of_zero_le v;exact⟨q n _ g (((Sm.refl _ _).upd (by simp)).upd (by simp)) ⟨l,m,A9,by lia⟩,q n _ g ((Sm.refl _ _).upd (by simp)) ⟨l,m,A9,by lia⟩⟩
  refine A6 rfl ⟨p,_,B8 rfl rfl ⟨IV.of e,rfl,B8 rfl rfl (A6 rfl ⟨p,_,_,2,rfl,rfl,e,rfl,?_⟩)⟩⟩;refine A6 rfl ⟨p,_,B8 rfl rfl ⟨IV.of A9,rfl,B8 rfl rfl (A6 rfl ?_)⟩⟩;refine V0 (λg=>?_) (λg=>?_)
  .have g:(0:Int)<a:=BZ g;refine A6 rfl ⟨p,_,B8 rfl rfl ⟨IV.of A9,rfl,A6 rfl (B8 rfl rfl ⟨k,?_⟩)⟩⟩;refine A6 rfl ⟨p,_,B8 rfl rfl ⟨IV.of A9,rfl,A6 rfl (B8 rfl rfl ⟨⟨k,by lia⟩,A6 rfl ⟨p,_,_,0,rfl,rfl,A9,rfl,?_⟩⟩)⟩⟩;exact⟨_,rfl,(t _ (GV _ (by lia)) (FT _ k) _ _).1⟩
  .refine A6 rfl ⟨p,_,B8 rfl rfl ⟨IV.of A9,rfl,A6 rfl ⟨p,_,B8 rfl rfl ⟨IV.of A9,rfl,_,A6 rfl ⟨by lia,by lia,λC D G=>?_⟩⟩⟩⟩⟩;refine A6 rfl ⟨p,_,B8 rfl rfl ⟨IV.of A9,rfl,B8 rfl rfl ⟨_,A6 rfl ⟨by lia,by lia,λI J L=>?_⟩⟩⟩⟩;refine B8 rfl rfl ⟨⟨by decide,by decide⟩,A6 rfl (B8 rfl rfl ⟨k,?_⟩)⟩;exact(t _ (GV _ (by lia)) (FT _ k) _ _).2
def six{d n:Nat}(h:d<n):seqIndex? (d:Int) n=some d:=by
 unfold seqIndex?;simp;lia
def MU{α:Type}{l:A1 α}{i:Nat}{x:α}(h:l[i]?=some x):(x::l.eraseIdx i).Perm l:=ST.MU h
def Jb{α β:Type}(f:α->β):∀(l:A1 α) (i:Nat),(l.map f).eraseIdx i =(l.eraseIdx i).map f
 | [],_=>rfl
 | _::_,0=>rfl
 | a::l,i+1=>by
  show f a ::(l.map f).eraseIdx i=f a ::(l.eraseIdx i).map f;rw[Jb f l i]
def Yi{a b c:A1 Str}(d:(b++c).Perm a)(h1:∀x∈a,Q7 x=true)(h2:a.Nodup)(f:a.length<=100):LA c:=by
 refine⟨λx e=>h1 x (d.mem_iff.mp (BO _ e)),?_,?_⟩
 .exact(EF.mp (d.nodup_iff.mpr h2)).2.1
 .have:=d.length_eq;rw[AW]at this;lia
def Xt{c a b:A1 Str}{d:Nat}{x:Str}(e:(a++b).Perm c)(h:a[d]?=some x):(a.eraseIdx d ++(b ++ [x])).Perm c:=by
 refine List.Perm.trans ?_ e;rw[<-BM];refine DG.trans ?_;rw[<-BM];exact(MU h).append_right b
def OB{p b:A3}{H H':Hp}{o:HO}(h:Sm [p] H H')(e:H b=some o)(n:b≠p):H' b=some o:=h b o e λz=>n (AG.mp z)
def RE:A1 Str:=["b","aa","zebra","c","quartzes","ab","m","knows","d","mm","likes","z","a","ba","abcdefgh","y","zz","e","x","f"]
abbrev QH:Str := "b aa zebra c quartzes ab m knows d mm likes z a ba abcdefgh y zz e x f"
theorem zCh:Builtin.Str.partsBetween QH (Builtin.Str.occurrences QH " " 0 QH.length (QH.length+1)) (" ":Str).length=RE:=by decide +kernel
theorem RD:(∀x∈RE,Q7 x=true)/\RE.Nodup:=⟨by decide +kernel,by decide +kernel⟩
theorem Ln:∃a:A1 Str,a.length=20/\(∀x∈a,Q7 x=true)/\a.Nodup/\∀(Q:VK) (H:Hp),(∀l,H l=none->Q (.ref l) (IT H l (.lst (a.map V.str))))->Zk (.str QH) [.str " "] H Q :=
 ⟨RE,rfl,RD.1,RD.2,λQ H h=>⟨QH, " ",RE,rfl,rfl,by decide +kernel,by decide +kernel,by decide +kernel,by decide +kernel,zCh,by decide +kernel,h⟩⟩
theorem LH:IR ["_law_left_here","_law_many","_law_some","_law_names_here","_law_k"] ["_law_left_here","_law_many"] (B7 PH):=KZ
def Wz:Sp:=λe H Q _=>∃(p:A3) (c:Int) (a:Nat),e = [.ref p,.int (a:Int)]/\JG H p c/\c<=900000/\a<=20 /\
 ∀l (d:A1 Str) b,H l=none->Sm [p] H b->b l=some (.lst (d.map V.str))->d.length=a->LA d->JG b p (c+a)->Q (.ref l) b
set_option maxHeartbeats 2000000 in
theorem Hh(T:Tx K mg):IZ P w K mg base JK 3 T.bd.f T.bd.fd ["_law_left_here","_law_many"] Wz:=by
 refine T.bd.F.o1 LH λX A C s H vs Q E Y h=>?_
 .obtain⟨p,c,o,rfl,R,c1,m1,q⟩:=h;obtain⟨a0,b0,S,c0⟩:=id R;refine⟨_,(B3 (D6 (i:=2) LH.nd rfl (.inl rfl) (Dk K PySem.F.plainAttrs_str PySem.F.slot_str_split PySem.F.type_str_split Wn Q4 (A8 Q4 B1)))
   (B3 (D6 (i:=3) LH.nd rfl (.inl rfl) (P8 B1))
   (B3 (Q5 PassesOwn.never rfl (UV T.a6 (A8 (pv 1) B1)) (D9 (i:=4) LH.nd rfl (.inl rfl))
   (B4 (K4 (Dk K VS VT VU O4 (pv 3) (A8 (Dk K VS PySem.F.slot_list_pop PySem.F.type_list_pop Xi (pv 2) (A8 (D4 T.as (J7 T) (Rm Y) (A8 (pv 0) (A8 (E5 (O0 K) T.an M0 (A8 (pv 2) B1)) B1))) B1)) B1)))))
   (B4 (C0 (pv 3)))))),?_⟩
  obtain⟨r,Z,a1,a2,t⟩:=Ln;refine⟨rfl,?_⟩;dsimp only[Ts,tC,TW];refine t _ _ λa v=>?_;refine⟨CY _,λb D=>?_⟩;have j:H b=none:=(F1.new v).free D;have k:a≠b:=B2 A9 D;have l:p≠a:=B2 S v;have m:p≠b:=B2 S j;refine A6 rfl (A6 rfl ⟨by lia,by lia,?_⟩);rw[DD];refine U7 (λi σ n=>(∃G,σ = [some (.ref p),some (.int (o:Int)),some (.ref a),some (.ref b),G])/\Sm [p] H n/\JG n p (c+i)/\∃e g:A1 Str,n a=some (.lst (e.map V.str))/\n b=some (.lst (g.map V.str))/\(e++g).Perm r/\g.length=i) ?_ ?_ ?_
  .refine⟨⟨_,rfl⟩,((F1.new v).trans (F1.new D)).sm,((R.cast (by lia)).upd l).upd m,r,[],by rw[B6 k,A9],by rw[A9];rfl,by rw[CD],rfl⟩
  .rintro i σ n hi ⟨⟨G,rfl⟩,I,J,e,g,x,y,z,B⟩ D1 L _;have U:e.length=20-i:=by
    have:=z.length_eq;rw[AW,B,Z]at this;lia
   refine A6 rfl ⟨.inl ⟨rfl,_,IV.of y⟩,A6 rfl ⟨.inl ⟨rfl,_,IV.of x⟩,A6 rfl (A6 rfl (B8 (a:=a) rfl (.inl (IV.of x)) (Cy (a:=p) (b:=c+i) rfl J (by lia) ?_ ?_ λd H2 hd M L2=>?_)))⟩⟩
   .rw[AB];lia
   .rw[AB];lia
   rw[AB]at hd;have u:d<e.length:=by lia
   have W:e[d]?=some e[d]:=AC u;have N:=OB M x l.symm;have O:=OB M y m.symm;refine⟨a,_,_,d,.str e[d],rfl,rfl,N,by lia,by lia,six (by rw[AB];exact u),by rw[AI,W];rfl,b,B8 rfl rfl ⟨by rw[B6 k.symm];exact O,?_,?_⟩⟩
   .rw[AB,sizeLine_eq];lia
   refine L _ _ ⟨⟨_,rfl⟩,?_,?_,e.eraseIdx d,g ++ [e[d]],?_,?_,Xt z W,by rw[AW,B];rfl⟩
   .exact((I.trans M).updN v).updN j
   .exact((L2.cast (by lia)).upd l).upd m
   .rw[B6 k,A9,Jb]
   .rw[A9,AR];rfl
  .rintro σ n ⟨⟨G,rfl⟩,I,J,e,g,x,y,z,B⟩;exact⟨_,rfl,q b g n j I y B (Yi z a1 a2 (by lia)) J⟩
def pd(k:Str×Str):PyData:=.tuple [.str k.1,.str k.2]
def Y3{x:Str}(h:Q7 x=true):PySem.PyData.strOk x=true:=by
 unfold Q7 at h;rw[BL]at h;unfold PySem.PyData.strOk;rw[<-Array.all_toList,FD];intro c a;have:=(FD.mp h.2) c a;unfold TV at this;rw[BL]at this;have:=BZ this.2;exact AX (by lia)
def Vc{K:VN}{H:Hp}{t:A3}{k:Str×Str}(h:H t=some (.tup [.str k.1,.str k.2])):Rp K H (pd k) (.ref t):=by
 unfold pd;simp only[Rp,QN];exact⟨t,_,rfl,JL.of h,_,_,rfl,rfl,_,_,rfl,rfl,rfl⟩
def Ip{K:VN}{H:Hp}:∀{a:A1 KJ},(∀q∈a,G0 H q)->QN K H (a.map λq=>pd q.2) (M9 a)
 | [],_=>by simp[QN,M9]
 | q::r,h=>by
  show QN K H (pd q.2::r.map λq=>pd q.2) (V.ref q.1::M9 r);simp only[QN];exact⟨_,_,rfl,Vc (h q (BN ..)),Ip λz b=>h z (BG _ b)⟩
def Xp{K:VN}{H:Hp}{l:A3}{a:A1 KJ}(b:H l=some (.lst (M9 a)))(h:∀q∈a,G0 H q):Rp K H (.list (a.map λq=>pd q.2)) (.ref l):=by
 simp only[Rp];exact⟨l,_,rfl,IV.of b,Ip h⟩
def zEd(a b:Str×Str):PyData.eqv (pd a) (pd b)=decide (a=b):=by
 unfold pd;rw[PyData.eqv,PyData.eqvAll,PyData.eqvAll,PyData.eqvAll,PyData.eqv,PyData.eqv];by_cases c:a.1=b.1
 .by_cases d:a.2=b.2
  .rw[AX (Prod.ext c d),c,d];simp
  .rw[BA λz=>d (congrArg Prod.snd z)];simp[d]
 .rw[BA λz=>c (congrArg Prod.fst z)];simp[c]
def Ih(k:Str×Str):∀a:A1 KJ,((a.map λq=>pd q.2).any λz=>PyData.eqv z (pd k))=decide (k∈a.map λq=>q.2)
 | []=>rfl
 | q::r=>by
  rw[AZ,HA,Ih k r,zEd,AZ];by_cases e:q.2=k
  .rw[AX e,Bool.true_or,AX (show k∈q.2::_ from by rw[<-e];exact BN ..)]
  .rw[BA e,Bool.false_or];by_cases h:k∈r.map λq=>q.2
   .rw[AX h,AX (BG _ h)]
   .rw[BA h,BA λz=>(AK.mp z).elim (λz=>e z.symm) h]
def Za{k:Str×Str}(h1:PySem.PyData.strOk k.1=true)(h2:PySem.PyData.strOk k.2=true):(pd k).canLay0=true:=by
 unfold pd;simp[PyData.canLay0,PyData.canLayAll0,h1,h2]
def Uk:∀{a:A1 KJ},(∀q∈a,PySem.PyData.strOk q.2.1=true/\PySem.PyData.strOk q.2.2=true)->PyData.canLayAll0 (a.map λq=>pd q.2)=true
 | [],_=>rfl
 | q::r,h=>by
  rw[AZ,PyData.canLayAll0,Za (h q (BN ..)).1 (h q (BN ..)).2,Uk λz b=>h z (BG _ b)];rfl
def X9{K:VN}{H:Hp}{t l:A3}{k:Str×Str}{a:A1 KJ}{Q:VK}(c:H t=some (.tup [.str k.1,.str k.2]))(d:H l=some (.lst (M9 a)))(e:∀q∈a,G0 H q)
  (b:PySem.PyData.strOk k.1=true/\PySem.PyData.strOk k.2=true) (f:∀q∈a,PySem.PyData.strOk q.2.1=true/\PySem.PyData.strOk q.2.2=true) (q:Q (.bl (!decide (k∈a.map λq=>q.2))) H):zIm K true (.ref t) (.ref l) H Q :=
 ⟨pd k,_,Vc c,.inl (Xp d e),⟨Za b.1 b.2,by simp[pd,PyData.depth,PyData.depthAll]⟩,Uk f,by rw[AQ rfl,Ih];exact q⟩
structure FL(H:Hp)(l:A3)(ps:A1 KJ)(ss:A1 Str):Prop where
 at_:H l=some (.lst (M9 ps))
 pin:∀q∈ps,G0 H q
 nm:∀q∈ps,q.2.1∈ss/\q.2.2∈ss
 nd:(ps.map λq=>q.2).Nodup
def FL.sm{H H':Hp}{p l:A3}{c:Int}{a:A1 KJ}{ss:A1 Str}(h:FL H l a ss)(L:JG H p c)(n:l≠p)(s:Sm [p] H H'):FL H' l a ss:=by
 obtain⟨x,y,e,_⟩:=L;exact⟨OB s h.at_ n,λq b=>OB s (h.pin q b) (S8 (h.pin q b) e (by intro z;cases z)),h.nm,h.nd⟩
def FL.new{H:Hp}{l t:A3}{o:HO}{a:A1 KJ}{ss:A1 Str}(h:FL H l a ss)(n:H t=none):FL (IT H t o) l a ss :=
 ⟨by rw[B6 (B2 h.at_ n)];exact h.at_,λq b=>by unfold G0;rw[B6 (B2 (h.pin q b) n)];exact h.pin q b,h.nm,h.nd⟩
def FL.put{H:Hp}{l t:A3}{a:A1 KJ}{ss:A1 Str}{x y:Str}(h:FL H l a ss)(k:Nat)(c:H t=some (.tup [.str x,.str y]))(f:x∈ss)(g:y∈ss)(i:(x,y)∉a.map λq=>q.2) :
  FL (IT H l (.lst ((M9 a).take k++V.ref t ::(M9 a).drop k))) l (a.take k ++(t,x,y)::a.drop k) ss:=by
 have d:(a.take k ++(t,x,y)::a.drop k).Perm ((t,x,y)::a):=by
  refine List.perm_middle.trans (List.Perm.cons _ ?_);rw[B_]
 have e:∀q∈a.take k ++(t,x,y)::a.drop k,q =(t,x,y)\/q∈a:=λq b=>AK.mp (d.mem_iff.mp b);refine⟨?_,λq b=>?_,λq b=>?_,?_⟩
 .rw[A9];unfold M9;rw[AR,List.map_take,AZ,List.map_drop]
 .unfold G0;rcases e q b with rfl | z
  .rw[B6 (S8 c h.at_ (by intro z;cases z))];exact c
  .rw[B6 (S8 (h.pin q z) h.at_ (by intro z;cases z))];exact h.pin q z
 .rcases e q b with rfl | z
  .exact⟨f,g⟩
  .exact h.nm q z
 .rw[(d.map _).nodup_iff];show((x,y)::a.map λq=>q.2).Nodup;exact DC.mpr ⟨i,h.nd⟩
def FL.app{H:Hp}{l t:A3}{a:A1 KJ}{ss:A1 Str}{x y:Str}(h:FL H l a ss)(b:H t=some (.tup [.str x,.str y]))(c:x∈ss)(d:y∈ss)(f:(x,y)∉a.map λq=>q.2) :
  FL (IT H l (.lst (M9 a ++ [V.ref t]))) l (a ++ [(t,x,y)]) ss:=by
 have:=h.put a.length b c d f;have e:(M9 a).length=a.length:=by unfold M9;rw[AB]
 rw[<-e,CA,List.drop_length,e,CA,List.drop_length]at this;exact this
def Nj(ss:A1 Str):∀tt:A1 Str,(tt.flatMap λa=>ss.map λb=>(a,b)).length=tt.length*ss.length
 | []=>by simp
 | a::r=>by rw[List.flatMap_cons,AW,AB,Nj ss r,BK,Nat.succ_mul];lia
def FL.len{H:Hp}{l:A3}{c:A1 KJ}{ss:A1 Str}(h:FL H l c ss):c.length<=ss.length*ss.length:=by
 have:=h.nd.length_le_of_subset (l₂:=ss.flatMap λa=>ss.map λb=>(a,b)) (λk d=>by
  obtain⟨q,e,rfl⟩:=AJ.mp d;obtain⟨f,g⟩:=h.nm q e;exact List.mem_flatMap.mpr ⟨q.2.1,f,AJ.mpr ⟨q.2.2,g,rfl⟩⟩)
 rw[Nj,AB]at this;exact this
theorem zCe(a b d:Nat)(h1:a<5)(h2:b<4)(h:d<8):∃n:Nat,n<=12/\QS [V.int (8 +(a:Int)),V.int b,V.int 4,V.int 5,V.int 6,V.int 7,V.int 5,V.int 6] (d:Int)=some (.int (n:Int)):=by
 suffices ∃n:Nat,n<=12/\[V.int (8 +(a:Int)),V.int b,V.int 4,V.int 5,V.int 6,V.int 7,V.int 5,V.int 6][d]?=some (.int (n:Int)) by
  obtain⟨n,h,e⟩:=this;exact⟨n,h,E2 e⟩
 match d,h with
 | 0,_=>exact⟨8+a,by lia,by show some (V.int _)=_;rw[Int.natCast_add];rfl⟩
 | 1,_=>exact⟨b,by lia,rfl⟩
 | 2,_=>exact⟨4,by lia,rfl⟩
 | 3,_=>exact⟨5,by lia,rfl⟩
 | 4,_=>exact⟨6,by lia,rfl⟩
 | 5,_=>exact⟨7,by lia,rfl⟩
 | 6,_=>exact⟨5,by lia,rfl⟩
 | 7,_=>exact⟨6,by lia,rfl⟩
theorem OZ:IR ["_law_left_here","_law_way"] ["_law_left_here"] (B7 PZ):=KZ
def zCy:Sp:=λb H Q _=>∃(p:A3) (c:Int),b = [.ref p]/\JG H p c/\c<=900000 /\
 ∀(n:Nat) a,n<=12->Sm [p] H a->JG a p (c+3)->Q (.int (n:Int)) a
theorem Lp(T:Tx K mg):IZ P w K mg base JK 3 T.bi.f T.bi.fd ["_law_left_here"] zCy:=by
 refine T.bi.F.o1 OZ λm A b s H G Q E g h=>?_
 .obtain⟨p,c,rfl,o,I,q⟩:=h;refine⟨_,(B3 (D6 (i:=1) OZ.nd rfl (.inl rfl) (D4 T.as (J7 T) (Rm g) (A8 (pv 0) (A8 B5 B1))))
   (@B4 _ _ _ (@C0 _ _ _ _ (@E1 _ _ _ _ _ _ _ (MD K) (@P8 _ _ _ _ (@A8 _ _ _ _ _ (C4 Ce B5 (D4 T.as (J7 T) (Rm g) (A8 (pv 0) (A8 B5 B1)))) (@A8 _ _ _ _ _ (D4 T.as (J7 T) (Rm g) (A8 (pv 0) (A8 B5 B1))) (@A8 _ _ _ _ _ B5 (@A8 _ _ _ _ _ B5 (@A8 _ _ _ _ _ B5 (@A8 _ _ _ _ _ B5 (@A8 _ _ _ _ _ B5 (@A8 _ _ _ _ _ B5 B1 (by rfl)) (by rfl)) (by rfl)) (by rfl)) (by rfl)) (by rfl)) (by rfl)) (by rfl))) (pv 1) (λ_ _=>rfl))))),?_⟩
  refine A6 rfl (Cy (a:=p) rfl o (by lia) (by decide) (by decide) λd J L r t=>?_);refine A6 rfl (Cy (a:=p) rfl t (by lia) (by decide) (by decide) λu M v x L2=>?_);refine B8 rfl rfl ?_;refine A6 rfl (Cy (a:=p) rfl L2 (by lia) (by decide) (by decide) λy N z B j=>?_);refine⟨by show 8<=sizeLine;decide,λl k=>?_⟩;obtain⟨n,C,e⟩:=zCe u y d (by lia) (by lia) (by lia);have D:=j.get;refine A6 rfl ⟨l,_,B8 rfl rfl ⟨IV.of A9,e,?_⟩⟩;exact q n _ C (((r.trans x).trans B).new k) ((j.cast (by lia)).upd (B2 D k))
theorem JG.ne{H:Hp}{p n:A3}{c:Int}{ss:A1 Str}(h:JG H p c)(d:H n=some (.lst (ss.map V.str))):n≠p:=by
 rintro rfl;obtain⟨a,b,e,_⟩:=h;rw[d]at e;cases ss with
 | nil=>cases e
 | cons x r=>cases e
theorem Yc(d:Nat)(h:d<4):∃n:Nat,0<n/\n<=9/\QS [V.int 4,V.int 6,V.int 9,V.int 3] (d:Int)=some (.int (n:Int)):=by
 suffices ∃n:Nat,0<n/\n<=9/\[V.int 4,V.int 6,V.int 9,V.int 3][d]?=some (.int (n:Int)) by
  obtain⟨n,a,b,e⟩:=this;exact⟨n,a,b,E2 e⟩
 match d,h with
 | 0,_=>exact⟨4,by lia,by lia,rfl⟩
 | 1,_=>exact⟨6,by lia,by lia,rfl⟩
 | 2,_=>exact⟨9,by lia,by lia,rfl⟩
 | 3,_=>exact⟨3,by lia,by lia,rfl⟩
theorem KA:IR ["_law_left_here","_law_names_here","_law_found","_law_often","_law_one","_law_other"] ["_law_left_here","_law_names_here"] (B7 NU):=KZ
def Pe(K:VN):Sp:=λf H Q _=>∃(p n:A3) (c:Int) (b:A1 Str),f = [.ref p,.ref n]/\JG H p c/\c<=900000/\H n=some (.lst (b.map V.str))/\LA b/\b.length<=10 /\
 ∀l (d:A1 KJ) e a,H l=none->Sm [p] H a->a l=some (.lst (M9 d))->(∀q∈d,G0 a q)->OA b d->e<=c+1000->JG a p e->Q (.ref l) a
def SI(H:Hp)(p f:A3)(ss:A1 Str)(b:Int)(a:Hp):Prop:=Sm [p] H a/\(∃c,c<=b/\JG a p c)/\∃d,FL a f d ss
set_option maxHeartbeats 4000000 in
theorem Db(T:Tx K mg):IZ P w K mg base JK 3 T.a5.f T.a5.fd ["_law_left_here","_law_names_here"] (Pe K):=by
 refine T.a5.F.o1 KA λcdv A outer s H vs Q E hr h=>?_
 .obtain⟨p,n,c,u,rfl,hL,c1,hn,hN,m,q⟩:=h;obtain⟨a0,b0,e0,c0⟩:=id hL;refine⟨_,(B3 (D6 (i:=2) KA.nd rfl (.inl rfl) (P8 B1))
   (B3 (D6 (i:=3) KA.nd rfl (.inl rfl) (E1 (MD K) (P8 (A8 B5 (A8 B5 (A8 B5 (A8 B5 B1))))) (D4 T.as (J7 T) (Rm hr) (A8 (pv 0) (A8 B5 B1))) (λ_ _=>rfl)))
   (B3 (Q5 PassesOwn.never rfl (OL K (pv 1)) (D9 (i:=4) KA.nd rfl (.inl rfl))
   (B3 (Q5 PassesOwn.never rfl (OL K (pv 1)) (D9 (i:=5) KA.nd rfl (.inl rfl))
   (B4 (G9 (PW.pt (Gg (C7 Es (pv 4) (pv 5) (D8 _)) (Gg (C7 P5 (D4 T.as (J7 T) (Rm hr) (A8 (pv 0) (A8 (pv 3) B1))) B5 (D8 _)) (Fa (C7 (Ar K hr.units) (J8 (A8 (pv 4) (A8 (pv 5) B1))) (pv 2) rfl))))) (B3 (K4 (Dk K VS PySem.F.slot_list_insert PySem.F.type_list_insert Tc (pv 2) (A8 (D4 T.as (J7 T) (Rm hr) (A8 (pv 0) (A8 (C4 Ce (E5 (O0 K) T.an M0 (A8 (pv 2) B1)) B5) B1))) (A8 (J8 (A8 (pv 4) (A8 (pv 5) B1))) B1))))
   (B4 (G9 (PW.pt (Gg (C7 P5 (D4 T.as (J7 T) (Rm hr) (A8 (pv 0) (A8 B5 B1))) B5 (D8 _)) (Fa (C7 (Ar K hr.units) (J8 (A8 (pv 5) (A8 (pv 4) B1))) (pv 2) rfl)))) (B4 (K4 (Dk K VS VT VU O4 (pv 2) (A8 (J8 (A8 (pv 5) (A8 (pv 4) B1))) B1)))) C5))) C5)))
   (B4 (G9 (PW.pt (Gg (C7 P5 (D4 T.as (J7 T) (Rm hr) (A8 (pv 0) (A8 B5 B1))) B5 (D8 _)) (Fa (C7 (Ar K hr.units) (J8 (A8 (pv 4) (A8 (pv 4) B1))) (pv 2) rfl)))) (B4 (K4 (Dk K VS VT VU O4 (pv 2) (A8 (J8 (A8 (pv 4) (A8 (pv 4) B1))) B1)))) C5))))
   (B4 (C0 (pv 2)))))),?_⟩
  refine⟨CY _,λf hf=>?_⟩;have z:p≠f:=B2 e0 hf;have nnf:n≠f:=B2 hn hf;have nnp:n≠p:=hL.ne hn;have nnD:n∉[p]:=by simpa using nnp
  have N:∀x∈u,PySem.PyData.strOk x=true:=λx L=>Y3 (hN.1 x L);refine⟨by show 4<=sizeLine;decide,λt ht=>?_⟩;have s1:F1 H (IT (IT H f (.lst [])) t (.lst [.int 4,.int 6,.int 9,.int 3])):=(F1.new hf).trans (F1.new ht);have ef:(IT (IT H f (.lst [])) t (.lst [.int 4,.int 6,.int 9,.int 3])) f=some (.lst []):=by rw[B6 (B2 A9 ht),A9]
  refine A6 rfl (Cy (a:=p) (b:=c) rfl (hL.same s1) (by lia) (by decide) (by decide) λd C hd O W=>?_);obtain⟨S,o1,o2,eo⟩:=Yc d (by lia);have hpt:p≠t:=B2 ((F1.new hf) _ _ e0) ht;refine⟨t,_,B8 rfl rfl ⟨IV.of (OB O A9 hpt.symm),eo,?_⟩⟩;have i0:SI H p f u (c+1) C:=⟨s1.sm.trans O,⟨_,Int.le_refl _,W⟩,[],OB O ef z.symm,by simp,by simp,by simp⟩;have hseq:∀{C b},SI H p f u b C->IV K C n (u.map V.str):=λh=>(h.1.at nnD).seqL (IV.of hn);refine A6 rfl ⟨n,rfl,⟨_,hseq i0⟩,?_⟩;refine X4 (ON (K:=K) (IV.of hn)) (λi σ C=>(∃v4 v5,σ = [some (.ref p),some (.ref n),some (.ref f),some (.int (S:Int)),v4,v5])/\SI H p f u (c+1+31*i) C) ?_ ?_ ?_ ?_
  .exact⟨⟨_,_,rfl⟩,by simpa using i0⟩
  .rintro i σ C hi ⟨_,X⟩;exact X.1.at nnD
  .rintro i σ C x L ⟨⟨v4,v5,rfl⟩,X⟩ D1 hD1 _;rw[AI]at L;obtain⟨g,ho,rfl⟩:∃y,u[i]?=some y/\V.str y=x:=by
    cases e:u[i]? with
    | none=>rw[e]at L;cases L
    | some y=>rw[e]at L;exact⟨y,rfl,by injection L⟩
   have r:g∈u:=AM ho;have hi:i<u.length:=(AE.mp ho).1;refine A6 rfl ⟨n,rfl,⟨_,hseq X⟩,?_⟩;refine X4 (ON (K:=K) (IV.of hn)) (λj σ C=>(∃v5,σ = [some (.ref p),some (.ref n),some (.ref f),some (.int (S:Int)),some (.str g),v5])/\SI H p f u (c+1+31*i+3*j) C) ?_ ?_ ?_ ?_
   .exact⟨⟨_,rfl⟩,by simpa using X⟩
   .rintro i σ C hi ⟨_,X⟩;exact X.1.at nnD
   .rintro j σ C x L ⟨⟨v5,rfl⟩,X⟩ D2 M _;rw[AI]at L;obtain⟨l,ho,rfl⟩:∃y,u[j]?=some y/\V.str y=x:=by
     cases e:u[j]? with
     | none=>rw[e]at L;cases L
     | some y=>rw[e]at L;exact⟨y,rfl,by injection L⟩
    have J:l∈u:=AM ho;have hj:j<u.length:=(AE.mp ho).1;obtain⟨O,⟨c',Z,W⟩,v,Y⟩:=X;have done:∀{R c2 D},Sm [p] H R->c2<=c'+3->JG R p c2->FL R f D u->SI H p f u (c+1+31*i+3 *((j+1:Nat):Int)) R:=fun{R c2 D} a b d e=>⟨a,⟨c2,by lia,d⟩,D,e⟩;refine A6 rfl (A6 rfl ⟨rfl,A6 rfl ?_⟩);refine V0 (λX=>?_) (λX=>S6 (M _ _ ⟨⟨_,rfl⟩,done O (by lia) W Y⟩));refine A6 rfl (A6 rfl (Cy (a:=p) (b:=c') rfl W (by lia) (by lia) (by lia) λd1 R hd1 k2 L2=>⟨rfl,_,rfl,?_⟩));have F2:=Y.sm W z.symm k2;refine V0 (λh2=>?_) (λh2=>S6 (M _ _ ⟨⟨_,rfl⟩,done (O.trans k2) (by lia) L2 F2⟩));refine A6 rfl (A6 rfl ⟨by show 2<=sizeLine;decide,λt2 ht2=>?_⟩);have F3:=F2.new (o:=.tup [.str g,.str l]) ht2;have e2:=L2.get;have L3:=L2.upd (o:=.tup [.str g,.str l]) (B2 e2 ht2);have k3:=(O.trans k2).new (o:=.tup [.str g,.str l]) ht2;refine A6 rfl (X9 (k:=(g,l)) A9 F3.at_ F3.pin ⟨N _ r,N _ J⟩ (λq hq=>⟨N _ (F3.nm q hq).1,N _ (F3.nm q hq).2⟩) ⟨_,rfl,?_⟩);refine V0 (λh3=>?_) (λh3=>M _ _ ⟨⟨_,rfl⟩,done k3 (by lia) L3 F3⟩);have h3':(g,l)∉v.map λq=>q.2:=by simpa using h3
    have OU:=F3.len;have U:v.length<=100:=VR OU (Nat.mul_le_mul m m);have rl:(M9 v).length=v.length:=by unfold M9;rw[AB]
    refine A6 rfl ⟨.inl ⟨rfl,_,IV.of F3.at_⟩,A6 rfl (A6 rfl (B8 (a:=f) rfl (.inl (IV.of F3.at_)) (B8 rfl rfl (Cy (a:=p) (b:=c'+1) rfl L3 (by lia) (by lia) (by lia) λd2 H4 hd2 k4 L4=>?_))))⟩;have F4:=F3.sm L3 z.symm k4;refine A6 rfl (A6 rfl ⟨by show 2<=sizeLine;decide,λt3 ht3=>?_⟩);have F5:=F4.new (o:=.tup [.str g,.str l]) ht3;have e4:=L4.get;have L5:=L4.upd (o:=.tup [.str g,.str l]) (B2 e4 ht3);have k5:=(k3.trans k4).new (o:=.tup [.str g,.str l]) ht3;refine⟨f,_,_,d2,A6 rfl ⟨rfl,rfl,F5.at_,by lia,by rw[sizeLine_eq];lia,?_⟩⟩;have F6:=F5.put d2 A9 r J h3';have L6:=L5.upd (o:=.lst ((M9 v).take d2++V.ref t3 ::(M9 v).drop d2)) z;have k6:=k5.updN (o:=.lst ((M9 v).take d2++V.ref t3 ::(M9 v).drop d2)) hf;generalize hps:v.take d2 ++(t3,g,l)::v.drop d2=ps' at F6;refine A6 rfl (Cy (a:=p) rfl L6 (by lia) (by decide) (by decide) λd3 H7 hd3 k7 L7=>⟨rfl,_,rfl,?_⟩);have F7:=F6.sm L6 z.symm k7;refine V0 (λh4=>?_) (λh4=>S6 (M _ _ ⟨⟨_,rfl⟩,done (k6.trans k7) (by lia) L7 F7⟩));refine A6 rfl (A6 rfl ⟨by show 2<=sizeLine;decide,λt4 G=>?_⟩);have B:=F7.new (o:=.tup [.str l,.str g]) G;have e7:=L7.get;have L8:=L7.upd (o:=.tup [.str l,.str g]) (B2 e7 G);have k8:=(k6.trans k7).new (o:=.tup [.str l,.str g]) G;refine A6 rfl (X9 (k:=(l,g)) A9 B.at_ B.pin ⟨N _ J,N _ r⟩ (λq hq=>⟨N _ (B.nm q hq).1,N _ (B.nm q hq).2⟩) ⟨_,rfl,?_⟩);refine V0 (λh5=>?_) (λh5=>M _ _ ⟨⟨_,rfl⟩,done k8 (by lia) L8 B⟩);have h5':(l,g)∉ps'.map λq=>q.2:=by simpa using h5
    have OU:=B.len;have U:ps'.length<=100:=VR OU (Nat.mul_le_mul m m);have rl:(M9 ps').length=ps'.length:=by unfold M9;rw[AB]
    refine A6 rfl ⟨.inl ⟨rfl,_,IV.of B.at_⟩,A6 rfl (A6 rfl ⟨by show 2<=sizeLine;decide,λt5 I=>?_⟩)⟩;have F9:=B.new (o:=.tup [.str l,.str g]) I;have e8:=L8.get;have L9:=L8.upd (o:=.tup [.str l,.str g]) (B2 e8 I);have k9:=k8.new (o:=.tup [.str l,.str g]) I;refine⟨f,B8 rfl rfl ⟨F9.at_,by rw[sizeLine_eq];lia,M _ _ ⟨⟨_,rfl⟩,done (k9.updN hf) (by lia) (L9.upd z) (F9.app A9 J r h5')⟩⟩⟩
   .rintro σ C ⟨⟨v5,rfl⟩,O,⟨c',Z,W⟩,v,Y⟩;simp only[AB]at Z;have done:∀{R c2 D},Sm [p] H R->c2<=c'+1->JG R p c2->FL R f D u->SI H p f u (c+1+31 *((i+1:Nat):Int)) R:=fun{R c2 D} a b d e=>⟨a,⟨c2,by lia,d⟩,D,e⟩;refine A6 rfl (Cy (a:=p) (b:=c') rfl W (by lia) (by decide) (by decide) λd3 H7 hd3 k7 L7=>⟨rfl,_,rfl,?_⟩);have F7:=Y.sm W z.symm k7;refine V0 (λh4=>?_) (λh4=>S6 (hD1 _ _ ⟨⟨_,_,rfl⟩,done (O.trans k7) (by lia) L7 F7⟩));refine A6 rfl (A6 rfl ⟨by show 2<=sizeLine;decide,λt4 G=>?_⟩);have B:=F7.new (o:=.tup [.str g,.str g]) G;have e7:=L7.get;have L8:=L7.upd (o:=.tup [.str g,.str g]) (B2 e7 G);have k8:=(O.trans k7).new (o:=.tup [.str g,.str g]) G;refine A6 rfl (X9 (k:=(g,g)) A9 B.at_ B.pin ⟨N _ r,N _ r⟩ (λq hq=>⟨N _ (B.nm q hq).1,N _ (B.nm q hq).2⟩) ⟨_,rfl,?_⟩);refine V0 (λh5=>?_) (λh5=>hD1 _ _ ⟨⟨_,_,rfl⟩,done k8 (by lia) L8 B⟩);have h5':(g,g)∉v.map λq=>q.2:=by simpa using h5
    have OU:=B.len;have U:v.length<=100:=VR OU (Nat.mul_le_mul m m);have rl:(M9 v).length=v.length:=by unfold M9;rw[AB]
    refine A6 rfl ⟨.inl ⟨rfl,_,IV.of B.at_⟩,A6 rfl (A6 rfl ⟨by show 2<=sizeLine;decide,λt5 I=>?_⟩)⟩;have F9:=B.new (o:=.tup [.str g,.str g]) I;have e8:=L8.get;have L9:=L8.upd (o:=.tup [.str g,.str g]) (B2 e8 I);have k9:=k8.new (o:=.tup [.str g,.str g]) I;refine⟨f,B8 rfl rfl ⟨F9.at_,by rw[sizeLine_eq];lia,hD1 _ _ ⟨⟨_,_,rfl⟩,done (k9.updN hf) (by lia) (L9.upd z) (F9.app A9 r r h5')⟩⟩⟩
  .rintro σ C ⟨⟨v4,v5,rfl⟩,O,⟨c',Z,W⟩,v,Y⟩;simp only[AB]at Z;have OU:=Y.len;have U:v.length<=100:=VR OU (Nat.mul_le_mul m m);exact⟨_,rfl,q f v c' C hf O Y.at_ Y.pin ⟨Y.nm,Y.nd,by lia⟩ (by lia) W⟩
def PV(x y:Nat):Builtin.bitOr (x:Int) (y:Int) =((x ||| y:Nat):Int):=by
 have b:¬0<=Builtin.bitNot (x:Int):=by unfold Builtin.bitNot;lia
 have c:¬0<=Builtin.bitNot (y:Int):=by unfold Builtin.bitNot;lia
 have a:∀z:Int,Builtin.bitNot (Builtin.bitNot z)=z:=λz=>by unfold Builtin.bitNot;lia
 rw[Builtin.bitOr,PyProof.Rows.bitAnd_nn b c,a,a,a];rfl
def Pw(x y:Nat):Builtin.bitAnd (x:Int) (y:Int) =((x &&& y:Nat):Int):=by simp[Builtin.bitAnd]
def Ww(k:Nat):(1:Int)*2 ^((k:Int).toNat) =((2^k:Nat):Int):=by rw[Int.one_mul,DD,Int.natCast_pow];rfl
def Mo(m k:Nat):decide (V.int (Builtin.bitAnd ((m:Int) / 2 ^((k:Int).toNat)) 1)=V.int 1)=m.testBit k:=by
 have a:(m:Int) / 2 ^((k:Int).toNat) =((m / 2^k:Nat):Int):=by rw[DD,Int.natCast_ediv,Int.natCast_pow];rfl
 have b:Builtin.bitAnd ((m / 2^k:Nat):Int) 1 =((m / 2^k % 2:Nat):Int):=by
  rw[show(1:Int) =((1:Nat):Int)from rfl,Pw,Nat.and_one_is_mod]
 rw[a,b,Nat.testBit_eq_decide_div_mod_eq];refine decide_eq_decide.mpr ⟨λh=>?_,λh=>?_⟩
 .injection h with h;lia
 .rw[h];rfl
def E9(m:Nat):V:=.int (m:Int)
structure MB(ns:A1 Str)(ks:A1 (Str×Str))(B:A1 Nat):Prop where
 len:B.length=ns.length
 bit:∀i j,(B.getD i 0).testBit j=true↔∃k∈ks,ns[i]?=some k.1/\ns[j]?=some k.2
def MB.zero(ns:A1 Str):MB ns [] (List.replicate ns.length 0):=by
 refine⟨HB,λi j=>?_⟩;have e:(List.replicate ns.length 0).getD i 0=0:=by
  rw[AU,List.getElem?_replicate];by_cases h:i<ns.length
  .rw[AQ h];rfl
  .rw[AN h];rfl
 rw[e,CH];simp
def J9{α:Type}{l:A1 α}(h:l.Nodup){i j:Nat}{x:α}(hi:l[i]?=some x)(c:l[j]?=some x):i=j:=by
 obtain⟨a,e⟩:=AE.mp hi;obtain⟨b,d⟩:=AE.mp c;exact(List.getElem_inj h).mp (e.trans d.symm)
def MB.step{ns:A1 Str}{ks:A1 (Str×Str)}{B:A1 Nat}(h:MB ns ks B)(l:ns.Nodup){a b:Nat}{x y:Str}(f:ns[a]?=some x)(m:ns[b]?=some y):MB ns (ks ++ [(x,y)]) (B.set a (B.getD a 0 ||| 2^b)):=by
 have g:a<B.length:=by rw[h.len];exact(AE.mp f).1
 refine⟨by rw[List.length_set];exact h.len,λi j=>?_⟩;by_cases e:a=i
 .subst e;have e:(B.set a (B.getD a 0 ||| 2^b)).getD a 0=B.getD a 0 ||| 2^b:=by
   rw[AU,IC g];rfl
  rw[e,BX,CN,h.bit,CQ,BI];constructor
  .rintro(⟨k,hk,c,d⟩ | rfl)
   .exact⟨k,FI _ hk,c,d⟩
   .exact⟨(x,y),BO _ (AG.mpr rfl),f,m⟩
  .rintro⟨k,hk,c,d⟩;rcases A_.mp hk with hk | hk
   .exact .inl ⟨k,hk,c,d⟩
   .rw[AG.mp hk]at d;exact .inr (J9 l m d)
 .have n:(B.set a (B.getD a 0 ||| 2^b)).getD i 0=B.getD i 0:=by
   rw[AU,List.getElem?_set_ne e,<-AU]
  rw[n,h.bit];constructor
  .rintro⟨k,hk,c,d⟩;exact⟨k,FI _ hk,c,d⟩
  .rintro⟨k,hk,c,d⟩;rcases A_.mp hk with hk | hk
   .exact⟨k,hk,c,d⟩
   .rw[AG.mp hk]at c;exact absurd (J9 l f c) e
def MB.mono{ns:A1 Str}{ks ks':A1 (Str×Str)}{B:A1 Nat}(h:MB ns ks B)(e:∀k,k∈ks↔k∈ks'):MB ns ks' B :=
 ⟨h.len,λi j=>by rw[h.bit];exact⟨λ⟨k,a,b⟩=>⟨k,(e k).mp a,b⟩,λ⟨k,a,b⟩=>⟨k,(e k).mpr a,b⟩⟩⟩
def Zc{x y:Str}(h:x.cps.toList=y.cps.toList):x=y:=by
 cases x;cases y;exact congrArg Str.mk (Array.toList_inj.mp h)
def Yh{x y:Str}(h1:SM x y)(h2:SM y x):x=y:=Zc (List.le_antisymm (as:=x.cps.toList) (bs:=y.cps.toList) h1 h2)
def Pf{a b:A1 Str}(h1:a.Pairwise SM)(h2:b.Pairwise SM)(h:a.Perm b):a=b:=List.Perm.eq_of_pairwise (λ_ _ _ _=>Yh) h1 h2 h
structure JT(H:Hp)(p v:A3)(ns:A1 Str)(ks:A1 (Str×Str))(A B:A1 Nat):Prop where
 ex:∃a s t,H v=some (.lst [.ref a,.ref s,.ref t])/\H a=some (.lst (ns.map V.str))/\H s=some (.lst (A.map E9))/\H t=some (.lst (B.map E9))/\v≠p/\a≠p/\s≠p/\t≠p
 mA:MB ns (ks.map λk=>(k.2,k.1)) A
 mB:MB ns ks B
def JT.sm{H H':Hp}{p v:A3}{ns:A1 Str}{ks:A1 (Str×Str)}{A B:A1 Nat}(h:JT H p v ns ks A B)(s:Sm [p] H H'):JT H' p v ns ks A B:=by
 obtain⟨⟨a,b,c,i,j,k,l,d,e,f,g⟩,m,n⟩:=h;exact⟨⟨a,b,c,OB s i d,OB s j e,OB s k f,OB s l g,d,e,f,g⟩,m,n⟩
def JT.same{H H':Hp}{p v:A3}{ns:A1 Str}{ks:A1 (Str×Str)}{A B:A1 Nat}(h:JT H p v ns ks A B)(s:F1 H H'):JT H' p v ns ks A B:=h.sm s.sm
def Rn{n j:Nat}(h:j<n):SC n (j:Int)=some j:=by
 unfold SC;rw[AQ (by lia),AQ (by lia),DD]
def u6{B:A1 Nat}{a:Nat}(h:a<B.length):QS (B.map E9) (a:Int)=some (.int ((B.getD a 0:Nat):Int)):=by
 refine E2 ?_;rw[AI,AC h,AU,AC h];rfl
def Md(n:Nat):(List.replicate ((n:Int).toNat) [V.int 0]).flatten =(List.replicate n 0).map E9:=by
 rw[DD]
 induction n with
 | zero=>rfl
 | succ n a =>
  rw[ED,FK,a,ED,AZ];rfl
def Lz(B:A1 Nat)(a m:Nat):(B.map E9).set a (.int (m:Int)) =(B.set a m).map E9:=by
 rw[List.map_set];rfl
theorem KF:IR ["_law_names_here","_law_strikes_here","_law_strikers","_law_struck","_law_one","_law_other","_law_a","_law_b"] ["_law_names_here","_law_strikes_here"] (B7 PJ):=KZ
def Xn:Sp:=λf H Q _=>∃(n a:A3) (b:A1 Str) (c:A1 KJ),f = [.ref n,.ref a]/\H n=some (.lst (b.map V.str))/\LA b/\H a=some (.lst (M9 c))/\(∀q∈c,G0 H q)/\OA b c /\
 ∀v d A B e,H v=none->F1 H e->d.Perm b->d.Pairwise SM->(∀p o,H p=some o->JT e p v d (c.map λq=>q.2) A B)->Q (.ref v) e
set_option maxHeartbeats 2000000 in
theorem Hr(T:Tx K mg):IZ P w K mg base JK 1 T.be.f T.be.fd ["_law_names_here","_law_strikes_here"] Xn:=by
 refine T.be.F.o1 KF λcdv A outer s H vs Q E hr h=>?_
 .obtain⟨n,a,ss,y,rfl,hn,hN,ha,hP,hO,q⟩:=h;refine⟨_,(B3 (D6 (i:=0) KF.nd rfl (.inl rfl) (E5 (Oi K) T.a9 X1 (A8 (pv 0) B1)))
   (B3 (Yt (i:=2) (j:=3) rfl KF.nd rfl rfl (by decide) rfl rfl (A8 (C4 Zb (P8 (A8 B5 B1)) (E5 (O0 K) T.an M0 (A8 (pv 0) B1))) (A8 (C4 Zb (P8 (A8 B5 B1)) (E5 (O0 K) T.an M0 (A8 (pv 0) B1))) B1)) rfl)
   (B3 (Q5 PassesOwn.never rfl (OL K (pv 1)) (QY K (n:=2) (C6 (D9 (i:=4) KF.nd rfl (.inl rfl)) (C6 (D9 (i:=5) KF.nd rfl (.inl rfl)) M7)))
   (B3 (Yt (i:=6) (j:=7) rfl KF.nd rfl rfl (by decide) rfl rfl (A8 (Dk K VS VW VX (T0 K) (pv 0) (A8 (pv 4) B1)) (A8 (Dk K VS VW VX (T0 K) (pv 0) (A8 (pv 5) B1)) B1)) rfl)
   (B3 (Y9 (C4 R9 (E1 (MD K) (pv 2) (pv 7) (λ_ _=>rfl)) (C4 Ab B5 (pv 6))) (On (pv 2) (pv 7) Bb))
   (B4 (Y9 (C4 R9 (E1 (MD K) (pv 3) (pv 6) (λ_ _=>rfl)) (C4 Ab B5 (pv 7))) (On (pv 3) (pv 6) Bb))))))
   (B4 (C0 (P8 (A8 (pv 0) (A8 (pv 2) (A8 (pv 3) B1))))))))),?_⟩
  refine A6 rfl ⟨n,ss,rfl,IV.of hn,λl b hl G srt=>?_⟩;have S:b.Nodup:=G.nodup_iff.mpr hN.2.1;have U:(b.map V.str).length=b.length:=AB ..;have ln:b.length<=100:=by rw[G.length_eq];exact hN.2.2
  have s1:F1 H (IT H l (.lst (b.map V.str))):=F1.new hl;refine⟨by show 1<=sizeLine;decide,λW d=>?_⟩;have s2:=s1.trans (F1.new (o:=.lst [V.int 0]) d);refine A6 rfl (B8 (a:=l) rfl (.inl (IV.of ((F1.new d) _ _ A9))) ⟨W,B8 rfl rfl ⟨A9,by lia,by lia,by rw[U,DD,sizeLine_eq];show 1*b.length<=_;lia,λs X=>?_⟩⟩);rw[U,Md];have hs1:IT H l (.lst (b.map V.str)) s=none:=(F1.new d).free X;have I:H s=none:=s2.free X;have nls:l≠s:=B2 A9 hs1;have s3:=s2.trans (F1.new (o:=.lst ((List.replicate b.length 0).map E9)) X);refine⟨by show 1<=sizeLine;decide,λJ r=>?_⟩;have s4:=s3.trans (F1.new (o:=.lst [V.int 0]) r);have Y:(IT (IT (IT (IT H l (.lst (b.map V.str))) W (.lst [V.int 0])) s (.lst ((List.replicate b.length 0).map E9))) J (.lst [V.int 0])) l=some (.lst (b.map V.str)) :=
   (F1.new r) _ _ ((F1.new X) _ _ ((F1.new d) _ _ A9))
  have es:(IT (IT (IT (IT H l (.lst (b.map V.str))) W (.lst [V.int 0])) s (.lst ((List.replicate b.length 0).map E9))) J (.lst [V.int 0])) s=some (.lst ((List.replicate b.length 0).map E9)):=(F1.new r) _ _ A9;generalize hG:IT (IT (IT (IT H l (.lst (b.map V.str))) W (.lst [V.int 0])) s (.lst ((List.replicate b.length 0).map E9))) J (.lst [V.int 0])=H4 at s4 Y es⊢;have et2:H4 J=some (.lst [V.int 0]):=by rw[<-hG];exact A9
  refine A6 rfl (B8 (a:=l) rfl (.inl (IV.of Y)) ⟨J,B8 rfl rfl ⟨et2,by lia,by lia,by rw[U,DD,sizeLine_eq];show 1*b.length<=_;lia,λt Z=>?_⟩⟩);rw[U,Md];have L:l≠t:=B2 Y Z;have e:s≠t:=B2 es Z;have s5:=s4.trans (F1.new (o:=.lst ((List.replicate b.length 0).map E9)) Z);have M:H t=none:=s4.free Z;refine⟨_,A6 rfl (A6 rfl ⟨a,rfl,⟨_,IV.of (s5 _ _ ha)⟩,?_⟩)⟩;refine X4 (ON (K:=K) (IV.of ha)) (λi σ u=>(∃v4 v5 v6 v7,σ = [some (.ref l),some (.ref a),some (.ref s),some (.ref t),v4,v5,v6,v7])/\F1 H u/\u l=some (.lst (b.map V.str)) /\
   ∃A B:A1 Nat,u s=some (.lst (A.map E9))/\u t=some (.lst (B.map E9))/\MB b ((y.take i).map λq=>(q.2.2,q.2.1)) A/\MB b ((y.take i).map λq=>q.2) B) ?_ ?_ ?_ ?_
  .exact⟨⟨_,_,_,_,rfl⟩,s5,by rw[B6 L];exact Y,_,_,by rw[B6 e];exact es,A9,MB.zero b,MB.zero b⟩
  .rintro i σ u hi ⟨_,g,_⟩;exact g.at a
  .rintro i σ u v c ⟨⟨v4,v5,v6,v7,rfl⟩,g,x,A,B,h3,h4,C,D⟩ D1 hD1 _;unfold M9 at c;rw[AI]at c;cases N:y[i]? with
   | none=>rw[N]at c;cases c
   | some q =>
    rw[N]at c;cases c;have hm:q∈y:=AM N;obtain⟨m1,m2⟩:=hO.nm q hm;have m1:q.2.1∈b:=G.mem_iff.mpr m1;have m2:q.2.2∈b:=G.mem_iff.mpr m2;obtain⟨j,O⟩:=CV.mp m1;obtain⟨k,R⟩:=CV.mp m2;have lj:j<b.length:=(AE.mp O).1;have lk:k<b.length:=(AE.mp R).1;refine⟨q.1,A6 rfl ⟨JL.of (g _ _ (hP q hm)),rfl,_,A6 rfl (B8 rfl rfl ?_)⟩⟩;refine A6 rfl ⟨.inl ⟨rfl,_,IV.of x⟩,A6 rfl ⟨l,b,q.2.1,j,rfl,rfl,IV.of x,O,λm hm z=>by have:=J9 S z O;lia,?_⟩⟩;refine A6 rfl ⟨.inl ⟨rfl,_,IV.of x⟩,A6 rfl ⟨l,b,q.2.2,k,rfl,rfl,IV.of x,R,λm hm z=>by have:=J9 S z R;lia,?_⟩⟩;refine⟨_,A6 rfl ?_⟩;refine A6 rfl (A6 rfl ⟨s,_,B8 rfl rfl ⟨IV.of h3,u6 (by rw[C.len];exact lk),A6 rfl (B8 rfl rfl ⟨⟨by lia,by lia,by decide⟩,B8 rfl rfl ?_⟩)⟩⟩);dsimp only;rw[Ww,PV];refine A6 rfl (A6 rfl ⟨s,_,_,k,rfl,rfl,h3,Rn (by rw[AB,C.len];exact lk),?_⟩);rw[Lz];refine A6 rfl (A6 rfl ⟨t,_,B8 rfl rfl ⟨IV.of (by rw[B6 e.symm];exact h4),u6 (by rw[D.len];exact lj),A6 rfl (B8 rfl rfl ⟨⟨by lia,by lia,by decide⟩,B8 rfl rfl ?_⟩)⟩⟩);dsimp only;rw[Ww,PV];refine A6 rfl (A6 rfl ⟨t,_,_,j,rfl,rfl,by rw[B6 e.symm];exact h4,Rn (by rw[AB,D.len];exact lj),?_⟩);rw[Lz];refine hD1 _ _ ⟨⟨_,_,_,_,rfl⟩,(g.upd I).upd M,?_,A.set k (A.getD k 0 ||| 2^j),_,?_,A9,?_,?_⟩
    .rw[B6 L,B6 nls];exact x
    .rw[B6 e,A9]
    .rw[JE N,AR];exact C.step S R O
    .rw[JE N,AR];exact D.step S O R
  .rintro σ u ⟨⟨v4,v5,v6,v7,rfl⟩,g,x,A,B,h3,h4,C,D⟩;have lr:(M9 y).length=y.length:=by unfold M9;rw[AB]
   rw[lr,CA]at C D;refine A6 rfl (A6 rfl (A6 rfl ⟨by show 3<=sizeLine;decide,λv c=>?_⟩));have s9:=F1.new (o:=.lst [.ref l,.ref s,.ref t]) c;refine q v b A B _ (g.free c) (g.trans s9) G srt λp o hp=>⟨⟨l,s,t,A9,s9 _ _ x,s9 _ _ h3,s9 _ _ h4,(B2 (g _ _ hp) c).symm,(B2 hp hl).symm,(B2 hp I).symm,(B2 hp M).symm⟩,?_,D⟩;rw[BV];exact C
def w6(ns:A1 Str)(m i:Nat):A1 Str:=(List.range i).filterMap λk=>if m.testBit k=true then ns[k]? else none
def JO(ns:A1 Str)(m:Nat):A1 Str:=w6 ns m ns.length
def K1{ns:A1 Str}{m i:Nat}{x:Str}(h:ns[i]?=some x):w6 ns m (i+1)=w6 ns m i++if m.testBit i=true then [x]else []:=by
 unfold w6;rw[FA,List.filterMap_append];congr 1;by_cases e:m.testBit i=true
 .rw[AQ e];simp[e,h]
 .rw[AN e];simp[e]
def QM{ns:A1 Str}{m:Nat}{x:Str}:x∈JO ns m↔∃k,m.testBit k=true/\ns[k]?=some x:=by
 unfold JO w6;rw[List.mem_filterMap];constructor
 .rintro⟨k,a,e⟩;by_cases h:m.testBit k=true
  .rw[AQ h]at e;exact⟨k,h,e⟩
  .rw[AN h]at e;cases e
 .rintro⟨k,h,e⟩;exact⟨k,BT.mpr (AE.mp e).1,by rw[AQ h];exact e⟩
def X0(ns:A1 Str)(m:Nat):∀i,i<=ns.length->(w6 ns m i).Sublist (ns.take i)
 | 0,_=>by simp[w6]
 | i+1,h=>by
  have a:ns[i]?=some ns[i]:=AC (by lia);rw[K1 a,JE a];refine(X0 ns m i (by lia)).append ?_;by_cases e:m.testBit i=true
  .rw[AQ e];exact List.Sublist.refl _
  .rw[AN e];exact List.nil_sublist _
def o7(ns:A1 Str)(m:Nat):(JO ns m).Sublist ns:=by
 have:=X0 ns m ns.length (VQ _)
 rwa [CA]at this
theorem Fg:IR ["_law_view","_law_mask"] ["_law_view","_law_mask"] (B7 OH):=KZ
def Hw:Sp:=λc H Q _=>∃(p v:A3) (m:Nat) (a:A1 Str) (d:A1 (Str×Str)) (A B:A1 Nat),c = [.ref v,.int (m:Int)]/\JT H p v a d A B/\a.length<=100 /\
 ∀l b,H l=none->F1 H b->b l=some (.lst ((JO a m).map V.str))->Q (.ref l) b
theorem m8(T:Tx K mg):IZ P w K mg base JK 1 T.aA.f T.aA.fd ["_law_view","_law_mask"] Hw:=by
 refine T.aA.F.o1 Fg λM A o s H S Q E U h=>?_
 .obtain⟨p,v,m,g,W,A,B,rfl,O,X,q⟩:=h;obtain⟨⟨a,s,t,R,k,Y,Z,_⟩,mA,mB⟩:=id O;refine⟨_,(B4 (C0 (S7 (N':=["_law_k","_law_name","_law_mask"]) (cap:=[none,none,some 1]) (cl:=[("_law_mask",_)]) (O7 ⟨⟨rfl,rfl,rfl,rfl⟩,trivial⟩ ⟨rfl,trivial⟩) rfl (UP K T.aI (A8 (E1 (MD K) (pv 0) B5 (λ_ _=>rfl)) B1)) (λ_ _ _ _=>by exact⟨(QY K (n:=2) (C6 (NC 0) (C6 (NC 1) M7))),(V9 (C7 P5 (C4 M8 (C4 Hi (pv 2) (pv 0)) B5) B5 (D8 _))),(pv 1)⟩)))),?_⟩;dsimp only[UY,zHg,V1,zHy,UN,Ts,TW];refine A6 rfl ⟨v,_,B8 rfl rfl ⟨IV.of R,rfl,a,A6 rfl ⟨IV.of k,λD r=>?_⟩⟩⟩;refine n9 (n:=g.length) (λi σ b=>(∃C G,σ = [C,G,some (.int (m:Int))])/\F1 H b/\b D=some (.lst ((w6 g m i).map V.str))) ⟨⟨_,_,rfl⟩,F1.new r,A9⟩ ?_ ?_ ?_ ?_
  .rintro i σ b u ⟨_,c,d⟩;exact⟨_,_,(c.at a).seqL (IV.of k),by rw[AI,AC u];rfl⟩
  .rintro σ b ⟨_,c,d⟩;exact⟨_,(c.at a).seqL (IV.of k),by rw[AB]⟩
  .rintro i σ b x H' N u ⟨⟨C,G,rfl⟩,c,d⟩ ⟨t,x,rfl,I,rfl,l⟩ J;have l:=l _ ((c.at a).seqL (IV.of k));have e:g[i]?=some g[i]:=AC u;rw[AI,e]at l;cases l;refine⟨t,A6 rfl ⟨JL.of A9,rfl,_,A6 rfl (B8 rfl rfl ?_)⟩⟩;have j:D≠t:=B2 d I;have L:F1 H (IT b t (.tup [.int i,.str g[i]])):=c.trans (F1.new I);refine A6 rfl (A6 rfl (B8 rfl rfl ⟨(show(0:Int)<=(i:Int) by lia),B8 rfl rfl ⟨rfl,A6 rfl ?_⟩⟩));dsimp only;rw[Mo];have y:=(X0 g m i (by lia)).length_le;rw[AS]at y;refine V0 (λz=>?_) (λz=>?_)
   .refine A6 rfl ⟨_,by rw[B6 j];exact d,by rw[AB,sizeLine_eq];lia,J _ _ ⟨⟨_,_,rfl⟩,L.upd r,?_⟩⟩;rw[A9,K1 e,AQ z,AR];rfl
   .refine J _ _ ⟨⟨_,_,rfl⟩,L,?_⟩;rw[B6 j,K1 e,AN z,CD];exact d
  .rintro σ b ⟨_,c,d⟩;exact q D b r c d
def Y8(B:A1 Nat)(m j:Nat):Prop:=∃k,m.testBit k=true/\(B.getD k 0).testBit j=true
def Sy(n:Nat)(A B:A1 Nat)(m j:Nat):Prop:=j<n/\∀b,(A.getD j 0).testBit b=true->Y8 B m b
def JM(B:A1 Nat)(m:Nat):Prop:=∀i j,m.testBit i=true->m.testBit j=true->¬(B.getD i 0).testBit j=true
def W7(a h:Nat):decide (V.int (Builtin.bitAnd (a:Int) (Builtin.bitNot (h:Int)))=V.int 0)=true↔∀b,a.testBit b=true->h.testBit b=true:=by
 rw[BI,PyProof.Rows.bitAnd_not,Pw];constructor
 .intro e b c;injection e with e;have e:a=a &&& h:=by lia
  rw[e,CF,BL]at c;exact c.2
 .intro k;have e:a &&& h=a:=BP λb=>by
   rw[CF];cases c:a.testBit b with
   | false=>rfl
   | true=>rw[k b c];rfl
  rw[e,Int.sub_self]
def Oh(a m:Nat):decide (V.int (Builtin.bitAnd (a:Int) (m:Int))=V.int 0)=true↔∀b,a.testBit b=true->¬m.testBit b=true:=by
 rw[BI,Pw];constructor
 .intro e b c d;injection e with e;have e:a &&& m=0:=by lia
  have:(a &&& m).testBit b=true:=by rw[CF,c,d];rfl
  rw[e,CH]at this;cases this
 .intro k;have e:a &&& m=0:=BP λb=>by
   rw[CF,CH];cases c:a.testBit b with
   | false=>rfl
   | true =>
    have:=k b c;cases d:m.testBit b with
    | false=>rfl
    | true=>exact absurd d this
  rw[e];rfl
def V6(d k j:Nat):(d ||| 2^k).testBit j=true↔d.testBit j=true\/j=k:=by
 rw[BX,CN,CQ,BI];exact⟨λh=>h.imp id Eq.symm,λh=>h.imp id Eq.symm⟩
theorem MQ:IR ["_law_view","_law_mask","_law_hit_here","_law_k"] ["_law_view","_law_mask"] (B7 QK):=KZ
def Zh:Sp:=λb H Q _=>∃(p v:A3) (m:Nat) (a:A1 Str) (c:A1 (Str×Str)) (A B:A1 Nat),b = [.ref v,.int (m:Int)]/\JT H p v a c A B/\a.length<=100 /\
 ∀h:Nat,(∀j,h.testBit j=true↔Y8 B m j)->Q (.int (h:Int)) H
theorem X8(T:Tx K mg):IZ P w K mg base JK 1 T.aN.f T.aN.fd ["_law_view","_law_mask"] Zh:=by
 refine T.aN.F.o1 MQ λx A g s H J Q E L h=>?_
 .obtain⟨p,v,m,M,N,A,B,rfl,y,O,q⟩:=h;obtain⟨⟨a,s,t,r,C,R,D,_⟩,S,u⟩:=id y;refine⟨_,(B3 (D6 (i:=2) MQ.nd rfl (.inl rfl) B5)
   (B3 (Q5 PassesOwn.never rfl (UV T.a6 (A8 (E5 (O0 K) T.an M0 (A8 (E1 (MD K) (pv 0) B5 (λ_ _=>rfl)) B1)) B1)) (D9 (i:=3) MQ.nd rfl (.inl rfl))
   (B4 (G9 (C7 P5 (C4 M8 (C4 Hi (pv 1) (pv 3)) B5) B5 (D8 _)) (B4 (D6 (i:=2) MQ.nd rfl (.inl rfl) (C4 R9 (pv 2) (E1 (MD K) (E1 (MD K) (pv 0) B5 (λ_ _=>rfl)) (pv 3) (λ_ _=>rfl))))) C5)))
   (B4 (C0 (pv 2))))),?_⟩
  refine A6 rfl ⟨v,_,B8 rfl rfl ⟨IV.of r,rfl,B8 (a:=a) rfl (.inl (IV.of C)) (A6 rfl ⟨?_,?_,?_⟩)⟩⟩
  .lia
  .rw[AB];lia
  rw[AB,DD];refine U7 (λi σ l=>l=H/\∃(h:Nat) (n:A5 V),σ = [some (.ref v),some (.int (m:Int)),some (.int (h:Int)),n]/\∀j,h.testBit j=true↔∃k,k<i/\m.testBit k=true/\(B.getD k 0).testBit j=true) ?_ ?_ ?_
  .exact⟨rfl,0,_,rfl,λj=>by rw[CH];simp⟩
  .rintro i σ l G ⟨rfl,h,n,rfl,d⟩ U c _;rw[Int.zero_add];refine A6 rfl (A6 rfl (B8 rfl rfl ⟨(show(0:Int)<=(i:Int) by lia),B8 rfl rfl ⟨rfl,A6 rfl ?_⟩⟩));dsimp only;rw[Mo];refine V0 (λo=>?_) (λo=>?_)
   .refine A6 rfl (A6 rfl ⟨v,_,B8 rfl rfl ⟨IV.of r,rfl,A6 rfl ⟨t,_,B8 rfl rfl ⟨IV.of D,u6 (by rw[u.len];exact G),B8 rfl rfl ?_⟩⟩⟩⟩);dsimp only;rw[PV];refine c _ _ ⟨rfl,_,_,rfl,λj=>?_⟩;rw[BX,CN,d];constructor
    .rintro(⟨k,b,h2⟩ | h2)
     .exact⟨k,by lia,h2⟩
     .exact⟨i,by lia,o,h2⟩
    .rintro⟨k,b,h2⟩;by_cases e:k=i
     .rw[e]at h2;exact .inr h2.2
     .exact .inl ⟨k,by lia,h2⟩
   .refine c _ _ ⟨rfl,h,_,rfl,λj=>?_⟩;rw[d];constructor
    .rintro⟨k,b,h2⟩;exact⟨k,by lia,h2⟩
    .rintro⟨k,b,h2⟩;by_cases e:k=i
     .rw[e]at h2;exact absurd h2.1 o
     .exact⟨k,by lia,h2⟩
  .rintro σ l ⟨rfl,h,n,rfl,d⟩;refine A6 rfl (q h λj=>?_);rw[d];constructor
   .rintro⟨k,b,h2⟩;exact⟨k,h2⟩
   .rintro⟨k,b,h2⟩;refine⟨k,?_,b,h2⟩;obtain⟨z,_,I,_⟩:=(u.bit k j).mp h2;exact(AE.mp I).1
theorem LB:IR ["_law_view","_law_mask","_law_hit_here","_law_kept_here","_law_k"] ["_law_view","_law_mask"] (B7 QB):=KZ
def zCi:Sp:=λb H Q _=>∃(p v:A3) (m:Nat) (a:A1 Str) (c:A1 (Str×Str)) (A B:A1 Nat),b = [.ref v,.int (m:Int)]/\JT H p v a c A B/\a.length<=100 /\
 ∀h:Nat,(∀j,h.testBit j=true↔Sy a.length A B m j)->Q (.int (h:Int)) H
theorem Jo(T:Tx K mg):IZ P w K mg base JK 2 T.bj.f T.bj.fd ["_law_view","_law_mask"] zCi:=by
 refine T.bj.F.o1 LB λM A x s H Z Q E N h=>?_
 .obtain⟨p,v,m,O,R,A,B,rfl,I,S,q⟩:=h;obtain⟨⟨a,s,t,J,U,W,e4,_⟩,X,mB⟩:=id I;refine⟨_,(B3 (D6 (i:=2) LB.nd rfl (.inl rfl) (D4 T.aN (X8 T) (Rm N) (A8 (pv 0) (A8 (pv 1) B1))))
   (B3 (D6 (i:=3) LB.nd rfl (.inl rfl) B5)
   (B3 (Q5 PassesOwn.never rfl (UV T.a6 (A8 (E5 (O0 K) T.an M0 (A8 (E1 (MD K) (pv 0) B5 (λ_ _=>rfl)) B1)) B1)) (D9 (i:=4) LB.nd rfl (.inl rfl))
   (B4 (G9 (C7 P5 (C4 M8 (E1 (MD K) (E1 (MD K) (pv 0) B5 (λ_ _=>rfl)) (pv 4) (λ_ _=>rfl)) (Kh Uy (pv 2))) B5 (D8 _)) (B4 (D6 (i:=3) LB.nd rfl (.inl rfl) (C4 R9 (pv 3) (C4 Ab B5 (pv 4))))) C5)))
   (B4 (C0 (pv 3)))))),?_⟩
  refine A6 rfl (A6 rfl (Xj (a:=p) (b:=v) (c:=m) (d:=O) (e:=R) (f:=A) (g:=B) rfl I S λo k=>?_));refine A6 rfl ⟨v,_,B8 rfl rfl ⟨IV.of J,rfl,B8 (a:=a) rfl (.inl (IV.of U)) (A6 rfl ⟨?_,?_,?_⟩)⟩⟩
  .lia
  .rw[AB];lia
  rw[AB,DD];refine U7 (λi σ y=>y=H/\∃(h:Nat) (C:A5 V),σ = [some (.ref v),some (.int (m:Int)),some (.int (o:Int)),some (.int (h:Int)),C]/\∀j,h.testBit j=true↔Sy i A B m j) ?_ ?_ ?_
  .exact⟨rfl,0,_,rfl,λj=>by rw[CH];exact⟨λz=>(by cases z),λz=>absurd z.1 (GW _)⟩⟩
  .rintro i σ y Y ⟨rfl,h,C,rfl,u⟩ D1 r _;rw[Int.zero_add];refine A6 rfl ⟨v,_,B8 rfl rfl ⟨IV.of J,rfl,A6 rfl ⟨s,_,B8 rfl rfl ⟨IV.of W,u6 (by rw[X.len];exact Y),A6 rfl (A6 rfl (B8 rfl rfl ⟨rfl,A6 rfl ?_⟩))⟩⟩⟩⟩;dsimp only;have L:=W7 (A.getD i 0) o;refine V0 (λD=>?_) (λD=>?_)
   .refine A6 rfl (A6 rfl (B8 rfl rfl ⟨⟨by lia,by lia,by decide⟩,B8 rfl rfl ?_⟩));dsimp only;rw[Ww,PV];refine r _ _ ⟨rfl,_,_,rfl,λj=>?_⟩;rw[V6,u];constructor
    .rintro(⟨G,l⟩ | rfl)
     .exact⟨by lia,l⟩
     .exact⟨by lia,λb n=>(k b).mp (L.mp D b n)⟩
    .rintro⟨G,l⟩;by_cases e:j=i
     .exact .inr e
     .exact .inl ⟨by lia,l⟩
   .refine r _ _ ⟨rfl,h,_,rfl,λj=>?_⟩;rw[u];constructor
    .rintro⟨G,l⟩;exact⟨by lia,l⟩
    .rintro⟨G,l⟩;by_cases e:j=i
     .subst e;exact absurd (L.mpr λb n=>(k b).mpr (l b n)) D
     .exact⟨by lia,l⟩
  .rintro σ y ⟨rfl,h,C,rfl,u⟩;exact⟨_,rfl,q h u⟩
theorem Bk:IR ["_law_view","_law_mask"] ["_law_view","_law_mask"] (B7 NG):=KZ
def Vr:Sp:=λc H Q _=>∃(p v:A3) (m:Nat) (a:A1 Str) (d:A1 (Str×Str)) (A B:A1 Nat),c = [.ref v,.int (m:Int)]/\JT H p v a d A B/\a.length<=100 /\
 ∀b:Bool,(b=true↔JM B m)->Q (.bl b) H
theorem S4(T:Tx K mg):IZ P w K mg base JK 2 T.aE.f T.aE.fd ["_law_view","_law_mask"] Vr:=by
 refine T.aE.F.o1 Bk λt A l s H I Q E u h=>?_
 .obtain⟨p,v,m,x,y,A,B,rfl,z,C,q⟩:=h;refine⟨_,(B4 (C0 (K5 P5 (C4 M8 (D4 T.aN (X8 T) (Rm u) (A8 (pv 0) (A8 (pv 1) B1))) (pv 1)) B5 (D8 _)))),?_⟩;refine A6 rfl (A6 rfl (Xj (a:=p) (b:=v) (c:=m) (d:=x) (e:=y) (f:=A) (g:=B) rfl z C λD k=>?_));refine A6 rfl (B8 rfl rfl ⟨rfl,?_⟩);refine q _ ?_;dsimp only;rw[Oh];constructor
  .intro h i j n o r;exact h j ((k j).mpr ⟨i,n,r⟩) o
  .intro h j o G;obtain⟨i,n,r⟩:=(k j).mp o;exact h i j n G r
def sd(ss:A1 Str):PyData:=.list (ss.map PyData.str)
def Og{K:VN}{H:Hp}:∀ss:A1 Str,QN K H (ss.map PyData.str) (ss.map V.str)
 | []=>by simp[QN]
 | x::r=>by
  simp only[AZ,QN,Rp];exact⟨_,_,rfl,rfl,Og r⟩
def zAh{K:VN}{H:Hp}{l:A3}{ss:A1 Str}(h:IV K H l (ss.map V.str)):Rp K H (sd ss) (.ref l):=by
 unfold sd;simp only[Rp];exact⟨l,_,rfl,h,Og ss⟩
def u8:∀ss:A1 Str,PyData.depthAll (ss.map PyData.str)<=1
 | []=>by simp[PyData.depthAll]
 | x::r=>by
  have:=u8 r;simp only[AZ,PyData.depthAll,PyData.depth];lia
def Ng:∀{ss:A1 Str},(∀x∈ss,PySem.PyData.strOk x=true)->PyData.canLayAll0 (ss.map PyData.str)=true
 | [],_=>rfl
 | x::r,h=>by
  rw[AZ,PyData.canLayAll0,Ng λz a=>h z (BG _ a)];simp[PyData.canLay0,h x (BN ..)]
def zDa{ss:A1 Str}(h:∀x∈ss,Q7 x=true):Pl (sd ss):=by
 refine⟨?_,?_⟩
 .unfold sd;rw[PyData.canLay0];exact Ng λx a=>Y3 (h x a)
 .unfold sd;rw[PyData.depth];have:=u8 ss;lia
def zBw{K:VN}{x y:V}{d:PyData}{H:Hp}{Q:VK}(h1:Rp K H d x)(h2:Rp K H d y)(p:Pl d)(q:Q (.bl false) H):zJh K x y H Q :=
 ⟨d,d,h1,h2,p,p,by rw[PySem.SeqAt.eqv_refl d p.1];exact q⟩
def pB(p:Prop):Bool:=@decide p (Classical.propDecidable p)
def KW{p:Prop}:pB p=true↔p:=@BI p (Classical.propDecidable p)
def Wr{p:Prop}{b:Bool}(h:b=true↔p):b=pB p:=BU.mpr (h.trans KW.symm)
def Uz:∀(j a b:Nat),(∀j,a.testBit j=true->¬b.testBit j=true)->(a+b).testBit j =(a.testBit j||b.testBit j)
 | 0,a,b,h=>by
  have c:=h 0;rw[DA,DA,BI,BI]at c;rw[DA,DA,DA,<-Bool.decide_or];exact decide_eq_decide.mpr ⟨λz=>by lia,λz=>by lia⟩
 | j+1,a,b,h=>by
  have c:=h 0;rw[DA,DA,BI,BI]at c;rw[DR,DR,DR,show(a+b) / 2=a / 2+b / 2 by lia];exact Uz j (a / 2) (b / 2) λi=>by have:=h (i+1);rw[DR,DR]at this;exact this
def Cf:∀{l:A1 Nat},l.Nodup->∀j,((l.map λk=>2^k).sum).testBit j=true↔j∈l
 | [],_,j=>by simp
 | k::l,b,j=>by
  obtain⟨c,d⟩:=DC.mp b;have a:=Cf d;rw[AZ,HQ,Nat.add_comm,Uz j _ _ λi z y=>?_,CN,a,CQ,BI,AK];rotate_left
  .rw[CQ,BI]at y;exact c (y▸(a i).mp z)
  exact⟨λh=>h.elim .inr λe=>.inl e.symm,λh=>h.elim (λe=>.inr e.symm) .inl⟩
def Uc:∀(s:Nat),0<s->∃k,s.testBit k=true/\s-(s &&&(s-1))=2^k/\∀i,i<k->¬s.testBit i=true:=by
 intro s
 induction s using Nat.strongRecOn with
 | _ s b =>
  intro h;by_cases o:s % 2=1
  .refine⟨0,by rw[DA];exact AX o,?_,λi a=>absurd a (GW _)⟩;have e:s &&&(s-1)=s-1:=BP λi=>by
    rw[CF];cases i with
    | zero=>rw[DA,DA,BA (by lia:¬(s-1) % 2=1),IE]
    | succ i=>rw[DR,DR,show(s-1) / 2=s / 2 by lia,Bool.and_self]
   rw[e];lia
  .obtain⟨k,c,f,d⟩:=b (s / 2) (by lia) (by lia);refine⟨k+1,by rw[DR];exact c,?_,λi a=>by
    cases i with
    | zero=>rw[DA,BI];exact o
    | succ i=>rw[DR];exact d i (by lia)⟩
   have e:s &&&(s-1)=2 *(s / 2 &&&(s / 2-1)):=BP λi=>by
    rw[CF];cases i with
    | zero=>rw[DA,DA,BA o,EW,DA,BA (by lia)]
    | succ i=>rw[DR,DR,DR,Nat.mul_div_cancel_left _ (by decide),CF,show(s-1) / 2=s / 2-1 by lia]
   have:s / 2 &&&(s / 2-1)<=s / 2:=Nat.and_le_left;rw[e,Nat.pow_succ];lia
def J_(n m:Nat):Prop:=∀j,m.testBit j=true->j<n
def J_.or{n m k:Nat}(h:J_ n m)(b:k<n):J_ n (m ||| 2^k):=λj a=>((V6 m k j).mp a).elim (h j) λe=>by lia
def J_.zero(n:Nat):J_ n 0:=λj a=>by rw[CH]at a;cases a
def J_.lt{n m:Nat}(h:J_ n m):m<2^n:=Nat.lt_pow_two_of_testBit m λi a=>BQ.mpr λz=>by have:=h i z;lia
structure SR(n:Nat)(A B:A1 Nat):Prop where
 tr:∀i j,(A.getD i 0).testBit j=true↔(B.getD j 0).testBit i=true
 lt:∀i j,(B.getD i 0).testBit j=true->i<n/\j<n
def MB.net{ns:A1 Str}{ks:A1 (Str×Str)}{A B:A1 Nat}(a:MB ns (ks.map λk=>(k.2,k.1)) A)(b:MB ns ks B):SR ns.length A B:=by
 refine⟨λi j=>?_,λi j h=>?_⟩
 .rw[a.bit,b.bit];constructor
  .rintro⟨_,e,c,d⟩;obtain⟨k,f,rfl⟩:=AJ.mp e;exact⟨k,f,d,c⟩
  .rintro⟨k,e,c,d⟩;exact⟨_,AJ.mpr ⟨k,e,rfl⟩,d,c⟩
 .obtain⟨k,_,c,d⟩:=(b.bit i j).mp h;exact⟨(AE.mp c).1,(AE.mp d).1⟩
def y6(n:Nat)(A B:A1 Nat)(m:Nat):Prop:=J_ n m/\JM B m/\∀j,m.testBit j=true->Sy n A B m j
def KL(c b m:Nat):Prop:=(∀j,c.testBit j=true->m.testBit j=true)/\∀j,m.testBit j=true->¬b.testBit j=true
def Sub(c a:Nat):Prop:=∀j,c.testBit j=true->a.testBit j=true
def KL.mono{c a b d m:Nat}(h:KL a d m)(e:Sub c a)(f:Sub b d):KL c b m:=⟨λj z=>h.1 j (e j z),λj z y=>h.2 j z (f j y)⟩
def Vt(n:Nat)(A B:A1 Nat)(c b:Nat):Prop:=(∀j,Y8 B c j->b.testBit j=true)/\(∀j,Y8 A c j->b.testBit j=true) /\
 ∀i j,i<n->(¬∃k,k<n/\¬b.testBit k=true/\(B.getD k 0).testBit i=true)->(B.getD i 0).testBit j=true->b.testBit j=true
def Qz{n:Nat}{A B:A1 Nat}(N:SR n A B){c b m:Nat}(h:y6 n A B m)(f:KL c b m):(∀j,Y8 B c j->¬m.testBit j=true)/\(∀j,Y8 A c j->¬m.testBit j=true) /\
  ∀i j,i<n->(¬∃k,k<n/\¬b.testBit k=true/\(B.getD k 0).testBit i=true)->(B.getD i 0).testBit j=true->¬m.testBit j=true:=by
 obtain⟨lo,d,g⟩:=h;refine⟨λj ⟨k,a,e⟩ z=>d k j (f.1 k a) z e,λj ⟨k,a,e⟩ z=>d j k z (f.1 k a) ((N.tr k j).mp e),λi j p l e z=>?_⟩;obtain⟨k,a,o⟩:=(g j z).2 i ((N.tr j i).mpr e);exact l ⟨k,lo k a,f.2 k a,o⟩
def Pq{n:Nat}{A B:A1 Nat}(N:SR n A B){c b:Nat}(lo:J_ n c)(s:Vt n A B c b)(a:∀j,c.testBit j=true->¬b.testBit j=true)(g:∀j,j<n->c.testBit j=true\/b.testBit j=true):y6 n A B c:=by
 obtain⟨l,t,m⟩:=s;refine⟨lo,λi j o f e=>a j f (l j ⟨i,o,e⟩),λj f=>⟨lo j f,λx p=>?_⟩⟩;have d:=(N.tr j x).mp p;by_cases h:Y8 B c x
 .exact h
 .refine absurd (m x j (N.lt x j d).1 (λ⟨k,q,r,e⟩=>h ⟨k,(g k q).resolve_right r,e⟩) d) (a j f)
def Tl{n c b m:Nat}(lo:J_ n m)(a:∀j,j<n->c.testBit j=true\/b.testBit j=true)(f:KL c b m):m=c:=BP λj=>by
 rw[BU];exact⟨λh=>(a j (lo j h)).resolve_right (f.2 j h),f.1 j⟩
def RS{c b m k:Nat}:KL (c ||| 2^k) b m↔KL c b m/\m.testBit k=true:=by
 constructor
 .rintro⟨a,d⟩;exact⟨⟨λj z=>a j (by rw[BX,z];rfl),d⟩,a k (by rw[BX,DX,Bool.or_true])⟩
 .rintro⟨⟨a,d⟩,f⟩;exact⟨λj z=>((V6 c k j).mp z).elim (a j) λe=>e▸f,d⟩
def RB{c b m k:Nat}:KL c (b ||| 2^k) m↔KL c b m/\¬m.testBit k=true:=by
 constructor
 .rintro⟨d,a⟩;exact⟨⟨d,λj z y=>a j z (by rw[BX,y];rfl)⟩,λz=>a k z (by rw[BX,DX,Bool.or_true])⟩
 .rintro⟨⟨d,a⟩,f⟩;exact⟨d,λj z y=>((V6 b k j).mp y).elim (a j z) λe=>f (e▸z)⟩
def UM(n c b:Nat):Nat:=(List.range n).countP λi=>!c.testBit i&&!b.testBit i
def Xz{n c a b d:Nat}(e:Sub c a)(f:Sub b d):UM n a d<=UM n c b:=List.countP_mono_left λi _ h=>by
 rw[BL,FJ,FJ]at h⊢;exact⟨BQ.mpr λz=>BQ.mp h.1 (e i z),BQ.mpr λz=>BQ.mp h.2 (f i z)⟩
def Zo{n c a b d k:Nat}(j:Sub c a)(m:Sub b d)(o:k<n)(f:¬c.testBit k=true/\¬b.testBit k=true)(h1:a.testBit k=true\/d.testBit k=true):UM n a d < UM n c b:=by
 unfold UM;have r:=BT.mpr o;obtain⟨s,t,e⟩:=List.append_of_mem r;rw[e,List.countP_append,List.countP_append,List.countP_cons,List.countP_cons];have g:=λl:A1 Nat=>List.countP_mono_left (l:=l) (p:=λi=>!a.testBit i&&!d.testBit i) (q:=λi=>!c.testBit i&&!b.testBit i) λi _ h=>by
  rw[BL,FJ,FJ]at h⊢;exact⟨BQ.mpr λz=>BQ.mp h.1 (j i z),BQ.mpr λz=>BQ.mp h.2 (m i z)⟩
 have w:=g s;have x:=g t;have u:(!a.testBit k&&!d.testBit k)=false:=by
  rcases h1 with h | h<;>rw[h]<;>simp
 have v:(!c.testBit k&&!b.testBit k)=true:=by
  rw[BQ.mpr f.1,BQ.mpr f.2];rfl
 rw[u,v,AN (by decide),AQ rfl];lia
def Lc(m i:Nat):((Builtin.bitAnd ((2^i:Nat):Int) (m:Int)) != 0)=m.testBit i:=by
 rw[Pw];have e:(2^i &&& m)=if m.testBit i=true then 2^i else 0:=BP λj=>by
  rw[CF,CQ];by_cases h:m.testBit i=true
  .rw[AQ h,CQ];by_cases c:i=j
   .subst c;rw[h,Bool.and_true]
   .rw[BA c,EW]
  .rw[AN h,CH];by_cases c:i=j
   .subst c;rw[BQ.mpr h,IE]
   .rw[BA c,EW]
 rw[e];have p:0<2^i:=Nat.pow_pos (by decide);by_cases h:m.testBit i=true
 .rw[AQ h,h,bne_iff_ne];lia
 .rw[AN h,BQ.mpr h];rfl
def UI(x y:Nat)(h:∀j,y.testBit j=true->x.testBit j=true):∃z:Nat,Builtin.bitXor (x:Int) (y:Int) =(z:Int)/\∀j,z.testBit j=true↔x.testBit j=true/\¬y.testBit j=true:=by
 have b:∀j,(x ^^^ y).testBit j=true↔x.testBit j=true/\¬y.testBit j=true:=λj=>by
  rw[Nat.testBit_xor];cases d:x.testBit j<;>cases f:y.testBit j<;>simp;exact absurd (h j f) (by rw[d];decide)
 refine⟨x ^^^ y,?_,b⟩;have e:(x ^^^ y)+y=x:=BP λj=>by
  rw[Uz j _ _ λi z=>((b i).mp z).2,BU,CN,b];exact⟨λz=>z.elim (·.1) (h j),λz=>by by_cases c:y.testBit j=true<;>simp[z,c]⟩
 have a:x &&& y=y:=BP λj=>by
  rw[CF,BU,BL];exact⟨(·.2),λz=>⟨h j z,z⟩⟩
 rw[PyProof.Rows.bitXor_and,Pw,a];lia
def bK(M:A1 Nat)(n:Nat):A1 (JH×V):=(List.range n).map λi=>((Sum.inl ((2^i:Nat):Int):JH),E9 (M.getD i 0))
def Vi{i j:Nat}(h:((2^i:Nat):Int) =((2^j:Nat):Int)):i=j:=(Nat.pow_right_inj (by decide)).mp (Int.ofNat_inj.mp h)
def Nb(M:A1 Nat):∀{n i:Nat},i<n->U5 (bK M n) (.inl ((2^i:Nat):Int))=some (E9 (M.getD i 0))
 | n+1,i,h=>by
  unfold U5 bK;rw[FA,AR,List.find?_append];by_cases c:i<n
  .have a:=Nb M c;unfold U5 bK at a;cases e:(List.find? (λb:JH×V=>decide (b.1=Sum.inl ((2^i:Nat):Int))) ((List.range n).map λi=>((Sum.inl ((2^i:Nat):Int):JH),E9 (M.getD i 0))))with
   | none=>rw[e]at a;cases a
   | some q=>rw[e]at a;rw[Option.some_or];exact a
  .have e:i=n:=by lia
   subst e;rw[List.find?_eq_none.mpr λq d z=>?_,Option.none_or]
   .rw[AZ,FN,AX rfl];rfl
   .obtain⟨k,f,rfl⟩:=AJ.mp d;have:=Vi (Sum.inl.inj (BZ z));have:=BT.mp f;lia
def mf(a b c d:A3)(n L:Nat):A1 (Str×V):=[("names",.ref a),("full",E9 (2^n-1)),("bit_of",.ref b),("strikers_of",.ref c),("struck_of",.ref d),("loops",E9 L)]
structure IS(C:A3)(H:Hp)(x c:A3)(ns:A1 Str)(A B:A1 Nat)(L:Nat):Prop where
 ex:∃dx a b d kb,H x=some (.ins C dx (mf a b c d ns.length L))/\H a=some (.lst (ns.map V.str))/\Rd H b (.dK kb)/\(∀i n,ns[i]?=some n->U5 kb (.inr n)=some (E9 (2^i)))/\Rd H c (.dK (bK A ns.length))/\H d=some (.dK (bK B ns.length))/\d≠c/\b≠c
 net:SR ns.length A B
 nd:ns.Nodup
 len:ns.length<=100
 loops:∀j,L.testBit j=true↔(A.getD j 0).testBit j=true
def zAk{H:Hp}{a c:A3}{b:A1 (JH×V)}{o:HO}(r:Rd H c (.dK b))(h:H a=some o)(e:∀b,o≠ .dK b)(f:∀d u,o≠ .frz d u):a≠c:=by
 rintro rfl;rcases r with r | ⟨d,r⟩
 .rw[h]at r;exact e _ (BJ r)
 .rw[h]at r;exact f _ _ (BJ r)
def zHo{H H':Hp}{b c:A3}{u:HO}(r:Rd H b u)(s:Sm [c] H H')(n:b≠c):Rd H' b u:=r.imp (λh=>OB s h n) λ⟨o,h⟩=>⟨o,OB s h n⟩
def IS.fz{C:A3}{H H':Hp}{x c:A3}{ns:A1 Str}{A B:A1 Nat}{L:Nat}(h:IS C H x c ns A B L)(s:Sm [c] H H')(r:Rd H' c (.dK (bK A ns.length))):IS C H' x c ns A B L:=by
 obtain⟨⟨k,a,b,d,l,e,f,m,n,g,o,i,j⟩,p,q,t,u⟩:=h;exact⟨⟨k,a,b,d,l,OB s e (zAk g e (λ_ z=>by cases z) λ_ _ z=>by cases z),OB s f (zAk g f (λ_ z=>by cases z) λ_ _ z=>by cases z),zHo m s j,n,r,OB s o i,i,j⟩,p,q,t,u⟩
def IS.same{C:A3}{H H':Hp}{x c:A3}{ns:A1 Str}{A B:A1 Nat}{L:Nat}(h:IS C H x c ns A B L)(s:F1 H H'):IS C H' x c ns A B L :=
 h.fz s.sm (let⟨_,_,_,_,_,_,_,_,_,a,_⟩:=h.ex;a.imp (s _ _) λ⟨o,e⟩=>⟨o,s _ _ e⟩)
def E3(m i:Nat):A1 Nat:=(List.range i).filter λk=>m.testBit k
def R0(m i:Nat):E3 m (i+1)=E3 m i++if m.testBit i=true then [i]else []:=by
 unfold E3;rw[FA,D_,DQ,GX]
def P4(m i:Nat):(E3 m i).length<=i:=VR (CB ..) (by rw[CU];exact VQ _)
theorem Ai:IR ["self","some"] ["self","some"] (B7 NB):=KZ
def Ee(C:A3):Sp:=λd H Q _=>∃(x c:A3) (b:A1 Str) (A B:A1 Nat) (L m:Nat),d = [.ref x,.int (m:Int)]/\IS C H x c b A B L/\∀l a,H l=none->Sm [c] H a->IS C a x c b A B L->a l=some (.lst ((E3 m b.length).map λk=>E9 (2^k)))->Q (.ref l) a
theorem G8(T:Tx K mg):IZ P w K mg base JK 1 T.ad.f T.ad.fd ["self","some"] (Ee T.aa):=by
 refine T.ad.F.o1 Ai λW A p s H vs Q E hr h=>?_
 .obtain⟨x,c,e,A,B,L,m,rfl,r,q⟩:=h;obtain⟨X,a,b,d,kb,Y,e2,e3,e4,Z,e6,n1,n2⟩:=r.ex;have ln:=r.len;refine⟨_,(B4 (C0 (S7 (N':=["bit","some"]) (cap:=[none,some 1]) (cl:=[("some",_)]) (O7 ⟨⟨rfl,rfl,rfl,rfl⟩,trivial⟩ ⟨rfl,trivial⟩) rfl (zAj (OS K (pv 0))) (λ_ _ _ _=>by exact⟨(NC 0),(V9 (T_ K (C4 M8 (pv 0) (pv 1)))),(pv 0)⟩)))),?_⟩;refine A6 rfl ⟨x,T.aa,X,_,A6 rfl ⟨Y,T.ac,T.aF,rfl,c,_,rfl,Z,λo D j=>?_⟩⟩;have t:D≠c:=λz=>by rw[z,A9]at j;cases j
  have u:Sm [c] H (IT H c (.frz o (.dK (bK A e.length)))):=(Sm.refl _ _).upd (by simp);have O:Rd (IT H c (.frz o (.dK (bK A e.length)))) c (.dK (bK A e.length)):=.inr ⟨o,A9⟩;have C:(IT H c (.frz o (.dK (bK A e.length)))) c=some (.frz o (.dK (bK A e.length))):=A9;have I:H D=none:=by rw[B6 t]at j;exact j
  have R:=r.fz u O;generalize IT H c (.frz o (.dK (bK A e.length)))=H1 at j u O C R⊢;have S:(bK A e.length).length=e.length:=by unfold bK;rw[AB,CU]
  refine n9 (n:=e.length) (λi σ G=>(∃U,σ = [U,some (.int (m:Int))])/\F1 H1 G/\G D=some (.lst ((E3 m i).map λk=>E9 (2^k)))) ⟨⟨_,rfl⟩,F1.new j,A9⟩ ?_ ?_ ?_ ?_
  .rintro i σ G J ⟨_,g,_⟩;exact⟨g _ _ C,by rw[S];exact J⟩
  .rintro σ G ⟨_,g,_⟩;exact⟨g _ _ C,by rw[S];exact VQ _⟩
  .rintro i σ G y H' N J ⟨⟨U,rfl⟩,g,l⟩ ⟨rfl,k,v,M,rfl⟩ V;unfold bK at M;rw[AI,List.getElem?_range J]at M;obtain⟨rfl,rfl⟩:=Prod.mk.inj (BJ M);refine A6 rfl (A6 rfl (B8 rfl rfl ⟨_,rfl,?_⟩));dsimp only;rw[Lc];have hl:=P4 m i;refine V0 (λz=>A6 rfl ⟨_,l,by rw[AB,sizeLine_eq];lia,V _ _ ⟨⟨_,rfl⟩,g.upd j,?_⟩⟩) (λz=>V _ _ ⟨⟨_,rfl⟩,g,?_⟩)
   .rw[A9,R0,AQ z,AR];rfl
   .rw[R0,AN z,CD];exact l
  .rintro σ G ⟨_,g,l⟩;exact q D G I (u.trans g.sm) (R.same g) l
def zCj{α:Type}{J:It}{b:A1 α}{r:α->V}(f:α->V){a D:A3}{H:Hp}(as:L_ J (b.map r) a H){j:TT}{k:TE}{c:St}{l:A5 V}{Q:St->Hp->Prop}(p:α->Bool)(z:b.length<=5000)(m:H D=none)
  (A:∀y∈b,∀G,F1 H G->∀M:Bool->Hp->Prop,(∀e,F1 G e->M (p y) e)->j (some (r y)::c) G M) (B:∀y∈b,∀G,F1 H G->∀M:VK,(∀e,F1 G e->M (f y) e)->k (some (r y)::c) G M)
  (q:∀σ G,F1 H G->G D=some (.lst ((b.filter p).map f))->Q σ G):Ig (V1 0) j (Af D k) J (l::c) (IT H D (.lst [])) Q:=by
 refine W0 as (λi σ G=>(∃v,σ=v::c)/\F1 H G/\G D=some (.lst (((b.take i).filter p).map f))) ⟨⟨_,rfl⟩,F1.new m,A9⟩ (λi σ G _ h=>h.2.1.at a) ?_ ?_
 .rintro i σ G v N n ⟨⟨l,rfl⟩,d,g⟩ o;rw[AI]at n;obtain⟨y,s,rfl⟩:=BC.mp n;have t:=AM s;refine A y t G d _ λe u=>?_;have g:=u _ _ g;have d:=d.trans u;have w:(b.take (i+1)).filter p =(b.take i).filter p++if p y=true then [y]else []:=by
   rw[JE s,D_,DQ,GX]
  have C:=CB p (b.take i);rw[AS]at C;refine V0 (λc=>B y t e d _ λE x=>⟨_,x _ _ g,by rw[AB,sizeLine_eq];lia,o _ _ ⟨⟨_,rfl⟩,(d.trans x).upd m,?_⟩⟩) (λc=>o _ _ ⟨⟨_,rfl⟩,d,?_⟩)
  .rw[A9,w,AQ c,AR];rfl
  .rw[w,AN c,CD];exact g
 .rintro σ G ⟨_,d,g⟩;rw[AB,CA]at g;exact q σ G d g
def Ph{α:Type}{J:It}{d:A1 α}{r:α->V}(f:α->V){a D:A3}{H:Hp}(as:L_ J (d.map r) a H){h:TT}{i:TE}{c:St}{k:A5 V}{Q:St->Hp->Prop}(p:α->Bool)(g:d.length<=5000)(l:H D=none)
  (m:∀y∈d,∀G,F1 H G->∀M:Bool->Hp->Prop,(∀j,F1 G j->M (p y) j)->h (some (r y)::c) G M) (n:∀y∈d,∀G,F1 H G->∀M:VK,M (f y) G->i (some (r y)::c) G M)
  (q:∀σ G,F1 H G->G D=some (.lst ((d.filter p).map f))->Q σ G):Ig (V1 0) h (Af D i) J (k::c) (IT H D (.lst [])) Q :=
 zCj f as p g l m (λy t G s M u=>n y t G s M (u G λb o e=>e)) q
def JS{m n k:Nat}:k∈E3 m n↔k<n/\m.testBit k=true:=by
 unfold E3;rw[BE,BT]
def K8(n j:Nat):(2^n-1).testBit j=true↔j<n:=by rw[HD,BI]
theorem t9:IR ["self","some"] ["self","some"] (B7 MM):=KZ
def Bh(C:A3):Sp:=λd H Q _=>∃(x c:A3) (b:A1 Str) (A B:A1 Nat) (L m:Nat),d = [.ref x,.int (m:Int)]/\IS C H x c b A B L/\∀l a,H l=none->F1 H a->a l=some (.lst ((JO b m).map V.str))->Q (.ref l) a
theorem U9(T:Tx K mg):IZ P w K mg base JK 1 T.al.f T.al.fd ["self","some"] (Bh T.aa):=by
 refine T.al.F.o1 t9 λS A l s H vs Q E U h=>?_
 .obtain⟨x,c,t,A,B,L,m,rfl,u,q⟩:=h;have W:=b9 U;obtain⟨v,a,b,d,C,I,J,X,Y,e5,e6,n1,n2⟩:=u.ex;have ln:=u.len;refine⟨_,(B4 (C0 (S7 (N':=["name","some","self"]) (cap:=[none,some 1,some 0]) (cl:=[("some",_),("self",_)]) (O7 ⟨⟨rfl,rfl,rfl,rfl⟩,⟨⟨rfl,rfl,rfl,rfl⟩,trivial⟩⟩ ⟨rfl,⟨rfl,trivial⟩⟩) rfl (OL K (OS K (pv 0))) (λ_ _ _ _=>by exact⟨(NC 0),(V9 (T_ K (C4 M8 (O1 W (OS K (pv 2)) (pv 0) (λ_ _=>rfl)) (pv 1)))),(pv 0)⟩)))),?_⟩;refine A6 rfl ⟨x,T.aa,v,_,A6 rfl ⟨I,T.ac,T.aT,rfl,a,rfl,⟨_,IV.of J⟩,λD p=>?_⟩⟩;refine W0 (ON (IV.of J)) (λi σ G=>(∃M,σ = [M,some (.int (m:Int)),some (.ref x)])/\F1 H G/\G D=some (.lst ((w6 t m i).map V.str))) ⟨⟨_,rfl⟩,F1.new p,A9⟩ (λi σ G _ h=>h.2.1.at a) ?_ ?_
  .rintro i σ G y N O ⟨⟨M,rfl⟩,g,j⟩ R;rw[AI]at O;obtain⟨n,k,rfl⟩:=BC.mp O;have li:=(AE.mp k).1;have Z:Rd G b (.dK C):=X.imp (g _ _) λ⟨o,e⟩=>⟨o,g _ _ e⟩;refine A6 rfl ⟨x,T.aa,v,_,A6 rfl ⟨g _ _ I,T.ac,T.ba,rfl,A6 rfl ⟨b,_,rfl,.inl ⟨C,.inr n,Z,rfl,(Y i n k).symm⟩,A6 rfl (B8 rfl rfl ⟨_,rfl,?_⟩)⟩⟩⟩;dsimp only;rw[Lc];have r:=(X0 t m i (by lia)).length_le;rw[AS]at r;refine V0 (λz=>A6 rfl ⟨_,j,by rw[AB,sizeLine_eq];lia,R _ _ ⟨⟨_,rfl⟩,g.upd p,?_⟩⟩) (λz=>R _ _ ⟨⟨_,rfl⟩,g,?_⟩)
   .rw[A9,K1 k,AQ z,AR];rfl
   .rw[K1 k,AN z,CD];exact j
  .rintro σ G ⟨_,g,j⟩;rw[AB]at j;exact q D G p g j
theorem NP:IR ["sets","whole","one"] ["sets"] (B7 QV):=KZ
def Vp(K:VN):Sp:=λb H Q _=>∃(l:A3) (a:A1 Nat),b = [.ref l]/\H l=some (.lst (a.map E9))/\∀r:Nat,(∀j,r.testBit j=true↔∃z∈a,z.testBit j=true)->Q (.int (r:Int)) H
theorem Ho(T:Tx K mg):IZ P w K mg base JK 1 T.bn.f T.bn.fd ["sets"] (Vp K):=by
 refine T.bn.F.o1 NP λu A c s H B Q E a h=>?_
 .obtain⟨l,v,rfl,p,q⟩:=h;refine⟨_,(B3 (D6 (i:=1) NP.nd rfl (.inl rfl) B5)
   (B3 (Q5 PassesOwn.never rfl (OL K (pv 0)) (D9 (i:=2) NP.nd rfl (.inl rfl))
   (B4 (zFd (i:=1) NP.nd rfl (Or.inl rfl) (pv 2) zIb)))
   (B4 (C0 (pv 1))))),?_⟩
  refine B9 λC d=>?_;refine d _ _ (B9 λD g=>?_);refine A6 rfl ⟨l,rfl,⟨_,IV.of p⟩,?_⟩;refine X4 (ON (K:=K) (IV.of p)) (λi σ G=>G=H/\∃(r:Nat) (k:A5 V),σ = [some (.ref l),some (.int (r:Int)),k]/\∀j,r.testBit j=true↔∃z∈v.take i,z.testBit j=true) ⟨rfl,0,_,rfl,λj=>by simp⟩ (λi σ G _ h=>by rw[h.1];exact λo e=>e) ?_ ?_
  .rintro i σ G y t ⟨rfl,r,k,rfl,a⟩ I m _;rw[AI]at t;obtain⟨z,x,rfl⟩:=BC.mp t;refine A6 rfl (A6 rfl (B8 rfl rfl ?_));dsimp only;rw[PV];refine m _ _ ⟨rfl,_,_,rfl,λj=>?_⟩;rw[BX,CN,a,JE x];constructor
   .rintro(⟨n,h1,b⟩ | h)
    .exact⟨n,FI _ h1,b⟩
    .exact⟨z,BO _ (AG.mpr rfl),h⟩
   .rintro⟨n,h1,b⟩;rcases A_.mp h1 with h1 | h1
    .exact .inl ⟨n,h1,b⟩
    .rw[AG.mp h1]at b;exact .inr b
  .rintro σ G ⟨rfl,r,k,rfl,a⟩;rw[AB,CA]at a;exact g _ _ (A6 rfl (q r a))
def Ub(C:A3)(f:A1 Nat->A1 Nat->A1 Nat):Sp:=λd H Q _=>∃(x c:A3) (b:A1 Str) (A B:A1 Nat) (L m:Nat),d = [.ref x,.int (m:Int)]/\IS C H x c b A B L/\∀(r:Nat) a,Sm [c] H a->IS C a x c b A B L->(∀j,r.testBit j=true↔Y8 (f A B) m j)->Q (.int (r:Int)) a
theorem Rb{n m r:Nat}{M:A1 Nat}(b:∀k j,(M.getD k 0).testBit j=true->k<n)(h:∀j,r.testBit j=true↔∃z∈(E3 m n).map (λk=>M.getD k 0),z.testBit j=true)(j:Nat):r.testBit j=true↔Y8 M m j:=by
 rw[h];constructor
 .rintro⟨z,c,e⟩;obtain⟨k,a,rfl⟩:=AJ.mp c;exact⟨k,(JS.mp a).2,e⟩
 .rintro⟨k,a,e⟩;exact⟨_,AJ.mpr ⟨k,JS.mpr ⟨b k j e,a⟩,rfl⟩,e⟩
theorem l4:IR ["self","some"] ["self","some"] (B7 LZ):=KZ
theorem I0(T:Tx K mg):IZ P w K mg base JK 2 T.af.f T.af.fd ["self","some"] (Ub T.aa λ_ B=>B):=by
 refine T.af.F.o1 l4 λJ A t s H V Q E n h=>?_
 .obtain⟨x,c,y,A,B,L,m,rfl,g,q⟩:=h;have N:=b9 n;obtain⟨u,a,b,d,O,v,_⟩:=g.ex;have W:=g.len;refine⟨_,(B4 (C0 (D4 T.bn (Ho T) (Rm n) (A8 (S7 (N':=["bit","self"]) (cap:=[none,some 0]) (cl:=[("self",_)]) (O7 ⟨⟨rfl,rfl,rfl,rfl⟩,trivial⟩ ⟨rfl,trivial⟩) rfl (OL K (E6 (pv 0) T.ac T.ad.m (G8 T) (Rm n) T.ad.b .nil M5 (A8 (pv 1) B1))) (λ_ _ _ _=>by exact⟨(NC 0),G7,(O1 N (OS K (pv 1)) (pv 0) (λ_ _=>rfl))⟩)) B1)))),?_⟩;refine A6 rfl ⟨x,u,A6 rfl ⟨v,rfl,A6 rfl ⟨x,c,y,A,B,L,m,rfl,g,λl X Y R z C=>?_⟩⟩⟩;obtain⟨u,a,b,d,O,v,Z,e3,e4,e5,S,n1,n2⟩:=z.ex;refine⟨l,rfl,⟨_,IV.of C⟩,λD U=>?_⟩;refine Ph (λk=>E9 (B.getD k 0)) (ON (IV.of C)) (λ_=>true) (VR (P4 ..) (by lia)) U (λk I G i M g=>g G λb o e=>e) (λk I G i M g=>?_) λσ' G i p=>?_
  .exact A6 rfl ⟨x,T.aa,u,_,A6 rfl ⟨i _ _ v,T.ac,T.bl,rfl,A6 rfl ⟨d,_,rfl,.inl ⟨_,.inl ((2^k:Nat):Int),.inl (i _ _ S),rfl,(Nb B (JS.mp I).1).symm⟩,g⟩⟩⟩
  rw[EZ.mpr λ_ _=>rfl]at p;have p:G D=some (.lst (((E3 m y.length).map λk=>B.getD k 0).map E9)):=by rw[p,BV];rfl
  refine⟨D,_,rfl,p,λr n=>q r G (R.trans i.sm) (z.same i) (Rb (λk j e=>(g.net.lt k j e).1) n)⟩
theorem Y7:IR ["self","some"] ["self","some"] (B7 LG):=KZ
theorem K0(T:Tx K mg):IZ P w K mg base JK 2 T.ag.f T.ag.fd ["self","some"] (Ub T.aa λA _=>A):=by
 refine T.ag.F.o1 Y7 λJ A t s H V Q E n h=>?_
 .obtain⟨x,c,y,A,B,L,m,rfl,g,q⟩:=h;have N:=b9 n;obtain⟨u,a,b,d,O,v,_⟩:=g.ex;have W:=g.len;refine⟨_,(B4 (C0 (D4 T.bn (Ho T) (Rm n) (A8 (S7 (N':=["bit","self"]) (cap:=[none,some 0]) (cl:=[("self",_)]) (O7 ⟨⟨rfl,rfl,rfl,rfl⟩,trivial⟩ ⟨rfl,trivial⟩) rfl (OL K (E6 (pv 0) T.ac T.ad.m (G8 T) (Rm n) T.ad.b .nil M5 (A8 (pv 1) B1))) (λ_ _ _ _=>by exact⟨(NC 0),G7,(O1 N (OS K (pv 1)) (pv 0) (λ_ _=>rfl))⟩)) B1)))),?_⟩;refine A6 rfl ⟨x,u,A6 rfl ⟨v,rfl,A6 rfl ⟨x,c,y,A,B,L,m,rfl,g,λl X Y R z C=>?_⟩⟩⟩;obtain⟨u,a,b,d,O,v,Z,e3,e4,S,e6,n1,n2⟩:=z.ex;refine⟨l,rfl,⟨_,IV.of C⟩,λD U=>?_⟩;refine Ph (λk=>E9 (A.getD k 0)) (ON (IV.of C)) (λ_=>true) (VR (P4 ..) (by lia)) U (λk I G i M g=>g G λb o e=>e) (λk I G i M g=>?_) λσ' G i p=>?_
  .exact A6 rfl ⟨x,T.aa,u,_,A6 rfl ⟨i _ _ v,T.ac,T.aF,rfl,A6 rfl ⟨c,_,rfl,.inl ⟨_,.inl ((2^k:Nat):Int),S.imp (i _ _) λ⟨o,e⟩=>⟨o,i _ _ e⟩,rfl,(Nb A (JS.mp I).1).symm⟩,g⟩⟩⟩
  rw[EZ.mpr λ_ _=>rfl]at p;have p:G D=some (.lst (((E3 m y.length).map λk=>A.getD k 0).map E9)):=by rw[p,BV];rfl
  refine⟨D,_,rfl,p,λr n=>q r G (R.trans i.sm) (z.same i) (Rb (λk j e=>(g.net.lt j k ((g.net.tr k j).mp e)).2) n)⟩
theorem Y5:IR ["self","some"] ["self","some"] (B7 LF):=KZ
def Kr(C:A3):Sp:=λd H Q _=>∃(x c:A3) (a:A1 Str) (A B:A1 Nat) (L m:Nat),d = [.ref x,.int (m:Int)]/\IS C H x c a A B L/\∀(r:Nat) b,Sm [c] H b->IS C b x c a A B L->(∀j,r.testBit j=true↔j<a.length/\¬Y8 B m j)->Q (.int (r:Int)) b
theorem O3(T:Tx K mg):IZ P w K mg base JK 3 T.ai.f T.ai.fd ["self","some"] (Kr T.aa):=by
 refine T.ai.F.o1 Y5 λt A i s H I Q E g h=>?_
 .obtain⟨x,c,n,A,B,L,m,rfl,l,q⟩:=h;obtain⟨o,a,b,d,J,p,_⟩:=l.ex;refine⟨_,(B4 (C0 (C4 Dr (OS K (pv 0)) (E6 (pv 0) T.ac T.af.m (I0 T) (Rm g) T.af.b .nil M5 (A8 (pv 1) B1))))),?_⟩;refine A6 rfl ⟨x,T.aa,o,_,A6 rfl ⟨p,T.ac,T.aC,rfl,A6 rfl ⟨x,o,A6 rfl ⟨p,rfl,A6 rfl ⟨x,c,n,A,B,L,m,rfl,l,λr u v y g=>?_⟩⟩⟩⟩⟩;obtain⟨z,C,D⟩:=UI (2^n.length-1) r λj G=>by
   obtain⟨k,_,e⟩:=(g j).mp G;exact(K8 _ _).mpr (l.net.lt k j e).2
  refine⟨_,_,rfl,rfl,?_⟩;dsimp only;rw[C];exact q z u v y λj=>by rw[D,K8,g]
theorem Ib:IR ["some"] ["some"] (B7 PM):=KZ
def Ni:Sp:=λa H Q _=>∃s:Nat,a = [.int (s:Int)]/\0<s/\∀k:Nat,s.testBit k=true->(∀i,i<k->¬s.testBit i=true)->Q (.int ((2^k:Nat):Int)) H
theorem y8(T:Tx K mg):IZ P w K mg base JK 1 T.aM.f T.aM.fd ["some"] Ni:=by
 refine T.aM.F.o1 Ib λb A a s H j Q E l h=>?_
 .obtain⟨s,rfl,c,q⟩:=h;refine⟨_,(B4 (C0 (C4 M8 (pv 0) (Kh Nh (pv 0))))),?_⟩;refine A6 rfl (A6 rfl ⟨_,rfl,B8 rfl rfl ?_⟩);obtain⟨k,d,m,g⟩:=Uc s c;have e:-(s:Int)=Builtin.bitNot (((s-1:Nat)):Int):=by unfold Builtin.bitNot;lia
  have:=q k d g;dsimp only;rw[e,PyProof.Rows.bitAnd_not,Pw];have i:(s:Int)-((s &&&(s-1):Nat):Int) =((2^k:Nat):Int):=by
   have:s &&&(s-1)<=s:=Nat.and_le_left;lia
  rw[i];exact this
def Kt(κ:Nat->JH)(v:Nat->V){N:Nat}(b:∀i j,i<N->j<N->κ i=κ j->i=j):∀n,n<=N->∀i,i<N->U5 ((List.range n).map λk=>(κ k,v k)) (κ i)=if i<n then some (v i)else none
 | 0,_,i,_=>rfl
 | n+1,h,i,f=>by
  have a:=Kt κ v b n (by lia) i f;unfold U5 at a⊢;rw[FA,AR,List.find?_append];by_cases c:i<n
  .rw[AQ c]at a;rw[AQ (by lia)];cases e:(List.find? (λd:JH×V=>decide (d.1=κ i)) ((List.range n).map λk=>(κ k,v k)))with
   | none=>rw[e]at a;cases a
   | some q=>rw[e]at a;rw[Option.some_or];exact a
  .rw[AN c]at a;cases e:(List.find? (λd:JH×V=>decide (d.1=κ i)) ((List.range n).map λk=>(κ k,v k)))with
   | some q=>rw[e]at a;cases a
   | none =>
    rw[Option.none_or,AZ,FN];by_cases g:i=n
    .subst g;rw[AX rfl,AQ (by lia)];rfl
    .rw[BA λz=>g (b n i (by lia) f z).symm,AN (by lia)];rfl
def Ra(κ:Nat->JH)(v:Nat->V){N:Nat}(a:∀i j,i<N->j<N->κ i=κ j->i=j){n:Nat}(h:n<N):y0 ((List.range n).map λk=>(κ k,v k)) (κ n) (v n) =(List.range (n+1)).map λk=>(κ k,v k):=by
 rw[Vw _ (by rw[Kt κ v a n (by lia) n h,AN (by lia)]),FA,AR];rfl
def Np:∀n,(((List.range n).map λk=>((2^k:Nat):Int)).sum) =((2^n-1:Nat):Int)
 | 0=>rfl
 | n+1=>by
  rw[FA,AR,List.sum_append,Np n];have:0<2^n:=Nat.pow_pos (by decide);simp only[AZ,HI,HQ,List.sum_nil,Nat.pow_succ];lia
def Oc(l:A1 Nat):((l.map λk=>((2^k:Nat):Int)).sum) =(((l.map λk=>2^k).sum:Nat):Int):=by
 induction l with
 | nil=>rfl
 | cons a r b=>rw[AZ,HQ,b,AZ,HQ];lia
def Ij{ns:A1 Str}{y:Str}(h:y∈ns):ns[ns.idxOf y]?=some y:=by
 rw[AC (List.idxOf_lt_length_of_mem h),List.getElem_idxOf]
def ML(ns:A1 Str)(g:Str->A1 Str):A1 Nat:=ns.map λn=>((g n).map λy=>2^ns.idxOf y).sum
def zAt{ns:A1 Str}{g:Str->A1 Str}{i:Nat}{n:Str}(h:ns[i]?=some n):(ML ns g).getD i 0 =(((g n).map λy=>ns.idxOf y).map λk=>2^k).sum:=by
 unfold ML;rw[AU,AI,h,BV];rfl
def zDm{ns:A1 Str}{g:Str->A1 Str}{ks:A1 (Str×Str)}(p:ns.Nodup)(q:∀n∈ns,(g n).Nodup)(h:∀n∈ns,∀y,y∈g n↔(n,y)∈ks)(c:∀k∈ks,k.1∈ns/\k.2∈ns):MB ns ks (ML ns g):=by
 refine⟨by unfold ML;rw[AB],λi j=>?_⟩;cases l:ns[i]? with
 | none =>
  have e:(ML ns g).getD i 0=0:=by unfold ML;rw[AU,AI,l];rfl
  rw[e,CH];exact⟨λz=>(by cases z),λ⟨k,_,z,_⟩=>(by cases z)⟩
 | some n =>
  have d:=AM l;have r:((g n).map λy=>ns.idxOf y).Nodup:=by
   refine CG.mpr (GI (fun{a b} s t u e=>u ?_) (q n d));have o:=Ij (c _ ((h n d a).mp s)).2;have v:=Ij (c _ ((h n d b).mp t)).2;rw[e,v]at o;exact(BJ o).symm
  rw[zAt l,Cf r,AJ];constructor
  .rintro⟨y,w,rfl⟩;have f:=(h n d y).mp w;exact⟨_,f,rfl,Ij (c _ f).2⟩
  .rintro⟨k,f,m,x⟩;have m:=BJ m;refine⟨k.2,(h n d k.2).mpr (by rw[m];exact f),?_⟩;exact J9 p (Ij (c _ f).2) x
def Nv{J:It}{a D:A3}{ns:A1 Str}{H:Hp}{Q:St->Hp->Prop}(as:L_ J (ns.map V.str) a H){j l:TE}{r:St}{m:A5 V}(M:A1 Nat)(t:ns.length<=1000)(o:H D=none)
  (u:∀i n G (R:VK),ns[i]?=some n->F1 H G->R (E9 (2^i)) G->j (some (.str n)::r) G R)
  (w:∀i n G (R:VK),ns[i]?=some n->F1 H G->(∀f,F1 G f->R (E9 (M.getD i 0)) f)->l (some (.str n)::r) G R)
  (q:∀σ G,F1 H G->G D=some (.dK (bK M ns.length))->Q σ G):Ig (V1 0) Aq (Yd D j l) J (m::r) (IT H D (.dK [])) Q:=by
 refine W0 as (λi σ G=>(∃v,σ=v::r)/\F1 H G/\G D=some (.dK (bK M i))) ⟨⟨_,rfl⟩,F1.new o,A9⟩ (λi σ G _ h=>h.2.1.at a) ?_ ?_
 .rintro i σ G v N p ⟨⟨m,rfl⟩,c,d⟩ x;rw[AI]at p;obtain⟨n,g,rfl⟩:=BC.mp p;have y:=(AE.mp g).1;refine Eg (u i n G _ g c (w i n G _ g c λf s=>?_));refine⟨bK M i,.inl ((2^i:Nat):Int),s _ _ d,rfl,by unfold bK;rw[AB,CU,sizeLine_eq];lia,x _ _ ⟨⟨_,rfl⟩,(c.trans s).upd o,?_⟩⟩;rw[A9];unfold bK;rw[Ra (λk=>(Sum.inl ((2^k:Nat):Int):JH)) (λk=>E9 (M.getD k 0)) (N:=i+1) (λa b _ _ e=>Vi (Sum.inl.inj e)) (FC i)]
 .rintro σ G ⟨_,c,d⟩;rw[AB]at d;exact q σ G c d
def K_.smx{C M:A3}{H H':Hp}{x w g:A3}{ns:A1 Str}{i:A1 KJ}(h:K_ C H w ns i)(j:H x=some (.ins M g []))(s:Sm [x] H H'):K_ C H' w ns i:=by
 obtain⟨m,p,a,b,c,d,r,t,u,y,A,B,D,E,F,G⟩:=h;have k:∀{b:A3} {o:HO},H b=some o->o≠ .ins M g []->H' b=some o:=λe n=>s _ _ e λz=>n (by rw[AG.mp z,j]at e;exact(BJ e).symm);exact⟨m,p,a,b,c,d,r,t,k u (by unfold wf;intro z;cases z),k y (by intro z;cases z),k A (by intro z;cases z),λq I=>k (B q I) (by intro z;cases z),k D (by intro z;cases z),k E (by intro z;cases z),λn f=>let⟨l,v,e⟩:=F n f;⟨l,v,k e (by intro z;cases z)⟩,λn f=>let⟨l,v,e⟩:=G n f;⟨l,v,k e (by intro z;cases z)⟩⟩
def Jj{a:A1 KJ}{n y:Str}:y∈C8 a n↔(n,y)∈(a.map λq=>q.2).map λk=>(k.2,k.1):=by
 unfold C8;rw[BV,AJ,AJ];constructor
 .rintro⟨q,h,rfl⟩;obtain⟨b,c⟩:=BE.mp h;exact⟨q,b,Prod.ext (BZ c) rfl⟩
 .rintro⟨q,h,e⟩;exact⟨q,BE.mpr ⟨h,AX (congrArg Prod.fst e)⟩,congrArg Prod.snd e⟩
def Jx{a:A1 KJ}{n y:Str}:y∈E7 a n↔(n,y)∈a.map λq=>q.2:=by
 unfold E7;rw[AJ,AJ];constructor
 .rintro⟨q,h,rfl⟩;obtain⟨b,c⟩:=BE.mp h;exact⟨q,b,Prod.ext (BZ c) rfl⟩
 .rintro⟨q,h,e⟩;exact⟨q,BE.mpr ⟨h,AX (congrArg Prod.fst e)⟩,congrArg Prod.snd e⟩
def Ko{c:A1 KJ}(h:(c.map λq=>q.2).Nodup)(n:Str):(C8 c n).Nodup:=by
 unfold C8;refine CG.mpr (GI (fun{a b} d f g e=>g ?_) ((CG.mp h).sublist DP));exact Prod.ext e ((BZ (BE.mp d).2).trans (BZ (BE.mp f).2).symm)
def Si{c:A1 KJ}(h:(c.map λq=>q.2).Nodup)(n:Str):(E7 c n).Nodup:=by
 unfold E7;refine CG.mpr (GI (fun{a b} d f g e=>g ?_) ((CG.mp h).sublist DP));exact Prod.ext ((BZ (BE.mp d).2).trans (BZ (BE.mp f).2).symm) e
def RK(ns:A1 Str)(i:Nat):A1 (JH×V):=(List.range i).map λk=>((Sum.inr (ns.getD k ""):JH),E9 (2^k))
def Fk{ns:A1 Str}{i:Nat}{n:Str}(h:ns[i]?=some n):ns.getD i "" = n:=by rw[AU,h];rfl
def Yw{ns:A1 Str}(c:ns.Nodup):∀i j,i<ns.length->j<ns.length->(Sum.inr (ns.getD i ""):JH)=Sum.inr (ns.getD j "")->i=j:=λi j a b e=>by
 have e:=Sum.inr.inj e;rw[Fk (AC a),Fk (AC b)]at e;exact J9 c (AC a) (by rw[AC b,e])
def Mi{ns:A1 Str}(b:ns.Nodup){i:Nat}{n:Str}(h:ns[i]?=some n):U5 (RK ns ns.length) (.inr n)=some (E9 (2^i)):=by
 have a:=(AE.mp h).1;have:=Kt (λk=>(Sum.inr (ns.getD k ""):JH)) (λk=>E9 (2^k)) (Yw b) ns.length (VQ _) i a;rw[AQ a]at this;rw[Fk h]at this;exact this
theorem Ma{G:Hp}{b l:A3}{ns a:A1 Str}{R:VK}(m:ns.Nodup)(n:G b=some (.dK (RK ns ns.length)))(q:G l=some (.lst (a.map V.str)))(r:∀y∈a,y∈ns)(s:a.length<=1000)(t:∀g,F1 G g->R (.int ((((a.map λy=>ns.idxOf y).map λk=>2^k).sum:Nat):Int)) g) :
  ∀D,G D=none->Ig (V1 0) Aq (Af D (Wx (Sc 1) (Sc 0))) (UU K l) [none,some (.ref b)] (IT G D (.lst [])) λ_ h=>∃(p:A3) (zs:A1 Int),[V.ref D] = [.ref p]/\IV K h p (zs.map V.int)/\R (.int zs.sum) h:=λD u=>by
 refine Ph (λy=>E9 (2^ns.idxOf y)) (ON (IV.of q)) (λ_=>true) (by lia) u (λy i c d M f=>f c λb o e=>e) (λy i c d M f=>?_) λσ c d j=>?_
 .exact A6 rfl (A6 rfl ⟨b,_,rfl,.inl ⟨_,.inr y,.inl (d _ _ n),rfl,(Mi m (Ij (r y i))).symm⟩,f⟩)
 .rw[EZ.mpr λ_ _=>rfl]at j;refine⟨D,(a.map λy=>ns.idxOf y).map λk=>((2^k:Nat):Int),rfl,IV.of (by rw[j,BV,BV];rfl),?_⟩;rw[Oc];exact t c d
theorem LS:IR ["self","web","bits"] ["self","web"] (B7 MN):=KZ
def g9(e g:A3):Sp:=λh H Q _=>∃(x i f:A3) (a:A1 Str) (b:A1 KJ),h = [.ref x,.ref f]/\H x=some (.ins e i [])/\K_ g H f a b /\
 ∀(c:A3) (A B:A1 Nat) (L:Nat) d,H c=none->Sm [x] H d->IS e d x c a A B L->MB a ((b.map λq=>q.2).map λk=>(k.2,k.1)) A->MB a (b.map λq=>q.2) B->Q .non d
set_option maxHeartbeats 4000000 in
theorem i8(T:Tx K mg):IZ P w K mg base JK 3 T.bo T.bm ["self","web"] (g9 T.aa T.ah):=by
 refine T.bz.o1 LS λcdv A outer s H vs Q E hr h=>?_
 .obtain⟨x,e,wb,ns,r,rfl,hx,hW,q⟩:=h;have hu:=b9 hr;have u:=hW.ok;have ln:=u.len;have U:=u.nd;refine⟨_,(B3 (SK K (pv 0) (Wf (pv 1) T.ay T.aG.m (Al T) (Rm hr) T.aG.b .nil M5))
   (B3 (D6 (i:=2) LS.nd rfl (.inr rfl) (Sk (N':=["place","name"]) (cap:=[none,none]) (cl:=[]) (O7 trivial trivial) rfl (UP K T.aI (A8 (OS K (pv 0)) B1)) (λ_ _ _ _=>by exact⟨(QY K (n:=2) (C6 (NC 0) (C6 (NC 1) M7))),G7,(pv 1),(C4 Ab B5 (pv 0))⟩)))
   (B3 (SK K (pv 0) (E5 zBx T.bs Iy (A8 (Tz (pv 2)) B1)))
   (B3 (SK K (pv 0) (pv 2))
   (B3 (SK K (pv 0) (Sk (N':=["name","bits","web"]) (cap:=[none,some 2,some 1]) (cl:=[("web",_),("bits",_)]) (O7 ⟨⟨rfl,rfl,rfl,rfl⟩,⟨⟨rfl,rfl,rfl,rfl⟩,trivial⟩⟩ ⟨rfl,⟨rfl,trivial⟩⟩) rfl (OL K (OS K (pv 0))) (λ_ _ _ _=>by exact⟨(NC 0),G7,(O1 hu (pv 1) (pv 0) (λ_ _=>rfl)),(E5 (Nl K) T.bs Iy (A8 (S7 (N':=["one","bits"]) (cap:=[none,some 1]) (cl:=[("bits",_)]) (O7 ⟨⟨rfl,rfl,rfl,rfl⟩,trivial⟩ ⟨rfl,trivial⟩) rfl (OL K (E6 (pv 2) T.ay T.aK.m (Cg T) (Rm hr) T.aK.b .nil M5 (A8 (pv 0) B1))) (λ_ _ _ _=>by exact⟨(NC 0),G7,(O1 hu (pv 1) (pv 0) (λ_ _=>rfl))⟩)) B1))⟩)))
   (B3 (SK K (pv 0) (Sk (N':=["name","bits","web"]) (cap:=[none,some 2,some 1]) (cl:=[("web",_),("bits",_)]) (O7 ⟨⟨rfl,rfl,rfl,rfl⟩,⟨⟨rfl,rfl,rfl,rfl⟩,trivial⟩⟩ ⟨rfl,⟨rfl,trivial⟩⟩) rfl (OL K (OS K (pv 0))) (λ_ _ _ _=>by exact⟨(NC 0),G7,(O1 hu (pv 1) (pv 0) (λ_ _=>rfl)),(E5 (Nl K) T.bs Iy (A8 (S7 (N':=["one","bits"]) (cap:=[none,some 1]) (cl:=[("bits",_)]) (O7 ⟨⟨rfl,rfl,rfl,rfl⟩,trivial⟩ ⟨rfl,trivial⟩) rfl (OL K (E6 (pv 2) T.ay T.aX.m (Fp T) (Rm hr) T.aX.b .nil M5 (A8 (pv 0) B1))) (λ_ _ _ _=>by exact⟨(NC 0),G7,(O1 hu (pv 1) (pv 0) (λ_ _=>rfl))⟩)) B1))⟩)))
   (B4 (SK K (pv 0) (E5 (Nl K) T.bs Iy (A8 (S7 (N':=["bit","self"]) (cap:=[none,some 0]) (cl:=[("self",_)]) (O7 ⟨⟨rfl,rfl,rfl,rfl⟩,trivial⟩ ⟨rfl,trivial⟩) rfl (zGm (Tz (pv 2))) (λ_ _ _ _=>by exact⟨(NC 0),(V9 (T_ K (C4 M8 (pv 0) (O1 hu (OS K (pv 1)) (pv 0) (λ_ _=>rfl))))),(pv 0)⟩)) B1)))))))))),?_⟩
  have f:∀{b:A3},b≠x->b∉[x]:=λh z=>h (AG.mp z);refine B9 λZ1 hZ1=>?_;obtain⟨_,dw,_,_,_,_,_,_,ew,_⟩:=id hW;refine A6 rfl ⟨wb,dw,A6 rfl ⟨ew,rfl,wb,ns,r,rfl,hW,λa hl1=>?_⟩⟩;have C:x≠a:=B2 hx hl1;refine A6 rfl ⟨x,T.aa,e,[],rfl,(B6 C).trans hx,T.ac,T.aT,by decide,?_⟩;have k1:Sm [x] H (IT (IT H a (.lst (ns.map V.str))) x (.ins T.aa e (Q8 "names" (.ref a) []))):=(Sm.new (Sm.refl _ _) hl1).upd (by simp);have a1:(IT (IT H a (.lst (ns.map V.str))) x (.ins T.aa e (Q8 "names" (.ref a) []))) a=some (.lst (ns.map V.str)):=(B6 C.symm).trans A9;have x1:(IT (IT H a (.lst (ns.map V.str))) x (.ins T.aa e (Q8 "names" (.ref a) []))) x=some (.ins T.aa e [("names",.ref a)]):=by rw[A9];rfl
  generalize IT (IT H a (.lst (ns.map V.str))) x (.ins T.aa e (Q8 "names" (.ref a) []))=H1 at k1 a1 x1⊢;refine hZ1 _ _ (B9 λZ2 hZ2=>?_);refine A6 rfl ⟨x,T.aa,e,_,A6 rfl ⟨x1,T.ac,T.aT,rfl,a,A6 rfl ⟨IV.of a1,λb hb=>?_⟩⟩⟩;refine n9 (n:=ns.length) (λi σ G=>(∃v0 v1,σ = [v0,v1])/\F1 H1 G/\G b=some (.dK (RK ns i))) ⟨⟨_,_,rfl⟩,F1.new hb,A9⟩ ?_ ?_ ?_ ?_
  .rintro i σ G W ⟨_,p,_⟩;exact⟨_,_,(p.at a).seqL (IV.of a1),by rw[AI,AC W];rfl⟩
  .rintro σ G ⟨_,p,_⟩;exact⟨_,(p.at a).seqL (IV.of a1),by rw[AB]⟩
  .rintro i σ G y H' N W ⟨⟨v0,v1,rfl⟩,p,eG⟩ ⟨t,y,rfl,ht,rfl,O⟩ hN;have O:=O _ ((p.at a).seqL (IV.of a1));have hi':ns[i]?=some ns[i]:=AC W;rw[AI,hi']at O;cases O;refine⟨t,A6 rfl ⟨JL.of A9,rfl,_,A6 rfl (B8 rfl rfl (zCw ?_))⟩⟩;refine A6 rfl (A6 rfl (B8 rfl rfl ⟨⟨by lia,by lia,by decide⟩,?_⟩));dsimp only;rw[Ww];have st:=p.trans (F1.new (o:=.tup [.int i,.str ns[i]]) ht);refine⟨RK ns i,.inr ns[i],(B6 (B2 eG ht)).trans eG,rfl,by unfold RK;rw[AB,CU,sizeLine_eq];lia,hN _ _ ⟨⟨_,_,rfl⟩,st.upd hb,?_⟩⟩;rw[A9];have:=Ra (λk=>(Sum.inr (ns.getD k ""):JH)) (λk=>E9 (2^k)) (Yw U) W;rw[Fk hi']at this;exact congrArg (λz=>some (HO.dK z)) this
  rintro σ2 H2 ⟨_,s2,b2⟩;have F:x≠b:=B2 x1 hb;have x2:=s2 _ _ x1;have a2:=s2 _ _ a1;have k2:=k1.trans s2.sm;refine hZ2 _ _ (B9 λZ3 hZ3=>?_);refine A6 rfl ⟨b,_,rfl,b2,λv hv=>?_⟩;have I:=F1.new (o:=Ol v b) hv;have fv:(IT H2 v (Ol v b)) v=some (Ol v b):=A9;generalize IT H2 v (Ol v b)=X at I fv⊢;refine⟨v,b,RK ns ns.length,(List.range ns.length).map λk=>((2^k:Nat):Int),rfl,fv,I _ _ b2,by unfold RK;rw[BV,BV];rfl,?_⟩;rw[Np];have x2:=I _ _ x2;have a2:=I _ _ a2;have b2:=I _ _ b2;have k2:=k2.trans I.sm;refine A6 rfl ⟨x,T.aa,e,_,rfl,x2,T.ac,T.aC,by simp,?_⟩;have k3:Sm [x] X (IT X x (.ins T.aa e (Q8 "full" (.int ((2^ns.length-1:Nat):Int)) [("names",.ref a)]))):=(Sm.refl _ _).upd (by simp);have x3:(IT X x (.ins T.aa e (Q8 "full" (.int ((2^ns.length-1:Nat):Int)) [("names",.ref a)]))) x=some (.ins T.aa e [("names",.ref a),("full",E9 (2^ns.length-1))]):=by rw[A9];rfl
  generalize IT X x (.ins T.aa e (Q8 "full" (.int ((2^ns.length-1:Nat):Int)) [("names",.ref a)]))=H3 at k3 x3⊢;have a3:=k3 _ _ a2 (f C.symm);have b3:=k3 _ _ b2 (f F.symm);have k3:=k2.trans k3;refine hZ3 _ _ (B9 λZ4 hZ4=>?_);refine A6 rfl (A6 rfl ⟨x,T.aa,e,_,rfl,x3,T.ac,T.ba,by simp,?_⟩);have k4:Sm [x] H3 (IT H3 x (.ins T.aa e (Q8 "bit_of" (.ref b) [("names",.ref a),("full",E9 (2^ns.length-1))]))):=(Sm.refl _ _).upd (by simp);have x4:(IT H3 x (.ins T.aa e (Q8 "bit_of" (.ref b) [("names",.ref a),("full",E9 (2^ns.length-1))]))) x=some (.ins T.aa e [("names",.ref a),("full",E9 (2^ns.length-1)),("bit_of",.ref b)]):=by rw[A9];rfl
  generalize IT H3 x (.ins T.aa e (Q8 "bit_of" (.ref b) [("names",.ref a),("full",E9 (2^ns.length-1))]))=H4 at k4 x4⊢;have a4:=k4 _ _ a3 (f C.symm);have b4:=k4 _ _ b3 (f F.symm);have k4:=k3.trans k4;refine hZ4 _ _ (B9 λZ5 hZ5=>?_);have mA:=zDm (ns:=ns) (g:=C8 r) (ks:=(r.map λq=>q.2).map λk=>(k.2,k.1)) U (λn _=>Ko u.ndq n) (λn _ y=>Jj) λk hk=>by
   rw[BV]at hk;obtain⟨q,hq,rfl⟩:=AJ.mp hk;exact⟨(u.mem q hq).2,(u.mem q hq).1⟩
  have mB:=zDm (ns:=ns) (g:=E7 r) (ks:=r.map λq=>q.2) U (λn _=>Si u.ndq n) (λn _ y=>Jx) λk hk=>by
   obtain⟨q,hq,rfl⟩:=AJ.mp hk;exact u.mem q hq
  have S:SR ns.length (ML ns (C8 r)) (ML ns (E7 r)):=MB.net mA mB;have W4:=hW.smx hx k4;have ins1:∀{n:Str} (y:Str),y∈C8 r n->y∈ns:=λy O=>by
   obtain⟨q,hq,rfl⟩:=AJ.mp O;exact(u.mem q (BE.mp hq).1).1
  have ins2:∀{n:Str} (y:Str),y∈E7 r n->y∈ns:=λy O=>by
   obtain⟨q,hq,rfl⟩:=AJ.mp O;exact(u.mem q (BE.mp hq).1).2
  have lq:=u.lenq;have SB:∀n,(C8 r n).length<=1000:=λn=>by unfold C8;rw[AB];have:=CB (λq:KJ=>decide (q.2.2=n)) r;lia
  have RV:∀n,(E7 r n).length<=1000:=λn=>by unfold E7;rw[AB];have:=CB (λq:KJ=>decide (q.2.1=n)) r;lia
  refine A6 rfl ⟨x,T.aa,e,_,A6 rfl ⟨x4,T.ac,T.aT,rfl,a,rfl,⟨_,IV.of a4⟩,λc hc=>?_⟩⟩;refine Nv (ON (IV.of a4)) (ML ns (C8 r)) (by lia) hc (λi n G R Y p hR=>?_) (λi n G R Y p hR=>?_) λσ5 H5 s5 c5=>?_
  .exact A6 rfl (A6 rfl ⟨b,_,rfl,.inl ⟨_,.inr n,.inl (p _ _ b4),rfl,(Mi U Y).symm⟩,hR⟩)
  .have WG:=W4.same p;obtain⟨_,dw,_,_,_,_,_,_,ew,_⟩:=id WG;refine A6 rfl ⟨wb,dw,A6 rfl ⟨ew,rfl,A6 rfl ⟨wb,n,ns,r,rfl,WG,AM Y,λl hl=>?_⟩⟩⟩;have ul:=F1.new (o:=.lst ((C8 r n).map V.str)) hl;refine⟨l,rfl,⟨_,IV.of A9⟩,Ma U (ul _ _ (p _ _ b4)) A9 (λy O=>ins1 y O) (SB n) λG' s'=>?_⟩;have:=hR G' (ul.trans s');rw[zAt Y]at this;exact this
  generalize ML ns (C8 r)=A at mA S c5;have hc0:H c=none:=k4.none (f (B2 x4 hc).symm) hc;have nxc:x≠c:=B2 x4 hc;have x5:=s5 _ _ x4;have a5:=s5 _ _ a4;have b5:=s5 _ _ b4;have bc:b≠c:=B2 b4 hc;have k5:=k4.trans s5.sm;refine A6 rfl ⟨x,T.aa,e,_,rfl,x5,T.ac,T.aF,by simp,?_⟩;have k6:Sm [x] H5 (IT H5 x (.ins T.aa e (Q8 "strikers_of" (.ref c) [("names",.ref a),("full",E9 (2^ns.length-1)),("bit_of",.ref b)]))):=(Sm.refl _ _).upd (by simp);have x6:(IT H5 x (.ins T.aa e (Q8 "strikers_of" (.ref c) [("names",.ref a),("full",E9 (2^ns.length-1)),("bit_of",.ref b)]))) x=some (.ins T.aa e [("names",.ref a),("full",E9 (2^ns.length-1)),("bit_of",.ref b),("strikers_of",.ref c)]):=by rw[A9];rfl
  generalize IT H5 x (.ins T.aa e (Q8 "strikers_of" (.ref c) [("names",.ref a),("full",E9 (2^ns.length-1)),("bit_of",.ref b)]))=H6 at k6 x6⊢;have a6:=k6 _ _ a5 (f C.symm);have b6:=k6 _ _ b5 (f F.symm);have c6:=k6 _ _ c5 (f nxc.symm);have k6:=k5.trans k6;have W6:=hW.smx hx k6;refine hZ5 _ _ (B9 λZ6 hZ6=>?_);refine A6 rfl ⟨x,T.aa,e,_,A6 rfl ⟨x6,T.ac,T.aT,rfl,a,rfl,⟨_,IV.of a6⟩,λd hd=>?_⟩⟩;refine Nv (ON (IV.of a6)) (ML ns (E7 r)) (by lia) hd (λi n G R Y p hR=>?_) (λi n G R Y p hR=>?_) λσ7 H7 s7 d7=>?_
  .exact A6 rfl (A6 rfl ⟨b,_,rfl,.inl ⟨_,.inr n,.inl (p _ _ b6),rfl,(Mi U Y).symm⟩,hR⟩)
  .have WG:=W6.same p;obtain⟨_,dw,_,_,_,_,_,_,ew,_⟩:=id WG;refine A6 rfl ⟨wb,dw,A6 rfl ⟨ew,rfl,A6 rfl ⟨wb,n,ns,r,rfl,WG,AM Y,λl hl=>?_⟩⟩⟩;have ul:=F1.new (o:=.lst ((E7 r n).map V.str)) hl;refine⟨l,rfl,⟨_,IV.of A9⟩,Ma U (ul _ _ (p _ _ b6)) A9 (λy O=>ins2 y O) (RV n) λG' s'=>?_⟩;have:=hR G' (ul.trans s');rw[zAt Y]at this;exact this
  generalize ML ns (E7 r)=B at mB S d7;have nxd:x≠d:=B2 x6 hd;have x7:=s7 _ _ x6;have a7:=s7 _ _ a6;have b7:=s7 _ _ b6;have c7:=s7 _ _ c6;have dc:d≠c:=(B2 c6 hd).symm;have k7:=k6.trans s7.sm;refine A6 rfl ⟨x,T.aa,e,_,rfl,x7,T.ac,T.bl,by simp,?_⟩;have k8:Sm [x] H7 (IT H7 x (.ins T.aa e (Q8 "struck_of" (.ref d) [("names",.ref a),("full",E9 (2^ns.length-1)),("bit_of",.ref b),("strikers_of",.ref c)]))):=(Sm.refl _ _).upd (by simp);have x8:(IT H7 x (.ins T.aa e (Q8 "struck_of" (.ref d) [("names",.ref a),("full",E9 (2^ns.length-1)),("bit_of",.ref b),("strikers_of",.ref c)]))) x=some (.ins T.aa e [("names",.ref a),("full",E9 (2^ns.length-1)),("bit_of",.ref b),("strikers_of",.ref c),("struck_of",.ref d)]):=by rw[A9];rfl
  generalize IT H7 x (.ins T.aa e (Q8 "struck_of" (.ref d) [("names",.ref a),("full",E9 (2^ns.length-1)),("bit_of",.ref b),("strikers_of",.ref c)]))=H8 at k8 x8⊢;have a8:=k8 _ _ a7 (f C.symm);have b8:=k8 _ _ b7 (f F.symm);have c8:=k8 _ _ c7 (f nxc.symm);have d8:=k8 _ _ d7 (f nxd.symm);have k8:=k7.trans k8;refine hZ6 _ _ ?_;refine A6 rfl ⟨b,_,rfl,b8,λv hv=>?_⟩;have I:=F1.new (o:=Ol v b) hv;have fv:(IT H8 v (Ol v b)) v=some (Ol v b):=A9;generalize IT H8 v (Ol v b)=H9 at I fv⊢;refine⟨v,b,_,rfl,fv,I _ _ b8,λo D hD=>?_⟩;have nDb:D≠b:=λz=>by rw[z,A9]at hD;cases hD
  have kz:Sm [b] H9 (IT H9 b (.frz o (.dK (RK ns ns.length)))):=(Sm.refl _ _).upd (by simp);have fz:(IT H9 b (.frz o (.dK (RK ns ns.length)))) b=some (.frz o (.dK (RK ns ns.length))):=A9;have hb0:H b=none:=k1.none (f F.symm) hb;have kx:Sm [x] H (IT H9 b (.frz o (.dK (RK ns ns.length)))):=(k8.trans I.sm).updN hb0;have nb:∀{b':A3},b'≠b->b'∉[b]:=λh z=>h (AG.mp z);have nab:a≠b:=B2 a1 hb;have x9:=kz _ _ (I _ _ x8) (nb F);have a9:=kz _ _ (I _ _ a8) (nb nab);have c9:=kz _ _ (I _ _ c8) (nb bc.symm);have nbd:d≠b:=(B2 b6 hd).symm;have d9:=kz _ _ (I _ _ d8) (nb nbd);generalize IT H9 b (.frz o (.dK (RK ns ns.length)))=H10 at kz fz kx hD x9 a9 c9 d9⊢;have lb:(RK ns ns.length).length=ns.length:=by unfold RK;rw[AB,CU]
  refine n9 (n:=ns.length) (λi σ G=>(∃v0,σ = [v0,some (.ref x)])/\F1 H10 G/\G D=some (.lst (((List.range i).filter λk=>(A.getD k 0).testBit k).map λk=>E9 (2^k)))) ⟨⟨_,rfl⟩,F1.new hD,A9⟩ ?_ ?_ ?_ ?_
  .rintro i σ G W ⟨_,p,_⟩;exact⟨p _ _ fz,by rw[lb];exact W⟩
  .rintro σ G ⟨_,p,_⟩;exact⟨p _ _ fz,by rw[lb];exact VQ _⟩
  .rintro i σ G y H' N W ⟨⟨v0,rfl⟩,p,eG⟩ ⟨rfl,k,hk⟩ hN;unfold RK at hk;rw[AI,List.getElem?_range W]at hk;obtain⟨_,rfl⟩:=Prod.mk.inj (BJ hk);refine A6 rfl (A6 rfl ⟨x,T.aa,e,_,A6 rfl ⟨p _ _ x9,T.ac,T.aF,rfl,A6 rfl ⟨c,_,rfl,.inl ⟨_,.inl ((2^i:Nat):Int),.inl (p _ _ c9),rfl,(Nb A W).symm⟩,B8 rfl rfl ⟨_,rfl,?_⟩⟩⟩⟩);dsimp only;rw[Lc];have hl:=CB (λk=>(A.getD k 0).testBit k) (List.range i);rw[CU]at hl;refine V0 (λz=>A6 rfl ⟨_,eG,by rw[AB,sizeLine_eq];lia,hN _ _ ⟨⟨_,rfl⟩,p.upd hD,?_⟩⟩) (λz=>hN _ _ ⟨⟨_,rfl⟩,p,?_⟩)
   .rw[A9,FA,D_,DQ,AQ z,AR];rfl
   .rw[FA,D_,DQ,AN z,GX,CD];exact eG
  rintro σ11 Z ⟨_,J,e11⟩;generalize hLl:(List.range ns.length).filter (λk=>(A.getD k 0).testBit k)=Ll at e11;refine⟨D,Ll.map λk=>((2^k:Nat):Int),rfl,IV.of (by rw[e11,BV];rfl),?_⟩;rw[Oc];have hL:∀j,((Ll.map λk=>2^k).sum).testBit j=true↔(A.getD j 0).testBit j=true:=λj=>by
   rw[Cf (by rw[<-hLl];exact DP.nodup GN),<-hLl,BE,BT];exact⟨(·.2),λh=>⟨(S.lt j j ((S.tr j j).mp h)).1,h⟩⟩
  generalize (Ll.map λk=>2^k).sum=L at hL;have x11:=J _ _ x9;refine A6 rfl ⟨x,T.aa,e,_,rfl,x11,T.ac,T.bf,by simp,?_⟩;have M:Sm [x] Z (IT Z x (.ins T.aa e (Q8 "loops" (.int (L:Int)) [("names",.ref a),("full",E9 (2^ns.length-1)),("bit_of",.ref b),("strikers_of",.ref c),("struck_of",.ref d)]))):=(Sm.refl _ _).upd (by simp);have x12:(IT Z x (.ins T.aa e (Q8 "loops" (.int (L:Int)) [("names",.ref a),("full",E9 (2^ns.length-1)),("bit_of",.ref b),("strikers_of",.ref c),("struck_of",.ref d)]))) x=some (.ins T.aa e (mf a b c d ns.length L)):=by rw[A9];rfl
  generalize IT Z x (.ins T.aa e (Q8 "loops" (.int (L:Int)) [("names",.ref a),("full",E9 (2^ns.length-1)),("bit_of",.ref b),("strikers_of",.ref c),("struck_of",.ref d)]))=H12 at M x12⊢;refine q c A B L H12 hc0 ((kx.trans J.sm).trans M) ⟨⟨e,a,b,d,RK ns ns.length,x12,M _ _ (J _ _ a9) (f C.symm),.inr ⟨o,M _ _ (J _ _ fz) (f F.symm)⟩,λi n h=>Mi U h,.inl (M _ _ (J _ _ c9) (f nxc.symm)),M _ _ (J _ _ d9) (f nxd.symm),dc,bc⟩,S,U,ln,hL⟩ mA mB
def Ld(C:A3):Sp:=λg H Q _=>∃(x c:A3) (b:A1 Str) (A B:A1 Nat) (L d e:Nat),g = [.ref x,.int (d:Int),.int (e:Int)]/\IS C H x c b A B L/\J_ b.length d/\J_ b.length e /\
 ∀t (a:Nat) f,Sm [c] H f->IS C f x c b A B L->f t=some (.tup [.int (d:Int),.int (a:Int)])->J_ b.length a->Sub e a->(∀m,y6 b.length A B m->KL d e m->KL d a m)->Vt b.length A B d a->Q (.ref t) f
theorem JW:IR ["marks","chosen","barred","safe","more"] ["marks","chosen","barred"] (B7 LU):=KZ
set_option maxHeartbeats 2000000 in
theorem i6(T:Tx K mg):IZ P w K mg base JK 4 T.aP.f T.aP.fd ["marks","chosen","barred"] (Ld T.aa):=by
 refine T.aP.F.o1 JW λcdv A outer s H vs Q E Z h=>?_
 .obtain⟨x,c,l,A,B,L,n,M,rfl,hM,loc,lob,q⟩:=h;have p:=hM.net;refine⟨_,(B4 (Od PassesOwn.never (K7 U2) (B3 (D6 (i:=3) JW.nd rfl (.inl rfl) (E6 (pv 0) T.ac T.ai.m (O3 T) (Rm Z) T.ai.b .nil M5 (A8 (C4 Dr (OS K (pv 0)) (pv 2)) B1)))
   (B3 (D6 (i:=4) JW.nd rfl (.inl rfl) (C4 R9 (C4 R9 (C4 R9 (pv 2) (E6 (pv 0) T.ac T.af.m (I0 T) (Rm Z) T.af.b .nil M5 (A8 (pv 1) B1))) (E6 (pv 0) T.ac T.ag.m (K0 T) (Rm Z) T.ag.b .nil M5 (A8 (pv 1) B1))) (E6 (pv 0) T.ac T.af.m (I0 T) (Rm Z) T.af.b .nil M5 (A8 (pv 3) B1))))
   (B3 (G9 (C7 P5 (pv 4) (pv 2) (D8 _)) (B4 (C0 (J8 (A8 (pv 1) (A8 (pv 2) B1))))) C5)
   (B4 (D6 (i:=2) JW.nd rfl (.inl rfl) (pv 4)))))))),?_⟩
  refine⟨λk σ G=>∃(g:Nat) (N O:A5 V),σ = [some (.ref x),some (.int (n:Int)),some (.int (g:Int)),N,O]/\k=2^l.length-g/\J_ l.length g/\Sub M g/\Sm [c] H G/\IS T.aa G x c l A B L/\∀m,y6 l.length A B m->KL n M m->KL n g m,⟨_,M,_,_,rfl,rfl,lob,λj h=>h,Sm.refl _ _,hM,λm _ h=>h⟩,?_⟩;rintro k σ G ⟨g,N,O,rfl,rfl,lo1,r,kG,MG,u⟩;refine⟨_,rfl,Gc ⟨λσ' G'=>∃(v:Nat) (N O:A5 V),σ' = [some (.ref x),some (.int (n:Int)),some (.int (v:Int)),N,O]/\g<v/\J_ l.length v/\Sub M v/\Sm [c] H G'/\IS T.aa G' x c l A B L/\∀m,y6 l.length A B m->KL n M m->KL n v m,?_,?_⟩⟩
  .rintro σ' G' ⟨v,N,O,rfl,lt,R,h⟩;have:=R.lt;exact⟨2^l.length-v,by lia,v,_,_,rfl,rfl,R,h⟩
  refine B9 λN1 hN1=>?_;obtain⟨y,a,b,d,kb,C,_⟩:=MG.ex;obtain⟨z,ez,hz⟩:=UI (2^l.length-1) g λj I=>(K8 _ _).mpr (lo1 j I);refine A6 rfl ⟨x,y,A6 rfl ⟨C,rfl,A6 rfl ⟨x,T.aa,y,_,A6 rfl ⟨C,T.ac,T.aC,rfl,A6 rfl (B8 rfl rfl ?_)⟩⟩⟩⟩;dsimp only;rw[ez];refine⟨x,c,l,A,B,L,z,rfl,MG,λsf G1 k1 M1 S=>?_⟩;refine hN1 _ _ (B9 λN2 hN2=>?_);obtain⟨y,a,b,d,kb,C,_⟩:=M1.ex;refine A6 rfl (A6 rfl ⟨x,y,A6 rfl ⟨C,rfl,A6 rfl ⟨x,c,l,A,B,L,n,rfl,M1,λr1 G2 k2 M2 h1=>?_⟩⟩⟩);refine B8 rfl rfl ?_;dsimp only;rw[PV];obtain⟨y,a,b,d,kb,C,_⟩:=M2.ex;refine A6 rfl ⟨x,y,A6 rfl ⟨C,rfl,A6 rfl ⟨x,c,l,A,B,L,n,rfl,M2,λr2 G3 k3 M3 h2=>?_⟩⟩⟩;refine B8 rfl rfl ?_;dsimp only;rw[PV];obtain⟨y,a,b,d,kb,C,_⟩:=M3.ex;refine A6 rfl ⟨x,y,A6 rfl ⟨C,rfl,A6 rfl ⟨x,c,l,A,B,L,sf,rfl,M3,λr3 G4 k4 M4 h3=>?_⟩⟩⟩;refine B8 rfl rfl ?_;dsimp only;rw[PV];have k4:=kG.trans (k1.trans (k2.trans (k3.trans k4)));generalize hmo:(g ||| r1 ||| r2 ||| r3)=U;have J:∀j,U.testBit j=true↔((g.testBit j=true\/Y8 B n j)\/Y8 A n j)\/Y8 B sf j:=λj=>by
   rw[<-hmo,BX,BX,BX,CN,CN,CN,h1,h2,h3]
  have W:∀j,Y8 B sf j↔∃i,i<l.length/\(¬∃k,k<l.length/\¬g.testBit k=true/\(B.getD k 0).testBit i=true)/\(B.getD i 0).testBit j=true:=λj=>by
   constructor
   .rintro⟨i,D,e⟩;obtain⟨hn,nh⟩:=(S i).mp D;exact⟨i,hn,λ⟨k,hk,nb,e'⟩=>nh ⟨k,(hz k).mpr ⟨(K8 _ _).mpr hk,nb⟩,e'⟩,e⟩
   .rintro⟨i,D,X,e⟩;exact⟨i,(S i).mpr ⟨D,λ⟨k,hk,e'⟩=>X ⟨k,(K8 _ _).mp ((hz k).mp hk).1,((hz k).mp hk).2,e'⟩⟩,e⟩
  refine hN2 _ _ (B9 λN3 hN3=>?_);refine A6 rfl (A6 rfl ⟨rfl,_,rfl,V0 (λY=>?_) (λne=>?_)⟩)
  .have Y:U=g:=by have:=V.int.inj (BZ Y);lia
   refine A6 rfl (A6 rfl ⟨by show 2<=sizeLine;decide,λt ht=>?_⟩);have ut:=F1.new (o:=.tup [.int (n:Int),.int (g:Int)]) ht;refine q t g _ (k4.trans ut.sm) (M4.same ut) A9 lo1 r u ⟨λj h=>?_,λj h=>?_,λi j D X e=>?_⟩
   .rw[<-Y];exact(J j).mpr (.inl (.inl (.inr h)))
   .rw[<-Y];exact(J j).mpr (.inl (.inr h))
   .rw[<-Y];exact(J j).mpr (.inr ((W j).mpr ⟨i,D,X,e⟩))
  .have ne:U≠g:=λz=>ne (AX (by rw[z]));refine hN3 _ _ ?_;have sb:Sub g U:=λj h=>(J j).mpr (.inl (.inl (.inl h)));refine A6 rfl ⟨U,_,_,rfl,EK (Nat.le_of_testBit sb) (Ne.symm ne),λj h=>?_,λj h=>sb j (r j h),k4,M4,λm hs hf=>?_⟩
   .rcases(J j).mp h with((h | ⟨k,_,e⟩) | ⟨k,_,e⟩) | ⟨k,_,e⟩
    .exact lo1 j h
    .exact(p.lt k j e).2
    .exact(p.lt j k ((p.tr k j).mp e)).1
    .exact(p.lt k j e).2
   .have f1:=u m hs hf;obtain⟨x1,x2,x3⟩:=Qz p hs f1;refine⟨f1.1,λj I z=>?_⟩;rcases(J j).mp z with((h | h) | h) | h
    .exact f1.2 j I h
    .exact x1 j h I
    .exact x2 j h I
    .obtain⟨i,D,X,e⟩:=(W j).mp h;exact x3 i j D X e I
def er(H:Hp)(l:A3):Hp:=λb=>if b=l then none else H b
def Jp{H:Hp}{l b:A3}(n:b≠l):er H l b=H b:=AN n
def X5(H:Hp)(l:A3):F1 (er H l) H:=λb o e=>by
 unfold er at e;by_cases c:b=l
 .rw[AQ c]at e;cases e
 .rw[AN c]at e;exact e
def Mh(H:Hp)(l:A3)(o:HO):er (IT H l o) l=er H l:=funext λb=>by
 unfold er;by_cases c:b=l
 .rw[AQ c,AQ c]
 .rw[AN c,AN c,B6 c]
def IS.er{C:A3}{H H':Hp}{x c l:A3}{ns:A1 Str}{A B:A1 Nat}{L:Nat}(h:IS C (er H l) x c ns A B L)(k:Sm [c] H H')(h':IS C H' x c ns A B L)(n:l≠c):IS C (Sw.er H' l) x c ns A B L:=by
 refine h.fz (λb o e a=>?_) ?_
 .have:b≠l:=λz=>by subst z;unfold Sw.er at e;rw[AQ rfl]at e;cases e
  rw[Jp this];exact k b o (X5 H l b o e) a
 .obtain⟨_,_,_,_,_,_,_,_,_,d,_⟩:=h'.ex;unfold Rd;rw[Jp n.symm];exact d
def Ju{n:Nat}(p:Nat->Prop)(h:∀m,p m->J_ n m):∃Ls:A1 Nat,Ls.Nodup/\∀m,m∈Ls↔p m:=by
 classical
 refine⟨(List.range (2^n)).filter λm=>decide (p m),DP.nodup GN,λm=>?_⟩;rw[BE,BT,BI];exact⟨λz=>z.2,λz=>⟨(h m z).lt,z⟩⟩
def Ex(x y:Nat):((Builtin.bitAnd (x:Int) (y:Int)) != 0)=true↔∃j,x.testBit j=true/\y.testBit j=true:=by
 rw[Pw,bne_iff_ne];constructor
 .intro h;have h:x &&& y≠0:=λz=>h (by rw[z];rfl);obtain⟨j,a⟩:=Nat.exists_testBit_of_ne_zero h;rw[CF,BL]at a;exact⟨j,a⟩
 .rintro⟨j,b,c⟩ z;have e:x &&& y=0:=by lia
  have:=CH j;rw[<-e,CF,b,c]at this;cases this
abbrev TM:=Nat->A1 Nat->A1 Nat->Nat->Prop
def Bn(C:A3)(h:TM):Sp:=λi H Q _=>∃(x c:A3) (d:A1 Str) (A B:A1 Nat) (L e f:Nat),i = [.ref x,.int (e:Int),.int (f:Int)]/\IS C H x c d A B L/\J_ d.length e/\J_ d.length f /\
 ∀t (a b:Nat) g,Sm [c] H g->IS C g x c d A B L->g t=some (.tup [.int (a:Int),.int (b:Int)])->J_ d.length a->J_ d.length b->Sub e a->Sub f b->(∀m,h d.length A B m->KL e f m->KL a b m)->((∀j,a.testBit j=true->¬b.testBit j=true)->(∀j,j<d.length->a.testBit j=true\/b.testBit j=true)->h d.length A B a)->Q (.ref t) g
def j4(C f:A3)(i:TM)(k:Nat):Sp:=λj H Q E=>∃(x c l:A3) (a:A1 Str) (A B:A1 Nat) (L e g:Nat) (b:A1 Nat),j = [.ref x,.ref f,.bl false,.int (e:Int),.int (g:Int),.ref l]/\IS C (er H l) x c a A B L/\J_ a.length e/\J_ a.length g/\UM a.length e g<=k/\H l=some (.lst (b.map E9))/\b.length<=300 /\
 ∀d:A1 Nat,d.Nodup->(∀m,m∈d↔i a.length A B m/\KL e g m)->(∀h,b.length+d.length<=300->Sm [c,l] H h->IS C (er h l) x c a A B L->h l=some (.lst ((b++d).map E9))->Q .non h)/\(300<b.length+d.length->False)
theorem LK:IR ["marks","settle","greatest","chosen","barred","found","undecided","most","first"] ["marks","settle","greatest","chosen","barred","found"] (B7 QW):=KZ
set_option maxHeartbeats 4000000 in
theorem Dp(T:Tx K mg){f:A3}{fd:JC}{I:TM}{n k:Nat}{S:Sp}(tl:∀n A B m,I n A B m->J_ n m)(G:IZ P w K mg base JK n f fd ["marks","chosen","barred"] (Bn T.aa I))(C:PySem.W.keepIn K (.ref f)=true)(D:Binds K fd ["marks","chosen","barred"] [])
  (h1:1<=n) (p:IZ P w K mg base JK n T.aD.f T.aD.fd ["marks","settle","greatest","chosen","barred","found"] S) (hS:∀k',k=k'+1->S=j4 T.aa f I k') :
  IZ P w K mg base JK (n+1) T.aD.f T.aD.fd ["marks","settle","greatest","chosen","barred","found"] (j4 T.aa f I k):=by
 have r:IZ P w K mg base JK n T.aM.f T.aM.fd ["some"] Ni:=(y8 T).mono h1;refine T.aD.F.o1 LK λcdv A outer s H vs Q E hr h=>?_
 .obtain⟨x,c,l,v,A,B,L,ch,ba,X,rfl,hR,loc,lob,hu,el,lf,q⟩:=h;have hM:=hR.same (X5 H l);refine⟨_,(B3 (Y9 (Mg (i:=1) G (hr.mono (VQ _)) C D M5 (A8 (pv 0) (A8 (pv 3) (A8 (pv 4) B1)))) (QY K (n:=2) (C6 (D9 (i:=3) LK.nd rfl (.inl rfl)) (C6 (D9 (i:=4) LK.nd rfl (.inl rfl)) M7))))
   (B3 (G9 (T_ K (C4 M8 (pv 3) (pv 4))) (B4 Ka) C5)
   (B3 (D6 (i:=6) LK.nd rfl (.inl rfl) (C4 Dr (OS K (pv 0)) (C4 R9 (pv 3) (pv 4))))
   (B3 (D6 (i:=7) LK.nd rfl (.inr rfl) (C4 R9 (pv 3) (pv 6)))
   (B3 (G9 (PW.pt (Gg (K7 (pv 2)) (Fa (K7 (E5 (zFl K) T.bR zEv (A8 (S7 (N':=["one","most"]) (cap:=[none,some 7]) (cl:=[("most",_)]) (O7 ⟨⟨rfl,rfl,rfl,rfl⟩,trivial⟩ ⟨rfl,trivial⟩) rfl (OL K (pv 5)) (λ_ _ _ _=>by exact⟨(NC 0),G7,(K5 P5 (C4 M8 (pv 1) (pv 0)) (pv 1) (D8 _))⟩)) B1)))))) (B4 Ka) C5)
   (B3 (G9 (Q0 (T_ K (pv 6))) (B3 (G9 (C7 P5 (E5 (O0 K) T.an M0 (A8 (pv 5) B1)) (zEa T.bP) (D8 _)) (B4 Aw) C5)
   (B3 (K4 (Dk K VS VT VU O4 (pv 5) (A8 (pv 3) B1)))
   (B4 Ka))) C5)
   (B3 (D6 (i:=8) LK.nd rfl (.inl rfl) (D4 T.aM r (hr.mono (VQ _)) (A8 (pv 6) B1)))
   (B3 (K4 (D4 T.aD p (hr.mono (VQ _)) (@A8 _ _ _ _ _ (pv 0) (@A8 _ _ _ _ _ (pv 1) (@A8 _ _ _ _ _ (pv 2) (@A8 _ _ _ _ _ (C4 R9 (pv 3) (pv 8)) (@A8 _ _ _ _ _ (pv 4) (@A8 _ _ _ _ _ (pv 5) B1 (by rfl)) (by rfl)) (by rfl)) (by rfl)) (by rfl)) (by rfl))))
   (B4 (K4 (D4 T.aD p (hr.mono (VQ _)) (@A8 _ _ _ _ _ (pv 0) (@A8 _ _ _ _ _ (pv 1) (@A8 _ _ _ _ _ (pv 2) (@A8 _ _ _ _ _ (pv 3) (@A8 _ _ _ _ _ (C4 R9 (pv 4) (pv 8)) (@A8 _ _ _ _ _ (pv 5) B1 (by rfl)) (by rfl)) (by rfl)) (by rfl)) (by rfl)) (by rfl))))))))))))),?_⟩
  refine B9 λN1 hN1=>?_;refine⟨rfl,A6 rfl (A6 rfl (A6 rfl ⟨x,c,v,A,B,L,ch,ba,rfl,hM,loc,lob,λt g b1 H1 Y M1 et lo1 Z R U snd cpl=>?_⟩))⟩;refine⟨t,_,rfl,JL.of et,rfl,_,_,rfl,_,_,rfl,rfl,?_⟩;have nlc:l≠c:=let⟨_,_,_,_,_,_,_,_,_,e5,_⟩:=hM.ex;zAk e5 el (λ_ z=>by cases z) λ_ _ z=>by cases z
  have J:=OB Y el nlc;have R1:=hR.er Y M1 nlc;have Y:Sm [c,l] H H1:=λb o e nb=>Y b o e λz=>nb (AK.mpr (.inl (AG.mp z)));refine hN1 _ _ (B9 λN2 hN2=>?_);refine A6 rfl (A6 rfl (B8 rfl rfl ⟨_,rfl,V0 (λcm=>?_) (λcm=>?_)⟩))
  .obtain⟨j,j1,j2⟩:=(Ex g b1).mp cm;have:=(q [] FU λm=>⟨λz=>absurd z BB,λ⟨z,y⟩=>absurd j2 ((snd m z y).2 j ((snd m z y).1 j j1))⟩).1 H1 (by rw[E_];lia) Y R1 (by rw[CD];exact J);exact this
  have dis:∀j,g.testBit j=true->¬b1.testBit j=true:=λj z y=>cm ((Ex g b1).mpr ⟨j,z,y⟩);have fit:∀m,I v.length A B m/\KL ch ba m↔I v.length A B m/\KL g b1 m:=λm=>⟨λ⟨z,y⟩=>⟨z,snd m z y⟩,λ⟨z,y⟩=>⟨z,y.mono R U⟩⟩;refine hN2 _ _ (B9 λN3 hN3=>?_);obtain⟨dx,a,b,d,kb,e1,_⟩:=M1.ex;obtain⟨u,eu,N⟩:=UI (2^v.length-1) (g ||| b1) λj hj=>by
   rw[BX,CN]at hj;exact(K8 _ _).mpr (hj.elim (lo1 j) (Z j))
  have N:∀j,u.testBit j=true↔j<v.length/\¬g.testBit j=true/\¬b1.testBit j=true:=λj=>by
   rw[N,K8,BX,CN,not_or]
  refine A6 rfl ⟨x,T.aa,dx,_,A6 rfl ⟨e1,T.ac,T.aC,rfl,A6 rfl (A6 rfl (B8 rfl rfl ?_))⟩⟩;dsimp only;rw[PV];refine B8 rfl rfl ?_;dsimp only;rw[eu];refine hN3 _ _ (B9 λN4 hN4=>?_);refine A6 rfl (A6 rfl (B8 rfl rfl ?_));refine hN4 _ _ (B9 λN5 hN5=>?_);refine A6 rfl ⟨_,rfl,S6 (S6 ?_)⟩;refine hN5 _ _ (B9 λN6 hN6=>?_);refine A6 rfl ⟨_,rfl,V0 (λz0=>?_) (λz0=>?_)⟩
  .have u0:u=0:=by
    rw[FJ,bne_eq_false_iff_eq]at z0;lia
   have all:∀j,j<v.length->g.testBit j=true\/b1.testBit j=true:=λj hj=>by
    by_cases h:g.testBit j=true
    .exact .inl h
    .by_cases h':b1.testBit j=true
     .exact .inr h'
     .have:=(N j).mpr ⟨hj,h,h'⟩;rw[u0,CH]at this;cases this
   have tg:=cpl dis all;have qq:=q [g] (EQ _ _) λm=>by
    rw[fit,AG];exact⟨λz=>by rw[z];exact⟨tg,λj h=>h,dis⟩,λ⟨z,y⟩=>Tl (tl _ _ _ _ z) all y⟩
   have lm:(X.map E9).length=X.length:=AB ..;refine B9 λN7 hN7=>?_;refine A6 rfl (B8 (a:=l) rfl (.inl (IV.of J)) ⟨rfl,_,rfl,V0 (λe3=>?_) (λe3=>?_)⟩)
   .have l300:X.length=300:=by
     have:=V.int.inj (BZ e3);rw[lm]at this;lia
    exact qq.2 (by rw[List.length_singleton];lia)
   .have l300:X.length<300:=EK lf λz=>e3 (AX (by rw[lm,z];rfl));refine hN7 _ _ (B9 λN8 hN8=>?_);refine A6 rfl ⟨.inl ⟨rfl,_,IV.of J⟩,A6 rfl ⟨l,_,_,rfl,rfl,J,by rw[lm,sizeLine_eq];lia,hN8 _ _ ?_⟩⟩;have:=qq.1 (IT H1 l (.lst (X.map E9 ++ [.int (g:Int)]))) (by rw[List.length_singleton];lia) (Y.upd (by simp)) (by rw[Mh];exact R1) (by rw[A9,AR];rfl);exact this
  .have upos:0<u:=by
    rcases Nat.eq_zero_or_pos u with h | h
    .exact absurd (by rw[h];rfl) z0
    .exact h
   refine hN6 _ _ (B9 λN7 hN7=>?_);refine A6 rfl ⟨u,rfl,upos,λkk hkk _=>?_⟩;obtain⟨k0,nc,nb⟩:=(N kk).mp hkk;have ss:∀a:Nat,Sub a (a ||| 2^kk):=λa j h=>by rw[BX,h];rfl
   have sb:∀a:Nat,(a ||| 2^kk).testBit kk=true:=λa=>by rw[BX,DX,Bool.or_true]
   have un1:=Xz (n:=v.length) R U;have un2:=Zo (n:=v.length) (ss g) (λj h=>h:Sub b1 b1) k0 ⟨nc,nb⟩ (.inl (sb g));have un3:=Zo (n:=v.length) (λj h=>h:Sub g g) (ss b1) k0 ⟨nc,nb⟩ (.inr (sb b1));obtain⟨k',rfl⟩:∃k',k=k'+1:=⟨k-1,by lia⟩;have hSS:=hS k' rfl;subst hSS;have mem:∀{M L2:A1 Nat},(∀m,m∈M↔I v.length A B m/\KL (g ||| 2^kk) b1 m)->(∀m,m∈L2↔I v.length A B m/\KL g (b1 ||| 2^kk) m)->∀m,m∈M++L2↔I v.length A B m/\KL ch ba m:=λh1 h2 m=>by
    rw[fit,A_,h1,h2,RS,RB];constructor
    .rintro(⟨a,b,_⟩ | ⟨a,b,_⟩)
     .exact⟨a,b⟩
     .exact⟨a,b⟩
    .rintro⟨a,b⟩;by_cases h:m.testBit kk=true
     .exact .inl ⟨a,b,h⟩
     .exact .inr ⟨a,b,h⟩
   have nod:∀{M L2:A1 Nat},M.Nodup->L2.Nodup->(∀m,m∈M↔I v.length A B m/\KL (g ||| 2^kk) b1 m)->(∀m,m∈L2↔I v.length A B m/\KL g (b1 ||| 2^kk) m)->(M++L2).Nodup:=λn1 n2 h1 h2=>EF.mpr ⟨n1,n2,λa ha b hb e=>by
    subst e;exact(RB.mp ((h2 a).mp hb).2).2 (RS.mp ((h1 a).mp ha).2).2⟩
   refine hN7 _ _ (B9 λN8 hN8=>?_);refine A6 rfl (A6 rfl (A6 rfl (A6 rfl (A6 rfl (B8 rfl rfl ?_)))));refine A6 rfl (A6 rfl ⟨x,c,l,v,A,B,L,g ||| 2^kk,b1,X,by dsimp only;rw[PV];rfl,R1,lo1.or k0,Z,by lia,J,lf,λM nd1 m1=>⟨λH2 le2 k2 M2 el2=>?_,λgt=>?_⟩⟩)
   .refine hN8 _ _ ?_;refine A6 rfl (A6 rfl (A6 rfl (A6 rfl (A6 rfl (A6 rfl (B8 rfl rfl ?_))))));refine A6 rfl ⟨x,c,l,v,A,B,L,g,b1 ||| 2^kk,X++M,by dsimp only;rw[PV];rfl,M2,lo1,Z.or k0,by lia,el2,by rw[AW];exact le2,λL2 O m2=>⟨λH3 le3 k3 M3 el3=>?_,λgt=>?_⟩⟩
    .rw[AW]at le3;rw[BM]at el3;exact(q (M++L2) (nod nd1 O m1 m2) (mem m1 m2)).1 H3 (by rw[AW];lia) (Y.trans (k2.trans k3)) M3 el3
    .rw[AW]at gt;exact((q (M++L2) (nod nd1 O m1 m2) (mem m1 m2)).2 (by rw[AW];lia))
   .obtain⟨L2,O,m2⟩:=Ju (n:=v.length) (λm=>I v.length A B m/\KL g (b1 ||| 2^kk) m) λm h=>tl _ _ _ _ h.1;exact((q (M++L2) (nod nd1 O m1 m2) (mem m1 m2)).2 (by rw[AW];lia))
def Lj:Sp:=λ_ _ _ _=>False
theorem Wa{f:A3}{a:JC}{b:A1 Str}{c:SJ}{n:Nat}:IZ P w K mg base c n f a b Lj:=⟨λ_ _ _ _ h=>h.elim,λ_ _ _ _ _ _ _ _ _ _ _ _ _ h=>h.elim⟩
theorem Io(T:Tx K mg){f:A3}{g:JC}{a:TM}{n:Nat}(b:∀n A B m,a n A B m->J_ n m)(G:IZ P w K mg base JK n f g ["marks","chosen","barred"] (Bn T.aa a))(c:PySem.W.keepIn K (.ref f)=true)(d:Binds K g ["marks","chosen","barred"] [])(h1:1<=n) :
  ∀k,IZ P w K mg base JK (n+1+k) T.aD.f T.aD.fd ["marks","settle","greatest","chosen","barred","found"] (j4 T.aa f a k)
 | 0=>Dp T b G c d h1 Wa λh e=>by lia
 | k+1=>Dp (n:=n+1+k) T b (G.mono (by lia)) c d (by lia) (Io T b G c d h1 k) λh e=>by cases e;rfl
def LC(n:Nat)(A B:A1 Nat)(m:Nat):Prop:=J_ n m/\JM B m/\∀j,j<n->m.testBit j=true\/Y8 B m j
def LC.stand{n:Nat}{A B:A1 Nat}(N:SR n A B){m:Nat}(h:LC n A B m):y6 n A B m:=⟨h.1,h.2.1,λj a=>⟨h.1 j a,λb c=>by
 have e:=(N.tr j b).mp c;exact(h.2.2 b (N.lt b j e).1).resolve_left λz=>h.2.1 b j z a e⟩⟩
theorem JP:IR ["marks","chosen","barred","more"] ["marks","chosen","barred"] (B7 LV):=KZ
set_option maxHeartbeats 2000000 in
theorem j8(T:Tx K mg):IZ P w K mg base JK 5 T.aq.f T.aq.fd ["marks","chosen","barred"] (Bn T.aa LC):=by
 refine T.aq.F.o1 JP λcdv A outer s H vs Q E hr h=>?_
 .obtain⟨x,c,o,A,B,L,J,M,rfl,hM,loc,lob,q⟩:=h;have S:=hM.net;refine⟨_,(B4 (Od PassesOwn.never (K7 U2) (B3 (Y9 (D4 T.aP (i6 T) (Rm hr) (A8 (pv 0) (A8 (pv 1) (A8 (pv 2) B1)))) (QY K (n:=2) (C6 (D9 (i:=1) JP.nd rfl (.inl rfl)) (C6 (D9 (i:=2) JP.nd rfl (.inl rfl)) M7))))
   (B3 (D6 (i:=3) JP.nd rfl (.inl rfl) (C4 R9 (pv 1) (E6 (pv 0) T.ac T.ai.m (O3 T) (Rm hr) T.ai.b .nil M5 (A8 (C4 Dr (OS K (pv 0)) (pv 2)) B1))))
   (B3 (G9 (PW.pt (d0 (C7 P5 (pv 3) (pv 1) (D8 _)) (W1 (T_ K (C4 M8 (pv 1) (pv 2)))))) (B4 (C0 (J8 (A8 (pv 1) (A8 (pv 2) B1))))) C5)
   (B4 (D6 (i:=1) JP.nd rfl (.inl rfl) (pv 3)))))))),?_⟩
  refine⟨λk σ G=>∃(g N:Nat) (U:A5 V),σ = [some (.ref x),some (.int (g:Int)),some (.int (N:Int)),U]/\k=2^o.length-g/\J_ o.length g/\J_ o.length N/\Sub J g/\Sub M N/\Sm [c] H G/\IS T.aa G x c o A B L/\∀m,LC o.length A B m->KL J M m->KL g N m,⟨_,J,M,_,rfl,rfl,loc,lob,λj h=>h,λj h=>h,Sm.refl _ _,hM,λm _ h=>h⟩,?_⟩;rintro k σ G ⟨g,N,U,rfl,rfl,lo1,lo2,u,v,kG,MG,W⟩;refine⟨_,rfl,Gc ⟨λσ' G'=>∃(y l:Nat) (U:A5 V),σ' = [some (.ref x),some (.int (y:Int)),some (.int (l:Int)),U]/\g<y/\J_ o.length y/\J_ o.length l/\Sub J y/\Sub M l/\Sm [c] H G'/\IS T.aa G' x c o A B L/\∀m,LC o.length A B m->KL J M m->KL y l m,?_,?_⟩⟩
  .rintro σ' G' ⟨y,l,U,rfl,lt,p,h⟩;have:=p.lt;exact⟨2^o.length-y,by lia,y,l,_,rfl,rfl,p,h⟩
  refine B9 λN1 hN1=>?_;refine A6 rfl (A6 rfl (A6 rfl ⟨x,c,o,A,B,L,g,N,rfl,MG,lo1,lo2,λt l G1 k1 M1 et p C X st=>?_⟩));refine⟨t,_,rfl,JL.of et,rfl,_,_,rfl,_,_,rfl,rfl,?_⟩;have D:∀m,LC o.length A B m->KL J M m->KL g l m:=λm O hf=>X m (O.stand S) (W m O hf);refine hN1 _ _ (B9 λN2 hN2=>?_);obtain⟨dx,a,b,d,kb,e1,_⟩:=M1.ex;obtain⟨z,ez,hz⟩:=UI (2^o.length-1) l λj Y=>(K8 _ _).mpr (p j Y);refine A6 rfl (A6 rfl ⟨x,dx,A6 rfl ⟨e1,rfl,A6 rfl ⟨x,T.aa,dx,_,A6 rfl ⟨e1,T.ac,T.aC,rfl,A6 rfl (B8 rfl rfl ?_)⟩⟩⟩⟩);dsimp only;rw[ez];refine⟨x,c,o,A,B,L,z,rfl,M1,λr G2 k2 M2 hr=>?_⟩;refine B8 rfl rfl ?_;dsimp only;rw[PV];have k2:=kG.trans (k1.trans k2);generalize hmo:(g ||| r)=I;have hm:∀j,I.testBit j=true↔g.testBit j=true\/(j<o.length/\¬Y8 B z j):=λj=>by rw[<-hmo,BX,CN,hr]
  have ret:(I=g\/∃j,g.testBit j=true/\l.testBit j=true)->∀R Z,F1 G2 Z->Z R=some (.tup [.int (g:Int),.int (l:Int)])->Q (.ref R) Z:=λhc R Z s3 et'=>by
   refine q R g l Z (k2.trans s3.sm) (M2.same s3) et' lo1 p u (λj h=>C j (v j h)) D λdis all=>⟨lo1,(Pq S lo1 st dis all).2.1,λj Y=>?_⟩;rcases hc with e | ⟨i,h1,h2⟩
   .by_cases hh:Y8 B g j
    .exact .inr hh
    .refine .inl ?_;rw[<-e];refine(hm j).mpr (.inr ⟨Y,λ⟨k,hk,e'⟩=>hh ⟨k,?_,e'⟩⟩);obtain⟨h1,h2⟩:=(hz k).mp hk;exact(all k ((K8 _ _).mp h1)).resolve_right h2
   .exact absurd h2 (dis i h1)
  have tup:(I=g\/∃j,g.testBit j=true/\l.testBit j=true)->zHy (zKa (Ts (Sc 1) (Ts (Sc 2) TW))) { nx:=λ_ H'=>Q .non H',rt:=Q } [some (.ref x),some (.int (g:Int)),some (.int (l:Int)),some (.int (I:Int))] G2:=λhc =>
   A6 rfl (A6 rfl ⟨by show 2<=sizeLine;decide,λR ht'=>ret hc R _ (F1.new ht') A9⟩)
  refine hN2 _ _ (B9 λN3 hN3=>?_);refine A6 rfl (A6 rfl ⟨rfl,_,rfl,V0 (λeq=>?_) (λne=>?_)⟩)
  .exact Gc (tup (.inl (by have:=V.int.inj (BZ eq);lia)))
  .refine A6 rfl (A6 rfl (B8 rfl rfl ⟨_,rfl,V0 (λcm=>?_) (λcm=>?_)⟩))
   .exact tup (.inr ((Ex g l).mp cm))
   .have ne:I≠g:=λz=>ne (AX (by rw[z]));have sb:Sub g I:=λj h=>(hm j).mpr (.inl h);refine hN3 _ _ ?_;refine A6 rfl ⟨I,l,_,rfl,EK (Nat.le_of_testBit sb) (Ne.symm ne),λj h=>((hm j).mp h).elim (lo1 j) (·.1),p,λj h=>sb j (u j h),λj h=>C j (v j h),k2,M2,λm O hf=>?_⟩;have f1:=D m O hf;refine⟨λj h=>((hm j).mp h).elim (f1.1 j) λ⟨Y,nh⟩=>?_,f1.2⟩;refine(O.2.2 j Y).resolve_right λ⟨k,hk,e⟩=>nh ⟨k,(hz k).mpr ⟨(K8 _ _).mpr (O.1 k hk),f1.2 k hk⟩,e⟩
def Ri:Nat->Nat
 | 0=>1
 | 1=>1
 | n+2=>Ri (n+1)+Ri n
def zFr:∀n,Ri n<=Ri (n+1)
 | 0=>by decide
 | n+1=>CO _ _
def Fh:∀{m n:Nat},n<=m->Ri n<=Ri m
 | 0,n,h=>by rw[Nat.le_zero.mp h];exact VQ _
 | m+1,n,h=>by
  rcases II m n with c | c
  .rw[show n=m+1 by lia];exact VQ _
  .exact VR (Fh c) (zFr m)
def Adj(B:A1 Nat)(i j:Nat):Prop:=(B.getD i 0).testBit j=true\/(B.getD j 0).testBit i=true
def zHi(B:A1 Nat)(l:A1 Nat)(s t:Nat):Prop:=∃i∈l,∃j∈l,s.testBit i=true/\t.testBit j=true/\Adj B i j
def X7{B:A1 Nat}{m i j:Nat}(q:JM B m)(hi:m.testBit i=true)(a:m.testBit j=true):¬Adj B i j:=λh=>h.elim (q i j hi a) (q j i a hi)
def Um(p:Nat->Bool):∀L:A1 Nat,L.length =(L.filter p).length +(L.filter λm=>!p m).length
 | []=>rfl
 | a::L=>by
  have:=Um p L;rw[DQ,DQ];cases h:p a<;>simp<;>lia
def Xf{B:A1 Nat}(n:Nat):∀(l F:A1 Nat),l.length=n->(∀s∈F,JM B s)->F.Pairwise (zHi B l)->F.length<=Ri n:=by
 induction n using Nat.strongRecOn with
 | _ n x =>
  intro l F y g q;cases l with
  | nil =>
   cases F with
   | nil=>exact CY _
   | cons s F =>
    cases F with
    | nil=>subst y;exact VQ _
    | cons t F =>
     obtain⟨i,h,_⟩:=(List.pairwise_cons.mp q).1 t (.head _);cases h
  | cons v l =>
   have A:l.length<n:=by rw[<-y];exact FC _
   by_cases c:∃u∈l,Adj B v u
   .obtain⟨u,D,E⟩:=c;have Q:0<l.length:=List.length_pos_of_mem D;have a:=x l.length A l (F.filter λm=>!m.testBit v) rfl (λs f=>g s (BE.mp f).1) ((q.filter _).imp_of_mem fun{s t} f r ⟨i,h,j,p,d,o,ad⟩=>by
     have G:=(BE.mp f).2;have H:=(BE.mp r).2;refine⟨i,(AK.mp h).resolve_left λz=>?_,j,(AK.mp p).resolve_left λz=>?_,d,o,ad⟩
     .subst z;rw[d]at G;cases G
     .subst z;rw[o]at H;cases H)
    have N:(l.erase u).length=l.length-1:=List.length_erase_of_mem D;have b:=x (l.length-1) (by lia) (l.erase u) (F.filter λm=>m.testBit v) N (λs f=>g s (BE.mp f).1) ((q.filter _).imp_of_mem fun{s t} f r ⟨i,h,j,p,d,o,ad⟩=>by
     obtain⟨I,J⟩:=BE.mp f;obtain⟨K,L⟩:=BE.mp r;have w:i≠v:=λz=>by subst z;exact X7 (g t K) L o ad
     have C:j≠v:=λz=>by subst z;exact X7 (g s I) d J ad
     have O:i≠u:=λz=>by subst z;exact X7 (g s I) J d E
     have P:j≠u:=λz=>by subst z;exact X7 (g t K) L o E
     exact⟨i,(List.mem_erase_of_ne O).mpr ((AK.mp h).resolve_left w),j,(List.mem_erase_of_ne P).mpr ((AK.mp p).resolve_left C),d,o,ad⟩)
    have s:=Um (λm=>m.testBit v) F;obtain⟨k,M⟩:∃k,l.length=k+1:=⟨l.length-1,by lia⟩;rw[<-y,BK,M];rw[M]at a b;have e:Ri (k+1+1)=Ri (k+1)+Ri k:=rfl;rw[e];have:k+1-1=k:=rfl;rw[this]at b;lia
   .refine VR (x l.length A l F rfl g (q.imp_of_mem fun{s t} f r ⟨i,h,j,p,d,o,ad⟩=>?_)) (Fh (DU A));have w:i≠v:=λz=>by
     subst z;rcases AK.mp p with z | z
     .subst z;exact X7 (g s f) d d ad
     .exact c ⟨j,z,ad⟩
    have C:j≠v:=λz=>by
     subst z;exact c ⟨i,(AK.mp h).resolve_left w,ad.symm⟩
    exact⟨i,(AK.mp h).resolve_left w,j,(AK.mp p).resolve_left C,d,o,ad⟩
def Qb:Ri 12<=300:=by decide
def Qh{n:Nat}{B F:A1 Nat}(a:n<=12)(b:∀s∈F,JM B s)(c:F.Nodup)(h:∀s∈F,∀t∈F,s≠t->zHi B (List.range n) s t):F.length<=300 :=
 VR (Xf n _ F CU b (c.imp_of_mem fun{s t} d e f=>h s d t e f)) (VR (Fh a) Qb)
def Xa{n s t:Nat}{A B:A1 Nat}(e:LC n A B s)(h:LC n A B t)(o:s≠t):zHi B (List.range n) s t:=by
 have f:∀{s t j:Nat},LC n A B s->LC n A B t->t.testBit j=true->¬s.testBit j=true->zHi B (List.range n) s t:=fun{s t j} e h a g=>by
  have l:=h.1 j a;obtain⟨i,m,b⟩:=(e.2.2 j l).resolve_left g;exact⟨i,BT.mpr (e.1 i m),j,BT.mpr l,m,a,.inl b⟩
 by_cases c:∃j,t.testBit j=true/\¬s.testBit j=true
 .obtain⟨j,a,g⟩:=c;exact f e h a g
 .by_cases d:∃j,s.testBit j=true/\¬t.testBit j=true
  .obtain⟨j,g,a⟩:=d;obtain⟨i,p,k,q,r,u,ad⟩:=f h e g a;exact⟨k,q,i,p,u,r,ad.symm⟩
  .exact absurd (BP λj=>BU.mpr ⟨λz=>FX λy=>d ⟨j,z,y⟩,λz=>FX λy=>c ⟨j,z,y⟩⟩) o
def Li{n:Nat}{A B F:A1 Nat}(b:n<=12)(c:F.Nodup)(h:∀s∈F,LC n A B s):F.length<=300:=Qh b (λs a=>(h s a).2.1) c λs a t d e=>Xa (h s a) (h t d) e
structure RT(H0 H:Hp)(ts:A1 (A3×A1 Str)):Prop where
 at_:∀t∈ts,H t.1=some (.lst (t.2.map V.str))
 nd:(ts.map λt=>t.1).Nodup
 new:∀t∈ts,H0 t.1=none
def RT.same{a H H':Hp}{ts:A1 (A3×A1 Str)}(h:RT a H ts)(s:F1 H H'):RT a H' ts:=⟨λt b=>s _ _ (h.at_ t b),h.nd,h.new⟩
def Gy{α:Type}{J:It}{l D:A3}{H:Hp}{rv:α->V}(j:α->A1 Str){Ms:A1 α}{r:St}{w:A5 V}{x:TE}{Q:St->Hp->Prop}(as:L_ J (Ms.map rv) l H)(F:Ms.length<=5000)(A:H D=none)
  (step:∀m∈Ms,∀G (R:VK),F1 H G->(∀z k,G z=none->F1 G k->k z=some (.lst ((j m).map V.str))->R (.ref z) k)->x (some (rv m)::r) G R)
  (q:∀σ G (ts:A1 (A3×A1 Str)),F1 H G->G D=some (.lst (ts.map λt=>V.ref t.1))->RT H G ts->(∀t∈ts,t.1≠D)->(ts.map λt=>t.2)=Ms.map j->Q σ G):Ig (V1 0) Aq (Af D x) J (w::r) (IT H D (.lst [])) Q:=by
 refine W0 as (λi σ G=>(∃v,σ=v::r)/\F1 H G/\∃ts:A1 (A3×A1 Str),G D=some (.lst (ts.map λt=>V.ref t.1))/\RT H G ts/\(∀t∈ts,t.1≠D)/\(ts.map λt=>t.2) =(Ms.take i).map j) ⟨⟨_,rfl⟩,F1.new A,[],A9,⟨λt h=>absurd h BB,FU,λt h=>absurd h BB⟩,λt h=>absurd h BB,rfl⟩ (λi σ G _ h=>h.2.1.at l) ?_ ?_
 .rintro i σ G y N B ⟨⟨w,rfl⟩,f,ts,n,d,o,g⟩ I;rw[AI]at B;obtain⟨m,p,rfl⟩:=BC.mp B;have M:=(AE.mp p).1;have O:ts.length=i:=by
   have:=congrArg List.length g;rw[AB,AB,AS]at this;lia
  refine Eg (step m (AM p) G _ f λz k s u K=>?_);have C:z≠D:=(B2 n s).symm;refine⟨_,u _ _ n,by rw[AB,sizeLine_eq];lia,I _ _ ⟨⟨_,rfl⟩,(f.trans u).upd A,ts ++ [(z,j m)],?_,⟨λt c=>?_,?_,λt c=>?_⟩,λt c=>?_,?_⟩⟩
  .rw[A9,AR];rfl
  .rcases A_.mp c with h | h
   .rw[B6 (o t h)];exact u _ _ (d.at_ t h)
   .rw[AG.mp h,B6 C];exact K
  .rw[AR];refine EF.mpr ⟨d.nd,EQ _ _,λa L b E e=>?_⟩;obtain⟨t,c,rfl⟩:=AJ.mp L;rw[List.map_singleton,AG]at E;rw[E]at e;have:=d.at_ t c;rw[e,s]at this;cases this
  .rcases A_.mp c with h | h
   .exact d.new t h
   .rw[AG.mp h];exact f.free s
  .rcases A_.mp c with h | h
   .exact o t h
   .rw[AG.mp h];exact C
  .rw[AR,g,JE p,AR];rfl
 .rintro σ G ⟨_,f,ts,n,d,o,g⟩;rw[AB,CA]at g;exact q σ G ts f n d o g
def Mp{J:It}{l D:A3}{H:Hp}{ns:A1 Str}{Ms:A1 Nat}{r:St}{d:A5 V}{c:TE}{Q:St->Hp->Prop}(as:L_ J (Ms.map E9) l H)(a:Ms.length<=5000)(e:H D=none)
  (step:∀m G (R:VK),F1 H G->(∀z b,G z=none->F1 G b->b z=some (.lst ((JO ns m).map V.str))->R (.ref z) b)->c (some (E9 m)::r) G R)
  (q:∀σ G (ts:A1 (A3×A1 Str)),F1 H G->G D=some (.lst (ts.map λt=>V.ref t.1))->RT H G ts->(∀t∈ts,t.1≠D)->(ts.map λt=>t.2)=Ms.map (JO ns)->Q σ G):Ig (V1 0) Aq (Af D c) J (d::r) (IT H D (.lst [])) Q:=Gy (JO ns) as a e (λm _=>step m) q
def Mz(j f:A3)(l:TM):Sp:=λn H Q E=>∃(i:A3) (c:A1 Str) (h:A1 KJ),n = [.ref i,.ref f,.bl false]/\K_ j H i c h/\c.length<=12 /\
 ∀(A B d:A1 Nat),MB c ((h.map λq=>q.2).map λk=>(k.2,k.1)) A->MB c (h.map λq=>q.2) B->d.Nodup->(∀m,m∈d↔l c.length A B m) ->
  (∀r (e:A1 (A3×A1 Str)) g,d.length<=300->F1 H g->H r=none->g r=some (.lst (e.map λt=>V.ref t.1))->RT H g e->(∀t∈e,t.1≠r)->(e.map λt=>t.2).Perm (d.map (JO c))->e.Pairwise (λa b=>TS.KN (TS.ND b.2) (TS.ND a.2)=false)->Q (.ref r) g)/\(300<d.length->False)
theorem MS:IR ["web","settle","greatest","marks","found"] ["web","settle","greatest"] (B7 PP):=KZ
set_option maxHeartbeats 4000000 in
theorem Gf(T:Tx K mg){f:A3}{C:TM}(tl:∀n A B m,C n A B m->J_ n m)(tq:∀n A B m,C n A B m->JM B m){g:Nat}(hg:3<=g)(u:IZ P w K mg base JK (g+1) T.aD.f T.aD.fd ["marks","settle","greatest","chosen","barred","found"] (j4 T.aa f C 12)) :
  IZ P w K mg base JK (g+2) T.aY.f T.aY.fd ["web","settle","greatest"] (Mz T.ah f C):=by
 have k:IZ P w K mg base JK g T.bo T.bm ["self","web"] (g9 T.aa T.ah):=(i8 T).mono hg;have p:IZ P w K mg base JK (g+1) T.al.f T.al.fd ["self","some"] (Bh T.aa):=(U9 T).mono (by lia);refine T.aY.F.o1 MS λcdv A outer s H vs Q E hr h=>?_
 .obtain⟨wb,ns,qs,rfl,hW,ln,q⟩:=h;refine⟨_,(B3 (D6 (i:=3) MS.nd rfl (.inr rfl) (Jn T.bB k (hr.mono (VQ _)) rfl T.bA T.bp .nil M5 (A8 (pv 0) B1)))
   (B3 (D6 (i:=4) MS.nd rfl (.inl rfl) (P8 B1))
   (B3 (K4 (D4 T.aD u (hr.mono (VQ _)) (@A8 _ _ _ _ _ (pv 3) (@A8 _ _ _ _ _ (pv 1) (@A8 _ _ _ _ _ (pv 2) (@A8 _ _ _ _ _ B5 (@A8 _ _ _ _ _ (OS K (pv 3)) (@A8 _ _ _ _ _ (pv 4) B1 (by rfl)) (by rfl)) (by rfl)) (by rfl)) (by rfl)) (by rfl))))
   (B4 (C0 (E5 (Oj K hr.units) T.a9 X1 (A8 (S7 (N':=["some","marks"]) (cap:=[none,some 3]) (cl:=[("marks",_)]) (O7 ⟨⟨rfl,rfl,rfl,rfl⟩,trivial⟩ ⟨rfl,trivial⟩) rfl (OL K (pv 4)) (λ_ _ _ _=>by exact⟨(NC 0),G7,(E6 (pv 1) T.ac T.al.m p (hr.mono (VQ _)) T.al.b .nil M5 (A8 (pv 0) B1))⟩)) B1))))))),?_⟩
  refine B9 λN1 hN1=>?_;refine A6 rfl ?_;intro x dx nx ndx nex;have s0:F1 H (IT (IT H dx (.own x)) x (.ins T.aa dx [])):=λb o e=>by
   rw[B6 (B2 e nx),B6 (B2 e ndx)];exact e
  refine⟨x,dx,wb,ns,qs,rfl,A9,hW.same s0,λc A B L H1 hc k1 M1 mA mB=>⟨rfl,?_⟩⟩;have s1:F1 H H1:=λb o e=>k1 b o (s0 b o e) (by simpa using B2 e nx);have hcn:H c=none:=s0.free hc;refine hN1 _ _ (B9 λN2 hN2=>?_);refine⟨CY _,λl hl=>?_⟩;have ul:=F1.new (o:=.lst []) hl;have fl:(IT H1 l (.lst [])) l=some (.lst (([]:A1 Nat).map E9)):=A9;have hln:H l=none:=s1.free hl;have R2:IS T.aa (er (IT H1 l (.lst [])) l) x c ns A B L:=M1.same λb o e=>by
   have:b≠l:=B2 e hl;rw[Jp this,B6 this];exact e
  generalize IT H1 l (.lst [])=H2 at ul fl R2⊢;have s2:=s1.trans ul;have O:=R2.same (X5 H2 l);obtain⟨Ms,I,mM⟩:=Ju (n:=ns.length) (λm=>C ns.length A B m) λm h=>tl _ _ _ _ h;obtain⟨q1,q2⟩:=q A B Ms mA mB I mM;have v:∀m,C ns.length A B m/\KL 0 L m↔C ns.length A B m:=λm=>⟨(·.1),λh=>⟨h,λj z=>(by rw[CH]at z;cases z),λj z y=>tq _ _ _ _ h j j z z ((O.net.tr j j).mp ((O.loops j).mp y))⟩⟩;refine hN2 _ _ (B9 λN3 hN3=>?_);obtain⟨J,a,b,d,kb,e1,_⟩:=O.ex;refine A6 rfl (A6 rfl (A6 rfl (A6 rfl ⟨x,T.aa,J,_,A6 rfl ⟨e1,T.ac,T.bf,rfl,A6 rfl ⟨x,c,l,ns,A,B,L,0,L,[],rfl,R2,J_.zero _,λj hj=>(O.net.lt j j ((O.net.tr j j).mp ((O.loops j).mp hj))).1,VR List.countP_le_length (by rw[CU];exact ln),fl,by decide,λLs S mL=>⟨λH3 U k3 R3 M=>?_,λgt=>?_⟩⟩⟩⟩)))
  .have pm:Ls.Perm Ms:=(FV S I).mpr λm=>by rw[mL,mM,v]
   rw[List.nil_append]at M;rw[E_,EJ]at U;have M3:=R3.same (X5 H3 l);have s3:F1 H H3:=λb o e=>k3 b o (s2 b o e) (by
    intro z;rcases AK.mp z with rfl | z
    .rw[hcn]at e;cases e
    .rw[AG.mp z,hln]at e;cases e)
   refine hN3 _ _ ?_;refine A6 rfl ⟨l,rfl,⟨_,IV.of M⟩,λD hD=>?_⟩;refine Mp (ns:=ns) (ON (IV.of M)) (by lia) hD (λm G R sG hR=>?_) λσ' G ts sG eG W nG mG=>?_
   .have MG:=M3.same sG;obtain⟨J,a,b,d,kb,e1,_⟩:=MG.ex;exact A6 rfl ⟨x,J,A6 rfl ⟨e1,rfl,A6 rfl ⟨x,c,ns,A,B,L,m,rfl,MG,λz G' hz s' ez=>hR z G' hz s' ez⟩⟩⟩
   .refine⟨D,ts,rfl,IV.of eG,W.at_,λr X N Y srt=>?_⟩;have ur:=F1.new (o:=.lst (X.map λt=>V.ref t.1)) N;have hrn:H r=none:=(s3.trans sG).free N;refine q1 r X _ (by rw[<-pm.length_eq];exact U) ((s3.trans sG).trans ur) hrn A9 ⟨λt Z=>ur _ _ (W.at_ t (Y.mem_iff.mp Z)),(Y.map _).nodup_iff.mpr W.nd,λt Z=>s3.free (W.new t (Y.mem_iff.mp Z))⟩ (λt Z=>B2 (W.at_ t (Y.mem_iff.mp Z)) N) ?_ srt;refine(Y.map λt=>t.2).trans ?_;rw[mG];exact pm.map _
  .rw[E_,EJ]at gt;have pm:Ls.Perm Ms:=(FV S I).mpr λm=>by rw[mL,mM,v]
   exact q2 (by rw[<-pm.length_eq];exact gt)
def zBf(i:A3)(j:TM):Sp:=λl H Q E=>∃(h:A3) (c:A1 Str) (g:A1 KJ),l = [.ref h]/\K_ i H h c g/\c.length<=12 /\
 ∀(A B d:A1 Nat),MB c ((g.map λq=>q.2).map λk=>(k.2,k.1)) A->MB c (g.map λq=>q.2) B->d.Nodup->(∀m,m∈d↔j c.length A B m) ->
  (∀r (e:A1 (A3×A1 Str)) f,d.length<=300->F1 H f->H r=none->f r=some (.lst (e.map λt=>V.ref t.1))->RT H f e->(∀t∈e,t.1≠r)->(e.map λt=>t.2).Perm (d.map (JO c))->e.Pairwise (λa b=>TS.KN (TS.ND b.2) (TS.ND a.2)=false)->Q (.ref r) f)/\(300<d.length->False)
theorem Ae:IR ["web"] ["web"] (B7 MX):=KZ
theorem Ao(T:Tx K mg):IZ P w K mg base JK 20 T.aZ.f T.aZ.fd ["web"] (zBf T.ah LC):=by
 have a:IZ P w K mg base JK 19 T.aY.f T.aY.fd ["web","settle","greatest"] (Mz T.ah T.aq.f LC) :=
  Gf T (λ_ _ _ _ h=>h.1) (λ_ _ _ _ h=>h.2.1) (g:=17) (by decide) (Io T (λ_ _ _ _ h=>h.1) (j8 T) T.aq.F.kp T.aq.b (by decide) 12)
 refine T.aZ.F.o1 Ae λd A c s H o Q E e h=>?_
 .obtain⟨i,j,k,rfl,l,n,q⟩:=h;refine⟨_,(B4 (C0 (D4 T.aY a (Rm e) (A8 (pv 0) (A8 (zEh T.aq.m) (A8 U2 B1)))))),?_⟩;exact A6 rfl ⟨i,j,k,rfl,l,n,q⟩
def U0(ns:A1 Str)(m:Nat):Str:=(JO ns m).headD ""
def Hf{ns:A1 Str}{m k:Nat}(h:∀i,i<k->¬m.testBit i=true):∀i,i<=k->i<=ns.length->w6 ns m i = []
 | 0,_,_=>rfl
 | i+1,a,b=>by
  rw[K1 (AC (show i<ns.length by lia)),Hf h i (by lia) (by lia),AN (h i (by lia))];rfl
def Hg{ns:A1 Str}{m k:Nat}{x:Str}(a:ns[k]?=some x)(b:m.testBit k=true)(h:∀i,i<k->¬m.testBit i=true):∀i,k<i->i<=ns.length->∃r,w6 ns m i=x::r
 | 0,d,_=>absurd d (GW _)
 | i+1,d,f=>by
  rcases II k i with c | c
  .obtain⟨r,e⟩:=Hg a b h i c (by lia);rw[K1 (AC (show i<ns.length by lia)),e];exact⟨_,rfl⟩
  .have:i=k:=by lia
   subst this;rw[K1 a,Hf h i (VQ _) (by lia),AQ b];exact⟨[],rfl⟩
def Sv{ns:A1 Str}{m k:Nat}{x:Str}(a:ns[k]?=some x)(b:m.testBit k=true)(h:∀i,i<k->¬m.testBit i=true):∃r,JO ns m=x::r:=Hg a b h ns.length (AE.mp a).1 (VQ _)
def Bf{ns:A1 Str}{m k:Nat}(a:k<ns.length)(b:m.testBit k=true)(h:∀i,i<k->¬m.testBit i=true):ns[k]?=some (U0 ns m):=by
 have e:=AC a;obtain⟨r,er⟩:=Sv e b h;unfold U0;rw[er];exact e
def Zd{m j:Nat}(h:m.testBit j=true):∃k,k<=j/\m.testBit k=true/\∀i,i<k->¬m.testBit i=true:=by
 have b:0<m:=Nat.pos_of_ne_zero λz=>by rw[z,CH]at h;cases h
 obtain⟨k,c,_,a⟩:=Uc m b;exact⟨k,Nat.le_of_not_lt λz=>a j z h,c,a⟩
def i7(n:Nat)(p:Nat->Prop):Nat:=(((List.range n).filter λj=>pB (p j)).map λk=>2^k).sum
def Q2{n:Nat}{p:Nat->Prop}(j:Nat):(i7 n p).testBit j=true↔j<n/\p j:=by
 unfold i7;rw[Cf (GN.sublist DP),BE,BT,KW]
def No{z n:Nat}{p:Nat->Prop}(h:∀j,z.testBit j=true↔p j)(lo:J_ n z):z=i7 n p:=BP λj=>BU.mpr (by
 rw[Q2];exact⟨λy=>⟨lo j y,(h j).mp y⟩,λy=>(h j).mpr y.2⟩)
def zHs(m:Nat):Nat:=((List.range (m+1)).find? λj=>m.testBit j).getD 0
def Rl{m k:Nat}(h:m.testBit k=true)(a:∀i,i<k->¬m.testBit i=true):zHs m=k:=by
 have b:k<m+1:=Nat.lt_succ_of_le (VR (DU Nat.lt_two_pow_self) (Nat.ge_two_pow_of_testBit h));unfold zHs;have e:(List.range (m+1)).find? (λj=>m.testBit j)=some k:=by
  rw[List.find?_range_eq_some];exact⟨h,BT.mpr b,λi c=>by simpa using a i c⟩
 rw[e];rfl
def Wm{ns:A1 Str}{m j:Nat}(a:j<ns.length)(h:m.testBit j=true):JO ns m≠[]:=λz=>by
 have:ns[j]∈JO ns m:=QM.mpr ⟨j,h,AC a⟩;rw[z]at this;cases this
def X3{C:A3}{H:Hp}{x c:A3}{ns:A1 Str}{A B:A1 Nat}{L:Nat}(h:IS C H x c ns A B L):H c≠none:=λz=>by
 obtain⟨_,_,_,_,_,_,_,_,_,a,_⟩:=h.ex;rcases a with e | ⟨o,e⟩<;>rw[z]at e<;>cases e
theorem Z9:IR ["self","some"] ["self","some"] (B7 LP):=KZ
def Ez(C:A3):Sp:=λd H Q _=>∃(x c:A3) (a:A1 Str) (A B:A1 Nat) (L m j:Nat),d = [.ref x,.int (m:Int)]/\IS C H x c a A B L/\j<a.length/\m.testBit j=true/\∀b,F1 H b->Q (.str (U0 a m)) b
theorem O8(T:Tx K mg):IZ P w K mg base JK 2 T.ak.f T.ak.fd ["self","some"] (Ez T.aa):=by
 refine T.ak.F.o1 Z9 λp A e s H G Q E t h=>?_
 .obtain⟨x,c,i,A,B,L,m,j,rfl,k,u,v,q⟩:=h;obtain⟨y,a,b,d,I,z,_⟩:=k.ex;refine⟨_,(B4 (C0 (E1 (MD K) (E6 (pv 0) T.ac T.al.m (U9 T) (Rm t) T.al.b .nil M5 (A8 (pv 1) B1)) B5 (λ_ _=>rfl)))),?_⟩;refine A6 rfl ⟨x,y,A6 rfl ⟨z,rfl,A6 rfl ⟨x,c,i,A,B,L,m,rfl,k,λl C J D o=>?_⟩⟩⟩;cases g:JO i m with
  | nil=>exact absurd g (Wm u v)
  | cons n r =>
   rw[g]at o;have q:=q C D;unfold U0 at q;rw[g]at q;exact⟨l,_,B8 rfl rfl ⟨IV.of o,(show QS (V.str n::r.map V.str) ((0:Nat):Int)=_ from E2 rfl),q⟩⟩
def Mb(A B:A1 Nat)(n L m ad:Nat):A1 Nat:=(List.range n).filter λj=>ad.testBit j && @decide (L.testBit j=true\/Y8 B m j\/Y8 A m j) (Classical.propDecidable _)
def Vq{A B:A1 Nat}{n L m ad z:Nat}(h:∀j,z.testBit j=true↔L.testBit j=true\/Y8 B m j\/Y8 A m j):E3 (ad &&& z) n=Mb A B n L m ad:=by
 unfold E3 Mb;refine List.filter_congr λj _=>?_;rw[CF];congr 1;rw[BU,h];exact⟨λy=>@AX _ (Classical.propDecidable _) y,λy=>@BZ _ (Classical.propDecidable _) y⟩
def Yj(A B:A1 Nat)(n L m ad:Nat):A1 Int :=
 [((E3 ad n).length:Int)-((Mb A B n L m ad).length:Int),((E3 ad n).length:Int)]
theorem MA:IR ["marks","held","added","clashing","many"] ["marks","held","added"] (B7 OF):=KZ
def Tn(C:A3):Sp:=λe H Q _=>∃(x c:A3) (d:A1 Str) (A B:A1 Nat) (L m ad:Nat),e = [.ref x,.int (m:Int),.int (ad:Int)]/\IS C H x c d A B L/\∀a b,H a=none->Sm [c] H b->IS C b x c d A B L ->
 b a=some (.tup ((Yj A B d.length L m ad).map V.int))->Q (.ref a) b
theorem Ft(T:Tx K mg):IZ P w K mg base JK 3 T.a7.f T.a7.fd ["marks","held","added"] (Tn T.aa):=by
 refine T.a7.F.o1 MA λS A t s H vs Q E r h=>?_
 .obtain⟨x,c,n,A,B,L,m,ad,rfl,I,q⟩:=h;obtain⟨g,a,b,d,u,k,_⟩:=I.ex;refine⟨_,(B3 (D6 (i:=3) MA.nd rfl (.inl rfl) (C4 R9 (C4 R9 (OS K (pv 0)) (E6 (pv 0) T.ac T.af.m (I0 T) (Rm r) T.af.b .nil M5 (A8 (pv 1) B1))) (E6 (pv 0) T.ac T.ag.m (K0 T) (Rm r) T.ag.b .nil M5 (A8 (pv 1) B1))))
   (B3 (D6 (i:=4) MA.nd rfl (.inl rfl) (E5 (O0 K) T.an M0 (A8 (E6 (pv 0) T.ac T.ad.m (G8 T) (Rm r) T.ad.b .nil M5 (A8 (pv 2) B1)) B1)))
   (B4 (C0 (J8 (A8 (C4 Zs (pv 4) (E5 (O0 K) T.an M0 (A8 (E6 (pv 0) T.ac T.ad.m (G8 T) (Rm r) T.ad.b .nil M5 (A8 (C4 M8 (pv 2) (pv 3)) B1)) B1))) (A8 (pv 4) B1))))))),?_⟩
  refine B9 λN1 v=>?_;refine A6 rfl ⟨x,T.aa,g,_,A6 rfl ⟨k,T.ac,T.bf,rfl,A6 rfl ⟨x,g,A6 rfl ⟨k,rfl,A6 rfl ⟨x,c,n,A,B,L,m,rfl,I,λr1 H1 U J z=>?_⟩⟩⟩⟩⟩;refine B8 rfl rfl ?_;obtain⟨g,a,b,d,u,k,_⟩:=J.ex;refine A6 rfl ⟨x,g,A6 rfl ⟨k,rfl,A6 rfl ⟨x,c,n,A,B,L,m,rfl,J,λr2 H2 V M C=>?_⟩⟩⟩;refine B8 rfl rfl ?_;dsimp only;rw[PV,PV];refine v _ _ (B9 λN2 D=>?_);obtain⟨g,a,b,d,u,k,_⟩:=M.ex;refine A6 rfl ⟨x,g,A6 rfl ⟨k,rfl,A6 rfl ⟨x,c,n,A,B,L,ad,rfl,M,λl H3 hl W N X=>?_⟩⟩⟩;refine⟨l,_,rfl,.inl (IV.of X),?_⟩;rw[AB];refine D _ _ ?_;obtain⟨g,a,b,d,u,k,_⟩:=N.ex;refine A6 rfl (A6 rfl ⟨x,g,A6 rfl ⟨k,rfl,A6 rfl (A6 rfl (B8 rfl rfl ?_))⟩⟩);dsimp only;rw[Pw];refine⟨x,c,n,A,B,L,ad &&&(L ||| r1 ||| r2),rfl,N,λY Z hl2 k4 O G=>?_⟩;refine⟨Y,_,rfl,.inl (IV.of G),?_⟩;rw[AB];refine B8 rfl rfl (A6 rfl ?_);refine⟨by show 2<=sizeLine;decide,λp o=>?_⟩;have R:Sm [c] H Z:=((U.trans V).trans W).trans k4;refine q p _ (R.none (λy=>by rw[AG.mp y]at o;exact X3 O o) o) (R.new o) (O.same (F1.new o)) ?_;rw[A9];have e:E3 (ad &&&(L ||| r1 ||| r2)) n.length=Mb A B n.length L m ad:=Vq λj=>by rw[BX,BX,CN,CN,z,C,or_assoc]
  rw[e];rfl
def Cb(A B:A1 Nat)(n L m:Nat)(ads:A1 Nat):Nat:=Jk (λj=>Yj A B n L m (ads.getD j 0)) (ads.length-1)
def X6(B:A1 Nat)(m:Nat):Prop:=∃j,m.testBit j=true/\Y8 B m j
def Hl{A B:A1 Nat}{n L m:Nat}{ads:A1 Nat}(h:ads≠[]):Cb A B n L m ads<ads.length:=by
 have:=Sb (λj=>Yj A B n L m (ads.getD j 0)) (ads.length-1);have a:=List.length_pos_iff.mpr h;unfold Cb;lia
def Rw{m j:Nat}(h:¬m.testBit j=true):∀n,(E3 (m ||| 2^j) n).length =(E3 m n).length+if j<n then 1 else 0
 | 0=>rfl
 | n+1=>by
  rw[R0,R0,AW,AW,Rw h n];by_cases e:n=j
  .subst e;rw[AQ ((V6 m n n).mpr (.inr rfl)),AN h,AN (EI _),AQ (FC _)];rfl
  .have a:(m ||| 2^j).testBit n=m.testBit n:=by
    rw[BU,V6];exact⟨λz=>z.resolve_right e,.inl⟩
   rw[a];by_cases l:j<n
   .rw[AQ l,AQ (DT l)];lia
   .rw[AN l,AN (show ¬j<n+1 by lia)];rfl
section
variable(ns:A1 Str)(A B:A1 Nat)(L m:Nat)
def zHm:Nat:=i7 ns.length λj=>m.testBit j=true/\Y8 B m j
def SZ:Str:=U0 ns (A.getD (zHs (zHm ns B m)) 0 &&& m)
def TK:Str:=U0 ns (zHm ns B m)
end
def kV:JH->V
 | .inl i=>.int i
 | .inr s=>.str s
def kD:JH->PyData
 | .inl i=>.int i
 | .inr s=>.str s
abbrev Hd:=A1 JH×Nat
abbrev RQ:=A1 Str->A1 Nat->A1 Nat->A1 Nat->Nat->A1 Hd
def g7(A B:A1 Nat)(n L:Nat)(F:Nat->A1 Hd)(m:Nat):Hd:=(F m).getD (Cb A B n L m ((F m).map λs=>s.2)) ([],0)
def l9{A B:A1 Nat}{n L:Nat}{F:Nat->A1 Hd}{m:Nat}(h:F m≠[]):g7 A B n L F m∈F m:=by
 have b:((F m).map λs=>s.2)≠[]:=λz=>h (GK.mp z);have a:=Hl (A:=A) (B:=B) (n:=n) (L:=L) (m:=m) b;rw[AB]at a;unfold g7;rw[AU,AC a];exact GM a
def JJ(ns:A1 Str)(A B:A1 Nat)(L:Nat)(F:Nat->A1 Hd)(H:Hp):Nat->Nat->A3->Prop
 | 0,_,_=>False
 | k+1,m,r=>(X6 B m/\H r=some (.tup [.str "clash",.str (SZ ns A B m),.str (TK ns B m)]))\/(¬X6 B m/\∃(l:A3) (a:A1 A3),H r=some (.tup ((g7 A B ns.length L F m).1.map kV ++ [.ref l]))/\H l=some (.tup (a.map V.ref)) /\
   a.length =(E3 (g7 A B ns.length L F m).2 ns.length).length/\∀(i j:Nat) b,(E3 (g7 A B ns.length L F m).2 ns.length)[i]?=some j->a[i]?=some b->JJ ns A B L F H k (m ||| 2^j) b)
def JJ.keep{ns:A1 Str}{A B:A1 Nat}{L:Nat}{F:Nat->A1 Hd}{H H':Hp}(kk:∀b xs,H b=some (.tup xs)->H' b=some (.tup xs)):∀{k m:Nat} {r:A3},JJ ns A B L F H k m r->JJ ns A B L F H' k m r
 | 0,_,_,h=>h
 | k+1,m,r,h=>h.imp (λ⟨c,e⟩=>⟨c,kk _ _ e⟩) λ⟨c,l,a,d,f,g,h⟩=>⟨c,l,a,kk _ _ d,kk _ _ f,g,λi j n o p=>(h i j n o p).keep kk⟩
def Y6(n m:Nat):Nat:=n+1-(E3 m n).length
def zHk(n:Nat)(A B:A1 Nat)(L:Nat)(F:Nat->A1 Hd)(R:Nat->Prop):Prop:=∀m,R m->J_ n m->¬X6 B m->F m≠[]/\∀j,j<n->(g7 A B n L F m).2.testBit j=true->¬m.testBit j=true/\R (m ||| 2^j)
def Xg{n m j:Nat}(h1:j<n)(h2:¬m.testBit j=true):Y6 n m=Y6 n (m ||| 2^j)+1:=by
 have a:=Rw h2 n;rw[AQ h1]at a;have b:=P4 (m ||| 2^j) n;unfold Y6;lia
def Ku(n:Nat)(Ms:A1 Nat)(m:Nat):A1 Hd:=(Ms.zipIdx.filter λp=>pB (Sub m p.1)).map λp=>([.inr "beyond",.inl (p.2:Int)],i7 n λj=>¬p.1.testBit j=true)
def Qo(ns:A1 Str)(A B:A1 Nat)(m:Nat):A1 Hd:=((List.range ns.length).filter λj=>pB (¬Y8 B m j/\¬m.testBit j=true)).map λj=>([.inr "cover",.inr (U0 ns (2^j))],2^j ||| A.getD j 0)
def u7:RQ:=λa A B b m=>if Qo a A B m = []then Ku a.length b m else Qo a A B m
def NL{n m:Nat}{Ms:A1 Nat}{s:Hd}:s∈Ku n Ms m↔∃(i M:Nat),Ms[i]?=some M/\Sub m M/\s =([.inr "beyond",.inl (i:Int)],i7 n λj=>¬M.testBit j=true):=by
 unfold Ku;rw[AJ];constructor
 .rintro⟨⟨M,i⟩,c,rfl⟩;obtain⟨a,b⟩:=BE.mp c;exact⟨i,M,List.mem_zipIdx_iff_getElem?.mp a,KW.mp b,rfl⟩
 .rintro⟨i,M,a,b,rfl⟩;exact⟨(M,i),BE.mpr ⟨List.mem_zipIdx_iff_getElem?.mpr a,KW.mpr b⟩,rfl⟩
def zAi{n m j:Nat}{Ms:A1 Nat}{s:Hd}(h:s∈Ku n Ms m)(a:s.2.testBit j=true):¬m.testBit j=true:=by
 obtain⟨i,M,_,b,rfl⟩:=NL.mp h;exact λz=>((Q2 j).mp a).2 (b j z)
def zGp{n m M:Nat}{Ms:A1 Nat}(h:M∈Ms)(s:Sub m M):Ku n Ms m≠[]:=λz=>by
 obtain⟨i,a,e⟩:=List.getElem_of_mem h;have:_∈Ku n Ms m:=NL.mpr ⟨i,M,by rw[AC a,e],s,rfl⟩;rw[z]at this;cases this
def Mx{ns:A1 Str}{A B Ms:A1 Nat}{L:Nat}(f:SR ns.length A B)(h:∀m,LC ns.length A B m->m∈Ms):zHk ns.length A B L (u7 ns A B Ms) λ_=>True:=by
 intro m _ lo g;by_cases c:Qo ns A B m = []
 .have e:u7 ns A B Ms m=Ku ns.length Ms m:=AQ c;have a:u7 ns A B Ms m≠[]:=by
   rw[e];refine zGp (h m ⟨lo,λi j k b z=>g ⟨j,b,i,k,z⟩,λj b=>?_⟩) λj z=>z;by_cases y:m.testBit j=true
   .exact .inl y
   .refine .inr (FX λz=>?_);have:j∈(List.range ns.length).filter λj=>pB (¬Y8 B m j/\¬m.testBit j=true):=BE.mpr ⟨BT.mpr b,KW.mpr ⟨z,y⟩⟩;rw[GK.mp c]at this;cases this
  refine⟨a,λj b hb=>⟨?_,trivial⟩⟩;exact zAi (e▸l9 (A:=A) (B:=B) (n:=ns.length) (L:=L) a) hb
 .have e:u7 ns A B Ms m=Qo ns A B m:=AN c;have a:u7 ns A B Ms m≠[]:=by rw[e];exact c
  refine⟨a,λj b hb=>⟨?_,trivial⟩⟩;obtain⟨d,l,o⟩:=AJ.mp (e▸l9 (A:=A) (B:=B) (n:=ns.length) (L:=L) a:_∈Qo ns A B m);obtain⟨p,q⟩:=KW.mp (BE.mp l).2;rw[<-o,BX,CN,CQ,BI]at hb;intro z;rcases hb with rfl | hb
  .exact q z
  .exact p ⟨j,z,(f.tr d j).mp hb⟩
def Sx{M:A1 Nat}{k j:Nat}:Y8 M (2^k) j↔(M.getD k 0).testBit j=true:=by
 constructor
 .rintro⟨i,a,e⟩;rw[CQ,BI]at a;rw[a];exact e
 .exact λh=>⟨k,DX,h⟩
theorem PF:IR ["marks","held","hit"] ["marks","held"] (B7 QC):=KZ
def Ob(C:A3):Sp:=λe H Q _=>∃(x c:A3) (b:A1 Str) (A B:A1 Nat) (L m:Nat),e = [.ref x,.int (m:Int)]/\IS C H x c b A B L/\(∀j,m.testBit j=true->j<b.length)/\∀d,Sm [c] H d->IS C d x c b A B L ->
 ((∀j,m.testBit j=true->¬Y8 B m j)->Q .non d)/\∀a,X6 B m->H a=none->d a=some (.tup [.str "clash",.str (SZ b A B m),.str (TK b B m)])->Q (.ref a) d
theorem Jt(T:Tx K mg):IZ P w K mg base JK 3 T.a3.f T.a3.fd ["marks","held"] (Ob T.aa):=by
 refine T.a3.F.o1 PF λcdv A G s H vs Q E e h=>?_
 .obtain⟨x,c,n,A,B,L,m,rfl,I,J,q⟩:=h;obtain⟨g,a,b,d,W,l,_⟩:=I.ex;refine⟨_,(B3 (D6 (i:=2) PF.nd rfl (.inl rfl) (C4 M8 (pv 1) (E6 (pv 0) T.ac T.af.m (I0 T) (Rm e) T.af.b .nil M5 (A8 (pv 1) B1))))
   (B3 (G9 (Q0 (T_ K (pv 2))) (B4 (C0 Ty)) C5)
   (B4 (C0 (J8 (A8 Q4 (A8 (E6 (pv 0) T.ac T.ak.m (O8 T) (Rm e) T.ak.b .nil M5 (A8 (C4 M8 (E6 (pv 0) T.ac T.ag.m (K0 T) (Rm e) T.ag.b .nil M5 (A8 (D4 T.aM (y8 T) (Rm e) (A8 (pv 2) B1)) B1)) (pv 1)) B1)) (A8 (E6 (pv 0) T.ac T.ak.m (O8 T) (Rm e) T.ak.b .nil M5 (A8 (pv 2) B1)) B1)))))))),?_⟩
  refine B9 λN1 M=>?_;refine A6 rfl (A6 rfl ⟨x,g,A6 rfl ⟨l,rfl,A6 rfl ⟨x,c,n,A,B,L,m,rfl,I,λr H1 X N e=>?_⟩⟩⟩);refine B8 rfl rfl ?_;dsimp only;rw[Pw];refine M _ _ ?_;have o:∀j,(m &&& r).testBit j=true↔m.testBit j=true/\Y8 B m j:=λj=>by rw[CF,BL,e]
  refine B9 λN2 O=>?_;refine A6 rfl ⟨_,rfl,?_⟩;dsimp only;refine V0 (λz=>?_) (λz=>?_)
  .have u:m &&& r=0:=by
    by_cases y:m &&& r=0
    .exact y
    .exact absurd z (by simp;lia)
   exact(q H1 X N).1 λj v C=>by
    have:=(o j).mpr ⟨v,C⟩;rw[u,CH]at this;cases this
  .have u:m &&& r≠0:=λy=>by
    rw[y]at z;exact z rfl
   obtain⟨j,D⟩:=Nat.exists_testBit_of_ne_zero u;obtain⟨v,C⟩:=(o j).mp D;refine O _ _ ?_;obtain⟨g,a,b,d,W,l,_⟩:=N.ex;obtain⟨i,R,Y⟩:=id C;have eh:m &&& r=zHm n B m:=No o λj D=>J j ((o j).mp D).1;refine A6 rfl ⟨x,g,A6 rfl ⟨l,rfl,A6 rfl ⟨x,g,A6 rfl ⟨l,rfl,A6 rfl ⟨_,rfl,Nat.pos_of_ne_zero u,λk Z kl=>?_⟩⟩⟩⟩⟩;obtain⟨h3,i,R,Y⟩:=(o k).mp Z;have ek:=Rl Z kl;refine⟨x,c,n,A,B,L,2^k,rfl,N,λr2 H2 k2 M2 S=>?_⟩;have U:r2=A.getD k 0:=BP λi=>BU.mpr ((S i).trans Sx);subst U;refine A6 rfl (B8 rfl rfl ?_);dsimp only;rw[Pw];refine⟨x,c,n,A,B,L,A.getD k 0 &&& m,i,rfl,M2,J i R,by rw[CF,BL];exact⟨(I.net.tr k i).mpr Y,R⟩,λH3 s3=>?_⟩;have V:=M2.same s3;obtain⟨g,a,b,d,W,l,_⟩:=V.ex;refine A6 rfl ⟨x,g,A6 rfl ⟨l,rfl,A6 rfl ⟨x,c,n,A,B,L,m &&& r,j,rfl,V,J j v,D,λH4 s4=>?_⟩⟩⟩;refine⟨by show 3<=sizeLine;decide,λp t=>?_⟩;have M4:=V.same s4;have k4:Sm [c] H H4:=(X.trans k2).trans (s3.sm.trans s4.sm);refine(q _ (k4.new t) (M4.same (F1.new t))).2 p ⟨j,v,C⟩ (k4.none (λy=>by rw[AG.mp y]at t;exact X3 M4 t) t) ?_;rw[A9];unfold SZ TK;rw[<-eh,ek]
abbrev SQ:=A3×A3×A1 JH×Nat
def KI(H:Hp)(t:SQ):Prop:=H t.1=some (.tup [.ref t.2.1,.int (t.2.2.2:Int)])/\H t.2.1=some (.tup (t.2.2.1.map kV))/\t.2.2.1≠[]/\t.2.2.1.length<=5
def KI.same{H H':Hp}{t:SQ}(h:KI H t)(s:F1 H H'):KI H' t:=⟨s _ _ h.1,s _ _ h.2.1,h.2.2⟩
def Y1{C:A3}{H:Hp}{x c a:A3}{o:HO}{ns:A1 Str}{A B:A1 Nat}{L:Nat}(h:IS C H x c ns A B L)(e:H a=some o)(d:∀k,o≠ .dK k)(f:∀u v,o≠ .frz u v):a≠c:=λz=>by
 obtain⟨_,_,_,_,_,_,_,_,_,g,_⟩:=h.ex;rw[z]at e;rcases g with b | ⟨u,b⟩<;>rw[e]at b<;>cases b
 .exact d _ rfl
 .exact f _ _ rfl
def j7{C:A3}{H:Hp}{x c a:A3}{xs:A1 V}{ns:A1 Str}{A B:A1 Nat}{L:Nat}(h:IS C H x c ns A B L)(e:H a=some (.lst xs)):a≠c:=Y1 h e (λ_ y=>by cases y) λ_ _ y=>by cases y
def Y0{C:A3}{H:Hp}{x c a:A3}{xs:A1 V}{ns:A1 Str}{A B:A1 Nat}{L:Nat}(h:IS C H x c ns A B L)(e:H a=some (.tup xs)):a≠c:=Y1 h e (λ_ y=>by cases y) λ_ _ y=>by cases y
def KI.sm{C:A3}{H H':Hp}{x c:A3}{ns:A1 Str}{A B:A1 Nat}{L:Nat}{t:SQ}(h:KI H t)(M:IS C H x c ns A B L)(k:Sm [c] H H'):KI H' t:=⟨OB k h.1 (Y0 M h.1),OB k h.2.1 (Y0 M h.2.1),h.2.2⟩
def KI.upd{H:Hp}{l:A3}{o:HO}{xs:A1 V}{t:SQ}(h:KI H t)(e:H l=some (.lst xs)):KI (IT H l o) t:=⟨(B6 (S8 h.1 e (by intro y;cases y))).trans h.1,(B6 (S8 h.2.1 e (by intro y;cases y))).trans h.2.1,h.2.2⟩
def Hj{C:A3}{H H':Hp}{x c p:A3}{ns:A1 Str}{A B:A1 Nat}{L:Nat}{ls:A1 (Pos×Str)}(h:O9 H p ls)(M:IS C H x c ns A B L)(k:Sm [c] H H'):O9 H' p ls:=by
 obtain⟨b,e,t,q⟩:=h;exact⟨b,OB k e (Y1 M e (λ_ y=>by cases y) λ_ _ y=>by cases y),t,λl f=>(q l f).imp id λ⟨d,e,a⟩=>⟨d,e,OB k a (Y1 M a (λ_ y=>by cases y) λ_ _ y=>by cases y)⟩⟩
def zDb(f c:A3)(q:Str)(b:Arguments)(d:IW)(a:JX)(cl:A1 (Str×A3))(g:V->Hp->VK->Prop):Sp:=λe H Q _=>∃u,e = [u]/\H f=some (OW f c q b d a cl)/\H c=some (Le c q)/\g u H Q
theorem Rt{f c:A3}{q:Str}{i:Arguments}{e:IW}{b:JX}{cl:A1 (Str×A3)}{fr:A1 Str}{gs:A1 V}{k:Nat}{g:V->Hp->VK->Prop}(S:OP ("split" :: fr) ["split"] fr b)(C:RJ base cl fr gs)
  (d:∀(A:IY) (a:A1 RM) (s:A4) (H:Hp) (u:V) (Q:VK),JY k (A.deeper (PySem.W.envX q b s.heap.objs.size f (.ref c) cl))->g u H Q ->
   ∃t,PE (Qm P w K mg base ("split" :: fr) q b f (.ref c) cl A a s H) e t/\t (some u::gs.map some) H Q) :
  IZ P w K mg base JK (k+1) f (PySem.W.kla_fn "<lambda>" q i e b cl .none (.ref c) .none) ["split"] (zDb f c q i e b cl g):=by
 refine zGe S C (λj H Q E h=>?_) (λj H Q E h=>?_) λA a s H j Q E l h=>?_
 .obtain⟨u,rfl,_⟩:=h;rfl
 .obtain⟨u,rfl,m,n,_⟩:=h;exact⟨m,n⟩
 .obtain⟨u,rfl,_,_,h⟩:=h;exact d A a s H u Q l h
theorem zBg{e:Hp}{f c:A3}{q:Str}{j:Arguments}{i:IW}{a:JX}{cl:A1 (Str×A3)}{fr:A1 Str}{gs:A1 V}{k:Nat}{g:V->Hp->VK->Prop}(n:e f=some (OW f c q j i a cl))(o:e c=some (Le c q))(S:OP ("split" :: fr) ["split"] fr a)(C:RJ base cl fr gs)
  (p:Binds K (PySem.W.kla_fn "<lambda>" q j i a cl .none (.ref c) .none) ["split"] [])
  (b:∀(A:IY) (d:A1 RM) (s:A4) (H:Hp) (u:V) (Q:VK),JY k (A.deeper (PySem.W.envX q a s.heap.objs.size f (.ref c) cl))->g u H Q ->
   ∃t,PE (Qm P w K mg base ("split" :: fr) q a f (.ref c) cl A d s H) i t/\t (some u::gs.map some) H Q) :
  ∃(l:JC) (m:A1 Str) (sp:Sp),IZ P w K mg base JK (k+1) f l m sp/\Binds K l m []/\∀u H Q,H f=e f->H c=e c->g u H Q->sp [u] H Q E0 :=
 ⟨_,_,_,Rt S C b,p,λu H Q r v h=>⟨u,rfl,r.trans n,v.trans o,h⟩⟩
theorem Fw:IR ["marks","held","splits"] ["marks","held","splits"] (B7 LJ):=KZ
def Ru(C d:A3):Sp:=λf H Q _=>∃(x c l:A3) (e:A1 Str) (A B:A1 Nat) (L m:Nat) (a:A1 SQ),f = [.ref x,.int (m:Int),.ref l]/\IS C H x c e A B L/\H l=some (.lst (a.map λt=>V.ref t.1))/\a≠[]/\(∀t∈a,KI H t)/\O9 H d C9 /\
 ∀b,Sm [c,d] H b->IS C b x c e A B L->O9 b d C9->(∀t∈a,KI b t)->Q ((a.map λt=>V.ref t.1).getD (Cb A B e.length L m (a.map λt=>t.2.2.2)) .non) b
set_option maxHeartbeats 2000000 in
theorem Gd(T:Tx K mg)(hB:base.BuiltinsAt mg T.ab):IZ P w K mg base JK 7 T.aQ.f T.aQ.fd ["marks","held","splits"] (Ru T.aa T.ab):=by
 refine T.aQ.F.oC Fw λcdv A N s H vs Q E hcd hr h=>?_
 .obtain⟨x,c,l,ns,A,B,L,m,Y,rfl,hM,hl,hne,hS,hT,q⟩:=h;have hu:=b9 hr;refine⟨_,(B4 (C0 (zBi (k:=5) (λ_=>rfl) (Rm hr) T.bI (A8 (pv 2) B1) (zEc (ls:=C9) T.br hB (hcd.symm.trans T.bH) rfl rfl (by show ∀x:Str×KQ,x∈_->x.2=NameKind.free->(B7 LJ).names.lookup x.1=some NameKind.cell;decide +kernel) (by first | exact .head _ | exact .tail _ (.head _) | exact .tail _ (.tail _ (.head _))) (by decide +kernel))))),?_⟩;refine A6 rfl ⟨hT,λf cc Z hf T2 D G nfp I=>?_⟩;have p:∀{z:A3} {o:HO},H z=some o->(∀u,o≠ .tbl u)->z≠T.ab:=fun{z o} e n y=>by
   obtain⟨ps,e',_⟩:=hT;rw[y,e']at e;cases e;exact n _ rfl
  have M2:IS T.aa Z x c ns A B L:=by
   obtain⟨⟨dx,a,b,d,kb,e1,e2,e3,e4,e5,e6,n1,n2⟩,J,h3,h4,h5⟩:=hM;have kR:∀{z:A3} {o:HO},(∀u,o≠ .tbl u)->Rd H z o->Rd Z z o:=fun{z o} n r=>r.imp (λe=>I _ _ e (p e n)) λ⟨u,e⟩=>⟨u,I _ _ e (p e λ_ y=>by cases y)⟩;exact⟨⟨dx,a,b,d,kb,I _ _ e1 (p e1 λ_ y=>by cases y),I _ _ e2 (p e2 λ_ y=>by cases y),kR (λ_ y=>by cases y) e3,e4,kR (λ_ y=>by cases y) e5,I _ _ e6 (p e6 λ_ y=>by cases y),n1,n2⟩,J,h3,h4,h5⟩
  have hl2:=I _ _ hl (p hl λ_ y=>by cases y);have S2:∀t∈Y,KI Z t:=λt W=>by
   obtain⟨a1,a2,a3⟩:=hS t W;exact⟨I _ _ a1 (p a1 λ_ y=>by cases y),I _ _ a2 (p a2 λ_ y=>by cases y),a3⟩
  refine⟨l,f,[c],_,λj=>Yj A B ns.length L m ((Y.map λt=>t.2.2.2).getD j 0),λC=>IS T.aa C x c ns A B L/\C l=some (.lst (Y.map λt=>V.ref t.1))/\(∀t∈Y,KI C t)/\O9 C T.ab C9/\C f=Z f/\C cc=Z cc,rfl,rfl,by simpa using hne,⟨M2,hl2,S2,T2,rfl,rfl⟩,λC g=>IV.of g.2.1,?K,λC k' g=>?R⟩
  case R =>
   have:=q C (λb o e n=>k' b o (I b o e λz=>n (by rw[z];exact .tail _ (.head _))) λz=>n (by rw[AG.mp z];exact .head _)) g.1 g.2.2.2.1 g.2.2.1;unfold Cb at this;rw[AB]at this⊢;exact this
  case K =>
   intro O S kin;obtain⟨fd,ps,sp,M,J,h3⟩:=zBg (P:=P) (w:=w) (K:=K) (mg:=mg) (base:=O) (k:=4) (fr:=["marks","held"]) (gs:=[.ref x,.int (m:Int)]) (g:=λv C Q'=>∃ad:Nat,(∃t:A3,v = .ref t/\∃hd:A3,C t=some (.tup [.ref hd,.int (ad:Int)]))/\Tn T.aa [.ref x,.int (m:Int),.int (ad:Int)] C Q' E0) G D ⟨rfl,rfl,rfl,rfl,by decide +kernel,by decide +kernel,by decide +kernel,by decide +kernel,by decide +kernel⟩ (S.clos (by decide +kernel) (by decide +kernel) (by show ∀x∈_,(B7 LJ).names.lookup x=some NameKind.cell;decide +kernel) rfl λi x v M J=>by
    match i,M,J with
    | 0,M,J=>cases M;cases J;exact⟨0,rfl,rfl⟩
    | 1,M,J=>cases M;cases J;exact⟨1,rfl,rfl⟩
    | n+2,M,_=>cases M) (Binds.all λus hl=>by match us,hl with | [_],_=>rfl) (λA N s H u Q hr h=>by
    obtain⟨ad,⟨t,rfl,hd,et⟩,h⟩:=h;refine⟨_,D4 T.a7 (Ft T) (Rm hr) (A8 (pv 1) (A8 (pv 2) (A8 (E1 (QD K) (pv 0) B5 (λ_ _=>rfl)) B1))),?_⟩;exact A6 rfl (A6 rfl (A6 rfl ⟨t,_,B8 rfl rfl ⟨JL.of et,rfl,h⟩⟩)))
   .refine⟨fd,ps,sp,M,J,λj v C ev g=>h3 v C _ g.2.2.2.2.1 g.2.2.2.2.2 ?_⟩;rw[AI]at ev;obtain⟨t,W,rfl⟩:=BC.mp ev;obtain⟨U,gl,gS,gT,gf,gc⟩:=g;refine⟨t.2.2.2,⟨t.1,rfl,t.2.1,(gS t (AM W)).1⟩,x,c,ns,A,B,L,m,t.2.2.2,rfl,U,λa H3 ha X M3 e3=>⟨a,rfl,λz=>?_,X,⟨M3,OB X gl (j7 U gl),λt W=>(gS t W).sm U X,Hj gT U X,?_,?_⟩,JL.of ?_⟩⟩
    .rw[AG.mp z]at ha;exact X3 U ha
    .exact(OB X (gf.trans G) (Y1 U (gf.trans G) (λ_ y=>by cases y) λ_ _ y=>by cases y)).trans G.symm
    .exact(OB X (gc.trans D) (Y1 U (gc.trans D) (λ_ y=>by cases y) λ_ _ y=>by cases y)).trans D.symm
    .have:(Y.map λt=>t.2.2.2).getD j 0=t.2.2.2:=by rw[AU,AI,W];rfl
     rw[e3];dsimp only;rw[this]
def Yp(l:A1 Nat):((l.map λk=>((2^k:Nat):Int)).sum) =(((l.map λk=>2^k).sum:Nat):Int):=by
 induction l with
 | nil=>rfl
 | cons k l a=>rw[AZ,HQ,AZ,HQ,a];lia
def Bx{ns:A1 Str}{y:Str}(h:y∈ns):ns[ns.idxOf y]?=some y:=by
 have l:=HR.mpr h;rw[AC l,List.getElem_idxOf l]
theorem Bu:IR ["self","some"] ["self","some"] (B7 NK):=KZ
def Oz(K:VN)(C:A3):Sp:=λf H Q _=>∃(x c a:A3) (d:A1 Str) (A B:A1 Nat) (L:Nat) (b:A1 Str),f = [.ref x,.ref a]/\IS C H x c d A B L/\VG K H a (b.map V.str)/\(∀y∈b,y∈d)/\b.Nodup/\b.length<=100/\∀(m:Nat) e,F1 H e->J_ d.length m->(∀(j:Nat) y,d[j]?=some y->(m.testBit j=true↔y∈b))->Q (.int (m:Int)) e
theorem Be(T:Tx K mg):IZ P w K mg base JK 1 T.aJ.f T.aJ.fd ["self","some"] (Oz K T.aa):=by
 refine T.aJ.F.o1 Bu λcdv A U s H vs Q E hr h=>?_
 .obtain⟨x,c,a,v,A,B,L,C,rfl,t,ha,sub,nd,W,q⟩:=h;have hu:=b9 hr;refine⟨_,(B4 (C0 (E5 (Nl K) T.bs Iy (A8 (S7 (N':=["name","self"]) (cap:=[none,some 0]) (cl:=[("self",_)]) (O7 ⟨⟨rfl,rfl,rfl,rfl⟩,trivial⟩ ⟨rfl,trivial⟩) rfl (piS K (pv 1)) (λ_ _ _ _=>by exact⟨(NC 0),G7,(O1 hu (OS K (pv 1)) (pv 0) (λ_ _=>rfl))⟩)) B1)))),?_⟩;obtain⟨dx,a',b,d,kb,e1,e2,e3,e4,e5,e6,n1,n2⟩:=t.ex;have I:∀{J:It} (X:St->Hp->Prop),L_ J (C.map V.str) a H->∀D,H D=none->(∀σ' G (m:Nat) (i:A1 Int),F1 H G->G D=some (.lst (i.map V.int))->i.sum =(m:Int)->J_ v.length m->(∀(j:Nat) y,v[j]?=some y->(m.testBit j=true↔y∈C))->X σ' G) ->
    Ig (V1 0) Aq (Af D (Wx (zHj K (Sc 1) ("bit_of":Str)) (Sc 0))) J [none,some (.ref x)] (IT H D (.lst [])) X:=by
   intro J X Y D l hQ;refine Ph (r:=V.str) (λy=>E9 (2^v.idxOf y)) Y (λ_=>true) (VR W (by decide)) l (λy g G u M t=>t G λb o e=>e) (λy g G u M t=>?_) λσ' G u O=>?_
   .have rb:Rd G b (.dK kb):=e3.imp (u _ _) λ⟨o,e⟩=>⟨o,u _ _ e⟩;exact A6 rfl ⟨x,T.aa,dx,_,A6 rfl ⟨u _ _ e1,T.ac,T.ba,rfl,A6 rfl ⟨b,_,rfl,.inl ⟨kb,.inr y,rb,rfl,(e4 _ y (Bx (sub y g))).symm⟩,t⟩⟩⟩
   rw[EZ.mpr λ_ _=>rfl]at O;have O:G D=some (.lst (((C.map λy=>v.idxOf y).map λk=>((2^k:Nat):Int)).map V.int)):=by rw[O,BV,BV];rfl
   have Z:(C.map λy=>v.idxOf y).Nodup:=by
    refine CG.mpr (nd.imp_of_mem fun{y z} g R n e=>n ?_);have h1:=Bx (sub y g);rw[e,Bx (sub z R)]at h1;exact(BJ h1).symm
   have hb:=Cf Z;refine hQ σ' G _ _ u O (Yp _) (λj S=>?_) λj y S=>?_
   .obtain⟨y,g,e⟩:=AJ.mp ((hb j).mp S);rw[<-e];exact HR.mpr (sub y g)
   .rw[hb,AJ];constructor
    .rintro⟨z,R,e⟩;have:=Bx (sub z R);rw[e,S]at this;rw[BJ this];exact R
    .intro g;exact⟨y,g,(List.getElem?_inj (HR.mpr (sub y g)) t.nd).mp ((Bx (sub y g)).trans S.symm)⟩
  have N:∀{J:It},L_ J (C.map V.str) a H->∀D,H D=none->Ig (V1 0) Aq (Af D (Wx (zHj K (Sc 1) ("bit_of":Str)) (Sc 0))) J [none,some (.ref x)] (IT H D (.lst [])) λ_ G=>∃(p:A3) (i:A1 Int),[V.ref D] = [.ref p]/\IV K G p (i.map V.int)/\Q (.int i.sum) G:=λY D l=>I _ Y D l λσ' G m i s e es lo b=>⟨D,i,rfl,IV.of e,by rw[es];exact q m G s lo b⟩;exact A6 rfl ⟨a,rfl,ha.elim (λh=>.inl ⟨⟨_,h⟩,λD l=>N (ON h) D l⟩) λh=>.inr ⟨⟨_,h⟩,λD l=>N (asT h) D l⟩⟩
def zAc(x y:Nat):decide (V.int (Builtin.bitAnd (x:Int) (y:Int))=V.int (x:Int))=true↔Sub x y:=by
 rw[BI,Pw];constructor
 .intro e j a;have e:x &&& y=x:=by have:=V.int.inj e;lia
  rw[<-e,CF,BL]at a;exact a.2
 .intro h;have e:x &&& y=x:=BP λj=>by
   rw[CF,BU,BL];exact⟨(·.1),λz=>⟨z,h j z⟩⟩
  rw[e]
def Ec{H:Hp}{p a:A3}{o:HO}{ls:A1 (Pos×Str)}(h:O9 H p ls)(e:H a=some o)(n:∀u,o≠ .tbl u):a≠p:=λy=>by
 obtain⟨c,b,_⟩:=h;rw[y,b]at e;cases e;exact n _ rfl
def Yb{n M u:Nat}(h:∀j,u.testBit j=true↔(2^n-1).testBit j=true/\¬M.testBit j=true):u=i7 n λj=>¬M.testBit j=true :=
 BP λj=>BU.mpr (by rw[h,K8,Q2])
def Wp{n m i M:Nat}{Ms:A1 Nat}(h:Ms[i]?=some M):Ku n (Ms.take (i+1)) m=Ku n (Ms.take i) m++if pB (Sub m M)=true then [([.inr "beyond",.inl (i:Int)],i7 n λj=>¬M.testBit j=true)]else []:=by
 have a:=(AE.mp h).1;unfold Ku;rw[JE h,List.zipIdx_append,D_,AR];congr 1;have e:(Ms.take i).length=i:=by rw[AS];lia
 rw[e,EJ];show(List.filter _ [(M,i)]).map _=_;by_cases c:pB (Sub m M)=true
 .rw[AQ c,List.filter_cons_of_pos (by exact c)];rfl
 .rw[AN c,List.filter_cons_of_neg (by exact c)];rfl
theorem zBc{n m:Nat}{Ms:A1 Nat}:(Ku n Ms m).length<=Ms.length:=by
 unfold Ku;rw[AB];exact VR (CB ..) (by rw[List.length_zipIdx];exact VQ _)
theorem Fb:IR ["marks","sets","held"] ["marks","sets","held"] (B7 OI):=KZ
def Dv(C:A3):Sp:=λg H Q _=>∃(x c a:A3) (e:A1 Str) (A B b:A1 Nat) (L m:Nat),g = [.ref x,.ref a,.int (m:Int)]/\IS C H x c e A B L/\H a=some (.lst (b.map E9))/\(∀M∈b,J_ e.length M)/\b.length<=300 /\
 ∀l (f:A1 SQ) d,H l=none->F1 H d->d l=some (.lst (f.map λt=>V.ref t.1))->(∀t∈f,KI d t)->(f.map λt=>t.2.2)=Ku e.length b m->Q (.ref l) d
theorem Ei(T:Tx K mg):IZ P w K mg base JK 1 T.aR.f T.aR.fd ["marks","sets","held"] (Dv T.aa):=by
 refine T.aR.F.o1 Fb λcdv A outer s H vs Q E hr h=>?_
 .obtain⟨x,c,a,S,A,B,Ms,L,m,rfl,hM,J,hMs,len,q⟩:=h;have hu:=b9 hr;refine⟨_,(B4 (C0 (S7 (N':=["at","some","marks","held"]) (cap:=[none,none,some 0,some 2]) (cl:=[("marks",_),("held",_)]) (O7 ⟨⟨rfl,rfl,rfl,rfl⟩,⟨⟨rfl,rfl,rfl,rfl⟩,trivial⟩⟩ ⟨rfl,⟨rfl,trivial⟩⟩) rfl (UP K T.aI (A8 (pv 1) B1)) (λ_ _ _ _=>by exact⟨(QY K (n:=2) (C6 (NC 0) (C6 (NC 1) M7))),(V9 (C7 P5 (C4 M8 (pv 3) (pv 1)) (pv 3) (D8 _))),(J8 (A8 (J8 (A8 Q4 (A8 (pv 0) B1))) (A8 (C4 Dr (OS K (pv 2)) (pv 1)) B1)))⟩)))),?_⟩;refine A6 rfl ⟨a,_,rfl,IV.of J,λD U=>?_⟩;have eD:(IT H D (.lst [])) a=some (.lst (Ms.map E9)):=F1.new U _ _ J;refine n9 (n:=Ms.length) (λi σ G=>(∃v0 v1,σ = [v0,v1,some (.ref x),some (.int (m:Int))])/\F1 H G/\∃g:A1 SQ,G D=some (.lst (g.map λt=>V.ref t.1))/\(∀t∈g,t.1≠D/\t.2.1≠D/\KI G t)/\(g.map λt=>t.2.2)=Ku S.length (Ms.take i) m) ⟨⟨_,_,rfl⟩,F1.new U,[],A9,λt h=>absurd h BB,rfl⟩ ?_ ?_ ?_ ?_
  .rintro i σ C W ⟨_,l,_⟩;exact⟨_,_,IV.of (l _ _ J),by rw[AI,AC W];rfl⟩
  .rintro σ C ⟨_,l,_⟩;exact⟨_,IV.of (l _ _ J),by rw[AB]⟩
  .rintro i σ C x' H' N W ⟨⟨v0,v1,rfl⟩,l,g,r,M,I⟩ ⟨t,y,rfl,k,rfl,X⟩ hN;have X:=X _ (IV.of (l _ _ J));have O:Ms[i]?=some Ms[i]:=AC W;rw[AI,O]at X;cases X;refine⟨t,A6 rfl ⟨JL.of A9,rfl,_,A6 rfl (B8 rfl rfl ?_)⟩⟩;have ut:=F1.new (o:=.tup [.int (i:Int),E9 Ms[i]]) k;have Y:=l.trans ut;have e:=ut _ _ r;have v:∀t∈g,t.1≠D/\t.2.1≠D/\KI (IT C _ _) t:=λt k=>⟨(M t k).1,(M t k).2.1,(M t k).2.2.same ut⟩;generalize IT C t (.tup [.int (i:Int),E9 Ms[i]])=H2 at Y e v⊢;have Z:=Wp (n:=S.length) (m:=m) O;refine A6 rfl (A6 rfl (B8 rfl rfl (A6 rfl ⟨rfl,_,rfl,?_⟩)));rw[show decide (V.int (Builtin.bitAnd (m:Int) (Ms[i]:Int))=V.int (m:Int))=pB (Sub m Ms[i])from Wr (zAc m Ms[i])];refine V0 (λc=>?_) λc=>?_;rotate_left
   .rw[AN c,CD]at Z;exact hN _ _ ⟨⟨_,_,rfl⟩,Y,g,e,v,by rw[Z];exact I⟩
   rw[AQ c]at Z;have M2:=hM.same Y;obtain⟨dx,a',b,d,kb,e1,_⟩:=M2.ex;obtain⟨u,eu,hu2⟩:=UI (2^S.length-1) Ms[i] λj hj=>(K8 _ _).mpr (hMs _ (GM W) j hj);have eu2:=Yb hu2;refine A6 rfl ⟨by show 2<=sizeLine;decide,λh hh=>?_⟩;have uh:=F1.new (o:=.tup [.str "beyond",.int (i:Int)]) hh;refine A6 rfl ⟨x,T.aa,dx,_,A6 rfl ⟨uh _ _ e1,T.ac,T.aC,rfl,A6 rfl (B8 rfl rfl ?_)⟩⟩;dsimp only;rw[eu];refine⟨by show 2<=sizeLine;decide,λp hp=>?_⟩;have up:=F1.new (o:=.tup [.ref h,.int (u:Int)]) hp;have R:=uh.trans up;have nh:h≠D:=(B2 e hh).symm;have np:p≠D:=(B2 (uh _ _ e) hp).symm;have lts:g.length<=300:=by
    have h1:=congrArg List.length I;rw[AB]at h1;have h2:=zBc (n:=S.length) (Ms:=Ms.take i) (m:=m);rw[AS]at h2;lia
   refine⟨_,R _ _ e,by rw[AB,sizeLine_eq];lia,hN _ _ ⟨⟨_,_,rfl⟩,(Y.trans R).upd U,g ++ [(p,h,[.inr "beyond",.inl (i:Int)],u)],by rw[A9,AR];rfl,λt k=>?_,?_⟩⟩
   .rcases A_.mp k with z | z
    .obtain⟨n1,n2,sp⟩:=v t z;exact⟨n1,n2,(sp.same R).upd (R _ _ e)⟩
    .rw[AG.mp z];exact⟨np,nh,KI.upd ⟨A9,up _ _ A9,List.cons_ne_nil _ _,by show 2<=5;decide⟩ (R _ _ e)⟩
   .rw[AR,Z,I,eu2];rfl
  .rintro σ C ⟨_,l,g,r,M,I⟩;rw[CA]at I;exact q D g C U l r (λt k=>(M t k).2.2) I
def zFa{ns:A1 Str}{A B:A1 Nat}{m z:Nat}(h:∀j,z.testBit j=true↔(j<ns.length/\¬Y8 B m j)/\j<ns.length/\¬m.testBit j=true):Qo ns A B m =(E3 z ns.length).map λj=>(([.inr "cover",.inr (U0 ns (2^j))],2^j ||| A.getD j 0):Hd):=by
 unfold Qo E3;congr 1;refine List.filter_congr λj a=>?_;rw[BU,KW,h];have:=BT.mp a;exact⟨λy=>⟨⟨this,y.1⟩,this,y.2⟩,λy=>⟨y.1.2,y.2.2⟩⟩
theorem OE:IR ["marks","held","uncovered"] ["marks","held"] (B7 PN):=KZ
def Tk(C:A3):Sp:=λe H Q _=>∃(x c:A3) (b:A1 Str) (A B:A1 Nat) (L m:Nat),e = [.ref x,.int (m:Int)]/\IS C H x c b A B L/\J_ b.length m /\
 ∀l (d:A1 SQ) a,H l=none->Sm [c] H a->IS C a x c b A B L->a l=some (.lst (d.map λt=>V.ref t.1))->(∀t∈d,KI a t)->(d.map λt=>t.2.2)=Qo b A B m->Q (.ref l) a
set_option maxHeartbeats 2000000 in
theorem Gi(T:Tx K mg):IZ P w K mg base JK 4 T.bb.f T.bb.fd ["marks","held"] (Tk T.aa):=by
 refine T.bb.F.o1 OE λcdv A outer s H vs Q E hr h=>?_
 .obtain⟨x,c,g,A,B,L,m,rfl,hM,hm,q⟩:=h;refine⟨_,(B3 (D6 (i:=2) OE.nd rfl (.inl rfl) (C4 M8 (E6 (pv 0) T.ac T.ai.m (O3 T) (Rm hr) T.ai.b .nil M5 (A8 (pv 1) B1)) (C4 Dr (OS K (pv 0)) (pv 1))))
   (B4 (C0 (S7 (N':=["bit","marks"]) (cap:=[none,some 0]) (cl:=[("marks",_)]) (O7 ⟨⟨rfl,rfl,rfl,rfl⟩,trivial⟩ ⟨rfl,trivial⟩) rfl (OL K (E6 (pv 0) T.ac T.ad.m (G8 T) (Rm hr) T.ad.b .nil M5 (A8 (pv 2) B1))) (λ_ _ _ _=>by exact⟨(NC 0),G7,(J8 (A8 (J8 (A8 Q4 (A8 (E6 (pv 1) T.ac T.ak.m (O8 T) (Rm hr) T.ak.b .nil M5 (A8 (pv 0) B1)) B1))) (A8 (C4 R9 (pv 0) (E6 (pv 1) T.ac T.ag.m (K0 T) (Rm hr) T.ag.b .nil M5 (A8 (pv 0) B1))) B1)))⟩))))),?_⟩
  refine B9 λN1 hN1=>?_;obtain⟨I,a,b,d,kb,J,_⟩:=hM.ex;refine A6 rfl ⟨x,I,A6 rfl ⟨J,rfl,A6 rfl ⟨x,c,g,A,B,L,m,rfl,hM,λr1 H1 k1 M1 hr1=>?_⟩⟩⟩;obtain⟨I,a,b,d,kb,J,_⟩:=M1.ex;obtain⟨u,eu,hu2⟩:=UI (2^g.length-1) m λj hj=>(K8 _ _).mpr (hm j hj);refine A6 rfl ⟨x,T.aa,I,_,A6 rfl ⟨J,T.ac,T.aC,rfl,A6 rfl (B8 rfl rfl (B8 rfl rfl ?_))⟩⟩;dsimp only;rw[eu,Pw];refine hN1 _ _ (A6 rfl ?_);have ec:Qo g A B m=_:=zFa (z:=r1 &&& u) λj=>by rw[CF,BL,hr1,hu2,K8]
  generalize r1 &&& u=z at ec⊢;refine⟨x,I,A6 rfl ⟨J,rfl,A6 rfl ⟨x,c,g,A,B,L,z,rfl,M1,λD H4 hD k4 W U=>?_⟩⟩⟩;have X:Sm [c] H H4:=k1.trans k4;have nDc:=j7 W U;refine⟨D,rfl,⟨_,IV.of U⟩,λl M=>?_⟩;have R:l≠c:=λy=>X3 W (y▸M);have nDl:D≠l:=B2 U M;have ul:=F1.new (o:=.lst []) M;have Me:IS T.aa (Sw.er (IT H4 l (.lst [])) l) x c g A B L:=by
   rw[Mh];exact W.same λb o e=>by rw[Jp (B2 e M)];exact e
  refine W0 (ON (IV.of U)) (λi σ G=>(∃v,σ = [v,some (.ref x)])/\Sm [c] H4 G/\IS T.aa (Sw.er G l) x c g A B L/\IS T.aa G x c g A B L/\∃C:A1 SQ,G l=some (.lst (C.map λt=>V.ref t.1))/\(∀t∈C,KI G t)/\(C.map λt=>t.2.2) =((E3 z g.length).take i).map λj=>(([.inr "cover",.inr (U0 g (2^j))],2^j ||| A.getD j 0):Hd)) ⟨⟨_,rfl⟩,ul.sm,Me,W.same ul,[],A9,λt Y=>absurd Y BB,rfl⟩ (λi σ G _ h o e=>by rw[U]at e;cases e;exact h.2.1 _ _ U (by simp[nDc])) ?_ ?_
  .rintro i σ G y N hy ⟨⟨v,rfl⟩,kG,Z,MG,C,eG,aG,mG⟩ hN;rw[AI]at hy;obtain⟨j,hj,rfl⟩:=BC.mp hy;have hjn:=(JS.mp (AM hj)).1;have lts:C.length<=100:=by
    have h1:=congrArg List.length mG;rw[AB,AB,AS]at h1;have h2:=P4 z g.length;have:=hM.len;lia
   refine Eg ?_;obtain⟨I,a,b,d,kb,J,_⟩:=MG.ex;refine A6 rfl ⟨x,I,A6 rfl ⟨J,rfl,A6 rfl ⟨x,c,g,A,B,L,2^j,j,rfl,MG,hjn,DX,λG3 sg3=>?_⟩⟩⟩;refine⟨by show 2<=sizeLine;decide,λh hh=>?_⟩;have uh:=F1.new (o:=.tup [.str "cover",.str (U0 g (2^j))]) hh;have eh:(IT G3 h (.tup [.str "cover",.str (U0 g (2^j))])) h=some (.tup (([.inr "cover",.inr (U0 g (2^j))]:A1 JH).map kV)):=A9;have k:=sg3.trans uh;generalize IT G3 h (.tup [.str "cover",.str (U0 g (2^j))])=G4 at k eh⊢;have p:=MG.same k;have MeG4:=Z.er (k.sm (D:=[c])) p R;have aG4:∀t∈C,KI G4 t:=λt Y=>(aG t Y).same k;have eG4:=k _ _ eG;obtain⟨I,a,b,d,kb,J,_⟩:=p.ex;refine A6 rfl (A6 rfl ⟨x,I,A6 rfl ⟨J,rfl,A6 rfl ⟨x,c,g,A,B,L,2^j,rfl,p,λr4 G5 kg5 MG5 hr4=>?_⟩⟩⟩);have er4:r4=A.getD j 0:=BP λi=>BU.mpr ((hr4 i).trans Sx);subst er4;refine B8 rfl rfl ?_;dsimp only;rw[PV];refine⟨by show 2<=sizeLine;decide,λt Y=>?_⟩;have ut:=F1.new (o:=.tup [.ref h,.int ((2^j ||| A.getD j 0:Nat):Int)]) Y;have st:KI (IT G5 t (.tup [.ref h,.int ((2^j ||| A.getD j 0:Nat):Int)])) (t,h,[.inr "cover",.inr (U0 g (2^j))],2^j ||| A.getD j 0):=⟨A9,ut _ _ (OB kg5 eh (Y0 p eh)),List.cons_ne_nil _ _,by show 2<=5;decide⟩;have r:Sm [c] G4 (IT G5 t (.tup [.ref h,.int ((2^j ||| A.getD j 0:Nat):Int)])):=kg5.trans ut.sm;have MG6:=MG5.same ut;generalize IT G5 t (.tup [.ref h,.int ((2^j ||| A.getD j 0:Nat):Int)])=G6 at ut st r MG6⊢;have S:=OB r eG4 R;have MeG6:=MeG4.er r MG6 R;have O:IS T.aa (Sw.er (L2.IT G6 l (.lst ((C.map λt=>V.ref t.1) ++ [.ref t]))) l) x c g A B L:=by rw[Mh];exact MeG6
   refine⟨_,S,by rw[AB,sizeLine_eq];lia,hN _ _ ⟨⟨_,rfl⟩,λb o e n=>?_,O,O.same (X5 _ _),C ++ [(t,h,[.inr "cover",.inr (U0 g (2^j))],2^j ||| A.getD j 0)],by rw[A9,AR];rfl,λt' ht'=>?_,?_⟩⟩
   .rw[B6 (B2 e M)];exact(kG.trans (k.sm.trans r)) b o e n
   .rcases A_.mp ht' with z | z
    .exact((aG4 t' z).sm p r).upd S
    .rw[AG.mp z];exact st.upd S
   .rw[AR,mG,JE hj,AR];rfl
  .rintro σ G ⟨_,kG,Z,MG,C,eG,aG,mG⟩;rw[AB,CA]at mG;exact q l C G (X.none (λy=>by rw[AG.mp y]at M;exact X3 W M) M) (X.trans kG) MG eG aG (mG.trans ec.symm)
def o0(C:A3)(F:RQ):Sp:=λg H Q _=>∃(x c a:A3) (b:A1 Str) (A B e:A1 Nat) (L m:Nat),g = [.ref x,.ref a,.int (m:Int)]/\IS C H x c b A B L/\H a=some (.lst (e.map E9))/\(∀M∈e,J_ b.length M)/\e.length<=300/\J_ b.length m /\
 ∀l (f:A1 SQ) d,H l=none->Sm [c] H d->IS C d x c b A B L->d l=some (.lst (f.map λt=>V.ref t.1))->(∀t∈f,KI d t)->(f.map λt=>t.2.2)=F b A B e m->Q (.ref l) d
theorem o8:IR ["marks","sets","held"] ["marks","sets","held"] (B7 LW):=KZ
theorem l7(T:Tx K mg):IZ P w K mg base JK 5 T.ar.f T.ar.fd ["marks","sets","held"] (o0 T.aa u7):=by
 have b:IZ P w K mg base JK 4 T.aR.f T.aR.fd ["marks","sets","held"] (Dv T.aa):=(Ei T).mono (by decide);refine T.ar.F.o1 o8 λM A j s H vs Q E k h=>?_
 .obtain⟨x,c,a,C,A,B,N,L,m,rfl,D,G,n,o,O,q⟩:=h;have hu:=b9 k;refine⟨_,(B4 (C0 (zGn (D4 T.bb (Gi T) (Rm k) (A8 (pv 0) (A8 (pv 2) B1))) (W3 (D4 T.aR b (Rm k) (A8 (pv 0) (A8 (pv 1) (A8 (pv 2) B1)))))))),?_⟩;refine A6 rfl (A6 rfl ⟨x,c,C,A,B,L,m,rfl,D,O,λl R S U e g I V i=>?_⟩);refine⟨_,.inl ⟨_,IV.of I,rfl⟩,?_⟩;cases R with
  | cons W p =>
   refine V0 (λ_=>?_) λz=>absurd rfl z;refine q l (W::p) S U e g I V ?_;rw[i];exact(AN λz=>by rw[z]at i;cases i).symm
  | nil =>
   refine V0 (λz=>absurd z (by simp)) λ_=>?_;have r:=OB e G (j7 D G);refine A6 rfl (A6 rfl (A6 rfl ⟨x,c,a,C,A,B,N,L,m,rfl,g,r,n,o,λX t Y d J Z u v=>?_⟩));refine q X t Y (e.none (λy=>by rw[AG.mp y]at d;exact X3 g d) d) (e.trans J.sm) (g.same J) Z u ?_;rw[v];exact(AQ i.symm).symm
def zLe{n:Nat}{Ms:A1 Nat}(a:Ms.Nodup)(h:∀m∈Ms,J_ n m):Ms.length<=2^n:=by
 classical
 have b:Ms.Perm ((List.range (2^n)).filter λm=>decide (m∈Ms)):=(FV a (DP.nodup GN)).mpr λm=>by
  rw[BE,BT,BI];exact⟨λz=>⟨(h m z).lt,z⟩,(·.2)⟩
 rw[b.length_eq];exact VR (CB _ _) (by rw[CU];exact VQ _)
structure Kn(kvs:A1 (JH×V))(n:Nat)(b:Nat->Prop)(W:Nat->A3->Prop):Prop where
 ks:∃ms:A1 Nat,(kvs.map λq=>q.1)=ms.map (λk:Nat=>(.inl (k:Int):JH))/\ms.Nodup/\∀k∈ms,J_ n k
 vs:∀(k:Nat) v,U5 kvs (.inl (k:Int))=some v->(v = .non/\b k)\/∃r,v = .ref r/\W k r
def Kn.imp{a:A1 (JH×V)}{n:Nat}{b:Nat->Prop}{W c:Nat->A3->Prop}(h:Kn a n b W)(k:∀j r,W j r->c j r):Kn a n b c:=⟨h.ks,λj v e=>(h.vs j v e).imp id λ⟨r,e,w⟩=>⟨r,e,k _ _ w⟩⟩
def Kn.len{a:A1 (JH×V)}{n:Nat}{b:Nat->Prop}{W:Nat->A3->Prop}(h:Kn a n b W):a.length<=2^n:=by
 obtain⟨d,e,c,lo⟩:=h.ks;have:=congrArg List.length e;rw[AB,AB]at this;rw[this];exact zLe c lo
def Kn.put{d:A1 (JH×V)}{n k:Nat}{b g:Nat->Prop}{W:Nat->A3->Prop}{v:V}(h:Kn d n b W)(lo:J_ n k)(w:(v = .non/\g k)\/∃r,v = .ref r/\W k r)(p:∀j,j≠k->b j->g j):Kn (y0 d (.inl (k:Int)) v) n g W:=by
 refine⟨?_,λj u f=>?_⟩
 .obtain⟨i,e,m,o⟩:=h.ks;unfold y0;by_cases a:(d.any λs=>decide (s.1 =(.inl (k:Int):JH)))=true
  .rw[AQ a];refine⟨i,?_,m,o⟩;rw[BV,<-e];refine GJ λq _=>?_;show(if q.1 =(.inl (k:Int):JH)then(q.1,v)else q).1=q.1;split<;>rfl
  .rw[AN a];refine⟨i ++ [k],by rw[AR,e,AR];rfl,EF.mpr ⟨m,EQ _ _,λx t y A z=>a ?_⟩,λj f=>?_⟩
   .rw[AG.mp A]at z;subst z;have:(.inl (x:Int):JH)∈d.map λq=>q.1:=e▸AJ.mpr ⟨x,t,rfl⟩;obtain⟨q,B,C⟩:=AJ.mp this;exact IM.mpr ⟨q,B,AX C⟩
   .rcases A_.mp f with z | z
    .exact o j z
    .rw[AG.mp z];exact lo
 .rw[Au]at f;by_cases c:(.inl (j:Int):JH) = .inl (k:Int)
  .rw[AQ c]at f;cases f;have:j=k:=by
    have:=Sum.inl.inj c;lia
   rw[this];exact w
  .rw[AN c]at f;exact(h.vs j u f).imp (λ⟨z,l⟩=>⟨z,p j (λz=>c (by rw[z])) l⟩) id
def Ot{C:A3}{H H':Hp}{x c:A3}{ns:A1 Str}{A B:A1 Nat}{L:Nat}(h:IS C H x c ns A B L)(k:∀b o,H b=some o->b≠c->(∀u,o≠ .tbl u)->H' b=some o)(r:Rd H' c (.dK (bK A ns.length))):IS C H' x c ns A B L:=by
 obtain⟨⟨m,a,b,d,n,f,g,p,q,j,s,l,i⟩,t,v,w,D⟩:=h;have E:x≠c:=λz=>by
  rw[z]at f;rcases j with e | ⟨o,e⟩<;>rw[f]at e<;>cases e
 have F:a≠c:=λz=>by
  rw[z]at g;rcases j with e | ⟨o,e⟩<;>rw[g]at e<;>cases e
 exact⟨⟨m,a,b,d,n,k _ _ f E (λ_ y=>by cases y),k _ _ g F (λ_ y=>by cases y),p.imp (λe=>k _ _ e i (λ_ y=>by cases y)) (λ⟨o,e⟩=>⟨o,k _ _ e i (λ_ y=>by cases y)⟩),q,r,k _ _ s l (λ_ y=>by cases y),l,i⟩,t,v,w,D⟩
def Fu{C:A3}{H:Hp}{x c:A3}{ns:A1 Str}{A B:A1 Nat}{L:Nat}(h:IS C H x c ns A B L):Rd H c (.dK (bK A ns.length)):=by
 obtain⟨⟨f,a,b,d,g,i,j,k,l,e,_⟩,_⟩:=h;exact e
def Mf{C:A3}{H G:Hp}{x c d p:A3}{ns:A1 Str}{A B:A1 Nat}{L:Nat}{ls:A1 (Pos×Str)}(h:IS C (Sw.er H d) x c ns A B L)(i:O9 H p ls)(k:Sm [c,p,d] H G)(r:Rd G c (.dK (bK A ns.length))):IS C (Sw.er G d) x c ns A B L:=by
 have a:d≠c:=λz=>X3 h (by unfold Sw.er;rw[AQ z.symm]);refine Ot h (λb o e j l=>?_) (by unfold Rd;rw[Jp a.symm];exact r);have f:b≠d:=λz=>by subst z;unfold Sw.er at e;rw[AQ rfl]at e;cases e
 rw[Jp f];have g:=X5 H d b o e;refine k b o g λz=>?_;rcases AK.mp z with z | z
 .exact j z
 rcases AK.mp z with z | z
 .exact Ec i g l z
 .exact f (AG.mp z)
def Mw{G a:Hp}{c p d:A3}{M:A1 (JH×V)}{ls:A1 (Pos×Str)}{f:A1 (JH×V)}(r:Rd G c (.dK M))(t:O9 G p ls)(e:G d=some (.dK f))(k:Sm [c,p,d] G a)(b:A3)(xs:A1 V)(h:G b=some (.tup xs)):a b=some (.tup xs):=k _ _ h λz=>by
 rcases AK.mp z with z | z
 .rw[z]at h;rcases r with e | ⟨o,e⟩<;>rw[h]at e<;>cases e
 rcases AK.mp z with z | z
 .exact Ec t h (λ_ y=>by cases y) z
 .rw[AG.mp z,e]at h;cases h
def U4(ns:A1 Str)(A B:A1 Nat)(L:Nat)(F:Nat->A1 Hd)(H:Hp)(m:Nat)(r:A3):Prop:=JJ ns A B L F H (Y6 ns.length m) m r
def Nq(n m:Nat):∃f,Y6 n m=f+1:=⟨n-(E3 m n).length,by have:=P4 m n;unfold Y6;lia⟩
theorem MP:IR ["marks","splits_at","sets","held","known","head","added","trees"] ["marks","splits_at","sets","held","known"] (B7 QI):=KZ
def Ep(C l f:A3)(F:RQ)(k:Nat):Sp:=λo H Q _=>∃(x c a d:A3) (b:A1 Str) (A B g:A1 Nat) (L m:Nat) (i:A1 (JH×V)) (n R:Nat->Prop),o = [.ref x,.ref f,.ref a,.int (m:Int),.ref d]/\IS C (Sw.er H d) x c b A B L/\J_ b.length m/\b.length<=12/\O9 H l C9/\H a=some (.lst (g.map E9))/\(∀M∈g,J_ b.length M)/\g.length<=300/\H d=some (.dK i)/\(∀j,n j->j<m)/\Kn i b.length n (U4 b A B L (F b A B g) H)/\b.length<k +(E3 m b.length).length/\R m/\zHk b.length A B L (F b A B g) R /\
 ∀(r:A3) (e:A1 (JH×V)) h,Sm [c,l,d] H h->Rd h c (.dK (bK A b.length))->O9 h l C9->h d=some (.dK e)->Kn e b.length n (U4 b A B L (F b A B g) h)->U4 b A B L (F b A B g) h m r->Q (.ref r) h
set_option maxHeartbeats 4000000 in
theorem Nk(T:Tx K mg)(hB:base.BuiltinsAt mg T.ab){n k:Nat}{f:A3}{fd:JC}{S:Sp}{F:RQ}(h1:7<=n)(X:IZ P w K mg base JK n f fd ["marks","sets","held"] (o0 T.aa F))(J:PySem.W.keepIn K (.ref f)=true)(M:Binds K fd ["marks","sets","held"] [])
  (G_tree_at:IZ P w K mg base JK n T.aB.f T.aB.fd ["marks","splits_at","sets","held","known"] S) (hS:∀k',k=k'+1->S=Ep T.aa T.ab f F k') :
  IZ P w K mg base JK (n+1) T.aB.f T.aB.fd ["marks","splits_at","sets","held","known"] (Ep T.aa T.ab f F k):=by
 have G_clash_at:IZ P w K mg base JK n T.a3.f T.a3.fd ["marks","held"] (Ob T.aa):=(Jt T).mono (by lia);have O:IZ P w K mg base JK n T.aQ.f T.aQ.fd ["marks","held","splits"] (Ru T.aa T.ab):=(Gd T hB).mono h1;have C:IZ P w K mg base JK n T.ad.f T.ad.fd ["self","some"] (Ee T.aa):=(G8 T).mono (by lia);refine T.aB.F.o1 MP λcdv A outer s H vs Q E hr h=>?_
 .obtain⟨x,c,a,d,g,A,B,Ms,L,m,kvs,bp,R,rfl,hR,lo,l12,hT,ha,hMs,lenM,hd,hbp,hK,hk,hRm,gr,q⟩:=h;have hu:=b9 hr;refine⟨_,(B3 (G9 (zGz (Vs hu (pv 3) (pv 4))) (B4 (Up hu (pv 4) (pv 3) (D4 T.a3 G_clash_at (hr.mono (VQ _)) (A8 (pv 0) (A8 (pv 3) B1))) rfl)) C5)
   (B3 (G9 (C7 Yx (O1 hu (pv 4) (pv 3) (λ_ _=>rfl)) Ty (D8 _)) (B3 (Y9 (D4 T.aQ O (hr.mono (VQ _)) (A8 (pv 0) (A8 (pv 3) (A8 (Mg (i:=1) X (hr.mono (VQ _)) J M M5 (A8 (pv 0) (A8 (pv 2) (A8 (pv 3) B1)))) B1)))) (QY K (n:=2) (C6 (D9 (i:=5) MP.nd rfl (.inl rfl)) (C6 (D9 (i:=6) MP.nd rfl (.inl rfl)) M7))))
   (B3 (As (i:=7) (N':=["bit","marks","splits_at","sets","known","held"]) (cap:=[none,some 0,some 1,some 2,some 4,some 3]) (cl:=[("splits_at",_),("sets",_),("marks",_),("known",_),("held",_)]) MP.nd rfl (.inl rfl) (O7 ⟨⟨rfl,rfl,rfl,rfl⟩,⟨⟨rfl,rfl,rfl,rfl⟩,⟨⟨rfl,rfl,rfl,rfl⟩,⟨⟨rfl,rfl,rfl,rfl⟩,⟨⟨rfl,rfl,rfl,rfl⟩,trivial⟩⟩⟩⟩⟩ ⟨rfl,⟨rfl,⟨rfl,⟨rfl,⟨rfl,trivial⟩⟩⟩⟩⟩) rfl (OL K (E6 (pv 0) T.ac T.ad.m C (hr.mono (VQ _)) T.ad.b .nil M5 (A8 (pv 6) B1))) (λ_ _ _ _=>by exact⟨(NC 0),G7,(D4 T.aB G_tree_at (hr.mono (VQ _)) (@A8 _ _ _ _ _ (pv 1) (@A8 _ _ _ _ _ (pv 2) (@A8 _ _ _ _ _ (pv 3) (@A8 _ _ _ _ _ (C4 R9 (pv 5) (pv 0)) (@A8 _ _ _ _ _ (pv 4) B1 (by rfl)) (by rfl)) (by rfl)) (by rfl)) (by rfl)))⟩))
   (B4 (Up hu (pv 4) (pv 3) (C4 (zCo K) (pv 5) (J8 (A8 (Cu (Xu K) T.aW S9 (A8 (pv 7) B1)) B1))) rfl)))) C5)
   (B4 (C0 (O1 hu (pv 4) (pv 3) (λ_ _=>rfl)))))),?_⟩
  obtain⟨k',rfl⟩:∃k',k=k'+1:=⟨k-1,by have:=P4 m g.length;lia⟩;have eS:=hS k' rfl;subst eS;have p12:2^g.length<=2^12:=Nat.pow_le_pow_right (by decide) l12;have hM:=hR.same (X5 H d);have ndc:d≠c:=λz=>X3 hR (by unfold Sw.er;rw[AQ z.symm]);have up:∀{G Y:Hp},Sm [c] G Y->Sm [c,T.ab,d] G Y:=λk b o e n=>k b o e λz=>n (by rw[AG.mp z];exact .head _);have upd_:∀{G:Hp} {o:HO},Sm [c,T.ab,d] G (IT G d o):=fun{G o} b u e n=>by
   rw[B6 λz=>n (by rw[z];exact .tail _ (.tail _ (.head _)))];exact e
  have tabU:∀{G:Hp} {o:HO} {U:A1 (JH×V)},G d=some (.dK U)->O9 G T.ab C9->O9 (IT G d o) T.ab C9:=fun{G o U} e h=>by
   obtain⟨ps,e1,t,h2⟩:=h;exact⟨ps,(B6 (S8 e1 e (by intro y;cases y))).trans e1,t,λl hl=>(h2 l hl).imp id λ⟨cc,e,hc⟩=>⟨cc,e,(B6 (S8 hc (by assumption) (by intro y;cases y))).trans hc⟩⟩
  have rdU:∀{G:Hp} {o:HO},Rd G c (.dK (bK A g.length))->Rd (IT G d o) c (.dK (bK A g.length)):=fun{G o} r=>by unfold Rd;rw[B6 ndc.symm];exact r
  refine B9 λN1 hN1=>?_;have key:∀(G:Hp) (U:A1 (JH×V)) (v:V),Sm [c,T.ab,d] H G->Rd G c (.dK (bK A g.length))->O9 G T.ab C9->G d=some (.dK U)->Kn U g.length (λj=>bp j\/j=m) (U4 g A B L (F g A B Ms) G)->U5 U (.inl (m:Int))=some v->((v = .non/\¬X6 B m)\/∃r,v = .ref r/\U4 g A B L (F g A B Ms) G m r)->N1 [some (.ref x),some (.ref f),some (.ref a),some (.int (m:Int)),some (.ref d),none,none,none] G:=by
   intro G U v kG rG TG ed KG ev hv;refine hN1 _ _ (B9 λN2 hN2=>?_);have get:∀{G:Hp} {U:A1 (JH×V)} {v:V},G d=some (.dK U)->U5 U (.inl (m:Int))=some v->OY G d (.int (m:Int)) (some v):=fun{G U v} e h=>.inl ⟨U,.inl (m:Int),.inl e,rfl,h.symm⟩;have fin:∀(G:Hp) (U:A1 (JH×V)) (r:A3) (v5 v6 v7:A5 V),Sm [c,T.ab,d] H G->Rd G c (.dK (bK A g.length))->O9 G T.ab C9->G d=some (.dK U)->Kn U g.length bp (U4 g A B L (F g A B Ms) G)->U5 U (.inl (m:Int))=some (.ref r)->U4 g A B L (F g A B Ms) G m r->N2 [some (.ref x),some (.ref f),some (.ref a),some (.int (m:Int)),some (.ref d),v5,v6,v7] G:=λG U r v5 v6 v7 kG rG TG ed KG ev tr=>hN2 _ _ (A6 rfl (A6 rfl ⟨d,_,rfl,get ed ev,q r U G kG rG TG ed KG tr⟩));refine A6 rfl (A6 rfl ⟨d,v,rfl,get ed ev,?_⟩);rcases hv with⟨rfl,nc⟩ | ⟨r,rfl,tr⟩;rotate_left
   .refine⟨rfl,_,rfl,V0 (λz=>absurd z (by simp)) λ_=>fin G U r _ _ _ kG rG TG ed ⟨KG.ks,λj u hj=>?_⟩ ev tr⟩;rcases KG.vs j u hj with⟨e,l | rfl⟩ | h
    .exact .inl ⟨e,l⟩
    .rw[ev,e]at hj;cases hj
    .exact .inr h
   refine⟨rfl,_,rfl,V0 (λ_=>?_) λz=>absurd (by simp) z⟩;have MeG:=Mf hR hT kG rG;have MG:=MeG.same (X5 G d);have ne3:∀{b:A3} {I:A1 V},H b=some (.lst I)->b∉[c,T.ab,d]:=fun{b I} e z=>by
    rcases AK.mp z with z | z
    .exact j7 hM e z
    rcases AK.mp z with z | z
    .exact Ec hT e (λ_ y=>by cases y) z
    .rw[AG.mp z,hd]at e;cases e
   have haG:=kG _ _ ha (ne3 ha);obtain⟨fne,gk⟩:=gr m hRm lo nc;refine B9 λN3 hN3=>?_;refine A6 rfl (A6 rfl ⟨rfl,A6 rfl (A6 rfl (A6 rfl ⟨x,c,a,g,A,B,Ms,L,m,rfl,MG,haG,hMs,lenM,lo,λl ts H2 hl k2 M2 el aS mS=>?_⟩))⟩);have T2:=Hj TG MG k2;have hne:ts≠[]:=λz=>fne (by rw[<-mS,z];rfl);refine⟨x,c,l,g,A,B,L,m,ts,rfl,M2,el,hne,aS,T2,λH3 k3 M3 T3 S3=>?_⟩;have hb:=Hl (A:=A) (B:=B) (n:=g.length) (L:=L) (m:=m) (ads:=ts.map λt=>t.2.2.2) (λz=>hne (GK.mp z));rw[AB]at hb;have hb2:=AC hb;generalize hbi:Cb A B g.length L m (ts.map λt=>t.2.2.2)=bi at hb hb2⊢;generalize hti:ts[bi]=t at hb2;have ej:g7 A B g.length L (F g A B Ms) m=t.2.2:=by
    unfold g7;rw[<-mS,BV];show(ts.map λt=>t.2.2).getD (Cb A B g.length L m (ts.map λt=>t.2.2.2)) _=_;rw[hbi,AU,AI,hb2];rfl
   have ev2:(ts.map λt=>V.ref t.1).getD bi .non = .ref t.1:=by rw[AU,AI,hb2];rfl
   rw[ev2];obtain⟨et,eh,lne,lh⟩:=S3 t (AM hb2);refine⟨t.1,_,rfl,JL.of et,rfl,_,_,rfl,_,_,rfl,rfl,?_⟩;refine hN3 _ _ (B9 λN4 hN4=>?_);obtain⟨dx,a',b,d',kb,e1,_⟩:=M3.ex;refine A6 rfl ⟨x,dx,A6 rfl ⟨e1,rfl,A6 rfl ⟨x,c,g,A,B,L,t.2.2.2,rfl,M3,λD H4 hD k4 M4 eD=>?_⟩⟩⟩;have T4:=Hj T3 M3 k4;have up2:∀{G Y:Hp},Sm [c,T.ab] G Y->Sm [c,T.ab,d] G Y:=λk b o e n=>k b o e λz=>n (by
    rcases AK.mp z with z | z
    .rw[z];exact .head _
    .rw[AG.mp z];exact .tail _ (.head _))
   have kG4:Sm [c,T.ab,d] G H4:=((up k2).trans (up2 k3)).trans (up k4);have ed4:H4 d=some (.dK U):=by
    have nd2:d∉[c]:=λz=>ndc (AG.mp z);have ndp:d≠T.ab:=Ec TG ed λ_ y=>by cases y
    exact k4 _ _ (k3 _ _ (k2 _ _ ed nd2) (by simp[ndc,ndp])) nd2
   have rd4:=Fu M4;have nDc:=j7 M4 eD;have nDp:=Ec T4 eD λ_ y=>by cases y
   have nDd:D≠d:=S8 eD ed4 (by intro y;cases y);have eh4:=OB k4 eh (Y0 M3 eh);have nhc:=Y0 M4 eh4;have nhp:=Ec T4 eh4 λ_ y=>by cases y
   have nhd:t.2.1≠d:=S8 eh4 ed4 (by intro y;cases y);refine⟨D,rfl,⟨_,IV.of eD⟩,λZ hZ=>?_⟩;have nZc:c≠Z:=λz=>by
    rcases rd4 with e | ⟨o,e⟩<;>rw[z,hZ]at e<;>cases e
   have nZd:d≠Z:=B2 ed4 hZ;have kH4:Sm [c,T.ab,d] H H4:=kG.trans kG4;have sZ:=F1.new (o:=.lst []) hZ;have lb:(E3 t.2.2.2 g.length).length<=12:=VR (P4 ..) l12;refine W0 (ON (IV.of eD)) (λi σ Y=>(∃v0,σ = [v0,some (.ref x),some (.ref f),some (.ref a),some (.ref d),some (.int (m:Int))])/\Sm [c,T.ab,d] H4 Y/\Rd Y c (.dK (bK A g.length))/\O9 Y T.ab C9/\(∃rs:A1 A3,rs.length=i/\Y Z=some (.lst (rs.map V.ref))/\∀(i' j:Nat) r,(E3 t.2.2.2 g.length)[i']?=some j->rs[i']?=some r->U4 g A B L (F g A B Ms) Y (m ||| 2^j) r)/\∃kv',Y d=some (.dK kv')/\Kn kv' g.length (λj=>bp j\/j=m) (U4 g A B L (F g A B Ms) Y)) ⟨⟨_,rfl⟩,sZ.sm,rd4.imp (sZ _ _) (λ⟨o,e⟩=>⟨o,sZ _ _ e⟩),Hj T4 M4 (sZ.sm (D:=[c])),⟨[],rfl,A9,λi' j r _ h=>by cases h⟩,U,sZ _ _ ed4,KG.imp λj r h=>JJ.keep (λb I e=>sZ _ _ (Mw rG TG ed kG4 b I e)) h⟩ (λi σ Y _ h o e=>by rw[eD]at e;cases e;exact h.2.1 _ _ eD (by simp[nDc,nDp,nDd])) ?_ ?_
   .rintro i σ Y y N hx ⟨⟨v0,rfl⟩,kG',rG',TG',⟨rs,lrs,eZ,tZ⟩,kv',ed',K'⟩ hN;have li:=(AE.mp hx).1;rw[AB]at li;rw[AI]at hx;obtain⟨j,hj,rfl⟩:=BC.mp hx;have mj:=AM hj;obtain⟨hjn,hjb⟩:=JS.mp mj;obtain⟨hjm,hRj⟩:=gk j hjn (by rw[ej];exact hjb);have gt:m<m ||| 2^j:=EK Nat.left_le_or λz=>hjm (by
     have:=(V6 m j j).mpr (.inr rfl);rw[<-z]at this;exact this)
    refine Eg ?_;refine A6 rfl (A6 rfl (A6 rfl (A6 rfl (A6 rfl (B8 rfl rfl ?_)))));dsimp only;rw[PV];have kHG':=kH4.trans kG';refine A6 rfl ⟨x,c,a,d,g,A,B,Ms,L,m ||| 2^j,kv',_,R,rfl,Mf hR hT kHG' rG',lo.or hjn,l12,TG',kHG' _ _ ha (ne3 ha),hMs,lenM,ed',λi hi=>?_,K',by rw[Rw hjm,AQ hjn];lia,hRj,gr,λr kv2 G2 k2' r2 T2' ed2 K2 tr2=>?_⟩
    .rcases hi with h | rfl
     .exact Nat.lt_trans (hbp i h) gt
     .exact gt
    have nZ3:Z∉[c,T.ab,d]:=λz=>by
     rcases AK.mp z with z | z
     .exact nZc z.symm
     rcases AK.mp z with z | z
     .obtain⟨ps,e,_⟩:=T4;rw[<-z,hZ]at e;cases e
     .exact nZd (AG.mp z).symm
    have eZ2:=k2' _ _ eZ nZ3;have kZ:∀b I,G2 b=some (.tup I)->(L2.IT G2 Z (.lst (rs.map V.ref ++ [V.ref r]))) b=some (.tup I):=λb I e=>(B6 (S8 e eZ2 (by intro y;cases y))).trans e;refine⟨_,eZ2,by rw[AB,sizeLine_eq];lia,hN _ _ ⟨⟨_,rfl⟩,λb o e n=>?_,?_,?_,⟨rs ++ [r],by rw[AW,lrs];rfl,by rw[A9,AR];rfl,λi' j' r' h1 h2=>?_⟩,kv2,by rw[B6 nZd];exact ed2,K2.imp λj r h=>JJ.keep kZ h⟩⟩
    .rw[B6 (B2 e hZ)];exact(kG'.trans k2') b o e n
    .unfold Rd;rw[B6 nZc];exact r2
    .obtain⟨ps,e1,tr,h2⟩:=T2';exact⟨ps,(B6 (S8 e1 eZ2 (by intro y;cases y))).trans e1,tr,λl hl=>(h2 l hl).imp id λ⟨cc,e,hc⟩=>⟨cc,e,(B6 (S8 hc eZ2 (by intro y;cases y))).trans hc⟩⟩
    .rcases II i' rs.length with c1 | c1
     .rw[DI c1]at h2;exact JJ.keep (λb I e=>kZ b I (Mw rG' TG' ed' k2' b I e)) (tZ i' j' r' h1 h2)
     .rw[DE c1]at h2;have e0:i' - rs.length=0:=by
       have:=(AE.mp h2).1;simp at this;lia
      rw[e0]at h2;cases h2;have ei:i'=i:=by lia
      rw[ei,hj]at h1;cases h1;exact JJ.keep kZ tr2
   .rintro σ Y ⟨_,kG',rG',TG',⟨rs,lrs,eZ,tZ⟩,kv',ed',K'⟩;rw[AB]at lrs;refine hN4 _ _ ?_;have eh5:=kG' _ _ eh4 (by simp[nhc,nhp,nhd]);refine A6 rfl (A6 rfl ⟨Z,_,rfl,.inl ⟨IV.of eZ,λl2 hl2=>?_⟩⟩);refine⟨by show 1<=sizeLine;decide,λp hp=>?_⟩;have u1:=F1.new (o:=.tup (rs.map V.ref)) hl2;have u2:=F1.new (o:=.tup [.ref l2]) hp;have s12:=u1.trans u2;have eh6:=s12 _ _ eh5;have el2:=u2 _ _ (show(IT Y l2 (.tup (rs.map V.ref))) l2=some (.tup (rs.map V.ref))from A9);have last:∀(G2:Hp) (r:A3),F1 (IT (IT Y l2 (.tup (rs.map V.ref))) p (.tup [.ref l2])) G2->G2 r=some (.tup (t.2.2.1.map kV ++ [.ref l2]))->∃H5,zHl G2 d (.int (m:Int)) (.ref r) H5/\∀v5 v6 v7,N2 [some (.ref x),some (.ref f),some (.ref a),some (.int (m:Int)),some (.ref d),v5,v6,v7] H5:=λG2 r sG2 er=>by
     have sG:=s12.trans sG2;have ed2:=sG _ _ ed';have kd:∀{o:HO} b I,G2 b=some (.tup I)->(L2.IT G2 d o) b=some (.tup I):=fun{o} b I e=>(B6 (S8 e ed2 (by intro y;cases y))).trans e;have trm:∀{o:HO},U4 g A B L (F g A B Ms) (L2.IT G2 d o) m r:=fun{o}=>by
      obtain⟨f,ef⟩:=Nq g.length m;unfold U4;rw[ef];refine .inr ⟨nc,l2,rs,kd _ _ (by rw[er,ej]),kd _ _ (sG2 _ _ el2),by rw[lrs,ej],λi j r' h1 h2=>?_⟩;have h1':=JS.mp (AM h1);have hf:=Xg h1'.1 (gk j h1'.1 h1'.2).1;have h3:=tZ i j r' (by rw[<-ej];exact h1) h2;unfold U4 at h3;rw[show Y6 g.length (m ||| 2^j)=f by lia]at h3;exact h3.keep λb I e=>kd b I (sG _ _ e)
     refine⟨_,.inl ⟨kv',.inl (m:Int),ed2,rfl,by have:=K'.len;rw[sizeLine_eq];lia,rfl⟩,λv5 v6 v7=>?_⟩;refine fin _ _ r v5 v6 v7 ((kH4.trans kG').trans (sG.sm.trans upd_)) (rdU (rG'.imp (sG _ _) λ⟨o,e⟩=>⟨o,sG _ _ e⟩)) (tabU ed2 ?_) A9 ((K'.imp λj r h=>JJ.keep (λb I e=>kd b I (sG _ _ e)) h).put lo (.inr ⟨r,rfl,trm⟩) λj nj hj=>hj.resolve_right nj) (by rw[Au,AQ rfl]) trm;obtain⟨ps,e1,tr,h2⟩:=TG';exact⟨ps,sG _ _ e1,tr,λl hl=>(h2 l hl).imp id λ⟨cc,e,hc⟩=>⟨cc,e,sG _ _ hc⟩⟩
    refine⟨t.2.1,p,_,_,rfl,rfl,JL.of eh6,JL.of A9,List.cons_ne_nil _ _,by rw[AB,sizeLine_eq];show t.2.2.1.length+1<=_;lia,λz=>absurd (GK.mp z) lne,λ_ z hz=>?_⟩
    .obtain⟨H5,hp5,hn⟩:=last _ z (F1.new hz) A9;exact A6 rfl (A6 rfl ⟨d,H5,rfl,hp5,hn _ _ _⟩)
  have kn1:Kn kvs g.length (λj=>bp j\/j=m) (U4 g A B L (F g A B Ms) H):=⟨hK.ks,λj u hj=>(hK.vs j u hj).imp (λh=>⟨h.1,.inl h.2⟩) id⟩;refine A6 rfl (A6 rfl ⟨d,_,rfl,.inl ⟨kvs,.inl (m:Int),.inl hd,rfl,rfl⟩,?_⟩);refine⟨_,rfl,V0 (λz=>?_) λz=>?_⟩
  .have putd:∀(H1:Hp) (v:V),Sm [c] H H1->IS T.aa H1 x c g A B L->((v = .non/\¬X6 B m)\/∃r,v = .ref r/\U4 g A B L (F g A B Ms) H1 m r)->∃H5,zHl H1 d (.int (m:Int)) v H5/\N1 [some (.ref x),some (.ref f),some (.ref a),some (.int (m:Int)),some (.ref d),none,none,none] H5:=λH1 v k1 M1 hv=>by
    have ed1:=OB k1 hd ndc;have kd:∀{o:HO} b I,H1 b=some (.tup I)->(L2.IT H1 d o) b=some (.tup I):=fun{o} b I e=>(B6 (S8 e ed1 (by intro y;cases y))).trans e;have hv2:∀{o:HO},(v = .non/\¬X6 B m)\/∃r,v = .ref r/\U4 g A B L (F g A B Ms) (L2.IT H1 d o) m r:=fun{o}=>hv.imp id λ⟨r,e,h⟩=>⟨r,e,JJ.keep kd h⟩;refine⟨_,.inl ⟨kvs,.inl (m:Int),ed1,rfl,by have:=hK.len;rw[sizeLine_eq];lia,rfl⟩,?_⟩;exact key _ _ v ((up k1).trans upd_) (rdU (Fu M1)) (tabU ed1 (Hj hT hM k1)) A9 ((kn1.imp λj r h=>JJ.keep (λb I e=>kd b I (OB k1 e (Y0 hM e))) h).put lo (hv2.imp (λh=>⟨h.1,.inr rfl⟩) id) λj _ h=>h) (by rw[Au,AQ rfl]) hv2
   refine A6 rfl (A6 rfl ⟨x,c,g,A,B,L,m,rfl,hM,lo,λH1 k1 M1=>⟨λnc=>?_,λa' cl _ et=>?_⟩⟩)
   .obtain⟨H5,hp,hn⟩:=putd H1 .non k1 M1 (.inl ⟨rfl,λ⟨j,h1,h2⟩=>nc j h1 h2⟩);exact A6 rfl (A6 rfl ⟨d,H5,rfl,hp,hn⟩)
   .obtain⟨H5,hp,hn⟩:=putd H1 (.ref a') k1 M1 (.inr ⟨a',rfl,by obtain⟨f,ef⟩:=Nq g.length m;unfold U4;rw[ef];exact .inl ⟨cl,et⟩⟩);exact A6 rfl (A6 rfl ⟨d,H5,rfl,hp,hn⟩)
  .cases hv:U5 kvs (.inl (m:Int))with
   | none =>
    rw[hv]at z;exact absurd rfl z
   | some v =>
    refine key H kvs v (Sm.refl _ _) (Fu hM) hT hd kn1 hv ?_;rcases hK.vs m v hv with⟨_,l⟩ | h
    .exact absurd (hbp m l) (EI _)
    .exact .inr h
theorem Dh(T:Tx K mg)(a:base.BuiltinsAt mg T.ab){f:A3}{d:JC}{F:RQ}(G:IZ P w K mg base JK 7 f d ["marks","sets","held"] (o0 T.aa F))(b:PySem.W.keepIn K (.ref f)=true)(c:Binds K d ["marks","sets","held"] []):∀k,IZ P w K mg base JK (8+k) T.aB.f T.aB.fd ["marks","splits_at","sets","held","known"] (Ep T.aa T.ab f F k)
 | 0=>Nk (n:=7) T a (by decide) G b c (S:=λ_ _ _ _=>False) ⟨λ_ _ _ _ h=>h.elim,λ_ _ _ _ _ _ _ _ _ _ _ _ _ h=>h.elim⟩ λg e=>by lia
 | k+1=>Nk (n:=8+k) T a (by lia) (G.mono (by lia)) b c (Dh T a G b c k) λg e=>by cases e;rfl
def MB.eq{ns:A1 Str}{ks:A1 (Str×Str)}{A a:A1 Nat}(h:MB ns ks A)(h':MB ns ks a):A=a:=GE λi=>by
 have e:A.getD i 0=a.getD i 0:=BP λj=>BU.mpr ((h.bit i j).trans (h'.bit i j).symm);rw[AU,AU]at e;have b:=h.len;have d:=h'.len;by_cases c:i<ns.length
 .rw[AC (by lia),AC (by lia)]at e⊢;exact congrArg some e
 .rw[EG (by lia),EG (by lia)]
def KP(H H':Hp):Prop:=∀b o,H b=some o->(∀a,o≠ .tbl a)->H' b=some o
def KP.of{H H':Hp}{a:A3}{ls:A1 (Pos×Str)}(t:O9 H a ls)(k:Sm [a] H H'):KP H H':=λb o e n=>k b o e λz=>by
 obtain⟨c,d,_⟩:=t;rw[AG.mp z,d]at e;cases e;exact n c rfl
def KP.trans{H H' c:Hp}(a:KP H H')(b:KP H' c):KP H c:=λx o e n=>b x o (a x o e n) n
def KP.same{H H':Hp}(a:F1 H H'):KP H H':=λx o e _=>a x o e
def KP.web{C:A3}{H H':Hp}{x:A3}{ns:A1 Str}{g:A1 KJ}(k:KP H H')(h:K_ C H x ns g):K_ C H' x ns g:=by
 obtain⟨i,j,a,b,c,d,m,o,p,r,s,t,u,w,y,A⟩:=h;exact⟨i,j,a,b,c,d,m,o,k _ _ p (λ_ z=>by cases z),k _ _ r (λ_ z=>by cases z),k _ _ s (λ_ z=>by cases z),λq B=>k _ _ (t q B) (λ_ z=>by cases z),k _ _ u (λ_ z=>by cases z),k _ _ w (λ_ z=>by cases z),λn f=>let⟨l,v,e⟩:=y n f;⟨l,v,k _ _ e (λ_ z=>by cases z)⟩,λn f=>let⟨l,v,e⟩:=A n f;⟨l,v,k _ _ e (λ_ z=>by cases z)⟩⟩
def KP.view{H H':Hp}{p v:A3}{ns:A1 Str}{ks:A1 (Str×Str)}{A B:A1 Nat}(k:KP H H')(h:JT H p v ns ks A B):JT H' p v ns ks A B:=by
 obtain⟨⟨a,b,c,d,e,f,g,i,j,l,m⟩,n,o⟩:=h;exact⟨⟨a,b,c,k _ _ d (λ_ z=>by cases z),k _ _ e (λ_ z=>by cases z),k _ _ f (λ_ z=>by cases z),k _ _ g (λ_ z=>by cases z),i,j,l,m⟩,n,o⟩
def p8{H H':Hp}{a:A3}{ls:A1 (Pos×Str)}(k:F1 H H')(t:O9 H a ls):O9 H' a ls:=by
 obtain⟨b,e,t,h⟩:=t;exact⟨b,k _ _ e,t,λl d=>(h l d).imp id λ⟨c,e,f⟩=>⟨c,e,k _ _ f⟩⟩
def zBe{H:Hp}{d l:A3}{ls:A1 (Pos×Str)}{xs:A1 V}{o:HO}(e:H l=some (.lst xs))(t:O9 H d ls):O9 (IT H l o) d ls:=by
 obtain⟨f,a,t,h⟩:=t;exact⟨f,(B6 (λz=>by rw[z,e]at a;cases a)).trans a,t,λx g=>(h x g).imp id λ⟨c,i,b⟩=>⟨c,i,(B6 (λz=>by rw[z,e]at b;cases b)).trans b⟩⟩
def r9{β:Type}{f:Nat->β}:∀{c:A1 β} {l:A1 Nat},c.Perm (l.map f)->∃l2:A1 Nat,l2.Perm l/\c=l2.map f
 | [],l,h=>⟨[],by rw[GK.mp h.symm.eq_nil],rfl⟩
 | b::r,l,h=>by
  obtain⟨a,g,e⟩:=AJ.mp (h.mem_iff.mp (.head _));have p:=List.perm_cons_erase g;have d:=p.map f;rw[AZ,e]at d;obtain⟨l2,i,j⟩:=r9 (h.trans d).cons_inv;exact⟨a::l2,(i.cons a).trans p.symm,by rw[AZ,e,j]⟩
def SL(ns:A1 Str)(s:A1 Str):Nat:=i7 ns.length λj=>∃y,ns[j]?=some y/\y∈s
def Qu{ns s:A1 Str}{m:Nat}(lo:J_ ns.length m)(h:∀(j:Nat) y,ns[j]?=some y->(m.testBit j=true↔y∈s)):m=SL ns s :=
 No (λj=>⟨λz=>⟨_,AC (lo j z),(h j _ (AC (lo j z))).mp z⟩,λ⟨y,e,a⟩=>(h j y e).mpr a⟩) lo
def Jq{ns:A1 Str}{M:Nat}(b:ns.Nodup)(lo:J_ ns.length M):SL ns (JO ns M)=M :=
 (Qu lo λj y a=>by
  rw[QM];exact⟨λz=>⟨j,z,a⟩,λ⟨k,c,e⟩=>(List.getElem?_inj (AE.mp a).1 b).mp (a.trans e.symm)▸c⟩).symm
theorem NF:IR ["web","splits_at","sets","marks"] ["web","splits_at","sets"] (B7 NT):=KZ
def Gm(i d f:A3)(F:RQ):Sp:=λm H Q _=>∃(h r:A3) (a:A1 Str) (e:A1 KJ) (g:A1 (A3×A1 Str)) (A B b:A1 Nat) (L:Nat) (R:Nat->Prop),m = [.ref h,.ref f,.ref r]/\K_ i H h a e/\a.length<=12/\H r=some (.lst (g.map λt=>V.ref t.1))/\(∀t∈g,H t.1=some (.lst (t.2.map V.str)))/\(g.map λt=>t.2)=b.map (JO a)/\(∀M∈b,J_ a.length M)/\b.length<=300/\O9 H d C9 /\
 MB a ((e.map λq=>q.2).map λk=>(k.2,k.1)) A/\MB a (e.map λq=>q.2) B/\(∀j,L.testBit j=true↔(A.getD j 0).testBit j=true)/\R 0/\zHk a.length A B L (F a A B b) R /\
 ∀l c,Sm [d] H c->O9 c d C9->U4 a A B L (F a A B b) c 0 l->Q (.ref l) c
set_option maxHeartbeats 4000000 in
theorem Cp(T:Tx K mg)(hB:base.BuiltinsAt mg T.ab){f:A3}{fd:JC}{F:RQ}(G:IZ P w K mg base JK 7 f fd ["marks","sets","held"] (o0 T.aa F))(hk:PySem.W.keepIn K (.ref f)=true)(hb:Binds K fd ["marks","sets","held"] []):IZ P w K mg base JK 22 T.aH.f T.aH.fd ["web","splits_at","sets"] (Gm T.ah T.ab f F):=by
 have a:IZ P w K mg base JK 21 T.aB.f T.aB.fd ["marks","splits_at","sets","held","known"] (Ep T.aa T.ab f F 13):=Dh T hB G hk hb 13;refine T.aH.F.o1 NF λcdv A X s H vs Q E Y h=>?_
 .obtain⟨wb,r,g,qs,ts,A0,B0,l,L0,R,rfl,hW,Z,er,at_,eM,p,u,hT,mA0,mB0,hL0,r0,gr,q⟩:=h;refine⟨_,(B3 (D6 (i:=3) NF.nd rfl (.inr rfl) (Jn T.bB (i8 T) (Rm Y) rfl T.bA T.bp .nil M5 (A8 (pv 0) B1)))
   (B4 (C0 (D4 T.aB a (Rm Y) (@A8 _ _ _ _ _ (pv 3) (@A8 _ _ _ _ _ (pv 1) (@A8 _ _ _ _ _ (S7 (N':=["some","marks"]) (cap:=[none,some 3]) (cl:=[("marks",_)]) (O7 ⟨⟨rfl,rfl,rfl,rfl⟩,trivial⟩ ⟨rfl,trivial⟩) rfl (OL K (pv 2)) (λ_ _ _ _=>by exact⟨(NC 0),G7,(E6 (pv 1) T.ac T.aJ.m (Be T) (Rm Y) T.aJ.b .nil M5 (A8 (pv 0) B1))⟩)) (@A8 _ _ _ _ _ B5 (@A8 _ _ _ _ _ Xk B1 (by rfl)) (by rfl)) (by rfl)) (by rfl)) (by rfl)))))),?_⟩
  refine B9 λN1 hN1=>?_;refine A6 rfl ?_;intro x dx nx ndx nex;have s0:F1 H (IT (IT H dx (.own x)) x (.ins T.aa dx [])):=λb o e=>by
   rw[B6 (B2 e nx),B6 (B2 e ndx)];exact e
  refine⟨x,dx,wb,g,qs,rfl,A9,hW.same s0,λc A B L H1 hc k1 N mA mB=>⟨rfl,?_⟩⟩;have C:F1 H H1:=λb o e=>k1 b o (s0 b o e) (by simpa using B2 e nx);have hcn:H c=none:=s0.free hc;have eA:A=A0:=mA.eq mA0;have eB:B=B0:=mB.eq mB0;subst eA eB;have eL:L=L0:=(BP λj=>BU.mpr ((hL0 j).trans (N.loops j).symm):L0=L).symm;subst eL;have T1:=p8 C hT;have nd:=N.nd;have I:=C _ _ er;refine hN1 _ _ ?_;refine A6 rfl (A6 rfl ?_);refine A6 rfl ⟨r,rfl,⟨_,IV.of I⟩,λD hD=>?_⟩;have lt:ts.length<=300:=by
   have:=congrArg List.length eM;rw[AB,AB]at this;lia
  refine zCj (r:=λt:A3×A1 Str=>V.ref t.1) (λt=>E9 (SL g t.2)) (ON (IV.of I)) (λ_=>true) (by lia) hD (λt ht G sG M J=>J G λb o e=>e) (λt ht G sG M J=>?_) λσ' H2 O S=>?_
  .obtain⟨Mm,hMm,e⟩:=AJ.mp (eM▸AJ.mpr ⟨t,ht,rfl⟩:t.2∈l.map (JO g));have MG:=N.same sG;obtain⟨dx1,a1,b1,d1,kb1,e1,_⟩:=MG.ex;have sub:=o7 g Mm;rw[e]at sub;have U:=sub.length_le;refine A6 rfl ⟨x,dx1,A6 rfl ⟨e1,rfl,A6 rfl ⟨x,c,t.1,g,A,B,L,t.2,rfl,MG,.inl (IV.of (sG _ _ (C _ _ (at_ t ht)))),λy hy=>sub.subset hy,sub.nodup nd,by lia,λm G' s' lo hm=>?_⟩⟩⟩;rw[Qu lo hm];exact J G' s'
  rw[EZ.mpr λ_ _=>rfl]at S;have S:H2 D=some (.lst (l.map E9)):=by
   rw[S];have U:=congrArg (List.map (SL g)) eM;rw[BV,BV]at U;have h2:l.map (SL g∘JO g)=l:=by
    conv=>rhs;rw[<-List.map_id l]
    exact GJ λM J=>Jq nd (p M J)
   rw[h2]at U;rw[<-U,BV];rfl
  have T2:=p8 O T1;have M2:=N.same O;intro d hd;have ud:=F1.new (o:=.dK []) hd;have Me:IS T.aa (Sw.er (IT H2 d (.dK [])) d) x c g A B L:=by
   rw[Mh];exact M2.same λb o e=>by rw[Jp (B2 e hd)];exact e
  have b0:(E3 0 g.length).length=0:=by
   unfold E3;rw[List.filter_eq_nil_iff.mpr λj _=>by rw[CH];decide];rfl
  refine⟨x,c,D,d,g,A,B,l,L,0,[],λ_=>False,R,rfl,Me,J_.zero _,Z,p8 ud T2,ud _ _ S,p,u,A9,λ_ h=>h.elim,⟨⟨[],rfl,FU,λk h=>absurd h BB⟩,λk v h=>by cases h⟩,by lia,r0,gr,λr kvs' H6 k6 r6 T6 ed6 K6 tr6=>?_⟩;have hdH:H d=none:=(C.trans O).free hd;refine q r H6 (λb o e n=>k6 b o (ud _ _ (O _ _ (C _ _ e))) λz=>?_) T6 tr6;rcases AK.mp z with z | z
  .rw[z,hcn]at e;cases e
  rcases AK.mp z with z | z
  .exact n (by rw[z];exact .head _)
  .rw[AG.mp z,hdH]at e;cases e
def RT.kp{a H H':Hp}{ts:A1 (A3×A1 Str)}(h:RT a H ts)(k:KP H H'):RT a H' ts:=⟨λt b=>k _ _ (h.at_ t b) (λ_ z=>by cases z),h.nd,h.new⟩
def zGj(n g:A3)(o:TM)(F:RQ):Sp:=λp H Q _=>∃(i:A3) (c:A1 Str) (h:A1 KJ) (A B:A1 Nat) (L:Nat),p = [.ref i]/\K_ n H i c h/\c.length<=12/\O9 H g C9 /\
 MB c ((h.map λq=>q.2).map λk=>(k.2,k.1)) A/\MB c (h.map λq=>q.2) B/\(∀j,L.testBit j=true↔(A.getD j 0).testBit j=true) /\
 ∀(t r l:A3) (e:A1 (A3×A1 Str)) (f:A1 Nat) d,Sm [g] H d->O9 d g C9->H t=none->H r=none->d t=some (.tup [.ref r,.ref l])->d r=some (.lst (e.map λt=>V.ref t.1))->RT H d e->(∀t∈e,t.1≠r) ->
  (e.map λt=>t.2)=f.map (JO c)->f.Nodup->(∀m,m∈f↔o c.length A B m)->f.length<=300->e.Pairwise (λa b=>TS.KN (TS.ND b.2) (TS.ND a.2)=false)->U4 c A B L (F c A B f) d 0 l->Q (.ref t) d
theorem MF:IR ["web","sets"] ["web"] (B7 MW):=KZ
set_option maxHeartbeats 2000000 in
theorem Ak(T:Tx K mg)(hB:base.BuiltinsAt mg T.ab):IZ P w K mg base JK 23 T.ax.f T.ax.fd ["web"] (zGj T.ah T.ab LC u7):=by
 have a:IZ P w K mg base JK 22 T.aH.f T.aH.fd ["web","splits_at","sets"] (Gm T.ah T.ab T.ar.f u7):=Cp T hB ((l7 T).mono (by decide)) T.ar.F.kp T.ar.b;refine T.ax.F.o1 MF λcdv A G s H vs Q E Y h=>?_
 .obtain⟨Z,c,qs,A,B,L,rfl,hW,I,hT,J,N,hL,q⟩:=h;refine⟨_,(B3 (D6 (i:=1) MF.nd rfl (.inl rfl) (D4 T.aZ (Ao T) (Rm Y) (A8 (pv 0) B1)))
   (B4 (C0 (J8 (A8 (pv 1) (A8 (D4 T.aH a (Rm Y) (A8 (pv 0) (A8 (zEh T.ar.m) (A8 (pv 1) B1)))) B1)))))),?_⟩
  have O:=J.net N;refine B9 λN1 R=>?_;obtain⟨Ms0,nd0,mm0⟩:=Ju (n:=c.length) (λm=>LC c.length A B m) λm h=>h.1;refine A6 rfl ⟨Z,c,qs,rfl,hW,I,λA' B' Ms1 S U d g=>⟨λr ts H1 _ V W j LL nr pm X=>?_,λgt=>?_⟩⟩;rotate_left
  .have:=Li I d λm k=>(g m).mp k;lia
  have eA:=J.eq S;have eB:=N.eq U;subst eA eB;obtain⟨p,pM,eM⟩:=r9 pm;have nd:p.Nodup:=pM.nodup_iff.mpr d;have C:∀m,m∈p↔LC c.length A B m:=λm=>pM.mem_iff.trans (g m);have le:p.length<=300:=Li I nd λm k=>(C m).mp k;have T1:=p8 V hT;refine R _ _ ?_;refine A6 rfl (A6 rfl (A6 rfl ⟨Z,r,c,qs,ts,A,B,p,L,λ_=>True,rfl,hW.same V,by lia,j,LL.at_,eM,λM hM=>((C M).mp hM).1,le,T1,J,N,hL,trivial,Mx O λm k=>(C m).mpr k,λl H2 k2 T2 u=>?_⟩));refine⟨by show 2<=sizeLine;decide,λt D=>?_⟩;have v:=F1.new (o:=.tup [.ref r,.ref l]) D;have K2:=KP.of T1 k2;have x:Sm [T.ab] H H2:=V.sm.trans k2;refine q t r l ts p _ (x.trans v.sm) (p8 v T2) (x.none (λy=>?_) D) W A9 (v _ _ (K2 _ _ j (λ_ z=>by cases z))) ((LL.kp K2).same v) nr eM nd C le X ?_
  .obtain⟨ps,e,_⟩:=T2;rw[AG.mp y,e]at D;cases D
  .unfold U4 at u⊢;exact u.keep λb xs e=>v _ _ e
def zKb{ns ss:A1 Str}{z:Str}{i j m:Nat}(c:ns.Nodup)(hz:ss[i]?=some z)(b:ns[j]?=some z)(d:∀(j:Nat) y,ns[j]?=some y->(m.testBit j=true↔y∈ss.take i))(k:Nat)(y:Str)(a:ns[k]?=some y):(m ||| 2^j).testBit k=true↔y∈ss.take (i+1):=by
 rw[V6,d k y a,JE hz,A_,AG];refine or_congr Iff.rfl ⟨λe=>?_,λe=>?_⟩
 .rw[e,b]at a;exact(BJ a).symm
 .rw[e]at a;exact(List.getElem?_inj (AE.mp a).1 c).mp (a.trans b.symm)
theorem KS:IR ["_law_view","_law_some","_law_mask","_law_name"] ["_law_view","_law_some"] (B7 NV):=KZ
def Bi(K:VN):Sp:=λd H Q _=>∃(p v a:A3) (b:A1 Str) (e:A1 (Str×Str)) (A B:A1 Nat) (c:A1 Str),d = [.ref v,.ref a]/\JT H p v b e A B/\b.Nodup/\b.length<=100/\VG K H a (c.map V.str)/\(∀y∈c,y∈b) /\
 ∀m:Nat,J_ b.length m->(∀(j:Nat) y,b[j]?=some y->(m.testBit j=true↔y∈c))->Q (.int (m:Int)) H
theorem T7(T:Tx K mg):IZ P w K mg base JK 1 T.ap.f T.ap.fd ["_law_view","_law_some"] (Bi K):=by
 refine T.ap.F.o1 KS λR A I s H Y Q E Z h=>?_
 .obtain⟨p,v,a,k,ks,A,B,M,rfl,S,x,U,W,sub,q⟩:=h;obtain⟨⟨n,s',u,N,C,e3,e4,_⟩,mA,mB⟩:=id S;refine⟨_,(B3 (D6 (i:=2) KS.nd rfl (.inl rfl) B5)
   (B3 (Q5 PassesOwn.never rfl (piS K (pv 1)) (D9 (i:=3) KS.nd rfl (.inl rfl))
   (B4 (D6 (i:=2) KS.nd rfl (.inl rfl) (C4 R9 (pv 2) (C4 Ab B5 (Dk K VS VW VX (T0 K) (E1 (MD K) (pv 0) B5 (λ_ _=>rfl)) (A8 (pv 3) B1)))))))
   (B4 (C0 (pv 2))))),?_⟩
  refine B9 λN1 J=>?_;refine J _ _ (B9 λO l=>?_);rcases W with h | h
  .refine A6 rfl ⟨a,rfl,.inl ⟨⟨_,h⟩,X4 (D:={ nx:=O,rt:=Q }) (ON h) (λi σ G=>G=H/\∃(m:Nat) (d:A5 V),σ = [some (.ref v),some (.ref a),some (.int (m:Int)),d]/\J_ k.length m/\∀(j:Nat) y,k[j]?=some y->(m.testBit j=true↔y∈M.take i)) ⟨rfl,0,_,rfl,J_.zero _,λj y _=>by rw[CH];simp⟩ (λi σ G _ h o e=>by rw[h.1];exact e) ?_ ?_⟩⟩
   .rintro i σ G y r ⟨rfl,m,d,rfl,lo,b⟩ X g _;rw[AI]at r;obtain⟨z,t,rfl⟩:=BC.mp r;obtain⟨j,c⟩:=CV.mp (sub z (AM t));have L:=(AE.mp c).1;refine A6 rfl (A6 rfl ⟨v,_,B8 rfl rfl ⟨IV.of N,rfl,.inl ⟨rfl,_,IV.of C⟩,A6 rfl ⟨n,k,z,j,rfl,rfl,IV.of C,c,λm b z=>by have:=J9 x z c;lia,B8 rfl rfl ⟨⟨by lia,by lia,by decide⟩,B8 rfl rfl ?_⟩⟩⟩⟩);dsimp only;rw[Ww,PV];exact g _ _ ⟨rfl,m ||| 2^j,_,rfl,lo.or L,zKb x t c b⟩
   .rintro σ G ⟨rfl,m,d,rfl,lo,b⟩;rw[AB,CA]at b;exact l _ _ (A6 rfl (q m lo b))
  .refine A6 rfl ⟨a,rfl,.inr ⟨⟨_,h⟩,X4 (D:={ nx:=O,rt:=Q }) (asT h) (λi σ G=>G=H/\∃(m:Nat) (d:A5 V),σ = [some (.ref v),some (.ref a),some (.int (m:Int)),d]/\J_ k.length m/\∀(j:Nat) y,k[j]?=some y->(m.testBit j=true↔y∈M.take i)) ⟨rfl,0,_,rfl,J_.zero _,λj y _=>by rw[CH];simp⟩ (λi σ G _ h o e=>by rw[h.1];exact e) ?_ ?_⟩⟩
   .rintro i σ G y r ⟨rfl,m,d,rfl,lo,b⟩ X g _;rw[AI]at r;obtain⟨z,t,rfl⟩:=BC.mp r;obtain⟨j,c⟩:=CV.mp (sub z (AM t));have L:=(AE.mp c).1;refine A6 rfl (A6 rfl ⟨v,_,B8 rfl rfl ⟨IV.of N,rfl,.inl ⟨rfl,_,IV.of C⟩,A6 rfl ⟨n,k,z,j,rfl,rfl,IV.of C,c,λm b z=>by have:=J9 x z c;lia,B8 rfl rfl ⟨⟨by lia,by lia,by decide⟩,B8 rfl rfl ?_⟩⟩⟩⟩);dsimp only;rw[Ww,PV];exact g _ _ ⟨rfl,m ||| 2^j,_,rfl,lo.or L,zKb x t c b⟩
   .rintro σ G ⟨rfl,m,d,rfl,lo,b⟩;rw[AB,CA]at b;exact l _ _ (A6 rfl (q m lo b))
theorem u4:IR ["_law_view","_law_thing"] ["_law_view","_law_thing"] (B7 MK):=KZ
def Cd:Sp:=λb H Q _=>∃(p v:A3) (a:A1 Str) (c:A1 (Str×Str)) (A B:A1 Nat) (y:Str),b = [.ref v,.str y]/\JT H p v a c A B/\Q (.bl (decide (y∈a))) H
theorem U8(T:Tx K mg):IZ P w K mg base JK 1 T.ao.f T.ao.fd ["_law_view","_law_thing"] Cd:=by
 refine T.ao.F.o1 u4 λb A a s H g Q E i h=>?_
 .obtain⟨p,v,j,k,A,B,y,rfl,c,q⟩:=h;obtain⟨⟨n,l,u,d,e,m,o,_⟩,r,t⟩:=id c;refine⟨_,(B4 (C0 (U3 (E5 (M6 K) T.ae C3 (A8 (pv 1) (A8 (V7 T.bt Ir) B1))) (W3 (K5 (zCd K) (pv 1) (E1 (MD K) (pv 0) B5 (λ_ _=>rfl)) rfl))))),?_⟩;refine A6 rfl ⟨.str y, "str",_,true,rfl,.str y,rfl,⟨_,rfl,?_⟩⟩;rw[AQ rfl];refine A6 rfl (A6 rfl ⟨v,_,B8 rfl rfl ⟨IV.of d,rfl,?_⟩⟩);exact Lw (.inl (IV.of e)) q
theorem w8:IR ["_law_view","_law_one","_law_other"] ["_law_view","_law_one","_law_other"] (B7 MJ):=KZ
def y7:Sp:=λb H Q _=>∃(p v:A3) (a:A1 Str) (c:A1 (Str×Str)) (A B:A1 Nat) (i j:Nat) (x y:Str),b = [.ref v,.str x,.str y]/\JT H p v a c A B/\a.Nodup/\a.length<=100/\a[i]?=some x/\a[j]?=some y/\Q (.bl ((A.getD j 0).testBit i)) H
theorem w9(T:Tx K mg):IZ P w K mg base JK 1 T.au.f T.au.fd ["_law_view","_law_one","_law_other"] y7:=by
 refine T.au.F.o1 w8 λl A b s H J Q E L h=>?_
 .obtain⟨p,v,g,M,A,B,i,j,x,y,rfl,o,k,r,c,d,q⟩:=h;obtain⟨⟨n,t,u,e,a,C,N,_⟩,D,O⟩:=id o;have R:=(AE.mp c).1;have G:=(AE.mp d).1;refine⟨_,(B4 (C0 (K5 P5 (C4 M8 (C4 Hi (E1 (MD K) (E1 (MD K) (pv 0) B5 (λ_ _=>rfl)) (Dk K VS VW VX (T0 K) (E1 (MD K) (pv 0) B5 (λ_ _=>rfl)) (A8 (pv 2) B1)) (λ_ _=>rfl)) (Dk K VS VW VX (T0 K) (E1 (MD K) (pv 0) B5 (λ_ _=>rfl)) (A8 (pv 1) B1))) B5) B5 (D8 _)))),?_⟩;refine A6 rfl ⟨v,_,B8 rfl rfl ⟨IV.of e,rfl,?_⟩⟩;refine A6 rfl ⟨v,_,B8 rfl rfl ⟨IV.of e,rfl,.inl ⟨rfl,_,IV.of a⟩,A6 rfl ⟨n,g,y,j,rfl,rfl,IV.of a,d,λm I z=>by have:=J9 k z d;lia,t,_,B8 rfl rfl ⟨IV.of C,u6 (by rw[D.len];exact G),?_⟩⟩⟩⟩;refine A6 rfl ⟨v,_,B8 rfl rfl ⟨IV.of e,rfl,.inl ⟨rfl,_,IV.of a⟩,A6 rfl ⟨n,g,x,i,rfl,rfl,IV.of a,c,λm I z=>by have:=J9 k z c;lia,?_⟩⟩⟩;refine B8 rfl rfl ⟨(show(0:Int)<=(i:Int) by lia),B8 rfl rfl ⟨rfl,?_⟩⟩;dsimp only;rw[Mo];exact q
theorem Ct:IR ["_law_view","_law_held","_law_thing"] ["_law_view","_law_held","_law_thing"] (B7 NW):=KZ
def Hs:Sp:=λb H Q _=>∃(p v:A3) (a:A1 Str) (c:A1 (Str×Str)) (A B:A1 Nat) (i m:Nat) (x:Str),b = [.ref v,.int (m:Int),.str x]/\JT H p v a c A B/\a.Nodup/\a.length<=100/\a[i]?=some x/\Q (.bl (m.testBit i)) H
theorem Cv(T:Tx K mg):IZ P w K mg base JK 2 T.az.f T.az.fd ["_law_view","_law_held","_law_thing"] Hs:=by
 refine T.az.F.o1 Ct λg A b s H t Q E j h=>?_
 .obtain⟨p,v,c,k,A,B,i,m,x,rfl,d,l,o,a,q⟩:=h;obtain⟨⟨n,y,u,r,e,C,D,_⟩,G,I⟩:=id d;have J:=(AE.mp a).1;refine⟨_,(B4 (C0 (U3 (D4 T.ao (U8 T) (Rm j) (A8 (pv 0) (A8 (pv 2) B1))) (W3 (K5 P5 (C4 M8 (C4 Hi (pv 1) (Dk K VS VW VX (T0 K) (E1 (MD K) (pv 0) B5 (λ_ _=>rfl)) (A8 (pv 2) B1))) B5) B5 (D8 _)))))),?_⟩;refine A6 rfl (A6 rfl ⟨p,v,c,k,A,B,x,rfl,d,?_⟩);rw[AX (AM a)];refine⟨true,rfl,Gc ?_⟩;refine A6 rfl (A6 rfl ⟨v,_,B8 rfl rfl ⟨IV.of r,rfl,.inl ⟨rfl,_,IV.of e⟩,A6 rfl ⟨n,c,x,i,rfl,rfl,IV.of e,a,λm L z=>by have:=J9 l z a;lia,?_⟩⟩⟩);refine B8 rfl rfl ⟨(show(0:Int)<=(i:Int) by lia),B8 rfl rfl ⟨rfl,?_⟩⟩;dsimp only;rw[Mo];exact q
def Ea{ns:A1 Str}{m:Nat}:∀i,i<=ns.length->w6 ns m i =(E3 m i).map λj=>ns.getD j ""
 | 0,_=>rfl
 | i+1,h=>by
  have e:=AC (show i<ns.length by lia);rw[K1 e,R0,AR,Ea i (by lia)];congr 1;split
  .rw[AZ,AU,e];rfl
  .rfl
def Dg(ns:A1 Str)(m:Nat):JO ns m =(E3 m ns.length).map λj=>ns.getD j "":=Ea _ (VQ _)
section
variable{ns:A1 Str}{A B:A1 Nat}{L m:Nat}
theorem Wg{z j:Nat}(b:z.testBit j=true)(lo:J_ ns.length z):∃k,z.testBit k=true/\ns[k]?=some (U0 ns z):=by
 obtain⟨k,_,a,c⟩:=Zd b;exact⟨k,a,Bf (lo k a) a c⟩
theorem zBz{z:Nat}(lo:J_ ns.length m):J_ ns.length (z &&& m):=λj h=>lo j (by rw[CF,BL]at h;exact h.2)
theorem Py(b:SR ns.length A B)(lo:J_ ns.length m)(c:X6 B m):∃i k,ns[i]?=some (SZ ns A B m)/\ns[k]?=some (TK ns B m)/\m.testBit i=true/\m.testBit k=true/\(A.getD k 0).testBit i=true:=by
 obtain⟨j,f,h⟩:=c;have l:(zHm ns B m).testBit j=true:=(Q2 j).mpr ⟨lo j f,f,h⟩;obtain⟨k,_,d,g⟩:=Zd l;obtain⟨n,o,i,p,q⟩:=(Q2 k).mp d;have r:=Rl d g;have s:(A.getD k 0 &&& m).testBit i=true:=by rw[CF,BL];exact⟨(b.tr k i).mpr q,p⟩
 obtain⟨t,a,e⟩:=Wg s (zBz lo);rw[CF,BL]at a;refine⟨t,k,?_,Bf n d g,a.2,o,a.1⟩;unfold SZ;rw[r];exact e
end
def Oa{ns:A1 Str}{j z:Nat}{x:Str}(d:ns.Nodup)(b:ns[j]?=some x)(lo:J_ ns.length z)(h:∀(i:Nat) y,ns[i]?=some y->(z.testBit i=true↔y∈[x])):z=2^j:=BP λi=>BU.mpr (by
 rw[CQ,BI];constructor
 .intro c;have a:=AC (lo i c);have:=AG.mp ((h i _ a).mp c);rw[this]at a;exact J9 d b a
 .rintro rfl;exact(h j x b).mpr (.head _))
theorem KM:IR ["_law_view","_law_sets_here","_law_words","_law_held","_law_more","_law_twigs","_law_name","_law_tree"] ["_law_view","_law_sets_here","_law_words","_law_held","_law_more","_law_twigs"] (B7 LX):=KZ
theorem JA:IR ["_law_view","_law_sets_here","_law_words","_law_held","_law_tree","_law_a","_law_b","_law_strikers","_law_more","_law_mask"] ["_law_view","_law_sets_here","_law_words","_law_held","_law_tree"] (B7 MI):=KZ
structure SF(K:VN)(wd:Str)(F:RQ)(H:Hp)(p v s w:A3)(ns:A1 Str)(ks:A1 (Str×Str))(A B:A1 Nat)(L:Nat)(Ms:A1 Nat)(R:Nat->Prop):Prop where
 v:JT H p v ns ks A B
 nd:ns.Nodup
 l12:ns.length<=12
 net:SR ns.length A B
 w:JL K H w [.str "clash",.str wd,.str "beyond"]
 s:H s=some (.lst (Ms.map E9))
 ls:Ms.length<=300
 gr:zHk ns.length A B L (F ns A B Ms) R
theorem SF.same{K:VN}{a:Str}{F:RQ}{H H':Hp}{p v s w:A3}{ns:A1 Str}{ks:A1 (Str×Str)}{A B:A1 Nat}{L:Nat}{Ms:A1 Nat}{R:Nat->Prop}(h:SF K a F H p v s w ns ks A B L Ms R)(k:F1 H H'):SF K a F H' p v s w ns ks A B L Ms R:=⟨h.v.same k,h.nd,h.l12,h.net,(k.at w).seqT h.w,k _ _ h.s,h.ls,h.gr⟩
def Ax(K:VN)(d:Str)(F:RQ)(k:Nat):Sp:=λe H Q _=>∃(p v s w r:A3) (a:A1 Str) (f:A1 (Str×Str)) (A B:A1 Nat) (L:Nat) (b:A1 Nat) (R:Nat->Prop) (m:Nat),e = [.ref v,.ref s,.ref w,.int (m:Int),.ref r]/\SF K d F H p v s w a f A B L b R/\J_ a.length m/\R m/\JJ a A B L (F a A B b) H k m r/\∀c,F1 H c->Q (.bl true) c
def Om(K:VN)(g:Str)(F:RQ)(k:Nat):Sp:=λh H Q _=>∃(p v s w a l:A3) (b:A1 Str) (n:A1 (Str×Str)) (A B:A1 Nat) (L:Nat) (e:A1 Nat) (R:Nat->Prop) (m:Nat) (c:A1 Nat) (d:A1 A3),h = [.ref v,.ref s,.ref w,.int (m:Int),.ref a,.ref l]/\SF K g F H p v s w b n A B L e R/\J_ b.length m /\
 H a=some (.lst ((c.map λj=>b.getD j "").map V.str))/\H l=some (.tup (d.map V.ref))/\d.length=c.length/\(∀j∈c,j<b.length/\R (m ||| 2^j))/\(∀(i j:Nat) r,c[i]?=some j->d[i]?=some r->JJ b A B L (F b A B e) H k (m ||| 2^j) r)/\∀f,F1 H f->Q (.bl true) f
theorem Ws(T:Tx K mg){wd:Str}{F:RQ}{n k:Nat}(h1:1<=n)(c:IZ P w K mg base JK n T.aj.f T.aj.fd ["_law_view","_law_sets_here","_law_words","_law_held","_law_tree"] (Ax K wd F k)):IZ P w K mg base JK (n+1) T.am.f T.am.fd ["_law_view","_law_sets_here","_law_words","_law_held","_law_more","_law_twigs"] (Om K wd F k):=by
 have d:IZ P w K mg base JK n T.ap.f T.ap.fd ["_law_view","_law_some"] (Bi K):=(T7 T).mono h1;refine T.am.F.o1 KM λcdv A Y s H vs Q E hr h=>?_
 .obtain⟨p,v,s',w',a,l,C,ks,A,B,L,Ms,R,m,N,rs,rfl,O,lo,I,D,x,jn,tr,q⟩:=h;have nd:=O.nd;have l12:=O.l12;refine⟨_,(B3 (G9 (PW.pt (d0 (Q0 (K7 (E5 (M6 K) T.ae C3 (A8 (pv 5) (A8 (V7 T.aW S9) B1))))) (W1 (C7 Es (E5 (O0 K) T.an M0 (A8 (pv 5) B1)) (E5 (O0 K) T.an M0 (A8 (pv 4) B1)) (D8 _))))) (B4 (C0 U2)) C5)
   (B3 (Q5 PassesOwn.never rfl (zKu K T.bv (A8 (pv 4) (A8 (pv 5) B1))) (QY K (n:=2) (C6 (D9 (i:=6) KM.nd rfl (.inl rfl)) (C6 (D9 (i:=7) KM.nd rfl (.inl rfl)) M7)))
   (B4 (G9 (Q0 (K7 (D4 T.aj c (hr.mono (VQ _)) (@A8 _ _ _ _ _ (pv 0) (@A8 _ _ _ _ _ (pv 1) (@A8 _ _ _ _ _ (pv 2) (@A8 _ _ _ _ _ (C4 R9 (pv 3) (D4 T.ap d (hr.mono (VQ _)) (A8 (pv 0) (A8 (P8 (A8 (pv 6) B1)) B1)))) (@A8 _ _ _ _ _ (pv 7) B1 (by rfl)) (by rfl)) (by rfl)) (by rfl)) (by rfl))))) (B4 (C0 U2)) C5)))
   (B4 (C0 U2)))),?_⟩
  have S:(rs.map V.ref).length=rs.length:=AB ..;have J:((N.map λj=>C.getD j "").map V.str).length=N.length:=by rw[AB,AB]
  refine B9 λN1 Z=>?_;refine A6 rfl ⟨.ref l, "tuple",_,true,rfl,.tup D,rfl,_,rfl,S6 (A6 rfl ⟨l,_,rfl,.inr (JL.of D),A6 rfl ⟨a,_,rfl,.inl (IV.of I),rfl,_,rfl,?_⟩⟩)⟩;dsimp only;rw[S,J,x,AX rfl];refine S6 (Z _ _ (B9 λN2 hN2=>?_));refine A6 rfl (A6 rfl ⟨a,l,_,_,rfl,.inr ⟨IV.of I,JL.of D,Xh (n:=N.length) (λi σ G=>(∃v6 v7,σ = [some (.ref v),some (.ref s'),some (.ref w'),some (.int (m:Int)),some (.ref a),some (.ref l),v6,v7])/\F1 H G) ⟨⟨_,_,rfl⟩,λb o e=>e⟩ ?_ ?_ ?_ ?_⟩⟩)
  .rintro i σ G U ⟨_,g⟩;exact⟨_,_,_,_,IV.of (g _ _ I),JL.of (g _ _ D),by rw[S,J,x];exact VQ _,AC (by rw[J];exact U),AC (by rw[S,x];exact U)⟩
  .rintro σ G ⟨_,g⟩;exact⟨_,_,IV.of (g _ _ I),JL.of (g _ _ D),by rw[S,J,x];exact VQ _,J⟩
  .rintro i σ G y G' U ⟨⟨v6,v7,rfl⟩,g⟩ ⟨t,x1,x2,rfl,ht,rfl,gx,gy⟩;have g1:=gx _ (IV.of (g _ _ I));have g2:=gy _ (JL.of (g _ _ D));rw[AI,AI]at g1;rw[AI]at g2;have W:=AC U;generalize N[i]=j at W;rw[W]at g1;obtain rfl:=BJ g1;obtain⟨r,hr',rfl⟩:=BC.mp g2;obtain⟨M,hjR⟩:=jn j (AM W);have hx:=AC M;have ex:C.getD j "" = C[j]:=by rw[AU,hx];rfl
   dsimp only;rw[ex];have ut:=F1.new (o:=.tup [.str C[j],.ref r]) ht;have sT:=g.trans ut;refine⟨t,_,rfl,JL.of A9,rfl,_,_,rfl,_,_,rfl,rfl,?_⟩;refine A6 rfl (A6 rfl (A6 rfl (A6 rfl (A6 rfl (A6 rfl ⟨Nat.le_of_lt_succ (by show 1<sizeLine+1;decide),λu hu=>?_⟩)))));have uu:=F1.new (o:=.lst [.str C[j]]) hu;have X:=sT.trans uu;refine⟨p,v,u,C,ks,A,B,[C[j]],rfl,(O.same X).v,nd,by lia,.inl (IV.of A9),λy hy=>by rw[AG.mp hy];exact AM hx,λz lz hz=>?_⟩;have ez:=Oa nd hx lz hz;subst ez;refine B8 rfl rfl ?_;dsimp only;rw[PV];refine A6 rfl ⟨p,v,s',w',r,C,ks,A,B,L,Ms,R,m ||| 2^j,rfl,O.same X,lo.or M,hjR,(tr i j r W hr').keep (λb xs e=>X _ _ e),λH' s3=>⟨_,rfl,S6 ⟨⟨_,_,rfl⟩,X.trans s3⟩⟩⟩
  .rintro σ G ⟨⟨v6,v7,rfl⟩,g⟩;exact hN2 _ _ (q G g)
def zAy(m k:Nat):decide (V.int (Builtin.bitAnd ((m:Int) / 2 ^((k:Int).toNat)) 1)=V.int 0)=!m.testBit k:=by
 have a:(m:Int) / 2 ^((k:Int).toNat) =((m / 2^k:Nat):Int):=by rw[DD,Int.natCast_ediv,Int.natCast_pow];rfl
 have b:Builtin.bitAnd ((m / 2^k:Nat):Int) 1 =((m / 2^k % 2:Nat):Int):=by
  rw[show(1:Int) =((1:Nat):Int)from rfl,Pw,Nat.and_one_is_mod]
 rw[a,b,Nat.testBit_eq_decide_div_mod_eq];rcases Nat.mod_two_eq_zero_or_one (m / 2^k)with h | h
 .rw[h];rfl
 .rw[h];rfl
def Ue(a:A1 Nat):(a.map E9).all Cm=true:=FD.mpr λv h=>by
 obtain⟨i,_,rfl⟩:=AJ.mp h;rfl
def zBj{a:A1 Nat}{i:Nat}(h:i∈a):US (E9 i) (a.map E9)=true:=IM.mpr ⟨E9 i,AJ.mpr ⟨i,h,rfl⟩,by
 show decide _=true;exact AX rfl⟩
def W4:A1 (JH×V):=[(.inr "clash",.int 3),(.inr "answer",.int 4),(.inr "beyond",.int 3),(.inr "cover",.int 3)]
def zEg{a:Hp}{d:A3}{x:Str}{v:V}(h:U5 (Z0 [] W4) (.inr x)=some v):OY (IT a d (.dK (Z0 [] W4))) d (.str x) (some v):=.inl ⟨_,.inr x,.inl A9,rfl,h.symm⟩
def Wj(n:Nat):(!decide (V.int (n:Int)=V.int (n:Int)))=false:=by rw[AX rfl];rfl
set_option maxHeartbeats 2000000 in
theorem Gj(T:Tx K mg){n k:Nat}{S:Sp}(h1:2<=n)(g:IZ P w K mg base JK n T.am.f T.am.fd ["_law_view","_law_sets_here","_law_words","_law_held","_law_more","_law_twigs"] S)(hS:∀k',k=k'+1->S=Om K "cover" u7 k'):IZ P w K mg base JK (n+1) T.aj.f T.aj.fd ["_law_view","_law_sets_here","_law_words","_law_held","_law_tree"] (Ax K "cover" u7 k):=by
 have I:IZ P w K mg base JK n T.az.f T.az.fd ["_law_view","_law_held","_law_thing"] Hs:=(Cv T).mono h1;have J:IZ P w K mg base JK n T.ao.f T.ao.fd ["_law_view","_law_thing"] Cd:=(U8 T).mono (by lia);have O:IZ P w K mg base JK n T.au.f T.au.fd ["_law_view","_law_one","_law_other"] y7:=(w9 T).mono (by lia);have U:IZ P w K mg base JK n T.aA.f T.aA.fd ["_law_view","_law_mask"] Hw:=(m8 T).mono (by lia);have X:IZ P w K mg base JK n T.ap.f T.ap.fd ["_law_view","_law_some"] (Bi K):=(T7 T).mono (by lia);have G_law_hit:IZ P w K mg base JK n T.aN.f T.aN.fd ["_law_view","_law_mask"] Zh:=(X8 T).mono (by lia);refine T.aj.F.o1 JA λcdv A outer s H vs Q E hr h=>?_
 .obtain⟨p,v,s',w',r,C,ks,A,B,L,Ms,R,m,rfl,hC,lo,hR,tr,q⟩:=h;have hu:=b9 hr;have hV:=hC.v;have nd:=hC.nd;have l12:=hC.l12;have net:=hC.net;obtain⟨⟨na,sa,ua,e1,e2,e3,e4,_⟩,mA,mB⟩:=id hV;refine⟨_,(B3 (G9 (PW.pt (d0 (Q0 (K7 (E5 (M6 K) T.ae C3 (A8 (pv 4) (A8 (V7 T.aW S9) B1))))) (d0 (C7 zEu (E5 (O0 K) T.an M0 (A8 (pv 4) B1)) B5 (D8 _)) (W1 (C7 (Ey K) (E1 (QD K) (pv 4) B5 (λ_ _=>rfl)) (pv 2) rfl))))) (B4 (C0 U2)) C5)
   (B3 (G9 (C7 Es (E5 (O0 K) T.an M0 (A8 (pv 4) B1)) (O1 hu (zCg (Av Q4 B5 (Av Q4 B5 (Av Q4 B5 (Av Q4 B5 zCn)))) rfl rfl (by intro z;cases z) (by decide)) (E1 (QD K) (pv 4) B5 (λ_ _=>rfl)) (λ_ _=>rfl)) (D8 _)) (B4 (C0 U2)) C5)
   (B3 (G9 (C7 P5 (E1 (QD K) (pv 4) B5 (λ_ _=>rfl)) Q4 (D8 _)) (B3 (Y9 (Q6 (slT K) (pv 4) (Q1 B5) S0) (QY K (n:=2) (C6 (D9 (i:=5) JA.nd rfl (.inl rfl)) (C6 (D9 (i:=6) JA.nd rfl (.inl rfl)) M7))))
   (B4 (C0 (U3 (D4 T.az I (hr.mono (VQ _)) (A8 (pv 0) (A8 (pv 3) (A8 (pv 5) B1)))) (U3 (D4 T.az I (hr.mono (VQ _)) (A8 (pv 0) (A8 (pv 3) (A8 (pv 6) B1)))) (W3 (D4 T.au O (hr.mono (VQ _)) (A8 (pv 0) (A8 (pv 5) (A8 (pv 6) B1)))))))))) C5)
   (B3 (G9 (C7 P5 (E1 (QD K) (pv 4) B5 (λ_ _=>rfl)) Q4 (D8 _)) (B3 (Y9 (Q6 (slT K) (pv 4) (Q1 B5) (Q1 B5)) (QY K (n:=2) (C6 (D9 (i:=5) JA.nd rfl (.inl rfl)) (C6 (D9 (i:=6) JA.nd rfl (.inl rfl)) M7))))
   (B3 (G9 (PW.pt (d0 (Q0 (K7 (D4 T.az I (hr.mono (VQ _)) (A8 (pv 0) (A8 (pv 3) (A8 (pv 5) B1)))))) (d0 (Q0 (K7 (D4 T.ao J (hr.mono (VQ _)) (A8 (pv 0) (A8 (pv 6) B1))))) (W1 (Q0 (K7 (D4 T.au O (hr.mono (VQ _)) (A8 (pv 0) (A8 (pv 6) (A8 (pv 5) B1)))))))))) (B4 (C0 U2)) C5)
   (B3 (D6 (i:=7) JA.nd rfl (.inl rfl) (E1 (MD K) (E1 (MD K) (pv 0) B5 (λ_ _=>rfl)) (Dk K VS VW VX (T0 K) (E1 (MD K) (pv 0) B5 (λ_ _=>rfl)) (A8 (pv 6) B1)) (λ_ _=>rfl)))
   (B3 (D6 (i:=8) JA.nd rfl (.inl rfl) (D4 T.aA U (hr.mono (VQ _)) (A8 (pv 0) (A8 (pv 7) B1))))
   (B4 (C0 (U3 (K5 P5 (C4 M8 (pv 7) (pv 3)) B5 (D8 _)) (W3 (D4 T.am g (hr.mono (VQ _)) (@A8 _ _ _ _ _ (pv 0) (@A8 _ _ _ _ _ (pv 1) (@A8 _ _ _ _ _ (pv 2) (@A8 _ _ _ _ _ (pv 3) (@A8 _ _ _ _ _ (pv 8) (@A8 _ _ _ _ _ (E1 (QD K) (pv 4) B5 (λ_ _=>rfl)) B1 (by rfl)) (by rfl)) (by rfl)) (by rfl)) (by rfl)) (by rfl))))))))))) C5)
   (B3 (G9 (C7 P5 (E1 (QD K) (pv 4) B5 (λ_ _=>rfl)) Q4 (D8 _)) (B3 (G9 (PW.pt (d0 (C7 (Ey K) (E1 (QD K) (pv 4) B5 (λ_ _=>rfl)) (Cu Qa T.aU V3 (A8 (Cu Kd T.a6 We (A8 (E5 (O0 K) T.an M0 (A8 (pv 1) B1)) B1)) B1)) rfl) (W1 (C7 Es (C4 M8 (pv 3) (Kh Uy (E1 (MD K) (pv 1) (E1 (QD K) (pv 4) B5 (λ_ _=>rfl)) (λ_ _=>rfl)))) B5 (D8 _))))) (B4 (C0 U2)) C5)
   (B3 (As (i:=8) (N':=["_law_k","_law_name","_law_sets_here","_law_tree"]) (cap:=[none,none,some 1,some 4]) (cl:=[("_law_tree",_),("_law_sets_here",_)]) JA.nd rfl (.inl rfl) (O7 ⟨⟨rfl,rfl,rfl,rfl⟩,⟨⟨rfl,rfl,rfl,rfl⟩,trivial⟩⟩ ⟨rfl,⟨rfl,trivial⟩⟩) rfl (UP K T.aI (A8 (E1 (MD K) (pv 0) B5 (λ_ _=>rfl)) B1)) (λ_ _ _ _=>by exact⟨(QY K (n:=2) (C6 (NC 0) (C6 (NC 1) M7))),(V9 (C7 P5 (C4 M8 (C4 Hi (E1 (MD K) (pv 2) (E1 (QD K) (pv 3) B5 (λ_ _=>rfl)) (λ_ _=>rfl)) (pv 0)) B5) B5 (D8 _))),(pv 1)⟩))
   (B4 (C0 (D4 T.am g (hr.mono (VQ _)) (@A8 _ _ _ _ _ (pv 0) (@A8 _ _ _ _ _ (pv 1) (@A8 _ _ _ _ _ (pv 2) (@A8 _ _ _ _ _ (pv 3) (@A8 _ _ _ _ _ (pv 8) (@A8 _ _ _ _ _ (E1 (QD K) (pv 4) B5 (λ_ _=>rfl)) B1 (by rfl)) (by rfl)) (by rfl)) (by rfl)) (by rfl)) (by rfl))))))) C5)
   (B3 (G9 (Q0 (K7 (D4 T.ao J (hr.mono (VQ _)) (A8 (pv 0) (A8 (E1 (QD K) (pv 4) B5 (λ_ _=>rfl)) B1))))) (B4 (C0 U2)) C5)
   (B3 (D6 (i:=9) JA.nd rfl (.inl rfl) (D4 T.ap X (hr.mono (VQ _)) (A8 (pv 0) (A8 (P8 (A8 (E1 (QD K) (pv 4) B5 (λ_ _=>rfl)) B1)) B1))))
   (B3 (G9 (C7 Es (C4 M8 (C4 R9 (pv 3) (D4 T.aN G_law_hit (hr.mono (VQ _)) (A8 (pv 0) (A8 (pv 3) B1)))) (pv 9)) B5 (D8 _)) (B4 (C0 U2)) C5)
   (B3 (D6 (i:=8) JA.nd rfl (.inl rfl) (D4 T.aA U (hr.mono (VQ _)) (A8 (pv 0) (A8 (C4 R9 (pv 9) (E1 (MD K) (E1 (MD K) (pv 0) B5 (λ_ _=>rfl)) (Dk K VS VW VX (T0 K) (E1 (MD K) (pv 0) B5 (λ_ _=>rfl)) (A8 (E1 (QD K) (pv 4) B5 (λ_ _=>rfl)) B1)) (λ_ _=>rfl))) B1))))
   (B4 (C0 (D4 T.am g (hr.mono (VQ _)) (@A8 _ _ _ _ _ (pv 0) (@A8 _ _ _ _ _ (pv 1) (@A8 _ _ _ _ _ (pv 2) (@A8 _ _ _ _ _ (pv 3) (@A8 _ _ _ _ _ (pv 8) (@A8 _ _ _ _ _ (E1 (QD K) (pv 4) B5 (λ_ _=>rfl)) B1 (by rfl)) (by rfl)) (by rfl)) (by rfl)) (by rfl)) (by rfl)))))))))))))),?_⟩
  obtain⟨k',rfl⟩:∃k',k=k'+1:=by
   cases k with
   | zero=>exact tr.elim
   | succ k=>exact⟨k,rfl⟩
  have eS:=hS k' rfl;subst eS;obtain⟨c,xs,er,l2,hcw,hval,cs⟩:∃(c:Str) (xs:A1 V),H r=some (.tup (.str c::xs))/\2<=xs.length/\c∈[("clash":Str), "cover", "beyond"]/\U5 (Z0 [] W4) (.inr c)=some (.int ((xs.length+1:Nat):Int))/\((c = "clash"/\X6 B m/\xs = [.str (SZ C A B m),.str (TK C B m)]) \/
    ∃(Z:Hd) (l:A3) (rs:A1 A3),Z∈u7 C A B Ms m/\.str c::xs=Z.1.map kV ++ [.ref l]/\H l=some (.tup (rs.map V.ref))/\rs.length =(E3 Z.2 C.length).length/\(∀(i j:Nat) r',(E3 Z.2 C.length)[i]?=some j->rs[i]?=some r'->JJ C A B L (u7 C A B Ms) H k' (m ||| 2^j) r')/\∀j∈E3 Z.2 C.length,j<C.length/\R (m ||| 2^j)):=by
   rcases tr with⟨cl,er⟩ | ⟨ncl,l,rs,er,el,len,kids⟩
   .exact⟨_,_,er,VQ _,.head _,rfl,.inl ⟨rfl,cl,rfl⟩⟩
   .obtain⟨ne,new⟩:=hC.gr m hR lo ncl;have Y:=l9 (A:=A) (B:=B) (n:=C.length) (L:=L) ne;generalize g7 A B C.length L (u7 C A B Ms) m=Z at er len kids new Y;have rest:=λ(c:Str) (xs:A1 V) (e:.str c::xs=Z.1.map kV ++ [V.ref l])=>(show(c = "clash"/\X6 B m/\xs = [.str (SZ C A B m),.str (TK C B m)])\/∃(Z:Hd) (l:A3) (rs:A1 A3),Z∈u7 C A B Ms m/\.str c::xs=Z.1.map kV ++ [.ref l]/\H l=some (.tup (rs.map V.ref))/\rs.length =(E3 Z.2 C.length).length/\(∀(i j:Nat) r',(E3 Z.2 C.length)[i]?=some j->rs[i]?=some r'->JJ C A B L (u7 C A B Ms) H k' (m ||| 2^j) r')/\∀j∈E3 Z.2 C.length,j<C.length/\R (m ||| 2^j)from .inr ⟨Z,l,rs,Y,e,el,len,kids,λj hj=>⟨(JS.mp hj).1,(new j (JS.mp hj).1 (JS.mp hj).2).2⟩⟩);unfold u7 at Y;by_cases cv:Qo C A B m = []
    .rw[AQ cv]at Y;obtain⟨i,M,_,_,rfl⟩:=NL.mp Y;exact⟨_,_,er,VQ _,.tail _ (.tail _ (.head _)),rfl,rest _ _ rfl⟩
    .rw[AN cv]at Y;obtain⟨j,_,rfl⟩:=AJ.mp Y;exact⟨_,_,er,VQ _,.tail _ (.head _),rfl,rest _ _ rfl⟩
  refine B9 λN1 hN1=>?_;refine A6 rfl ⟨.ref r, "tuple",_,true,rfl,.tup er,rfl,_,rfl,S6 ?_⟩;refine A6 rfl ⟨r,_,rfl,.inr (JL.of er),?_⟩;refine B8 rfl rfl ⟨_,rfl,?_⟩;rw[show decide (((V.str c::xs).length:Int)<3)=false from BA (by rw[BK];lia)];refine S6 ?_;refine A6 rfl ⟨r,_,B8 rfl rfl ⟨JL.of er,E2 (j:=0) rfl,?_⟩⟩;refine A6 rfl (Dm (ss:=["clash","cover","beyond"]) (.inr hC.w) ⟨_,rfl,?_⟩);rw[AX hcw];refine S6 (hN1 _ _ (B9 λN2 hN2=>?_));refine A6 rfl ⟨r,_,rfl,.inr (JL.of er),?_⟩;intro d Z;refine⟨A9,W4,rfl,by decide,?_⟩;have sd:F1 H (IT (IT H d (.dK [])) d (.dK (Z0 [] W4))):=(F1.new Z).upd Z;refine A6 rfl ⟨r,_,B8 rfl rfl ⟨JL.of (sd _ _ er),E2 (j:=0) rfl,d,_,rfl,zEg hval,?_⟩⟩;generalize IT (IT H d (.dK [])) d (.dK (Z0 [] W4))=H1 at sd⊢;refine⟨rfl,_,rfl,?_⟩;rw[BK,Wj];refine S6 (hN2 _ _ (B9 λN3 hN3=>?_));have W:=sd _ _ er;have C1:=hC.same sd;refine A6 rfl ⟨r,_,B8 rfl rfl ⟨JL.of W,E2 (j:=0) rfl,rfl,_,rfl,?_⟩⟩;rcases cs with⟨rfl,cl,rfl⟩ | ⟨Z,l,rs,Y,ehd,el,len,kids,jn⟩
  .obtain⟨i,k,hi,hk,mi,mk,ab⟩:=Py net lo cl;generalize SZ C A B m=ca at W hi;generalize TK C B m=cb at W hk;refine Gc (B9 λM1 hM1=>?_);refine A6 rfl (A6 rfl ⟨r,_,rfl,JL.of W,show ¬(HT.KY 3 0 (some 1)=0/\HT.KY 3 3 none=3)from by decide,λc hc=>?_⟩);have uc:=F1.new (o:=.tup (w5 [V.str "clash",.str ca,.str cb] (some 1) none)) hc;have ec:(IT H1 c (.tup (w5 [V.str "clash",.str ca,.str cb] (some 1) none))) c=some (.tup [.str ca,.str cb]):=A9;generalize IT H1 c (.tup (w5 [V.str "clash",.str ca,.str cb] (some 1) none))=H2 at uc ec⊢;have V2:=(C1.same uc).v;refine⟨c,_,rfl,JL.of ec,rfl,_,_,rfl,_,_,rfl,rfl,?_⟩;refine hM1 _ _ ?_;refine A6 rfl (A6 rfl (A6 rfl ⟨p,v,C,ks,A,B,i,m,ca,rfl,V2,nd,by lia,hi,?_⟩));rw[mi];refine⟨true,rfl,Gc ?_⟩;refine A6 rfl (A6 rfl (A6 rfl ⟨p,v,C,ks,A,B,k,m,cb,rfl,V2,nd,by lia,hk,?_⟩));rw[mk];refine⟨true,rfl,Gc ?_⟩;refine A6 rfl (A6 rfl (A6 rfl ⟨p,v,C,ks,A,B,i,k,ca,cb,rfl,V2,nd,by lia,hi,hk,?_⟩));rw[ab];exact q _ (sd.trans uc)
  have kidR:∀{H'},F1 H H'->∀(i j:Nat) r',(E3 Z.2 C.length)[i]?=some j->rs[i]?=some r'->JJ C A B L (u7 C A B Ms) H' k' (m ||| 2^j) r':=λs i j r' h1 h2=>(kids i j r' h1 h2).keep λb xs e=>s _ _ e;unfold u7 at Y;by_cases cv:Qo C A B m = []
  .rw[AQ cv]at Y;obtain⟨i,M,hiM,sM,rfl⟩:=NL.mp Y;obtain⟨rfl,rfl⟩:c = "beyond"/\xs = [.int (i:Int),.ref l]:=by
    obtain⟨h1,h2⟩:=GH ehd;exact⟨V.str.inj h1,h2⟩
   refine S6 (hN3 _ _ (B9 λN4 hN4=>?_));refine A6 rfl ⟨r,_,B8 rfl rfl ⟨JL.of W,E2 (j:=0) rfl,rfl,_,rfl,S6 (hN4 _ _ (B9 λN5 hN5=>?_))⟩⟩;refine A6 rfl ⟨r,_,B8 rfl rfl ⟨JL.of W,E2 (j:=0) rfl,rfl,_,rfl,Gc (B9 λM1 hM1=>?_)⟩⟩;clear hN1 hN2 hN3 hN4 hN5;refine A6 rfl ⟨r,_,B8 rfl rfl ⟨JL.of W,E2 (j:=1) rfl,?_⟩⟩;refine A6 rfl ⟨s',_,rfl,.inl (IV.of C1.s),_,rfl,λl1 hl1=>⟨l1,_,rfl,A9,by have:=hC.ls;rw[AB];lia,λl2 hl2=>?_⟩⟩;have li:=(AE.mp hiM).1;refine⟨l2,_,rfl,.inl (IV.of A9),rfl,Ue _,?_⟩;have u2:=(F1.new (o:=.rng 0 (((Ms.map E9).length:Nat):Int)) hl1).trans (F1.new (o:=.lst ((List.range (Ms.map E9).length).map λk:Nat=>V.int (k:Int))) hl2);generalize IT (IT H1 l1 (.rng 0 (((Ms.map E9).length:Nat):Int))) l2 (.lst ((List.range (Ms.map E9).length).map λk:Nat=>V.int (k:Int)))=H2 at u2⊢;rw[AQ rfl,show US (V.int (i:Int)) ((List.range (Ms.map E9).length).map λk:Nat=>V.int (k:Int))=true from zBj (BT.mpr (by rw[AB];exact li))];refine⟨_,rfl,S6 ?_⟩;have er2:=u2 _ _ W;have C2:=C1.same u2;have hat:QS (Ms.map E9) (i:Int)=some (E9 M):=E2 (by rw[AI,hiM];rfl);refine A6 rfl (A6 rfl (A6 rfl ⟨r,_,B8 rfl rfl ⟨JL.of er2,E2 (j:=1) rfl,⟨s',_,B8 rfl rfl ⟨IV.of C2.s,hat,?_⟩⟩⟩⟩));refine⟨_,rfl,B8 rfl rfl ⟨rfl,_,rfl,?_⟩⟩;rw[show decide (V.int (Builtin.bitAnd (m:Int) (Builtin.bitNot (M:Int)))=V.int 0)=true from(W7 m M).mpr sM];refine S6 (hM1 _ _ (B9 λM2 hM2=>?_));have s2:=sd.trans u2;refine A6 rfl ⟨v,_,B8 rfl rfl ⟨IV.of (s2 _ _ e1),rfl,na,A6 rfl ⟨IV.of (s2 _ _ e2),λD hD=>?_⟩⟩⟩;refine n9 (n:=C.length) (λi σ G=>(∃v0 v1,σ = [v0,v1,some (.ref s'),some (.ref r)])/\F1 H2 G/\G D=some (.lst ((w6 C (i7 C.length λj=>¬M.testBit j=true) i).map V.str))) ⟨⟨_,_,rfl⟩,F1.new hD,A9⟩ ?_ ?_ ?_ ?_
   .rintro i σ G hi ⟨_,s3,_⟩;exact⟨_,_,IV.of (s3 _ _ (s2 _ _ e2)),by rw[AI,AC hi];rfl⟩
   .rintro σ G ⟨_,s3,_⟩;exact⟨_,IV.of (s3 _ _ (s2 _ _ e2)),by rw[AB]⟩
   .rintro i' σ G x H' N hi ⟨⟨v0,v1,rfl⟩,s3,e5⟩ ⟨t,x,rfl,ht,rfl,hx⟩ hN;have hx:=hx _ (IV.of (s3 _ _ (s2 _ _ e2)));have hi':C[i']?=some C[i']:=AC hi;rw[AI,hi']at hx;cases hx;refine⟨t,A6 rfl ⟨JL.of A9,rfl,_,A6 rfl (B8 rfl rfl ?_)⟩⟩;have ut:=F1.new (o:=.tup [.int i',.str C[i']]) ht;have e5:=ut _ _ e5;have s4:=s3.trans ut;refine A6 rfl (A6 rfl ⟨r,_,B8 rfl rfl ⟨JL.of (s4 _ _ er2),E2 (j:=1) rfl,⟨s',_,B8 rfl rfl ⟨IV.of (s4 _ _ C2.s),hat,A6 rfl (B8 rfl rfl ⟨(show(0:Int)<=(i':Int) by lia),B8 rfl rfl ⟨rfl,A6 rfl ?_⟩⟩)⟩⟩⟩⟩);dsimp only;rw[zAy];have hle:=(X0 C (i7 C.length λj=>¬M.testBit j=true) i' (by lia)).length_le;rw[AS]at hle;refine V0 (λY=>?_) (λY=>?_)
    .refine A6 rfl ⟨_,e5,by rw[AB,sizeLine_eq];lia,hN _ _ ⟨⟨_,_,rfl⟩,s4.upd hD,?_⟩⟩;rw[A9,K1 hi',AQ ((Q2 i').mpr ⟨hi,by simpa using Y⟩),AR];rfl
    .refine hN _ _ ⟨⟨_,_,rfl⟩,s4,?_⟩;rw[K1 hi',AN (λz=>Y (by simpa using ((Q2 i').mp z).2)),CD];exact e5
   .rintro σ G ⟨_,s3,e5⟩;have e5:G D=some (.lst ((JO C (i7 C.length λj=>¬M.testBit j=true)).map V.str)):=e5;rw[Dg]at e5;have s4:=s2.trans s3;refine hM2 _ _ ?_;refine A6 rfl (A6 rfl (A6 rfl (A6 rfl (A6 rfl (A6 rfl ⟨r,_,B8 rfl rfl ⟨JL.of (s3 _ _ er2),E2 (j:=2) rfl,?_⟩⟩)))));exact⟨p,v,s',w',D,l,C,ks,A,B,L,Ms,R,m,_,rs,rfl,C2.same s3,lo,e5,s4 _ _ el,len,jn,kidR s4,λH' s6=>q H' (s4.trans s6)⟩
  .rw[AN cv]at Y;obtain⟨j,hj,rfl⟩:=AJ.mp Y;obtain⟨rfl,rfl⟩:c = "cover"/\xs = [.str (U0 C (2^j)),.ref l]:=by
    obtain⟨h1,h2⟩:=GH ehd;exact⟨V.str.inj h1,h2⟩
   refine S6 (hN3 _ _ (B9 λN4 hN4=>?_));refine A6 rfl ⟨r,_,B8 rfl rfl ⟨JL.of W,E2 (j:=0) rfl,rfl,_,rfl,S6 (hN4 _ _ (B9 λN5 hN5=>?_))⟩⟩;refine A6 rfl ⟨r,_,B8 rfl rfl ⟨JL.of W,E2 (j:=0) rfl,rfl,_,rfl,S6 (hN5 _ _ (B9 λM1 hM1=>?_))⟩⟩;clear hN1 hN2 hN3 hN4 hN5;obtain⟨nh,nm⟩:=KW.mp (BE.mp hj).2;have jl:j<C.length:=BT.mp (BE.mp hj).1;have hx:C[j]?=some (U0 C (2^j)):=Bf jl DX λi hi=>by
    rw[CQ,BI];lia
   have ek:(E3 (2^j ||| A.getD j 0) C.length).map (λj=>C.getD j "")=JO C (2^j ||| A.getD j 0):=(Dg ..).symm;have hz:∀h:Nat,(∀k,h.testBit k=true↔Y8 B m k)->decide (V.int (Builtin.bitAnd (Builtin.bitOr (m:Int) (h:Int)) ((2^j:Nat):Int))=V.int 0)=true:=λh hh=>by
    rw[PV];refine(Oh _ _).mpr λb Y h2=>?_;rw[CQ,BI]at h2;subst h2;rw[BX,CN,hh]at Y;exact Y.elim nm nh
   generalize U0 C (2^j)=x at W hx;refine A6 rfl (A6 rfl ⟨r,_,B8 rfl rfl ⟨JL.of W,E2 (j:=1) rfl,⟨p,v,C,ks,A,B,x,rfl,C1.v,?_⟩⟩⟩);rw[AX (AM hx)];refine⟨true,rfl,S6 (hM1 _ _ (B9 λM2 hM2=>?_))⟩;refine A6 rfl (A6 rfl ⟨r,_,B8 rfl rfl ⟨JL.of W,E2 (j:=1) rfl,Nat.le_of_lt_succ (by show 1<sizeLine+1;decide),λu hu=>?_⟩⟩);have uu:=F1.new (o:=.lst [.str x]) hu;have C2:=C1.same uu;refine⟨p,v,u,C,ks,A,B,[x],rfl,C2.v,nd,by lia,.inl (IV.of A9),λy hy=>by rw[AG.mp hy];exact AM hx,λz lz hz'=>?_⟩;have ez:=Oa nd hx lz hz';subst ez;refine hM2 _ _ (B9 λM3 hM3=>?_);generalize IT H1 u (.lst [.str x])=H2 at uu C2⊢;refine A6 rfl (A6 rfl (A6 rfl ⟨p,v,m,C,ks,A,B,rfl,C2.v,by lia,λh hh=>?_⟩));refine B8 rfl rfl (A6 rfl (B8 rfl rfl ⟨rfl,_,rfl,?_⟩));dsimp only;rw[hz h hh];refine S6 (hM3 _ _ (B9 λM4 hM4=>?_));have s2:=sd.trans uu;have er2:=uu _ _ W;refine A6 rfl (A6 rfl (A6 rfl ⟨v,_,B8 rfl rfl ⟨IV.of (s2 _ _ e1),rfl,?_⟩⟩));refine A6 rfl ⟨v,_,B8 rfl rfl ⟨IV.of (s2 _ _ e1),rfl,.inl ⟨rfl,_,IV.of (s2 _ _ e2)⟩,A6 rfl ⟨r,_,B8 rfl rfl ⟨JL.of er2,E2 (j:=1) rfl,⟨na,C,x,j,rfl,rfl,IV.of (s2 _ _ e2),hx,λm hm z=>by have:=J9 nd z hx;lia,sa,_,B8 rfl rfl ⟨IV.of (s2 _ _ e3),u6 (by rw[mA.len];exact jl),?_⟩⟩⟩⟩⟩⟩;refine B8 rfl rfl ?_;dsimp only;rw[PV];refine⟨p,v,2^j ||| A.getD j 0,C,ks,A,B,rfl,C2.v,by lia,λa H5 ha s5 ea=>?_⟩;have s25:=s2.trans s5;refine hM4 _ _ ?_;refine A6 rfl (A6 rfl (A6 rfl (A6 rfl (A6 rfl (A6 rfl ⟨r,_,B8 rfl rfl ⟨JL.of (s5 _ _ er2),E2 (j:=2) rfl,?_⟩⟩)))));exact⟨p,v,s',w',a,l,C,ks,A,B,L,Ms,R,m,_,rs,rfl,C2.same s5,lo,by rw[ek];exact ea,s25 _ _ el,len,jn,kidR s25,λH' s6=>q H' (s25.trans s6)⟩
theorem Nx(T:Tx K mg):∀k,IZ P w K mg base JK (3+2*k) T.aj.f T.aj.fd ["_law_view","_law_sets_here","_law_words","_law_held","_law_tree"] (Ax K "cover" u7 k)
 | 0=>Gj (n:=2) T (by decide) (S:=λ_ _ _ _=>False) ⟨λ_ _ _ _ h=>h.elim,λ_ _ _ _ _ _ _ _ _ _ _ _ _ h=>h.elim⟩ λa e=>by lia
 | k+1=>Gj (n:=3+2*k+1) T (by lia) (Ws T (by lia) (Nx T k)) λa e=>by cases e;rfl
def Yl{K:VN}{x:Str}{H:Hp}{Q:VK}(o:PySem.PyData.strOk x=true)(q:Q (.bl true) H):zHf K (.str x) (.str x) H Q:=by
 have e:Rp K H (.str x) (.str x):=by simp only[Rp]
 have p:Pl (.str x):=⟨by rw[PyData.canLay0];exact o,by rw[PyData.depth];decide⟩;exact⟨_,_,e,e,p,p,by rw[PySem.SeqAt.eqv_refl _ p.1];exact q⟩
def tyB(b:Bool):A2:=.type (bif b then "list" else "tuple")
def zEw{K:VN}:∀b,PySem.W.kitOne K (tyB b) (.type "list")=some b
 | true=>rfl
 | false=>rfl
def zEx{K:VN}:∀b,PySem.W.kitOne K (tyB b) (.type "tuple")=some !b
 | true=>rfl
 | false=>rfl
def zJe{K:VN}:∀b,PySem.W.kitAny K (tyB b) (["list","tuple"].map Value.type)=some true
 | true=>rfl
 | false=>rfl
def zDk(b:Bool):(!decide (V.bl b=V.bl b))=false:=congrArg _ (AX rfl)
def LT(b:Bool)(xs:A1 V):HO:=bif b then .lst xs else .tup xs
def Qq{K:VN}{H:Hp}{l:A3}{xs:A1 V}:∀{b:Bool},H l=some (LT b xs)->NM K H (.ref l) (tyB b)
 | true,h=>.lst h
 | false,h=>.tup h
def zGr{H:Hp}{l:A3}{xs:A1 V}:∀{b:Bool},H l=some (LT b xs)->H l=some (.lst xs)\/H l=some (.tup xs)
 | true,h=>.inl h
 | false,h=>.inr h
def sqB(K:VN)(b:Bool):Hp->A3->A1 V->Prop:=bif b then IV K else JL K
def Pb{K:VN}{H:Hp}{l:A3}{xs:A1 V}:∀{b:Bool},H l=some (LT b xs)->sqB K b H l xs
 | true,h=>IV.of h
 | false,h=>JL.of h
def Zq{K:VN}{H:Hp}{l:A3}{xs:A1 V}{b:Bool}(h:H l=some (LT b xs)):VG K H l xs:=(zGr h).imp IV.of JL.of
def zGa{K:VN}{H:Hp}{l m:A3}{xs c:A1 V}{R:It->Hp->Prop}:∀{b:Bool},H l=some (LT b xs)->H m=some (LT b c)->R (UK (sqB K b) l m) H->zJu K R l m xs c H
 | true,h,a,q=>.inl ⟨IV.of h,IV.of a,q⟩
 | false,h,a,q=>.inr ⟨JL.of h,JL.of a,q⟩
def zIj(K:VN):A1 V->Hp->VK->Prop:=λa H Q=>zCm K a H Q\/∃(x:V) (p:A3) (c:A1 String) (b:Bool) (T:String),a = [x,.ref p]/\H p=some (.tup (c.map V.ty))/\((x = .non/\T = "NoneType")\/∃i,x = .int i/\T = "int")/\PySem.W.kitAny K (.type T) (c.map Value.type)=some b/\Q (.bl b) H
def Wd{X:Cx}(K:VN)(j:X.K=K:=by rfl):K3 X (.builtin "isinstance") (zIj K):=by
 subst j;intro a s σ H k l Q I r h;rcases h with h | ⟨x,p,D,b,T,rfl,m,o,d,q⟩
 .exact Wb X.K rfl a s σ H k l Q I r h
 obtain⟨u,v,rfl,e,c⟩:=r.two;cases c;obtain⟨w,c,⟨⟨E,F,y,A⟩,f,B,n,g⟩,G⟩:=I.tuple (JL.of m);rw[Lu c]at g;cases B;cases g;rcases o with⟨rfl,rfl⟩ | ⟨i,rfl,rfl⟩
 .cases e;exact WE PySem.W.kitx_none I.kIn VP f d (λz=>nomatch z) λC=>⟨.bl b,H,I.tok _,rfl,q⟩
 .obtain⟨t,rfl⟩:=(show ∃t,u=Value.int i t from e);exact WE PySem.W.kitx_int I.kIn VP f d (λz=>nomatch z) λC=>⟨.bl b,H,I.tok _,rfl,q⟩
def Of{K:VN}{d:PyData}{v:V}{H:Hp}{Q:VK}(e:Rp K H d v)(o:PyData.canLay0 d=true)(z:d.depth<=1)(q:Q (.bl true) H):zHf K v v H Q:=by
 have p:Pl d:=⟨o,VR z (by decide)⟩;exact⟨_,_,e,e,p,p,by rw[PySem.SeqAt.eqv_refl _ p.1];exact q⟩
theorem Lq:IR ["_law_found","_law_due"] ["_law_found","_law_due"] (B7 P7):=KZ
theorem zBn{f:A3}{a:JC}{b:A1 Str}:IZ P w K mg base JK 0 f a b Lj:=⟨λ_ _ _ _ h=>h.elim,λ_ _ _ _ _ _ _ _ _ _ _ _ _ h=>h.elim⟩
def Su(S:Sp):Sp:=λf H Q _=>(∃a:Str,f = [.str a,.str a]/\PySem.PyData.strOk a=true/\∀c,F1 H c->Q (.bl true) c)\/(∃v:V,f = [v,v]/\(v = .non\/∃i,v = .int i)/\∀c,F1 H c->Q (.bl true) c) \/
 ∃(l m:A3) (b:Bool) (e g:A1 V),f = [.ref l,.ref m]/\H l=some (LT b e)/\H m=some (LT b g)/\e.length=g.length/\e.length<=1000 /\
  (∀(i:Nat) (x y:V) (c:Hp) (h:VK) (E:XK),e[i]?=some x->g[i]?=some y->F1 H c->(∀d,F1 c d->h (.bl true) d)->S [x,y] c h E)/\∀c,F1 H c->Q (.bl true) c
theorem Ht(T:Tx K mg){n:Nat}{S:Sp}(c:IZ P w K mg base JK n T.aw.f T.aw.fd ["_law_found","_law_due"] S):IZ P w K mg base JK (n+1) T.aw.f T.aw.fd ["_law_found","_law_due"] (Su S):=by
 refine T.aw.F.ok Lq (λvs H Q E h=>?_) (λcdv A J s H vs Q E G h=>?_)
 .rcases h with⟨a,rfl,_⟩ | ⟨v,rfl,_⟩ | ⟨l,m,b,B,X,rfl,_⟩
  .rfl
  .rfl
  .rfl
 .refine⟨_,(B3 (G9 (K7 (E5 (Wd K) T.ae C3 (A8 (pv 1) (A8 (J8 (A8 (V7 T.aU V3) (A8 (V7 T.aW S9) B1))) B1)))) (B3 (G9 (PW.pt (d0 (C7 Es (E5 (M6 K) T.ae C3 (A8 (pv 0) (A8 (V7 T.aU V3) B1))) (E5 (M6 K) T.ae C3 (A8 (pv 1) (A8 (V7 T.aU V3) B1))) (D8 _)) (W1 (C7 Es (E5 (M6 K) T.ae C3 (A8 (pv 0) (A8 (V7 T.aW S9) B1))) (E5 (M6 K) T.ae C3 (A8 (pv 1) (A8 (V7 T.aW S9) B1))) (D8 _))))) (B4 (C0 U2)) C5)
   (B4 (C0 (U3 (K5 P5 (E5 (O0 K) T.an M0 (A8 (pv 0) B1)) (E5 (O0 K) T.an M0 (A8 (pv 1) B1)) (D8 _)) (W3 (E5 (Zr K) T.bL Zj (A8 (S7 (N':=["_law_one","_law_other"]) (cap:=[none,none]) (cl:=[]) (O7 trivial trivial) rfl (zKl K T.bv (A8 (pv 0) (A8 (pv 1) B1))) (λ_ _ _ _=>by exact⟨(QY K (n:=2) (C6 (NC 0) (C6 (NC 1) M7))),G7,(D4 T.aw c (G.mono (VQ _)) (A8 (pv 0) (A8 (pv 1) B1)))⟩)) B1))))))) C5)
   (B3 (G9 (PW.pt (d0 (C7 Yx (pv 1) Ty (D8 _)) (W1 (K7 (E5 (M6 K) T.ae C3 (A8 (pv 1) (A8 (V7 T.bt Ir) B1))))))) (B4 (C0 (U3 (K5 (zAe K G.units) (pv 0) (pv 1) (D8 _)) (W3 (K5 P5 (E5 (M6 K) T.ae C3 (A8 (pv 0) (A8 (V7 T.bt Ir) B1))) (E5 (M6 K) T.ae C3 (A8 (pv 1) (A8 (V7 T.bt Ir) B1))) (D8 _)))))) C5)
   (B3 (G9 (K7 (E5 (M6 K) T.ae C3 (A8 (pv 1) (A8 (V7 T.bx Kz) B1)))) (B4 (C0 (U3 (E5 (M6 K) T.ae C3 (A8 (pv 0) (A8 (V7 T.bx Kz) B1))) (W3 (K5 (zAe K G.units) (pv 0) (pv 1) (D8 _)))))) C5)
   (B4 (C0 (U3 (E5 (M6 K) T.ae C3 (A8 (pv 0) (A8 (V7 T.bw Nt) B1))) (U3 (zGo (E5 (M6 K) T.ae C3 (A8 (pv 0) (A8 (V7 T.bx Kz) B1)))) (W3 (K5 (zAe K G.units) (pv 0) (pv 1) (D8 _)))))))))),?_⟩
  rcases h with⟨b,rfl,ob,q⟩ | ⟨v,rfl,hv,q⟩ | ⟨l,m,b,B,X,rfl,hl,hm,I,len,hS,q⟩
  .refine A6 rfl ⟨by show 2<=sizeLine;decide,λt C=>?_⟩;have g:=F1.new (o:=.tup [.ty "list",.ty "tuple"]) C;refine .inl ⟨.str b,t,["list","tuple"],_,false,rfl,A9,.str b,.inl ⟨b,rfl⟩,rfl,?_⟩;generalize IT H t (.tup [.ty "list",.ty "tuple"])=L at g⊢;refine A6 rfl (S6 ?_);refine A6 rfl ⟨rfl,A6 rfl (S6 ?_)⟩;refine A6 rfl ⟨.str b, "str",_,true,rfl,.str b,rfl,A6 rfl (Gc ?_)⟩;refine A6 rfl (A6 rfl (Yl ob ⟨_,rfl,Gc ?_⟩));refine A6 rfl ⟨.str b, "str",_,true,rfl,.str b,rfl,A6 rfl ⟨.str b, "str",_,true,rfl,.str b,rfl,?_⟩⟩;exact⟨rfl,q _ g⟩
  .refine A6 rfl ⟨by show 2<=sizeLine;decide,λt C=>?_⟩;have g:=F1.new (o:=.tup [.ty "list",.ty "tuple"]) C;have M:(IT H t (.tup [.ty "list",.ty "tuple"])) t=some (.tup (["list","tuple"].map V.ty)):=A9;generalize IT H t (.tup [.ty "list",.ty "tuple"])=L at g M⊢;rcases hv with rfl | ⟨i,rfl⟩
   .refine .inr ⟨.non,t,["list","tuple"],false,_,rfl,M,.inl ⟨rfl,rfl⟩,rfl,?_⟩;refine A6 rfl (S6 ?_);refine A6 rfl ⟨rfl,A6 rfl (Gc ?_)⟩;refine A6 rfl (A6 rfl (Of (d:=.none) (by simp only[Rp]) rfl (by rw[PyData.depth];decide) ⟨_,rfl,Gc ?_⟩));refine A6 rfl ⟨.non, "str",_,false,rfl,.non,rfl,A6 rfl ⟨.non, "str",_,false,rfl,.non,rfl,?_⟩⟩;exact⟨rfl,q _ g⟩
   .refine .inr ⟨.int i,t,["list","tuple"],false,_,rfl,M,.inr ⟨i,rfl,rfl⟩,rfl,?_⟩;refine A6 rfl (S6 ?_);refine A6 rfl ⟨rfl,A6 rfl (S6 ?_)⟩;refine A6 rfl ⟨.int i, "str",_,false,rfl,.int i,rfl,A6 rfl (S6 ?_)⟩;refine A6 rfl ⟨.int i, "bool",_,false,rfl,.int i,rfl,A6 rfl (S6 ?_)⟩;refine A6 rfl ⟨.int i, "int",_,true,rfl,.int i,rfl,A6 rfl (Gc ?_)⟩;refine A6 rfl ⟨.int i, "bool",_,false,rfl,.int i,rfl,A6 rfl (A6 rfl (Gc ?_))⟩;exact A6 rfl (A6 rfl (Of (d:=.int i) (by simp only[Rp]) rfl (by rw[PyData.depth];decide) (q _ g)))
  .refine A6 rfl ⟨by show 2<=sizeLine;decide,λt C=>?_⟩;have g:=F1.new (o:=.tup [.ty "list",.ty "tuple"]) C;have r:=g _ _ hl;have p:=g _ _ hm;refine .inl ⟨.ref m,t,["list","tuple"],_,true,rfl,A9,Qq p,.inr ⟨m,_,rfl,zGr p⟩,zJe b,?_⟩;generalize IT H t (.tup [.ty "list",.ty "tuple"])=L at g r p⊢;refine A6 rfl (Gc ?_);refine A6 rfl ⟨.ref l, "list",_,b,rfl,Qq r,zEw b,A6 rfl ⟨.ref m, "list",_,b,rfl,Qq p,zEw b,rfl,?_⟩⟩;refine⟨false,congrArg V.bl (zDk b),S6 ?_⟩;refine A6 rfl ⟨.ref l, "tuple",_,_,rfl,Qq r,zEx b,A6 rfl ⟨.ref m, "tuple",_,_,rfl,Qq p,zEx b,rfl,?_⟩⟩;refine⟨false,congrArg V.bl (zDk !b),S6 ?_⟩;refine A6 rfl (B8 (a:=l) rfl (Zq r) (A6 rfl (B8 (a:=m) rfl (Zq p) ⟨rfl,A6 rfl ?_⟩)));refine V0 (λ_=>?_) (λh=>absurd (AX (congrArg (λk:Nat=>V.int k) I)) h);refine A6 rfl (A6 rfl ⟨l,m,B,X,?_⟩);refine⟨rfl,zGa r p λD Y=>?_⟩;refine n9 (n:=B.length) (λi σ z=>(∃Z v1,σ = [Z,v1])/\F1 L z/\z D=some (.lst ((List.replicate i true).map V.bl))) ⟨⟨_,_,rfl⟩,F1.new Y,A9⟩ ?_ ?_ ?_ ?_
   .rintro i σ z O ⟨_,j,_⟩;exact⟨_,_,_,_,Pb (j _ _ r),Pb (j _ _ p),ID I,AC O,AC (I▸O)⟩
   .rintro σ z ⟨_,j,_⟩;exact⟨_,_,Pb (j _ _ r),Pb (j _ _ p),ID I,rfl⟩
   .rintro i σ z x H3 N O ⟨⟨Z,v1,rfl⟩,j,R⟩ ⟨u,x,y,rfl,hu,rfl,U,hy⟩ hN;have W:=F1.new (o:=.tup [x,y]) hu;refine⟨u,A6 rfl ⟨JL.of A9,rfl,_,A6 rfl (B8 rfl rfl ?_)⟩⟩;refine A6 rfl (A6 rfl (hS i x y _ _ _ (U _ (Pb (j _ _ r))) (hy _ (Pb (j _ _ p))) ((g.trans j).trans W) λH4 s4=>?_));refine⟨_,s4 _ _ (W _ _ R),by rw[AB,HB,sizeLine_eq];lia,hN _ _ ⟨⟨_,_,rfl⟩,((j.trans W).trans s4).upd Y,?_⟩⟩;rw[A9,List.replicate_succ',AR];rfl
   .rintro σ z ⟨_,j,R⟩;have e:(List.replicate B.length true).all id=true:=FD.mpr λx U=>(List.mem_replicate.mp U).2;have q':Q (.bl ((List.replicate B.length true).all id)) z:=e.symm▸q _ (g.trans j);exact⟨D,_,rfl,IV.of R,q'⟩
def TU(b:Bool)(ds:A1 PyData):PyData:=bif b then .list ds else .tuple ds
def ad(b:Bool)(l:A3):A1 A3:=bif b then [l]else []
def TR:JH->Prop
 | .inl _=>True
 | .inr s=>PySem.PyData.strOk s=true
def Ow(H:Hp):Nat->PyData->V->A1 A3->Prop
 | 0,_,_,_=>False
 | n+1,d,v,L=>(∃s:JH,d=kD s/\v=kV s/\TR s/\L = []) \/
  ∃(b:Bool) (l:A3) (a:A1 V) (c:A1 PyData) (e:A1 (A1 A3)),d=TU b c/\v = .ref l/\H l=some (LT b a)/\a.length=c.length/\a.length=e.length/\a.length<=300/\L=ad b l++e.flatten /\
   ∀(i:Nat) f x M,c[i]?=some f->a[i]?=some x->e[i]?=some M->Ow H n f x M
def Ow.keep{H H':Hp}{X:A1 A3}(k:∀a o,H a=some o->a∉X->H' a=some o)(c:∀x∈X,∀xs,H x≠some (.tup xs)):∀{n:Nat} {d:PyData} {v:V} {L:A1 A3},(∀l∈L,l∉X)->Ow H n d v L->Ow H' n d v L
 | 0,_,_,_,_,h=>h.elim
 | _+1,_,_,_,_,.inl h=>.inl h
 | n+1,_,_,_,e,.inr ⟨b,l,xs,j,m,p,q,f,r,s,t,u,h⟩=>by
  subst u;refine .inr ⟨b,l,xs,j,m,p,q,k _ _ f ?_,r,s,t,rfl,λi w x M A B g=>(h i w x M A B g).keep k c λy C=>e y (BO _ (List.mem_flatten.mpr ⟨M,AM g,C⟩))⟩;cases b with
  | true=>exact e l (.head _)
  | false=>exact λz=>c l z xs f
def Ow.same{H H':Hp}(s:F1 H H'){n:Nat}{d:PyData}{v:V}{L:A1 A3}(h:Ow H n d v L):Ow H' n d v L:=h.keep (X:=[]) (λa o e _=>s a o e) (λx z=>by cases z) λl _ z=>by cases z
def Ow.up{H:Hp}:∀{n m:Nat} {d:PyData} {v:V} {L:A1 A3},n<=m->Ow H n d v L->Ow H m d v L
 | 0,_,_,_,_,_,h=>h.elim
 | n+1,0,_,_,_,c,_=>absurd c (Nat.not_succ_le_zero _)
 | _+1,_+1,_,_,_,_,.inl h=>.inl h
 | n+1,m+1,_,_,_,c,.inr ⟨b,l,a,e,f,g,j,k,o,p,q,r,h⟩=>.inr ⟨b,l,a,e,f,g,j,k,o,p,q,r,λi s x M t u w=>(h i s x M t u w).up (Nat.le_of_succ_le_succ c)⟩
def Ow.str{H:Hp}{n:Nat}{s:Str}(h:PySem.PyData.strOk s=true):Ow H (n+1) (.str s) (.str s) []:=.inl ⟨.inr s,rfl,rfl,h,rfl⟩
def Ow.key{H:Hp}{n:Nat}{s:JH}(h:TR s):Ow H (n+1) (kD s) (kV s) []:=.inl ⟨s,rfl,rfl,h,rfl⟩
def Ow.LT{H:Hp}{n:Nat}{b:Bool}{l:A3}{xs:A1 V}{ds:A1 PyData}{Ls:A1 (A1 A3)}(e:H l=some (Sw.LT b xs))(a:xs.length=ds.length)(l2:xs.length=Ls.length)(c:xs.length<=300)(h:∀(i:Nat) d' x M,ds[i]?=some d'->xs[i]?=some x->Ls[i]?=some M->Ow H n d' x M):Ow H (n+1) (TU b ds) (.ref l) (ad b l++Ls.flatten):=.inr ⟨b,l,xs,ds,Ls,rfl,rfl,e,a,l2,c,rfl,h⟩
def Nr{α:Type}:∀n:Nat,(List.replicate n ([]:A1 α)).flatten = []
 | 0=>rfl
 | n+1=>by rw[ED,FK,Nr n];rfl
def Ow.flat{H:Hp}{n:Nat}{b:Bool}{l:A3}{xs:A1 V}{ds:A1 PyData}(e:H l=some (Sw.LT b xs))(a:xs.length=ds.length)(c:xs.length<=300)(h:∀(i:Nat) d' x,ds[i]?=some d'->xs[i]?=some x->Ow H n d' x []):Ow H (n+1) (TU b ds) (.ref l) (ad b l):=by
 have:=Ow.LT (n:=n) (Ls:=List.replicate xs.length []) e a (by rw[HB]) c λi d' x M d f g=>by
  rw[(List.mem_replicate.mp (AM g)).2];exact h i d' x d f
 rwa [Nr,CD]at this
def Ow.rows{H:Hp}{n:Nat}{b:Bool}{l:A3}{xs:A1 (V×PyData×A1 A3)}(e:H l=some (Sw.LT b (xs.map λx=>x.1)))(c:xs.length<=300)(h:∀x∈xs,Ow H n x.2.1 x.1 x.2.2):Ow H (n+1) (TU b (xs.map λx=>x.2.1)) (.ref l) (ad b l ++(xs.map λx=>x.2.2).flatten) :=
 Ow.LT e (by rw[AB,AB]) (by rw[AB,AB]) (by rw[AB];exact c) λi k x M g d f=>by
  rw[AI]at g d f;obtain⟨a,j,rfl⟩:=BC.mp g;rw[j]at d f;cases d;cases f;exact h a (AM j)
def Ow.strs{H:Hp}{n:Nat}{b:Bool}{l:A3}{ss:A1 Str}(e:H l=some (Sw.LT b (ss.map V.str)))(f:∀s∈ss,PySem.PyData.strOk s=true)(g:ss.length<=300):Ow H (n+2) (TU b (ss.map PyData.str)) (.ref l) (ad b l) :=
 Ow.flat e (by rw[AB,AB]) (by rw[AB];exact g) λi h x c a=>by
  rw[AI]at c a;obtain⟨s,d,rfl⟩:=BC.mp c;rw[d]at a;cases a;exact .str (f s (AM d))
def Ow.two{H:Hp}{n:Nat}{l:A3}{x y:V}{d e:PyData}{L M:A1 A3}(h:H l=some (.tup [x,y]))(a:Ow H n d x L)(b:Ow H n e y M):Ow H (n+1) (.tuple [d,e]) (.ref l) (L++M):=by
 have:=Ow.LT (n:=n) (b:=false) (xs:=[x,y]) (ds:=[d,e]) (Ls:=[L,M]) h rfl rfl (by show 2<=300;decide) λi j k m c f g=>by
  match i,c,f,g with
  | 0,c,f,g=>cases c;cases f;cases g;exact a
  | 1,c,f,g=>cases c;cases f;cases g;exact b
 rwa [show ad false l ++ [L,M].flatten=L++M by show [] ++(L ++(M ++ []))=_;rw[CD];rfl]at this
def Ow.three{H:Hp}{n:Nat}{l:A3}{xs:A1 V}{ds:A1 PyData}(h:H l=some (.tup xs))(e:xs.length=ds.length)(c:xs.length<=300)(a:∀(i:Nat) d' x,ds[i]?=some d'->xs[i]?=some x->Ow H n d' x []):Ow H (n+1) (.tuple ds) (.ref l) []:=Ow.flat (b:=false) h e c a
def Eh{ns:A1 Str}(h:∀y∈ns,Q7 y=true)(m:Nat):PySem.PyData.strOk (U0 ns m)=true:=by
 unfold U0;cases e:JO ns m with
 | nil=>decide +kernel
 | cons x r=>exact Y3 (h x ((o7 ns m).subset (by rw[e];exact .head _)))
def U_(ns:A1 Str)(A B:A1 Nat)(L:Nat)(F:Nat->A1 Hd):Nat->Nat->PyData
 | 0,_=>.none
 | k+1,m=>if pB (X6 B m)=true then .tuple [.str "clash",.str (SZ ns A B m),.str (TK ns B m)]else
  .tuple ((g7 A B ns.length L F m).1.map kD ++ [.tuple ((E3 (g7 A B ns.length L F m).2 ns.length).map λj=>U_ ns A B L F k (m ||| 2^j))])
def Wk{ks:A1 JH}{x:V}{d:PyData}{H:Hp}{n:Nat}(h:∀a∈ks,TR a)(f:Ow H (n+1) d x [])(i:Nat)(d':PyData)(b:V)(h1:(ks.map kD ++ [d])[i]?=some d')(h2:(ks.map kV ++ [x])[i]?=some b):Ow H (n+1) d' b []:=by
 by_cases c:i<ks.length
 .rw[DI (by rw[AB];exact c),AI]at h1 h2;obtain⟨a,e,rfl⟩:=BC.mp h1;rw[e]at h2;cases h2;exact .key (h a (AM e))
 .rw[DE (by rw[AB];lia),AB]at h1 h2
  match i-ks.length,h1,h2 with
  | 0,h1,h2=>cases h1;cases h2;exact f
def Kl{ns:A1 Str}{A B:A1 Nat}{L:Nat}{F:Nat->A1 Hd}{H:Hp}(f:∀y∈ns,Q7 y=true)(g:ns.length<=100)(o:∀m,∀s∈F m,s.1.length<=10/\∀a∈s.1,TR a):∀{k m:Nat} {r:A3},JJ ns A B L F H k m r->Ow H (2*k+1) (U_ ns A B L F k m) (.ref r) []
 | 0,_,_,h=>h.elim
 | k+1,m,r,.inl ⟨c,e⟩=>by
  unfold U_;rw[AQ (KW.mpr c)];refine Ow.three e rfl (by show 3<=300;decide) λi I x b d=>?_
  match i,b,d with
  | 0,b,d=>cases b;cases d;exact Ow.str (n:=2*k+1) (by decide +kernel)
  | 1,b,d=>cases b;cases d;exact Ow.str (n:=2*k+1) (Eh f _)
  | 2,b,d=>cases b;cases d;exact Ow.str (n:=2*k+1) (Eh f _)
 | k+1,m,r,.inr ⟨c,l,J,u,v,p,h⟩=>by
  unfold U_;rw[AN λz=>c (KW.mp z)];have w:(g7 A B ns.length L F m).1.length<=10/\∀a∈(g7 A B ns.length L F m).1,TR a:=by
   by_cases z:F m = []
   .unfold g7;rw[z];exact⟨CY _,λa h=>absurd h BB⟩
   .exact o m _ (l9 z)
  have lk:(E3 (g7 A B ns.length L F m).2 ns.length).length<=300:=VR (P4 _ _) (by lia);refine Ow.three u (by rw[AW,AW,AB,AB];rfl) (by rw[AW,AB];show _+1<=300;lia) (Wk (n:=2*k+1) w.2 ?_);refine Ow.three (n:=2*k+1) v (by rw[AB,AB,p]) (by rw[AB,p];exact lk) λj K M q t=>?_;rw[AI]at q t;obtain⟨C,D,rfl⟩:=BC.mp q;obtain⟨E,G,rfl⟩:=BC.mp t;exact Kl f g o (h j C E D G)
def zEk{n m:Nat}{Ms:A1 Nat}:∀s∈Ku n Ms m,s.1.length<=10/\∀a∈s.1,TR a:=λs b=>by
 obtain⟨i,M,_,_,rfl⟩:=NL.mp b;refine⟨by show 2<=10;decide,λa ha=>?_⟩;rcases AK.mp ha with rfl | ha
 .exact(by decide +kernel:PySem.PyData.strOk "beyond" = true)
 .rw[AG.mp ha];trivial
def Yv{ns:A1 Str}{A B Ms:A1 Nat}(d:∀y∈ns,Q7 y=true)(m:Nat):∀s∈u7 ns A B Ms m,s.1.length<=10/\∀a∈s.1,TR a:=λs b=>by
 unfold u7 at b;by_cases c:Qo ns A B m = []
 .rw[AQ c]at b;exact zEk s b
 .rw[AN c]at b;obtain⟨j,_,rfl⟩:=AJ.mp b;refine⟨by show 2<=10;decide,λa ha=>?_⟩;rcases AK.mp ha with rfl | ha
  .exact(by decide +kernel:PySem.PyData.strOk "cover" = true)
  .rw[AG.mp ha];exact Eh d _
def Bc:Nat->Sp
 | 0=>Lj
 | n+1=>Su (Bc n)
def zAv{ds a:A1 PyData}:∀{b c:Bool},TU b ds=TU c a->b=c/\ds=a
 | true,true,h=>⟨rfl,PyData.list.inj h⟩
 | false,false,h=>⟨rfl,PyData.tuple.inj h⟩
 | true,false,h=>by cases h
 | false,true,h=>by cases h
def Th{ds:A1 PyData}{s:JH}:∀{b:Bool},kD s≠TU b ds
 | true,h=>by cases s<;>cases h
 | false,h=>by cases s<;>cases h
def zFk:∀{a b:JH},kD a=kD b->a=b
 | .inl _,.inl _,h=>by cases h;rfl
 | .inr _,.inr _,h=>by cases h;rfl
 | .inl _,.inr _,h=>by cases h
 | .inr _,.inl _,h=>by cases h
def Ow.alike{H:Hp}:∀{n:Nat} {d:PyData} {x y:V} {L M:A1 A3} {Q:VK} {E:XK},Ow H n d x L->Ow H n d y M->(∀H',F1 H H'->Q (.bl true) H')->Bc n [x,y] H Q E
 | 0,_,_,_,_,_,_,_,h,_,_=>h.elim
 | n+1,d,x,y,_,_,Q,E,.inl ⟨s,f,j,o,_⟩,g,q=>by
  subst f j;rcases g with⟨v,a,c,_⟩ | ⟨b,l,r,k,m,a,_⟩
  .cases zFk a;subst c;cases s with
   | inl i=>exact .inr (.inl ⟨_,rfl,.inr ⟨i,rfl⟩,q⟩)
   | inr s=>exact .inl ⟨s,rfl,o,q⟩
  .exact absurd a Th
 | n+1,d,x,y,_,_,Q,E,.inr ⟨b,l,r,k,m,f,j,a,w,N,O,_,h⟩,g,q=>by
  subst f j;rcases g with⟨v,c,_⟩ | ⟨P,z,p,A,e,c,B,C,D,R,S,_,F⟩
  .exact absurd c.symm Th
  .obtain⟨rfl,rfl⟩:=zAv c;subst B;refine .inr (.inr ⟨l,z,b,r,p,rfl,a,C,w.trans D.symm,by lia,λi x y H' T E t G s I=>?_,q⟩);have U:=(AE.mp t).1;have u:k[i]?=some (k[i]'(by lia)):=AC _;have J:m[i]?=some (m[i]'(by lia)):=AC _;have K:e[i]?=some (e[i]'(by lia)):=AC _;exact((h i _ x _ u t J).same s).alike ((F i _ y _ u G K).same s) I
theorem y9(T:Tx K mg):∀n,IZ P w K mg base JK n T.aw.f T.aw.fd ["_law_found","_law_due"] (Bc n)
 | 0=>zBn
 | n+1=>Ht T (y9 T n)
def Ut:∀{a b:A1 Str},TS.ND a=TS.ND b->a=b
 | [],[],_=>rfl
 | [],_::_,h=>by cases h
 | _::_,[],h=>by cases h
 | x::a,y::b,h=>by
  obtain⟨c,d⟩:=GH h;rw[Zc c,Ut d]
def zAr{a b:A1 (A1 Str)}(h1:a.Pairwise λx y=>TS.KN (TS.ND y) (TS.ND x)=false)(h2:b.Pairwise λx y=>TS.KN (TS.ND y) (TS.ND x)=false)(h:a.Perm b):a=b :=
 List.Perm.eq_of_pairwise (λx y _ _ h1 h2=>Ut (TS.NZ _ _ h2 h1)) h1 h2 h
def VA(ls:A1 (A1 Str)):PyData:=.list (ls.map sd)
def Zi{K:VN}{H:Hp}{r:A3}{ts:A1 (A3×A1 Str)}(a:H r=some (.lst (ts.map λt=>V.ref t.1)))(b:∀t∈ts,H t.1=some (.lst (t.2.map V.str))):Rp K H (VA (ts.map λt=>t.2)) (.ref r):=by
 unfold VA;simp only[Rp];refine⟨r,_,rfl,IV.of a,?_⟩;clear a
 induction ts with
 | nil=>simp[QN]
 | cons t ts c =>
  show QN K H (sd t.2 ::(ts.map λt=>t.2).map sd) (V.ref t.1::ts.map λt=>V.ref t.1);simp only[QN];exact⟨_,_,rfl,zAh (IV.of (b t (BN ..))),c λu d=>b u (BG _ d)⟩
def zFp{ls:A1 (A1 Str)}(h:∀l∈ls,∀y∈l,Q7 y=true):Pl (VA ls):=by
 have c:∀ls:A1 (A1 Str),(∀l∈ls,∀y∈l,Q7 y=true)->PyData.canLayAll0 (ls.map sd)=true/\PyData.depthAll (ls.map sd)<=10:=λls=>by
  induction ls with
  | nil=>exact λ_=>⟨rfl,by simp[PyData.depthAll]⟩
  | cons l ls e =>
   intro h;obtain⟨f,i⟩:=e λu g=>h u (BG _ g);have p:=zDa (h l (BN ..));have d:(sd l).depth<=10:=by
    unfold sd;rw[PyData.depth];have:=u8 l;lia
   rw[AZ,PyData.canLayAll0,PyData.depthAll,p.1,f];exact⟨rfl,by lia⟩
 obtain⟨a,b⟩:=c ls h;refine⟨by unfold VA;rw[PyData.canLay0];exact a,?_⟩;unfold VA;rw[PyData.depth];lia
def zIw(ns:A1 Str)(a:Nat->Prop)(Ms:A1 Nat):Prop:=Ms.Nodup/\(∀m,m∈Ms↔a m)/\(Ms.map (JO ns)).Pairwise λx y=>TS.KN (TS.ND y) (TS.ND x)=false
def UH(ns:A1 Str)(a:Nat->Prop):A1 Nat:=Classical.epsilon (zIw ns a)
def Kf{ns:A1 Str}{b:Nat->Prop}{Ms:A1 Nat}(g:ns.Nodup)(lo:∀m,b m->J_ ns.length m)(h:zIw ns b Ms):Ms=UH ns b:=by
 have i:zIw ns b (UH ns b):=Classical.epsilon_spec ⟨Ms,h⟩;obtain⟨j,d,k⟩:=h;obtain⟨n,f,o⟩:=i;have p:Ms.Perm (UH ns b):=(FV j n).mpr λm=>(d m).trans (f m).symm;have e:=congrArg (List.map (SL ns)) (zAr k o (p.map _));rw[BV,BV]at e;have a:∀l:A1 Nat,(∀m∈l,J_ ns.length m)->l.map (SL ns∘JO ns)=l:=λl q=>by
  conv=>rhs;rw[<-List.map_id l]
  exact GJ λM r=>Jq g (q M r)
 rwa [a Ms λm c=>lo m ((d m).mp c),a _ λm c=>lo m ((f m).mp c)]at e
def JJ.up{ns:A1 Str}{A B:A1 Nat}{L:Nat}{F:Nat->A1 Hd}{H:Hp}:∀{k a m:Nat} {r:A3},k<=a->JJ ns A B L F H k m r->JJ ns A B L F H a m r
 | 0,_,_,_,_,h=>h.elim
 | k+1,0,_,_,c,_=>absurd c (Nat.not_succ_le_zero _)
 | k+1,a+1,m,r,c,h=>h.imp id λ⟨x,l,b,d,e,f,h⟩=>⟨x,l,b,d,e,f,λi j g n o=>(h i j g n o).up (Nat.le_of_succ_le_succ c)⟩
def llD(ls:A1 (A1 Str)):PyData:=.list (ls.map λs=>.list (s.map PyData.str))
def Fx{H:Hp}{r:A3}{ts:A1 (A3×A1 Str)}{n:Nat}(er:H r=some (.lst (ts.map λt=>V.ref t.1)))(a:∀t∈ts,H t.1=some (.lst (t.2.map V.str)))(c:ts.length<=300)(d:∀t∈ts,t.2.length<=300/\∀y∈t.2,PySem.PyData.strOk y=true):Ow H (n+3) (llD (ts.map λt=>t.2)) (.ref r) (r::ts.map λt=>t.1):=by
 have h:=Ow.rows (H:=H) (n:=n+2) (b:=true) (l:=r) (xs:=ts.map λt=>(V.ref t.1,PyData.list (t.2.map PyData.str),[t.1])) (by rw[BV];exact er) (by rw[AB];exact c) λx f=>by
  obtain⟨t,e,rfl⟩:=AJ.mp f;exact Ow.strs (n:=n) (b:=true) (a t e) (d t e).2 (d t e).1
 rw[BV,BV]at h;have g:(ts.map ((λx:V×PyData×A1 A3=>x.2.2)∘λt=>(V.ref t.1,PyData.list (t.2.map PyData.str),[t.1]))).flatten=ts.map λt=>t.1:=by
  clear h er a c d
  induction ts with
  | nil=>rfl
  | cons t ts i=>rw[AZ,FK,i];rfl
 rw[g]at h;unfold llD;rw[BV];exact h
def zJq(ns:A1 Str)(A B:A1 Nat)(L:Nat)(F:RQ)(Ms:A1 Nat):PyData:=.tuple [llD (Ms.map (JO ns)),U_ ns A B L (F ns A B Ms) (Y6 ns.length 0) 0]
def zIq{j H:Hp}{ns:A1 Str}{A B Ms:A1 Nat}{L:Nat}{F:RQ}{f:Nat->Prop}{t r v:A3}{ts:A1 (A3×A1 Str)}(w:∀y∈ns,Q7 y=true)(D:ns.Nodup)(E:ns.length<=12)(G:∀m,∀s∈F ns A B Ms m,s.1.length<=10/\∀a∈s.1,TR a)(lo:∀m,f m->J_ ns.length m)
  (I:j r=none) (J:H t=some (.tup [.ref r,.ref v])) (er:H r=some (.lst (ts.map λt=>V.ref t.1))) (k:RT j H ts) (K:∀t∈ts,t.1≠r) (g:(ts.map λt=>t.2)=Ms.map (JO ns)) (o:Ms.Nodup) (N:∀m,m∈Ms↔f m) (le:Ms.length<=300) (p:ts.Pairwise (λa b=>TS.KN (TS.ND b.2) (TS.ND a.2)=false)) (d:U4 ns A B L (F ns A B Ms) H 0 v) :
  Ow H 40 (zJq ns A B L F (UH ns f)) (.ref t) (r::ts.map λt=>t.1)/\(r::ts.map λt=>t.1).Nodup/\(∀l∈r::ts.map λt=>t.1,j l=none):=by
 have O:Ms=UH ns f:=Kf D lo ⟨o,N,by rw[<-g];exact CG.mpr p⟩;have P:ts.length<=300:=by
  have:=congrArg List.length g;rw[AB,AB]at this;lia
 have x:∀t∈ts,t.2.length<=300/\∀y∈t.2,Q7 y=true:=λt i=>by
  obtain⟨M,_,e⟩:=AJ.mp (g▸AJ.mpr ⟨t,i,rfl⟩:t.2∈Ms.map (JO ns));have z:=o7 ns M;rw[<-e];exact⟨VR z.length_le (by lia),λy q=>w y (z.subset q)⟩
 refine⟨?_,DC.mpr ⟨λh=>?_,k.nd⟩,λl hl=>?_⟩
 .rw[<-O];unfold zJq;have C:=Fx (n:=36) er k.at_ P λt i=>⟨(x t i).1,λy q=>Y3 ((x t i).2 y q)⟩;rw[g]at C;have S:Y6 ns.length 0<=13:=by unfold Y6;lia
  have Q:=(Kl w (by lia) G d).up (m:=39) (by lia);have R:=Ow.two (n:=39) J C Q
  rwa [CD]at R
 .obtain⟨u,c,e⟩:=AJ.mp h;exact K u c e
 .rcases AK.mp hl with rfl | hl
  .exact I
  .obtain⟨u,c,rfl⟩:=AJ.mp hl;exact k.new u c
def Gr{α β:Type}(f:α->β)(a:A1 Nat)(xs:A1 α):T5 a (xs.map f) =(T5 a xs).map f:=by
 unfold T5;rw[List.map_filterMap];congr 1;funext k;rw[AI]
def Bq{H:Hp}:∀{c:A1 (A3×V×V)} {as bs:A1 Str},(c.map λp=>p.2) =(as.map V.str).zip (bs.map V.str)->(∀p∈c,H p.1=some (.tup [p.2.1,p.2.2]))->∃d:A1 KJ,(c.map λp=>V.ref p.1)=M9 d/\(d.map λq=>q.2)=as.zip bs/\∀q∈d,G0 H q
 | [],[],bs,e,_=>⟨[],rfl,rfl,λq h=>absurd h BB⟩
 | [],a::as,[],e,_=>⟨[],rfl,rfl,λq h=>absurd h BB⟩
 | [],a::as,b::bs,e,_=>by cases e
 | p::c,[],bs,e,_=>by cases e
 | p::c,a::as,[],e,_=>by cases e
 | p::c,a::as,b::bs,e,h=>by
  obtain⟨g,i⟩:=GH e;obtain⟨d,j,k,l⟩:=Bq i λp f=>h p (.tail _ f);have f:=h p (.head _);have g:p.2 =(V.str a,V.str b):=g;rw[g]at f;refine⟨(p.1,a,b)::d,?_,?_,λq hq=>?_⟩
  .show V.ref p.1 ::(c.map λp=>V.ref p.1)=V.ref p.1::M9 d;rw[j]
  .show(a,b) ::(d.map λq=>q.2) =(a,b)::as.zip bs;rw[k]
  .rcases AK.mp hq with e | hq
   .rw[e];exact f
   .exact l q hq
def zFs{α:Type}{J:It}{d:A1 α}{r:α->V}{a D:A3}{H:Hp}(as:L_ J (d.map r) a H){u:TT}{w:TE}{c:St}{x:A5 V}{Q:St->Hp->Prop}(p:α->Bool)(g:α->Str×Str)(P:d.length<=1000)(A:H D=none)
  (R:∀y∈d,∀G,F1 H G->∀M:Bool->Hp->Prop,(∀j,F1 G j->M (p y) j)->u (some (r y)::c) G M)
  (S:∀y∈d,∀G,F1 H G->∀M:VK,(∀t,G t=none->M (.ref t) (IT G t (.tup [.str (g y).1,.str (g y).2])))->w (some (r y)::c) G M)
  (q:∀σ G (b:A1 KJ),F1 H G->G D=some (.lst (M9 b))->(∀z∈b,G0 G z)->(b.map λz=>z.2) =(d.filter p).map g->Q σ G):Ig (V1 0) u (Af D w) J (x::c) (IT H D (.lst [])) Q:=by
 refine W0 as (λi σ G=>(∃v,σ=v::c)/\F1 H G/\∃b:A1 KJ,G D=some (.lst (M9 b))/\(∀z∈b,z.1≠D/\G0 G z)/\(b.map λz=>z.2) =((d.take i).filter p).map g) ⟨⟨_,rfl⟩,F1.new A,[],A9,λz h=>absurd h BB,rfl⟩ (λi σ G _ h=>h.2.1.at a) ?_ ?_
 .rintro i σ G v N B ⟨⟨x,rfl⟩,f,b,k,e,l⟩ C;rw[AI]at B;obtain⟨y,E,rfl⟩:=BC.mp B;have F:=AM E;refine R y F G f _ λj n=>?_;have k:=n _ _ k;have f:=f.trans n;have e:∀z∈b,z.1≠D/\G0 j z:=λz m=>⟨(e z m).1,n _ _ (e z m).2⟩;have I:(d.take (i+1)).filter p =(d.take i).filter p++if p y=true then [y]else []:=by
   rw[JE E,D_,DQ,GX]
  have T:b.length<=d.length:=by
   have:=congrArg List.length l;rw[AB,AB]at this;rw[this];exact VR (CB ..) (by rw[AS];exact Nat.min_le_right ..)
  refine V0 (λs=>S y F j f _ λt K=>?_) (λs=>C _ _ ⟨⟨_,rfl⟩,f,b,k,e,?_⟩)
  .have st:=F1.new (o:=.tup [.str (g y).1,.str (g y).2]) K;have L:t≠D:=(B2 k K).symm;have O:(IT j t (.tup [.str (g y).1,.str (g y).2])) t=some (.tup [.str (g y).1,.str (g y).2]):=A9;generalize IT j t (.tup [.str (g y).1,.str (g y).2])=U at st O⊢;refine⟨_,st _ _ k,by unfold M9;rw[AB,sizeLine_eq];lia,C _ _ ⟨⟨_,rfl⟩,(f.trans st).upd A,b ++ [(t,g y)],by rw[A9];unfold M9;rw[AR];rfl,λz m=>?_,by rw[AR,l,I,AQ s,AR];rfl⟩⟩;rcases A_.mp m with h | h
   .exact⟨(e z h).1,(B6 (e z h).1).trans (st _ _ (e z h).2)⟩
   .rw[AG.mp h];exact⟨L,(B6 L).trans O⟩
  .rw[I,AN s,CD];exact l
 .rintro σ G ⟨_,f,b,k,e,l⟩;rw[AB,CA]at l;exact q σ G b f k (λz m=>(e z m).2) l
def zDl{K:VN}{b D:A3}{d:A1 KJ}{H:Hp}{c:St}{k l:A5 V}{s:TE}{Q:St->Hp->Prop}(g:KJ->Str×Str)(E:H b=some (.lst (M9 d)))(F:∀q∈d,G0 H q)(I:d.length<=1000)(u:H D=none)
  (J:∀y∈d,∀G,F1 H G->∀M:VK,(∀t,G t=none->M (.ref t) (IT G t (.tup [.str (g y).1,.str (g y).2])))->s (some (.str y.2.1)::some (.str y.2.2)::c) G M)
  (q:∀σ G (a:A1 KJ),F1 H G->G D=some (.lst (M9 a))->(∀z∈a,G0 G z)->(a.map λz=>z.2)=d.map g->Q σ G) :
  Ig (zIx K 2 (zBd (V1 0) (zBd (V1 1) zJo))) Aq (Af D s) (UU K b) (k::l::c) (IT H D (.lst [])) Q:=by
 refine W0 (ON (IV.of E)) (λi σ G=>(∃k l,σ=k::l::c)/\F1 H G/\∃a:A1 KJ,G D=some (.lst (M9 a))/\(∀z∈a,z.1≠D/\G0 G z)/\(a.map λz=>z.2) =(d.take i).map g) ⟨⟨_,_,rfl⟩,F1.new u,[],A9,λz h=>absurd h BB,rfl⟩ (λi σ G _ h=>h.2.1.at b) ?_ ?_
 .rintro i σ G v N n ⟨⟨k,l,rfl⟩,f,a,m,j,e⟩ L;unfold M9 at n;rw[AI]at n;obtain⟨r,w,rfl⟩:=BC.mp n;have x:=AM w;refine⟨r.1,_,rfl,JL.of (f _ _ (F r x)),rfl,⟨_,_,rfl,⟨_,_,rfl,⟨rfl,?_⟩⟩⟩⟩;have O:a.length<=d.length:=by
   have:=congrArg List.length e;rw[AB,AB,AS]at this;lia
  dsimp only[Aq];refine Gc (J r x G f _ λt A=>?_);have st:=F1.new (o:=.tup [.str (g r).1,.str (g r).2]) A;have B:t≠D:=(B2 m A).symm;have C:(IT G t (.tup [.str (g r).1,.str (g r).2])) t=some (.tup [.str (g r).1,.str (g r).2]):=A9;generalize IT G t (.tup [.str (g r).1,.str (g r).2])=P at st C⊢;refine⟨_,st _ _ m,by unfold M9;rw[AB,sizeLine_eq];lia,L _ _ ⟨⟨_,_,rfl⟩,(f.trans st).upd u,a ++ [(t,g r)],by rw[A9];unfold M9;rw[AR];rfl,λz p=>?_,by rw[AR,e,JE w,AR];rfl⟩⟩;rcases A_.mp p with h | h
  .exact⟨(j z h).1,(B6 (j z h).1).trans (st _ _ (j z h).2)⟩
  .rw[AG.mp h];exact⟨B,(B6 B).trans C⟩
 .rintro σ G ⟨_,f,a,m,j,e⟩;unfold M9 at e;rw[AB,CA]at e;exact q σ G a f m (λz p=>(j z p).2) e
def Kj:∀n:Nat,n<=12->(q0 n none none (some 2)).length<=12/\(q0 n (some 1) none (some 2)).length<=12/\(∀r∈q0 n none none (some 2),r<n)/\(∀r∈q0 n (some 1) none (some 2),r<n)/\(∀j:Fin 12,(q0 n none none (some 2))[j.1]?=none\/(q0 n none none (some 2))[j.1]?=some (2*j.1))/\∀j:Fin 12,(q0 n (some 1) none (some 2))[j.1]?=none\/(q0 n (some 1) none (some 2))[j.1]?=some (2*j.1+1):=by
 suffices h:∀n:Fin 13,(q0 n none none (some 2)).length<=12/\(q0 n (some 1) none (some 2)).length<=12/\(∀r∈q0 n none none (some 2),r<n.1)/\(∀r∈q0 n (some 1) none (some 2),r<n.1)/\(∀j:Fin 12,(q0 n none none (some 2))[j.1]?=none\/(q0 n none none (some 2))[j.1]?=some (2*j.1))/\∀j:Fin 12,(q0 n (some 1) none (some 2))[j.1]?=none\/(q0 n (some 1) none (some 2))[j.1]?=some (2*j.1+1)from
  λn a=>h ⟨n,Nat.lt_succ_of_le a⟩
 decide +kernel
def zDt{ss:A1 Str}(c:ss.length<=12){j:Nat}{a b:Str}(h:((T5 (q0 ss.length none none (some 2)) ss).zip (T5 (q0 ss.length (some 1) none (some 2)) ss))[j]?=some (a,b)):ss[2*j]?=some a/\ss[2*j+1]?=some b:=by
 obtain⟨l,t,m,n,o,p⟩:=Kj _ c;rw[HK,Eu m,Eu n]at h;obtain⟨q,r⟩:=h;obtain⟨u,f,g⟩:=HX.mp q;obtain⟨v,s,i⟩:=HX.mp r;have k:j<12:=BH (AE.mp f).1 l;have d:=o ⟨j,k⟩;have e:=p ⟨j,k⟩;simp only[f,s]at d e;simp at d e;rw[d]at g;rw[e]at i;exact⟨g,i⟩
def zFq{ss:A1 Str}(o:ss.Nodup)(g:ss.length<=12){zs:A1 (Str×Str)}(e:zs =(T5 (q0 ss.length none none (some 2)) ss).zip (T5 (q0 ss.length (some 1) none (some 2)) ss)) :
  (zs++zs.map λz=>(z.2,z.1)).Nodup/\zs.length<=12/\∀z∈zs,z.1∈ss/\z.2∈ss:=by
 have c:∀(j:Nat) z,zs[j]?=some z->ss[2*j]?=some z.1/\ss[2*j+1]?=some z.2:=λj z h=>zDt g (by rw[<-e];exact h);have p:zs.Nodup:=HJ.mpr λi j k l v m=>by
  have d:=c i _ (AC k);have f:=c j _ (AC l);rw[<-m]at f;have:=J9 o d.1 f.1;lia
 refine⟨EF.mpr ⟨p,?_,λz n y q m=>?_⟩,?_,λz n=>?_⟩
 .refine CG.mpr (p.imp fun{a b} h e=>h ?_);injection e with r s;exact Prod.ext s r
 .obtain⟨x,t,rfl⟩:=AJ.mp q;obtain⟨i,k⟩:=CV.mp n;obtain⟨j,l⟩:=CV.mp t;have d:=(c i _ k).1;have f:=(c j _ l).2;rw[m]at d;have:=J9 o d f;lia
 .obtain⟨u,_⟩:=Kj _ g;have w:(T5 (q0 ss.length none none (some 2)) ss).length<=12:=VR (List.length_filterMap_le ..) u;rw[e,List.length_zip];lia
 .obtain⟨i,k⟩:=CV.mp n;obtain⟨d,f⟩:=c i _ k;exact⟨AM d,AM f⟩
def zFx{as:A1 Str}:as.Nodup->∀bs:A1 Str,(as.zip bs).Nodup/\∀z∈as.zip bs,z.1∈as/\z.2∈bs:=λc bs=>by
 refine⟨?_,λz d=>FZ d⟩
 induction as generalizing bs with
 | nil=>rw[List.zip_nil_left];exact FU
 | cons a as e =>
  cases bs with
  | nil=>rw[List.zip_nil_right];exact FU
  | cons b bs =>
   rw[GT];exact DC.mpr ⟨λh=>(DC.mp c).1 (FZ h).1,e (DC.mp c).2 bs⟩
def Ua(ss:A1 Str)(lo hi:A5 Int):∃bs:A1 Str,w5 (ss.map V.str) lo hi=bs.map V.str/\(∀y∈bs,y∈ss)/\bs.length<=ss.length:=by
 unfold w5;rw[<-List.map_drop,<-List.map_take];exact⟨_,rfl,λy h=>EN (CK h),by rw[AS,DJ];lia⟩
def Lb(ns:A1 Str)(k:Nat):w5 (ns.map V.str) none (some (k:Int)) =(ns.take k).map V.str:=by
 unfold w5;rw[HT.QX,HT.SV,ET,Nat.sub_zero,AB,<-List.map_take];congr 1;rw[<-H_,CA]
def LA.take{ss:A1 Str}(h:LA ss)(k:Nat):LA (ss.take k):=⟨λx a=>h.1 x (CK a),h.2.1.sublist (ES _ _),by rw[AS];have:=h.2.2;lia⟩
def Ye(ss:A1 Str):∃a:Str,∀y∈ss,QS (ss.map V.str) 0=some (.str a)/\a∈ss:=by
 cases ss with
 | nil=>exact⟨"",λy h=>absurd h BB⟩
 | cons a b=>exact⟨a,λy h=>⟨E2 (j:=0) rfl,.head _⟩⟩
def zAx(ss:A1 Str):∃a:Str,∀y∈ss,QS (ss.map V.str) (-1)=some (.str a)/\a∈ss:=by
 rcases List.eq_nil_or_concat ss with e | ⟨b,a,e⟩
 .exact⟨"",λy h=>by rw[e]at h;exact absurd h BB⟩
 .refine⟨a,λy h=>⟨?_,by rw[e,List.concat_eq_append];exact BO _ (.head _)⟩⟩;rw[e,List.concat_eq_append,AR];exact Xs _ _
theorem JV:IR ["_law_left_here","_law_most","_law_names_here","_law_way","_law_twos","_law_strikes_here"] ["_law_left_here","_law_most"] (B7 MY):=KZ
def Xr:Sp:=λh H Q _=>∃(p:A3) (c:Int) (e:Nat),h = [.ref p,.int (e:Int)]/\(e=7\/e=10)/\JG H p c/\c<=700000 /\
 ∀t n a (d:A1 Str) (f:A1 KJ) g b,Sm [p] H b->b t=some (.tup [.ref n,.ref a])->b n=some (.lst (d.map V.str))->LA d->d.length<=12->b a=some (.lst (M9 f))->(∀q∈f,G0 b q)->OA d f->g<=c+1100->JG b p g->Q (.ref t) b
theorem Ag(T:Tx K mg):IZ P w K mg base JK 4 T.a1.f T.a1.fd ["_law_left_here","_law_most"] Xr:=by
 refine T.a1.F.o1 JV λcdv A outer s H vs Q E hr h=>?_
 .obtain⟨p,c,B,rfl,hmo,L1,c1,q⟩:=h;refine⟨_,(B3 (D6 (i:=2) JV.nd rfl (.inr rfl) (Q6 (Tg K) (D4 T.bd (Hh T) (Rm hr) (A8 (pv 0) (A8 (D4 T.bi (Lp T) (Rm hr) (A8 (pv 0) B1)) B1))) S0 (Q1 (E1 (MD K) (P8 (A8 B5 (A8 B5 B1))) (Cu Bv T.bw Nt (A8 (K5 zEt (pv 1) B5 (D8 _)) B1)) (λ_ _=>rfl)))))
   (B3 (D6 (i:=3) JV.nd rfl (.inl rfl) (D4 T.as (J7 T) (Rm hr) (A8 (pv 0) (A8 B5 B1))))
   (B3 (G9 (C7 P5 (pv 3) B5 (D8 _)) (B4 (C0 (J8 (A8 (pv 2) (A8 (P8 B1) B1))))) C5)
   (B3 (G9 (C7 P5 (pv 3) B5 (D8 _)) (B3 (D6 (i:=4) JV.nd rfl (.inl rfl) (Zu K T.aU T.bv (A8 (Jf K (Q6 (Tg K) (pv 2) S0 (Q1 (pv 1))) S0 S0 (Q1 B5)) (A8 (Jf K (Q6 (Tg K) (pv 2) S0 (Q1 (pv 1))) (Q1 B5) S0 (Q1 B5)) B1))))
   (B4 (C0 (J8 (A8 (pv 2) (A8 (C4 Uw (pv 4) (S7 (N':=["_law_one","_law_other"]) (cap:=[none,none]) (cl:=[]) (O7 trivial trivial) rfl (OL K (pv 4)) (λ_ _ _ _=>by exact⟨(QY K (n:=2) (C6 (NC 0) (C6 (NC 1) M7))),G7,(J8 (A8 (pv 1) (A8 (pv 0) B1)))⟩))) B1)))))) C5)
   (B3 (G9 (C7 P5 (pv 3) B5 (D8 _)) (B4 (C0 (J8 (A8 (pv 2) (A8 (Zu K T.aU T.bv (A8 (pv 2) (A8 (C4 Uw (Q6 (Tg K) (pv 2) (Q1 B5) S0) (Q6 (Tg K) (pv 2) S0 (Q1 B5))) B1))) B1))))) C5)
   (B3 (G9 (C7 P5 (pv 3) B5 (D8 _)) (B3 (D6 (i:=5) JV.nd rfl (.inr rfl) (S7 (N':=["_law_one","_law_names_here"]) (cap:=[none,some 2]) (cl:=[("_law_names_here",_)]) (O7 ⟨⟨rfl,rfl,rfl,rfl⟩,trivial⟩ ⟨rfl,trivial⟩) rfl (OL K (pv 2)) (λ_ _ _ _=>by exact⟨(NC 0),G7,(J8 (A8 (pv 0) (A8 (E1 (MD K) (pv 1) B5 (λ_ _=>rfl)) B1)))⟩)))
   (B4 (C0 (J8 (A8 (pv 2) (A8 (C4 Uw (pv 5) (S7 (N':=["_law_one","_law_names_here","_law_strikes_here"]) (cap:=[none,some 2,some 5]) (cl:=[("_law_strikes_here",_),("_law_names_here",_)]) (O7 ⟨⟨rfl,rfl,rfl,rfl⟩,⟨⟨rfl,rfl,rfl,rfl⟩,trivial⟩⟩ ⟨rfl,⟨rfl,trivial⟩⟩) rfl (OL K (pv 2)) (λ_ _ _ _=>by exact⟨(NC 0),(V9 (C7 (Ar K hr.units) (J8 (A8 (E1 (MD K) (pv 1) (Kh Nh B5) (λ_ _=>rfl)) (A8 (pv 0) B1))) (pv 2) rfl)),(J8 (A8 (E1 (MD K) (pv 1) (Kh Nh B5) (λ_ _=>rfl)) (A8 (pv 0) B1)))⟩))) B1)))))) C5)
   (B4 (C0 (J8 (A8 (pv 2) (A8 (D4 T.a5 (Db T) (Rm hr) (A8 (pv 0) (A8 (Q6 (Tg K) (pv 2) S0 (Q1 (pv 1))) B1))) B1))))))))))),?_⟩
  refine B9 λN1 hN1=>?_;refine A6 rfl (A6 rfl ⟨p,_,rfl,L1,by lia,λsz H2 hsz k2 L2=>?_⟩);refine⟨p,_,sz,rfl,L2,by lia,by lia,λn0 s0 H3 hn0 k3 e3 l3 N3 L3=>?_⟩;obtain⟨z,J,ez⟩:∃z:Nat,z<=12/\QS [V.int 7,V.int 12] (if decide ((B:Int)>7)=true then 1 else 0)=some (.int (z:Int)):=by
   rcases hmo with rfl | rfl
   .exact⟨7,by decide,E2 (j:=0) rfl⟩
   .exact⟨12,by decide,E2 (j:=1) rfl⟩
  refine⟨by show 2<=sizeLine;decide,λt ht=>?_⟩;have ut:=F1.new (o:=.lst [.int 7,.int 12]) ht;refine A6 rfl (B8 rfl rfl (.inr ⟨_,rfl,t,_,B8 rfl rfl ⟨IV.of A9,ez,?_⟩⟩));refine A6 rfl ⟨n0,_,rfl,IV.of (ut _ _ e3),λn hn=>?_⟩;have un:=ut.trans (F1.new (o:=.lst (w5 (s0.map V.str) none (some (z:Int)))) hn);have e3:(IT (IT H3 t (.lst [.int 7,.int 12])) n (.lst (w5 (s0.map V.str) none (some (z:Int))))) n=some (.lst ((s0.take z).map V.str)):=by rw[A9,Lb]
  generalize IT (IT H3 t (.lst [.int 7,.int 12])) n (.lst (w5 (s0.map V.str) none (some (z:Int))))=H3' at un e3⊢;have N3:=N3.take z;have l12:(s0.take z).length<=12:=by rw[AS];lia
  generalize s0.take z=g at e3 N3 l12;have L3:=L3.same un;have k3:=k3.trans un.sm;refine hN1 _ _ (B9 λN2 hN2=>?_);refine A6 rfl (Cy (a:=p) rfl L3 (by lia) (by decide) (by decide) λd H4 hd k4 L4=>?_);have N:=OB k4 e3 (L3.ne e3);have k4:=k2.trans (k3.trans k4);clear e3 L3 L2 L1 hN1 ez J ut un hn hn0;have lt10:(g.take B).length<=10:=by rw[AS];lia
  have mt:∀y∈g.take B,y∈g:=λy Y=>CK Y;have Z:∀(a:A3) (S:A1 KJ) (X:Hp) (c5:Int),Sm [p] H X->X n=some (.lst (g.map V.str))->JG X p c5->c5<=c+1100->X a=some (.lst (M9 S))->(∀q∈S,G0 X q)->OA g S->2<=sizeLine/\∀t,X t=none->Q (.ref t) (IT X t (.tup [.ref n,.ref a])):=λa S X c5 k e L hc ea pin O=>⟨by decide,λt ht=>by
   have ut:=F1.new (o:=.tup [.ref n,.ref a]) ht;exact q t n a g S c5 _ (k.trans ut.sm) A9 (ut _ _ e) N3 l12 (ut _ _ ea) (Q9 ut pin) O hc (L.same ut)⟩
  have nmO:∀{zs:A1 (Str×Str)} {S:A1 KJ},(S.map λq=>q.2)=zs->zs.Nodup->(∀z∈zs,z.1∈g/\z.2∈g)->zs.length<=200->OA g S:=fun{zs S} e nd m l=>⟨λz J=>m z.2 (by rw[<-e];exact AJ.mpr ⟨z,J,rfl⟩),by rw[e];exact nd,by rw[<-e,AB]at l;exact l⟩;refine hN2 _ _ (B9 λN3' hN3=>?_);refine A6 rfl ⟨rfl,_,rfl,V0 (λc1=>?_) λc1=>?_⟩
  .exact A6 rfl ⟨CY _,λa ha=>Z a [] _ _ (k4.new ha) (F1.new ha _ _ N) (L4.same (F1.new ha)) (by lia) A9 (λq h=>absurd h BB) (nmO rfl FU (λq h=>absurd h BB) (CY _))⟩
  refine hN3 _ _ (B9 λN4 hN4=>?_);refine A6 rfl ⟨rfl,_,rfl,V0 (λc2=>?_) λc2=>?_⟩
  .have lt12:(g.take B).length<=12:=by lia
   obtain⟨b1,b2,_⟩:=Kj _ lt12;have lm:((g.take B).map V.str).length =(g.take B).length:=AB ..;have pk:∀rs:A1 Nat,rs.length<=12->(T5 rs ((g.take B).map V.str)).length<=sizeLine:=λrs h=>VR (List.length_filterMap_le ..) (VR h (by decide));refine B9 λM1 hM1=>?_;have cu:∀{G:Hp} {x:A3},(IT G x (.lst (w5 (g.map V.str) none (some (B:Int))))) x=some (.lst ((g.take B).map V.str)):=by intro G x;rw[A9,Lb]
   refine A6 rfl (A6 rfl (A6 rfl ⟨n,_,rfl,IV.of N,λx1 hx1=>?_⟩));have s1:=F1.new (o:=.lst (w5 (g.map V.str) none (some (B:Int)))) hx1;refine A6 rfl ⟨by decide,x1,_,rfl,IV.of cu,pk _ (by rw[lm];exact b1),λu hu=>?_⟩;have su:=s1.trans (F1.new (o:=.lst (T5 (q0 ((g.take B).map V.str).length none none (some 2)) ((g.take B).map V.str))) hu);refine A6 rfl (A6 rfl (A6 rfl ⟨n,_,rfl,IV.of (su _ _ N),λx2 hx2=>?_⟩));have s2:=F1.new (o:=.lst (w5 (g.map V.str) none (some (B:Int)))) hx2;refine A6 rfl (A6 rfl ⟨by decide,x2,_,rfl,IV.of cu,pk _ (by rw[lm];exact b2),λv hv=>?_⟩);have sv:=s2.trans (F1.new (o:=.lst (T5 (q0 ((g.take B).map V.str).length (some 1) none (some 2)) ((g.take B).map V.str))) hv);refine⟨u,v,_,_,rfl,IV.of (sv _ _ A9),IV.of A9,λS l X s5 hl el mp at_=>?_⟩;have s5:=(su.trans sv).trans s5;rw[lm,Gr,Gr]at mp;obtain⟨I,q1,q2,q3⟩:=Bq mp λp hp=>(at_ p hp).2;rw[q1]at el;obtain⟨nd,lz,mz'⟩:=zFq (N3.take B).2.1 lt12 q2;have mz:∀z∈I.map (λq=>q.2),z.1∈g/\z.2∈g:=λz J=>⟨mt _ (mz' z J).1,mt _ (mz' z J).2⟩;have lq:I.length<=12:=by rw[AB]at lz;exact lz
   refine hM1 _ _ (A6 rfl (A6 rfl (A6 rfl ⟨l,rfl,⟨_,IV.of el⟩,λD hD=>zDl (λq=>(q.2.2,q.2.1)) el q3 (by lia) hD (λy my G U M hM=>A6 rfl (A6 rfl ⟨by show 2<=sizeLine;decide,hM⟩)) λσ G C U eG pG mG=>?_⟩)));have lr:(M9 I).length=I.length:=AB ..;have lr2:(M9 C).length=I.length:=by have:=congrArg List.length mG;rw[AB,AB]at this;unfold M9;rw[AB,this]
   refine⟨l,D,_,_,rfl,rfl,U _ _ el,eG,by rw[lr,lr2,sizeLine_eq];lia,λx hx=>?_⟩;have W:=F1.new (o:=.lst (M9 I++M9 C)) hx;have s6:=(s5.trans U).trans W;refine Z x (I++C) _ _ (k4.trans s6.sm) (s6 _ _ N) (L4.same s6) (by lia) (by rw[A9];unfold M9;rw[AR]) (λz J=>?_) (nmO (zs:=(I.map λq=>q.2) ++(I.map λq=>q.2).map λz=>(z.2,z.1)) (by rw[AR,mG,BV];rfl) nd (λz J=>?_) (by rw[AW,AB,AB];lia))
   .rcases A_.mp J with h | h
    .exact W _ _ (U _ _ (q3 z h))
    .exact W _ _ (pG z h)
   .rcases A_.mp J with h | h
    .exact mz z h
    .obtain⟨y,Y,rfl⟩:=AJ.mp h;exact(mz y Y).symm
  refine hN4 _ _ (B9 λN5 hN5=>?_);refine A6 rfl ⟨rfl,_,rfl,V0 (λc3=>?_) λc3=>?_⟩
  .obtain⟨as,ea,ma,la⟩:=Ua g (some 1) none;obtain⟨bs,eb,mb,lb⟩:=Ua g none (some 1);refine A6 rfl (A6 rfl (A6 rfl (A6 rfl ⟨n,_,rfl,IV.of N,λu hu=>?_⟩)));have su:=F1.new (o:=.lst (w5 (g.map V.str) (some 1) none)) hu;refine A6 rfl (A6 rfl ⟨n,_,rfl,IV.of (su _ _ N),λv hv=>?_⟩);have sv:=F1.new (o:=.lst (w5 (g.map V.str) none (some 1))) hv;refine⟨u,v,_,_,rfl,rfl,sv _ _ A9,A9,by rw[ea,eb,AB,AB,sizeLine_eq];lia,λx hx=>?_⟩;have W:=F1.new (o:=.lst (w5 (g.map V.str) (some 1) none++w5 (g.map V.str) none (some 1))) hx;have s5:=(su.trans sv).trans W;refine⟨n,x,_,_,rfl,IV.of (s5 _ _ N),IV.of A9,λS l X s6 hl el mp at_=>?_⟩;have s5:=s5.trans s6;rw[ea,eb,<-AR]at mp;obtain⟨I,q1,q2,q3⟩:=Bq mp λp hp=>(at_ p hp).2;rw[q1]at el;obtain⟨nd,mz⟩:=zFx N3.2.1 (as++bs);refine Z l I _ _ (k4.trans s5.sm) (s5 _ _ N) (L4.same s5) (by lia) el q3 (nmO q2 nd (λz J=>⟨(mz z J).1,(A_.mp (mz z J).2).elim (ma _) (mb _)⟩) (by rw[List.length_zip];lia))
  refine hN5 _ _ (B9 λN6 hN6=>?_);refine A6 rfl ⟨rfl,_,rfl,V0 (λc4=>?_) λc4=>?_⟩
  .obtain⟨a,ha⟩:=Ye g;obtain⟨b,hb⟩:=zAx g;have ok:∀y∈g,PySem.PyData.strOk y=true:=λy Y=>Y3 (N3.1 y Y);refine B9 λM1 hM1=>?_;refine A6 rfl ⟨n,rfl,⟨_,IV.of N⟩,λD hD=>zFs (r:=V.str) (ON (IV.of N)) (λ_=>true) (λy=>(y,a)) (by lia) hD (λy my G U M hM=>hM G λb o e=>e) (λy my G U M hM=>A6 rfl (A6 rfl ⟨n,_,B8 rfl rfl ⟨IV.of (U _ _ N),(ha y my).1,⟨by show 2<=sizeLine;decide,hM⟩⟩⟩)) λσ G I U eG pG mG=>?_⟩;rw[EZ.mpr λ_ _=>rfl]at mG;have lq:I.length=g.length:=by have:=congrArg List.length mG;rw[AB,AB]at this;exact this
   have mq:∀q∈I,q.2.1∈g/\q.2.2∈g:=λq hq=>by
    have:q.2∈g.map λy=>(y,a):=by rw[<-mG];exact AJ.mpr ⟨q,hq,rfl⟩
    obtain⟨y,Y,e⟩:=AJ.mp this;rw[<-e];exact⟨Y,(ha y Y).2⟩
   refine hM1 _ _ (A6 rfl (A6 rfl (A6 rfl ⟨n,rfl,⟨_,IV.of (U _ _ N)⟩,λD2 hD2=>zFs (r:=V.str) (ON (IV.of (U _ _ N))) (λy=>!decide ((b,y)∈I.map λq=>q.2)) (λy=>(b,y)) (by lia) hD2 (λy my G2 R M hM=>?_) (λy my G2 R M hM=>?_) λσ2 G2 C R eG2 pG2 mG2=>?_⟩)))
   .refine A6 rfl (A6 rfl ⟨n,_,B8 rfl rfl ⟨IV.of (R _ _ (U _ _ N)),(hb y my).1,A6 rfl ⟨by show 2<=sizeLine;decide,λt ht=>?_⟩⟩⟩);have st:=F1.new (o:=.tup [.str b,.str y]) ht;exact A6 rfl (X9 (k:=(b,y)) A9 (st _ _ (R _ _ eG)) (λq hq=>st _ _ (R _ _ (pG q hq))) ⟨ok b (hb y my).2,ok y my⟩ (λq hq=>⟨ok _ (mq q hq).1,ok _ (mq q hq).2⟩) ⟨_,rfl,hM _ st⟩)
   .exact A6 rfl (A6 rfl ⟨n,_,B8 rfl rfl ⟨IV.of (R _ _ (U _ _ N)),(hb y my).1,A6 rfl ⟨by show 2<=sizeLine;decide,hM⟩⟩⟩)
   have lp2:C.length<=g.length:=by have:=congrArg List.length mG2;rw[AB,AB]at this;rw[this];exact CB ..
   have lr:(M9 I).length=I.length:=AB ..;have lr2:(M9 C).length=C.length:=AB ..;refine⟨D,D2,_,_,rfl,rfl,R _ _ eG,eG2,by rw[lr,lr2,sizeLine_eq];lia,λx hx=>?_⟩;have W:=F1.new (o:=.lst (M9 I++M9 C)) hx;have s6:=(U.trans R).trans W;refine Z x (I++C) _ _ (k4.trans s6.sm) (s6 _ _ N) (L4.same s6) (by lia) (by rw[A9];unfold M9;rw[AR]) (λz J=>?_) (nmO (zs:=(I.map λq=>q.2)++C.map λq=>q.2) (by rw[AR]) (EF.mpr ⟨?_,?_,λz J y Y e=>?_⟩) (λz J=>?_) (by rw[AW,AB,AB];lia))
   .rcases A_.mp J with h | h
    .exact W _ _ (R _ _ (pG z h))
    .exact W _ _ (pG2 z h)
   .rw[mG];exact CG.mpr (N3.2.1.imp fun{x y} h e=>h (congrArg Prod.fst e))
   .rw[mG2];exact CG.mpr ((N3.2.1.sublist DP).imp fun{x y} h e=>h (congrArg Prod.snd e))
   .rw[mG2]at Y;obtain⟨w,hw,rfl⟩:=AJ.mp Y;have:=(BE.mp hw).2;rw[FJ,decide_eq_false_iff_not]at this;exact this (by rw[<-e];exact J)
   .rcases A_.mp J with h | h
    .obtain⟨q,hq,rfl⟩:=AJ.mp h;exact mq q hq
    .rw[mG2]at h;obtain⟨w,hw,rfl⟩:=AJ.mp h;have:=(BE.mp hw).1;exact⟨(hb w this).2,this⟩
  refine hN6 _ _ ?_;refine A6 rfl (A6 rfl (A6 rfl (A6 rfl (A6 rfl ⟨n,_,rfl,IV.of N,λx hx=>?_⟩))));have W:=F1.new (o:=.lst (w5 (g.map V.str) none (some (B:Int)))) hx;have ex:(IT H4 x (.lst (w5 (g.map V.str) none (some (B:Int))))) x=some (.lst ((g.take B).map V.str)):=by rw[A9,Lb]
  exact⟨p,x,_,g.take B,rfl,L4.same W,by lia,ex,N3.take B,lt10,λa S c5 X ha k5 e5 pin5 O5 hc5 L5=>Z a S X c5 (k4.trans (W.sm.trans k5)) (OB k5 (W _ _ N) (L4.ne N)) L5 (by lia) e5 pin5 ⟨λq hq=>⟨mt _ (O5.nm q hq).1,mt _ (O5.nm q hq).2⟩,O5.nd,O5.len⟩⟩
def Il(f:A1 Str->A1 Nat->A1 Nat->Nat->Prop):Sp:=λc H Q _=>∃(p v:A3) (m:Nat) (a:A1 Str) (d:A1 (Str×Str)) (A B:A1 Nat),c = [.ref v,.int (m:Int)]/\JT H p v a d A B/\a.length<=100 /\
 ∀b:Bool,(b=true↔f a A B m)->Q (.bl b) H
theorem i5:IR ["_law_view","_law_mask"] ["_law_view","_law_mask"] (B7 OG):=⟨rfl,rfl,rfl,by decide +kernel,rfl,by decide +kernel,by decide +kernel⟩
theorem Ff(T:Tx K mg):IZ P w K mg base JK 3 T.a8.f T.a8.fd ["_law_view","_law_mask"] (Il λns A B m=>JM B m/\∀j,m.testBit j=true->Sy ns.length A B m j):=by
 have i:=S4 (P:=P) (w:=w) (base:=base) T;have k:=Jo (P:=P) (w:=w) (base:=base) T;have I:=i5;refine T.a8.F.ok i5 (λD H Q E h=>?_) (λG A l s H D Q E r h=>?_)
 .obtain⟨p,n,a,J,L,A,B,rfl,_⟩:=h;rfl
 .obtain⟨p,v,m,ns,t,A,B,rfl,u,x,q⟩:=h;refine⟨_,(B4 (C0 (U3 (D4 T.aE i (r.mono (by decide)) (A8 (pv 0) (A8 (pv 1) B1))) (W3 (K5 P5 (C4 M8 (pv 1) (Kh Uy (D4 T.bj k (r.mono (by decide)) (A8 (pv 0) (A8 (pv 1) B1))))) B5 (D8 _)))))),?_⟩;refine A6 rfl (A6 rfl ⟨p,v,m,ns,t,A,B,rfl,u,x,λb y=>⟨b,rfl,?_⟩⟩);refine V0 (λc=>?_) (λc=>?_)
  .refine A6 rfl (A6 rfl (A6 rfl (Xj (a:=p) (b:=v) (c:=m) (d:=ns) (e:=t) (f:=A) (g:=B) rfl u x λM C=>?_)));refine A6 rfl (B8 rfl rfl ⟨rfl,?_⟩);refine q _ ?_;dsimp only;rw[W7];exact⟨λh=>⟨y.mp c,λj o=>(C j).mp (h j o)⟩,λh j o=>(C j).mpr (h.2 j o)⟩
  .exact q false ⟨λz=>(by cases z),λh=>absurd (y.mpr h.1) c⟩
def JM.sub{B:A1 Nat}{m a:Nat}(h:JM B m)(s:Sub a m):JM B a:=λi j b c=>h i j (s i b) (s j c)
def zGy{i m a:Nat}(h:J_ i m)(h':J_ i a)(e:m ||| 2^i=a ||| 2^i):m=a:=BP λj=>by
 by_cases c:j=i
 .subst c;rw[BQ.mpr λz=>EI _ (h j z),BQ.mpr λz=>EI _ (h' j z)]
 .have:=congrArg (λz=>z.testBit j) e;rw[BX,BX,CQ,BA λz=>c z.symm,IP,IP]at this;exact this
def Ql{B f:A1 Nat}{i:Nat}(p:f.Nodup)(g:∀m,m∈f↔J_ i m/\JM B m):(f ++(f.filter λm=>pB (JM B (m ||| 2^i))).map λm=>m ||| 2^i).Nodup/\∀m,m∈(f ++(f.filter λm=>pB (JM B (m ||| 2^i))).map λm=>m ||| 2^i)↔J_ (i+1) m/\JM B m:=by
 have r:∀m,(m ||| 2^i).testBit i=true:=λm=>by rw[BX,DX,Bool.or_true]
 constructor
 .refine EF.mpr ⟨p,CG.mpr (GI (fun{a b} l n s e=>s (zGy ((g a).mp (BE.mp l).1).1 ((g b).mp (BE.mp n).1).1 e)) (p.sublist DP)),λa l b n e=>?_⟩;obtain⟨c,_,rfl⟩:=AJ.mp n;have:=((g a).mp l).1 i (by rw[e];exact r c);lia
 .intro m;rw[A_,g,AJ];constructor
  .rintro(⟨k,d⟩ | ⟨q,h,rfl⟩)
   .exact⟨λj o=>DT (k j o),d⟩
   .obtain⟨k,d⟩:=BE.mp h;refine⟨λj o=>?_,KW.mp d⟩;rcases(V6 q i j).mp o with z | z
    .exact DT (((g q).mp k).1 j z)
    .lia
  .rintro⟨k,d⟩;by_cases c:m.testBit i=true
   .have e:m % 2^i ||| 2^i=m:=BP λj=>by
     rw[BX,HZ,CQ,BU,CN,BL,BI,BI];constructor
     .rintro(⟨_,z⟩ | rfl)
      .exact z
      .exact c
     .intro z;by_cases t:j<i
      .exact .inl ⟨t,z⟩
      .have:=k j z;exact .inr (by lia)
    have u:Sub (m % 2^i) m:=λj z=>by
     rw[HZ,BL]at z;exact z.2
    refine .inr ⟨m % 2^i,BE.mpr ⟨(g _).mpr ⟨λj z=>?_,d.sub u⟩,KW.mpr (by rw[e];exact d)⟩,e⟩;rw[HZ,BL,BI]at z;exact z.1
   .refine .inl ⟨λj z=>?_,d⟩;have:=k j z;rcases II j i with y | y
    .exact y
    .exact absurd (show m.testBit i=true by rw[show i=j by lia];exact z) c
theorem JU:IR ["_law_view","_law_found","_law_k","_law_mask"] ["_law_view"] (B7 LO):=KZ
def Ca:Sp:=λd H Q _=>∃(p v:A3) (b:A1 Str) (e:A1 (Str×Str)) (A B:A1 Nat),d = [.ref v]/\JT H p v b e A B/\b.length<=12 /\
 ∀l (a:A1 Nat) c,H l=none->F1 H c->c l=some (.lst (a.map E9))->a.Nodup->(∀m,m∈a↔y6 b.length A B m)->a.length<=4096->Q (.ref l) c
set_option maxHeartbeats 2000000 in
theorem Z8(T:Tx K mg):IZ P w K mg base JK 4 T.aL.f T.aL.fd ["_law_view"] Ca:=by
 refine T.aL.F.o1 JU λcdv A U s H vs Q E hr h=>?_
 .obtain⟨p,v,N,ks,A,B,rfl,W,ln,q⟩:=h;obtain⟨⟨a,s,u,X,e2,e3,e4,_⟩,mA,mB⟩:=id W;refine⟨_,(B3 (D6 (i:=1) JU.nd rfl (.inl rfl) (P8 (A8 B5 B1)))
   (B3 (Q5 PassesOwn.never rfl (UV T.a6 (A8 (E5 (O0 K) T.an M0 (A8 (E1 (MD K) (pv 0) B5 (λ_ _=>rfl)) B1)) B1)) (D9 (i:=2) JU.nd rfl (.inl rfl))
   (B4 (Q5 PassesOwn.never rfl (OL K (Cu (Er K) T.aU V3 (A8 (pv 1) B1))) (D9 (i:=3) JU.nd rfl (.inl rfl))
   (B4 (G9 (K7 (D4 T.aE (S4 T) (Rm hr) (A8 (pv 0) (A8 (C4 R9 (pv 3) (C4 Ab B5 (pv 2))) B1)))) (B4 (K4 (Dk K VS VT VU O4 (pv 1) (A8 (C4 R9 (pv 3) (C4 Ab B5 (pv 2))) B1)))) C5)))))
   (B4 (C0 (S7 (N':=["_law_mask","_law_view"]) (cap:=[none,some 0]) (cl:=[("_law_view",_)]) (O7 ⟨⟨rfl,rfl,rfl,rfl⟩,trivial⟩ ⟨rfl,trivial⟩) rfl (OL K (pv 1)) (λ_ _ _ _=>by exact⟨(NC 0),(V9 (K7 (D4 T.a8 (Ff T) (Rm hr) (A8 (pv 1) (A8 (pv 0) B1))))),(pv 0)⟩)))))),?_⟩
  refine B9 λN1 Y=>?_;refine⟨by show 1<=sizeLine;decide,λl O=>?_⟩;have Z:=O;have R:=F1.new (o:=.lst [.int 0]) O;have fl:(IT H l (.lst [.int 0])) l=some (.lst ([0].map E9)):=A9;generalize IT H l (.lst [.int 0])=H1 at R fl⊢;refine Y _ _ (B9 λN2 hN2=>?_);refine A6 rfl ⟨v,_,B8 rfl rfl ⟨IV.of (R _ _ X),rfl,B8 (a:=a) rfl (.inl (IV.of (R _ _ e2))) (A6 rfl ⟨?_,?_,?_⟩)⟩⟩
  .lia
  .rw[AB];lia
  rw[AB,DD];have lz:∀m,m∈[0]↔J_ 0 m/\JM B m:=λm=>by
   rw[AG];constructor
   .rintro rfl;exact⟨J_.zero _,λi j h=>by rw[CH]at h;cases h⟩
   .rintro⟨h,_⟩;exact BP λj=>by rw[CH];exact BQ.mpr λz=>absurd (h j z) (GW _)
  refine U7 (λi σ G=>(∃v2 g,σ = [some (.ref v),some (.ref l),v2,g])/\F1 H G/\∃d:A1 Nat,G l=some (.lst (d.map E9))/\d.Nodup/\(∀m,m∈d↔J_ i m/\JM B m)/\d.length<=2^i) ⟨⟨_,_,rfl⟩,R,[0],fl,EQ _ _,lz,by decide⟩ ?_ ?_
  .rintro i σ G hi ⟨⟨v2,g,rfl⟩,k,d,n,nG,mG,lG⟩ D1 hD1 _;rw[Int.zero_add];have p2:2^i<=2^11:=Nat.pow_le_pow_right (by decide) (by lia);refine A6 rfl ⟨l,_,rfl,.inl (IV.of n),λc hc=>?_⟩;have uc:=F1.new (o:=.lst (d.map E9)) hc;have C:(IT G c (.lst (d.map E9))) c=some (.lst (d.map E9)):=A9;have ncl:c≠l:=(B2 n hc).symm;generalize IT G c (.lst (d.map E9))=I at uc C⊢;have r:=k.trans uc;have hc0:H c=none:=k.free hc;refine⟨c,rfl,⟨_,IV.of C⟩,X4 (ON (IV.of C)) (λj σ t=>(∃g,σ = [some (.ref v),some (.ref l),some (.int (i:Int)),g])/\F1 H t/\t c=some (.lst (d.map E9))/\t l=some (.lst ((d ++((d.take j).filter λm=>pB (JM B (m ||| 2^i))).map λm=>m ||| 2^i).map E9))) ⟨⟨_,rfl⟩,r,C,by rw[List.take_zero,GX,HI,CD];exact uc _ _ n⟩ (λj σ t _ h o e=>by rw[C]at e;cases e;exact h.2.2.1) ?_ ?_⟩
   .rintro j σ t y hy ⟨⟨g,rfl⟩,J,c2,x⟩ D2 L _;rw[AI]at hy;obtain⟨m,S,rfl⟩:=BC.mp hy;have lj:=(AE.mp S).1;refine A6 rfl (A6 rfl (A6 rfl (B8 rfl rfl ⟨⟨by lia,by lia,by decide⟩,B8 rfl rfl ?_⟩)));dsimp only;rw[Ww,show E9 m=V.int (m:Int)from rfl];refine⟨p,v,m ||| 2^i,N,ks,A,B,by rw[PV];rfl,W.same J,by lia,λb hb=>⟨_,rfl,?_⟩⟩;have eb:=Wr hb;have hs:(d.take (j+1)).filter (λm=>pB (JM B (m ||| 2^i))) =(d.take j).filter (λm=>pB (JM B (m ||| 2^i)))++if pB (JM B (m ||| 2^i))=true then [m]else []:=by
     rw[JE S,D_,DQ,GX]
    have O:=CB (λm=>pB (JM B (m ||| 2^i))) (d.take j);rw[AS]at O;refine V0 (λz=>?_) (λz=>L _ _ ⟨⟨_,rfl⟩,J,c2,?_⟩)
    .refine A6 rfl ⟨.inl ⟨rfl,_,IV.of x⟩,A6 rfl (A6 rfl (B8 rfl rfl ⟨⟨by lia,by lia,by decide⟩,B8 rfl rfl ?_⟩))⟩;dsimp only;rw[Ww];refine⟨l,_,_,rfl,by rw[PV],x,by rw[AB,AW,AB,sizeLine_eq];lia,L _ _ ⟨⟨_,rfl⟩,J.upd Z,(B6 ncl).trans c2,?_⟩⟩;rw[A9,hs,AQ (by rw[<-eb];exact z)];simp only[AR,AZ,HI,BM];rfl
    .rw[hs,AN (by rw[<-eb];exact z),CD];exact x
   .rintro σ t ⟨⟨g,rfl⟩,J,c2,x⟩;rw[AB,CA]at x;obtain⟨n2,m2⟩:=Ql nG mG;refine hD1 _ _ ⟨⟨_,_,rfl⟩,J,_,x,n2,m2,?_⟩;have:=CB (λm=>pB (JM B (m ||| 2^i))) d;rw[AW,AB,Nat.pow_succ];lia
  .rintro σ G ⟨⟨v2,g,rfl⟩,k,d,n,nG,mG,lG⟩;have p2:2^N.length<=2^12:=Nat.pow_le_pow_right (by decide) ln;refine hN2 _ _ ?_;refine A6 rfl ⟨l,rfl,⟨_,IV.of n⟩,λD hD=>?_⟩;refine Ph E9 (ON (IV.of n)) (λm=>pB (JM B m/\∀j,m.testBit j=true->Sy N.length A B m j)) (by lia) hD (λm S I r M hM=>?_) (λm S I r M hM=>A6 rfl hM) λσ' I r X=>?_
   .exact A6 rfl (A6 rfl ⟨p,v,m,N,ks,A,B,rfl,(W.same k).same r,by lia,λb hb=>⟨_,rfl,by rw[Wr hb];exact hM I λb o e=>e⟩⟩)
   .refine q D _ I (k.free hD) (k.trans r) X (nG.sublist DP) (λm=>?_) (VR (CB ..) (by lia));rw[BE,mG,KW];exact⟨λh=>⟨h.1.1,h.2⟩,λh=>⟨⟨h.1,h.2.1⟩,h.2⟩⟩
def zDw(a b:Nat):decide (V.int (a:Int)=V.int (b:Int))=true↔∀j,a.testBit j=true↔b.testBit j=true:=by
 rw[BI];constructor
 .intro e j;injection e with e;rw[Int.ofNat.inj e]
 .intro h;rw[BP λj=>BU.mpr (h j)]
def zAd(a n:Nat):decide (V.int (a:Int)=V.int (((2^n:Nat):Int)-1))=true↔∀j,a.testBit j=true↔j<n:=by
 have h:((2^n:Nat):Int)-1 =((2^n-1:Nat):Int):=by
  have:=Nat.two_pow_pos n;lia
 rw[h,zDw];constructor
 .intro h j;rw[h j,HD,BI]
 .intro h j;rw[h j,HD,BI]
theorem l8:IR ["_law_view","_law_mask"] ["_law_view","_law_mask"] (B7 LY):=KZ
theorem o9(T:Tx K mg):IZ P w K mg base JK 3 T.aS.f T.aS.fd ["_law_view","_law_mask"] (Il λns A B m=>JM B m/\∀j,(Y8 B m j\/m.testBit j=true)↔j<ns.length):=by
 refine T.aS.F.o1 l8 λx A l s H y Q E o h=>?_
 .obtain⟨p,v,m,ns,r,A,B,rfl,n,t,q⟩:=h;refine⟨_,(B4 (C0 (U3 (D4 T.aE (S4 T) (Rm o) (A8 (pv 0) (A8 (pv 1) B1))) (W3 (K5 P5 (C4 R9 (D4 T.aN (X8 T) (Rm o) (A8 (pv 0) (A8 (pv 1) B1))) (pv 1)) (C4 Zs (C4 Ab B5 (E5 (O0 K) T.an M0 (A8 (E1 (MD K) (pv 0) B5 (λ_ _=>rfl)) B1))) B5) (D8 _)))))),?_⟩;refine⟨_,rfl,_,rfl,p,v,m,ns,r,A,B,rfl,n,t,λb u=>⟨b,rfl,?_⟩⟩;obtain⟨C,y,I,D,G,J,L,_⟩:=n.ex;refine V0 (λc=>?_) (λc=>?_)
  .refine A6 rfl (A6 rfl (Xj (a:=p) (b:=v) (c:=m) (d:=ns) (e:=r) (f:=A) (g:=B) rfl n t λi k=>?_));refine⟨_,rfl,_,_,rfl,rfl,?_⟩;refine⟨_,rfl,v,_,_,_,rfl,rfl,IV.of D,rfl,C,_,rfl,.inl (IV.of G),_,_,rfl,rfl,⟨by lia,by rw[AB];lia,by decide⟩,?_⟩;refine⟨_,_,rfl,rfl,rfl,q _ ?_⟩;rw[AB,Ww];show decide (V.int (Builtin.bitOr (i:Int) (m:Int))=V.int (((2^ns.length:Nat):Int)-1))=true↔_;rw[PV,zAd];have e:∀j,(i ||| m).testBit j=true↔(Y8 B m j\/m.testBit j=true):=λj=>by
    rw[BX,CN,k j]
   exact⟨λh=>⟨u.mp c,λj=>(e j).symm.trans (h j)⟩,λh j=>(e j).trans (h.2 j)⟩
  .exact q false ⟨λz=>(by cases z),λh=>absurd (u.mpr h.1) c⟩
theorem Jm:IR ["_law_view","_law_masks_here"] ["_law_view","_law_masks_here"] (B7 P6):=KZ
def Ya:Sp:=λg H Q _=>∃(p v l:A3) (e:A1 Str) (h:A1 (Str×Str)) (A B f:A1 Nat),g = [.ref v,.ref l]/\JT H p v e h A B/\e.length<=100/\H l=some (.lst (f.map E9))/\f.length<=5000 /\
 ∀r (c:A1 (A3×A1 Str)) d,F1 H d->H r=none->d r=some (.lst (c.map λt=>V.ref t.1))->RT H d c->(∀t∈c,t.1≠r)->(c.map λt=>t.2).Perm (f.map (JO e))->c.Pairwise (λa b=>TS.KN (TS.ND b.2) (TS.ND a.2)=false)->Q (.ref r) d
theorem Ke(T:Tx K mg):IZ P w K mg base JK 2 T.bk.f T.bk.fd ["_law_view","_law_masks_here"] Ya:=by
 refine T.bk.F.o1 Jm λx A i s H Z Q E k h=>?_
 .obtain⟨p,v,l,ns,y,A,B,Ms,rfl,C,I,n,J,q⟩:=h;refine⟨_,(B4 (C0 (E5 (Oj K k.units) T.a9 X1 (A8 (S7 (N':=["_law_mask","_law_view"]) (cap:=[none,some 0]) (cl:=[("_law_view",_)]) (O7 ⟨⟨rfl,rfl,rfl,rfl⟩,trivial⟩ ⟨rfl,trivial⟩) rfl (OL K (pv 1)) (λ_ _ _ _=>by exact⟨(NC 0),G7,(D4 T.aA (m8 T) (Rm k) (A8 (pv 1) (A8 (pv 0) B1)))⟩)) B1)))),?_⟩;refine A6 rfl ⟨l,rfl,⟨_,IV.of n⟩,λD L=>?_⟩;refine Mp (ns:=ns) (ON (IV.of n)) J L (λm G R g M=>?_) λσ' G N g O b nG S=>?_
  .exact A6 rfl (A6 rfl ⟨p,v,m,ns,y,A,B,rfl,C.same g,I,λz U W X Y=>M z U W X Y⟩)
  .refine⟨D,N,rfl,IV.of O,b.at_,λr c a d j=>?_⟩;have u:=F1.new (o:=.lst (c.map λt=>V.ref t.1)) a;refine q r c _ (g.trans u) (g.free a) A9 ⟨λt e=>u _ _ (b.at_ t (d.mem_iff.mp e)),(d.map _).nodup_iff.mpr b.nd,λt e=>b.new t (d.mem_iff.mp e)⟩ (λt e=>B2 (b.at_ t (d.mem_iff.mp e)) a) ?_ j;refine(d.map λt=>t.2).trans ?_;rw[S]
def Wh{G H':Hp}{f:A3}{ls:A1 (Pos×Str)}{L:A1 A3}(k:∀a o,G a=some o->a∉L->H' a=some o)(g:∀l∈L,∃xs,G l=some (.lst xs))(t:O9 G f ls):O9 H' f ls:=by
 obtain⟨i,b,t,h⟩:=t;exact⟨i,k _ _ b (λz=>by obtain⟨xs,e⟩:=g _ z;rw[e]at b;cases b),t,λx j=>(h x j).imp id λ⟨c,m,d⟩=>⟨c,m,k _ _ d (λz=>by obtain⟨xs,e⟩:=g _ z;rw[e]at d;cases d)⟩⟩
def Xo(xs:A1 V)(y:V):w5 (xs ++ [y]) none (some (-1))=xs:=by
 have e:HT.KY (xs ++ [y]).length (xs ++ [y]).length (some (-1))=xs.length:=by
  show(if(-1:Int)<0 then((-1:Int) +((xs ++ [y]).length:Int)).toNat else min (-1:Int).toNat (xs ++ [y]).length)=xs.length;rw[AQ (by decide),AW];show((-1:Int) +((xs.length+1:Nat):Int)).toNat=xs.length;lia
 unfold w5;rw[e,HT.QX,ET,Nat.sub_zero,List.take_left' rfl]
def zDd{n m:Nat}{A B:A1 Nat}(c:SR n A B)(h:y6 n A B m):(JM B m/\∀j,(Y8 B m j\/m.testBit j=true)↔j<n)↔LC n A B m :=
 ⟨λ⟨q,a⟩=>⟨h.1,q,λj d=>((a j).mpr d).symm⟩,λo=>⟨o.2.1,λj=>⟨λz=>z.elim (λ⟨k,_,b⟩=>(c.lt k j b).2) (h.1 j),λd=>(o.2.2 j d).symm⟩⟩⟩
theorem LN:IR ["_law_script","_law_k","_law_names_here","_law_strikes_here","_law_view","_law_masks_here","_law_due","_law_web","_law_found","_law_sets_here","_law_one"] ["_law_script"] (B7 PK):=KZ
def Na(K:VN)(b:A3):Sp:=λc H Q _=>∃(u:A3) (a:A1 Int),c = [.ref u]/\IV K H u (a.map V.int)/\a.length<=63/\O9 H b C9/\∀d,Q (.bl true) d
set_option maxHeartbeats 8000000 in
theorem zEm(T:Tx K mg)(hB:base.BuiltinsAt mg T.ab){f:A3}{fd:JC}(F:QT K "law" "law" PK f fd):IZ P w K mg base JK 41 f fd ["_law_script"] (Na K T.ab):=by
 have C:IZ P w K mg base JK 23 T.ax.f T.ax.fd ["web"] (zGj T.ah T.ab LC u7):=Ak T hB;have N:IZ P w K mg base JK 40 T.aw.f T.aw.fd ["_law_found","_law_due"] (Bc 40):=y9 T 40;have J:IZ P w K mg base JK 29 T.aj.f T.aj.fd ["_law_view","_law_sets_here","_law_words","_law_held","_law_tree"] (Ax K "cover" u7 13):=Nx T 13;refine F.o1 LN λcdv A outer s H vs Q E hr h=>?_
 .obtain⟨u,xs,rfl,hS,hlen,hT,q⟩:=h;refine⟨_,(B3 (Q5 PassesOwn.never rfl (UV T.a6 (A8 (E5 (Se rfl) T.bQ zDq (A8 B5 (A8 (E5 (Qr rfl) T.bI Ze (A8 (E5 (O0 K) T.an M0 (A8 (pv 0) B1)) (A8 B5 B1))) B1))) B1)) (D9 (i:=1) LN.nd rfl (.inl rfl))
   (B3 (Y9 (D4 T.a1 (Ag T) (Rm hr) (A8 (D4 T.bh (Kc T) (Rm hr) (A8 (pv 0) (A8 (pv 1) B1))) (A8 (E1 (MD K) (P8 (A8 B5 (A8 B5 B1))) (Cu Bv T.bw Nt (A8 (K5 P5 (pv 1) B5 (D8 _)) B1)) (λ_ _=>rfl)) B1))) (QY K (n:=2) (C6 (D9 (i:=2) LN.nd rfl (.inl rfl)) (C6 (D9 (i:=3) LN.nd rfl (.inl rfl)) M7))))
   (B3 (D6 (i:=4) LN.nd rfl (.inr rfl) (D4 T.be (Hr T) (Rm hr) (A8 (pv 2) (A8 (pv 3) B1))))
   (B3 (As (i:=5) (N':=["_law_mask","_law_view"]) (cap:=[none,some 4]) (cl:=[("_law_view",_)]) LN.nd rfl (.inl rfl) (O7 ⟨⟨rfl,rfl,rfl,rfl⟩,trivial⟩ ⟨rfl,trivial⟩) rfl (OL K (D4 T.aL (Z8 T) (Rm hr) (A8 (pv 4) B1))) (λ_ _ _ _=>by exact⟨(NC 0),(V9 (K7 (D4 T.aS (o9 T) (Rm hr) (A8 (pv 1) (A8 (pv 0) B1))))),(pv 0)⟩))
   (B3 (D6 (i:=6) LN.nd rfl (.inl rfl) (D4 T.bk (Ke T) (Rm hr) (A8 (pv 4) (A8 (pv 5) B1))))
   (B3 (D6 (i:=7) LN.nd rfl (.inl rfl) (Jn T.bO (Lv T) (Rm hr) rfl T.bN T.bF .nil M5 (A8 (pv 2) (A8 (pv 3) B1))))
   (B3 (D6 (i:=8) LN.nd rfl (.inl rfl) (D4 T.ax C (Rm hr) (A8 (pv 7) B1)))
   (B3 (G9 (PW.pt (d0 (Q0 (K7 (E5 (M6 K) T.ae C3 (A8 (pv 8) (A8 (V7 T.aW S9) B1))))) (d0 (C7 Es (E5 (O0 K) T.an M0 (A8 (pv 8) B1)) B5 (D8 _)) (W1 (Q0 (K7 (D4 T.aw N (Rm hr) (A8 (E1 (QD K) (pv 8) B5 (λ_ _=>rfl)) (A8 (pv 6) B1))))))))) (B4 (C0 U2)) C5)
   (B3 (As (i:=9) (N':=["_law_one","_law_view"]) (cap:=[none,some 4]) (cl:=[("_law_view",_)]) LN.nd rfl (.inl rfl) (O7 ⟨⟨rfl,rfl,rfl,rfl⟩,trivial⟩ ⟨rfl,trivial⟩) rfl (OL K (pv 6)) (λ_ _ _ _=>by exact⟨(NC 0),G7,(D4 T.ap (T7 T) (Rm hr) (A8 (pv 1) (A8 (pv 0) B1)))⟩))
   (B3 (G9 (Q0 (K7 (D4 T.aj J (Rm hr) (@A8 _ _ _ _ _ (pv 4) (@A8 _ _ _ _ _ (pv 9) (@A8 _ _ _ _ _ (J8 (A8 Q4 (A8 Q4 (A8 Q4 B1)))) (@A8 _ _ _ _ _ B5 (@A8 _ _ _ _ _ (E1 (QD K) (pv 8) B5 (λ_ _=>rfl)) B1 (by rfl)) (by rfl)) (by rfl)) (by rfl)) (by rfl))))) (B4 (C0 U2)) C5)
   (B3 (Q5 PassesOwn.never rfl (OL K (E1 (QD K) (pv 8) B5 (λ_ _=>rfl))) (D9 (i:=10) LN.nd rfl (.inl rfl))
   (B4 (K4 (Dk K VS VT VU O4 (pv 10) (A8 Q4 B1)))))
   (B3 (G9 (C7 (zIk K hr.units) (S7 (N':=["_law_one"]) (cap:=[none]) (cl:=[]) (O7 trivial trivial) rfl (OL K (E1 (QD K) (pv 8) B5 (λ_ _=>rfl))) (λ_ _ _ _=>by exact⟨(NC 0),G7,(Q6 (Tg K) (pv 0) S0 (Q1 (Kh Nh B5)))⟩)) (pv 6) (D8 _)) (B4 (C0 U2)) C5)
   (B3 (K4 (Dk K VS VT VU O4 (E1 (QD K) (pv 8) B5 (λ_ _=>rfl)) (A8 (P8 B1) B1)))
   (B4 (G9 (Q0 (K7 (D4 T.aw N (Rm hr) (A8 (D4 T.ax C (Rm hr) (A8 (pv 7) B1)) (A8 (J8 (A8 (pv 6) (A8 (E1 (QD K) (pv 8) B5 (λ_ _=>rfl)) B1))) B1))))) (B4 (C0 U2)) C5)))))))))))))))
   (B4 (C0 U2))),?_⟩
  refine B9 λN0 hN0=>?_;refine⟨_,rfl,u,_,rfl,.inl hS,_,_,rfl,_,_,rfl,?_⟩;have hz:∀l:Int,0<=l->∃z:Nat,(if(if(6:Int)<l then 6 else l) >(3:Int)then(if(6:Int)<l then 6 else l)else 3) =(z:Int)/\z<=6:=λl h0=>by
   by_cases h1:(6:Int)<l
   .rw[AQ h1];exact⟨6,rfl,by decide⟩
   .rw[AN h1];by_cases h2:l>3
    .rw[AQ h2];exact⟨l.toNat,by lia,by lia⟩
    .rw[AN h2];exact⟨3,rfl,by decide⟩
  obtain⟨z,ez,hz⟩:=hz ((xs.map V.int).length:Int) (by lia);refine A6 (a:=(z:Int)) (congrArg (λt=>[V.int t]) ez) ⟨by lia,by lia,?_⟩;rw[DD];refine U7 (λi σ G=>(∃v1 v2 v3 v4 v5 v6 v7 v8 v9 v10,σ = [some (.ref u),v1,v2,v3,v4,v5,v6,v7,v8,v9,v10])/\Sm [T.ab] H G/\O9 G T.ab C9) ⟨⟨_,_,_,_,_,_,_,_,_,_,rfl⟩,(λb o e _=>e),hT⟩ ?_ λσ G _=>hN0 _ _ (q G);rintro i σ F0 hi ⟨⟨v1,v2,v3,v4,v5,v6,v7,v8,v9,v10,rfl⟩,kF,TF⟩ D1 hD1 _;rw[Int.zero_add];have kpF:=KP.of hT kF;have hSF:IV K F0 u (xs.map V.int):=by
   rcases hS with(h | ⟨o,h⟩) | h
   .exact .inl (.inl (kpF _ _ h (λ_ z=>by cases z)))
   .exact .inl (.inr ⟨o,kpF _ _ h (λ_ z=>by cases z)⟩)
   .exact .inr h
  refine zJg λN1 hN1=>?_;refine A6 rfl (A6 rfl ⟨u,xs,i,rfl,hSF,by lia,λp H1 hp s1 L1=>?_⟩);refine⟨by show 2<=sizeLine;decide,λt0 ht0=>?_⟩;have ut0:=F1.new (o:=.lst [.int 7,.int 10]) ht0;obtain⟨mo,hmo,emo⟩:∃mo:Nat,(mo=7\/mo=10)/\QS [V.int 7,V.int 10] (if decide (V.int (i:Int)=V.int 0)=true then 1 else 0)=some (.int (mo:Int)):=by
   by_cases c0:decide (V.int (i:Int)=V.int 0)=true
   .rw[AQ c0];exact⟨10,.inr rfl,E2 (j:=1) rfl⟩
   .rw[AN c0];exact⟨7,.inl rfl,E2 (j:=0) rfl⟩
  refine A6 rfl ⟨rfl,.inr ⟨_,rfl,t0,_,B8 rfl rfl ⟨IV.of A9,emo,?_⟩⟩⟩;refine⟨p,0,mo,rfl,hmo,L1.same ut0,by decide,λt n a ss ps c' H2 k2 et e2 NO l12 a2 pin2 O2 hc2 L2=>?_⟩;have s2:F1 F0 H2:=λb o e=>k2 b o (ut0 _ _ (s1 b o e)) (by simpa using B2 e hp);refine⟨t,_,rfl,JL.of et,rfl,_,_,rfl,_,_,rfl,rfl,?_⟩;refine hN1 _ _ (B9 λN3 hN3=>?_);refine A6 rfl (A6 rfl (zIp (a:=n) (b:=a) (c:=ss) (d:=ps) rfl e2 NO a2 pin2 O2 λv ns A B H4 hv s4 pm srt V4=>?_));have V4:=V4 p _ L2.get;have ln:ns.length<=12:=by rw[pm.length_eq];exact l12
  have nmn:∀y∈ns,Q7 y=true:=λy hy=>NO.1 y (pm.mem_iff.mp hy);have nd:ns.Nodup:=pm.nodup_iff.mpr NO.2.1;have net:=V4.mA.net V4.mB;refine hN3 _ _ (B9 λN4 hN4=>?_);refine A6 rfl ⟨p,v,ns,_,A,B,rfl,V4,ln,λl0 Ms0 H5 hl0 s5 el0 ndM0 mm0 lM0=>⟨l0,rfl,⟨_,IV.of el0⟩,λD hD=>?_⟩⟩;refine Ph (r:=E9) E9 (ON (IV.of el0)) (λm=>pB (LC ns.length A B m)) (by lia) hD (λm hm G sG M hM=>A6 rfl (A6 rfl ⟨p,v,m,ns,_,A,B,rfl,V4.same (s5.trans sG),by lia,λb hb=>⟨b,rfl,?_⟩⟩)) (λm hm G sG M hM=>A6 rfl hM) λσ' H6 s6 eD=>?_
  .rw[Wr (hb.trans (zDd net ((mm0 m).mp hm)))];exact hM G λb o e=>e
  have mmD:∀m,m∈Ms0.filter (λm=>pB (LC ns.length A B m))↔LC ns.length A B m:=λm=>by
   rw[BE,KW,mm0];exact⟨(·.2),λh=>⟨h.stand net,h⟩⟩
  have ndD:(Ms0.filter λm=>pB (LC ns.length A B m)).Nodup:=ndM0.sublist DP;generalize Ms0.filter (λm=>pB (LC ns.length A B m))=Ms at mmD ndD eD;have lMs:=Li ln ndD λm hm=>(mmD m).mp hm;have s46:=s5.trans s6;refine hN4 _ _ (B9 λN5 hN5=>?_);refine A6 rfl (A6 rfl ⟨p,v,D,ns,_,A,B,Ms,rfl,V4.same s46,by lia,eD,by lia,λdr dts H7 s7 hdr edr dLL dnr dpm dsrt=>?_⟩);have s47:=s46.trans s7;refine hN5 _ _ (B9 λN6 hN6=>?_);refine A6 rfl (A6 rfl ?_);intro x dx nx ndx nex;have sx:F1 H7 (IT (IT H7 dx (.own x)) x (.ins T.ah dx [])):=λb o e=>by
   rw[B6 (B2 e nx),B6 (B2 e ndx)];exact e
  have s27:=s4.trans s47;refine zHq (a:=x) (b:=dx) (c:=n) (d:=ss) (e:=a) (f:=ps) rfl A9 (sx _ _ (s27 _ _ e2)) NO (sx _ _ (s27 _ _ a2)) (Q9 sx (Q9 s27 pin2)) O2 λg qs H8 pn srn pq srq k8 W8=>⟨rfl,?_⟩;have en:g=ns:=Pf srn srt (pn.trans pm.symm);subst en;have s8:F1 H7 H8:=λb o e=>k8 b o (sx b o e) (by simpa using B2 e nx);have s48:=s47.trans s8;have kp:∀k,k∈ps.map (λq=>q.2)↔k∈qs.map λq=>q.2:=λk=>(pq.map _).mem_iff.symm;have mA':=V4.mA.mono (ks':=(qs.map λq=>q.2).map λk=>(k.2,k.1)) λk=>by rw[AJ,AJ];exact⟨λ⟨j,h,e⟩=>⟨j,(kp j).mp h,e⟩,λ⟨j,h,e⟩=>⟨j,(kp j).mpr h,e⟩⟩
  have mB':=V4.mB.mono kp;have hLM:∀j,(i7 g.length λj=>(A.getD j 0).testBit j=true).testBit j=true↔(A.getD j 0).testBit j=true:=λj=>by
   rw[Q2];exact⟨(·.2),λh=>⟨(net.lt j j ((net.tr j j).mp h)).1,h⟩⟩
  generalize (i7 g.length λj=>(A.getD j 0).testBit j=true)=LM at hLM;have k8:Sm [T.ab] H H8:=kF.trans (s2.trans (s4.trans s48)).sm;have T8:=p8 (s2.trans (s4.trans s48)) TF;obtain⟨Ms3,pM3,X⟩:=r9 dpm;have es3:Ms3=UH g (LC g.length A B):=Kf nd (λm h=>h.1) ⟨pM3.nodup_iff.mpr ndD,λm=>pM3.mem_iff.trans (mmD m),by rw[<-X];exact CG.mpr dsrt⟩;have V8:=V4.same s48;have Z:=s8 _ _ edr;have dat8:∀t∈dts,H8 t.1=some (.lst (t.2.map V.str)):=λt L=>s8 _ _ (dLL.at_ t L);have lo3:∀M∈Ms3,J_ g.length M:=λM hM=>((mmD M).mp (pM3.mem_iff.mp hM)).1;have le3:Ms3.length<=300:=by rw[pM3.length_eq];exact lMs
  have out3:∀m,LC g.length A B m->m∈Ms3:=λm h=>pM3.mem_iff.mpr ((mmD m).mpr h);have led:dts.length<=300:=by
   have:=congrArg List.length X;rw[AB,AB]at this;lia
  have okd:∀{ts:A1 (A3×A1 Str)} {Ls:A1 Nat},(ts.map λt=>t.2)=Ls.map (JO g)->∀t∈ts,t.2.length<=12/\(∀y∈t.2,y∈g)/\t.2.Nodup:=fun{ts Ls} e t L=>by
   obtain⟨M,_,e'⟩:=AJ.mp (e▸AJ.mpr ⟨t,L,rfl⟩:t.2∈Ls.map (JO g));have sb:=o7 g M;rw[<-e'];exact⟨VR sb.length_le ln,λy hy=>sb.subset hy,sb.nodup nd⟩
  clear s8 s48 s47 s46 s27 sx s7 s6 s5 dLL dpm pM3 mmD ndD eD el0 mm0 ndM0 hD edr;refine hN6 _ _ (B9 λN7 hN7=>?_);refine A6 rfl ⟨x,g,qs,A,B,LM,rfl,W8,ln,T8,mA',mB',hLM,λt2 r2 tr O U H9 k9 T9 ht2 hr2 et2 er2 LL2 nr2 eM2 ndM2 mm2 le2 srt2 tree2=>?_⟩;have es2:U=Ms3:=(Kf nd (λm h=>h.1) ⟨ndM2,mm2,by rw[<-eM2];exact CG.mpr srt2⟩).trans es3.symm;subst es2;have K9:=KP.of T8 k9;have lt2:O.length<=300:=by
   have:=congrArg List.length eM2;rw[AB,AB]at this;lia
  have okS:∀{ts:A1 (A3×A1 Str)} {Ls:A1 Nat},(ts.map λt=>t.2)=Ls.map (JO g)->∀t∈ts,t.2.length<=300/\∀y∈t.2,PySem.PyData.strOk y=true:=fun{ts Ls} e t L=>⟨by have:=(okd e t L).1;lia,λy hy=>Y3 (nmn y ((okd e t L).2.1 y hy))⟩;refine hN7 _ _ (B9 λN8 hN8=>?_);have oa:=Fx (n:=37) er2 LL2.at_ lt2 (okS eM2);have ob:=Fx (n:=37) (K9 _ _ Z (λ_ z=>by cases z)) (λt L=>K9 _ _ (dat8 t L) (λ_ z=>by cases z)) led (okS X);rw[X,<-eM2]at ob;refine A6 rfl ⟨.ref t2, "tuple",_,true,rfl,.tup et2,rfl,_,rfl,S6 (A6 rfl ⟨t2,_,rfl,.inr (JL.of et2),⟨rfl,_,rfl,S6 ?_⟩⟩)⟩;refine A6 rfl ⟨t2,_,B8 rfl rfl ⟨JL.of et2,E2 (j:=0) rfl,A6 rfl (Ow.alike (n:=40) oa ob λH10 s10=>⟨_,rfl,S6 (hN8 _ _ (B9 λN9 hN9=>?_))⟩)⟩⟩;have K10:=K9.trans (KP.same s10);have V10:=K10.view V8;have edr10:=K10 _ _ Z (λ_ z=>by cases z);have dat10:∀t∈dts,H10 t.1=some (.lst (t.2.map V.str)):=λt L=>K10 _ _ (dat8 t L) (λ_ z=>by cases z);refine A6 rfl ⟨dr,rfl,⟨_,IV.of edr10⟩,λD2 hD2=>?_⟩;refine zCj (r:=λt:A3×A1 Str=>V.ref t.1) (λt=>E9 (SL g t.2)) (ON (IV.of edr10)) (λ_=>true) (by lia) hD2 (λt L G sG M hM=>hM G λb o e=>e) (λt L G sG M hM=>?_) λσ' H11 s11 eD2=>?_
  .obtain⟨l1,sb,ndt⟩:=okd X t L;refine A6 rfl (A6 rfl ⟨p,v,t.1,g,_,A,B,t.2,rfl,V10.same sG,nd,by lia,.inl (IV.of (sG _ _ (dat10 t L))),sb,λz lz hz=>?_⟩);rw[Qu lz hz];exact hM G λb o e=>e
  rw[EZ.mpr λ_ _=>rfl]at eD2;have eD2:H11 D2=some (.lst (U.map E9)):=by
   rw[eD2];have h1:=congrArg (List.map (SL g)) X;rw[BV,BV]at h1;have h2:U.map (SL g∘JO g)=U:=by
    conv=>rhs;rw[<-List.map_id U]
    exact GJ λM hM=>Jq nd (lo3 M hM)
   rw[h2]at h1;rw[<-h1,BV];rfl
  have s911:=s10.trans s11;refine hN9 _ _ (B9 λN10 hN10=>?_);refine A6 rfl (A6 rfl ⟨by show 3<=sizeLine;decide,λwt hwt=>?_⟩);have uw:=F1.new (o:=.tup [.str "clash",.str "cover",.str "beyond"]) hwt;have ew:(IT H11 wt (.tup [.str "clash",.str "cover",.str "beyond"])) wt=some (.tup [.str "clash",.str "cover",.str "beyond"]):=A9;generalize IT H11 wt (.tup [.str "clash",.str "cover",.str "beyond"])=H12 at uw ew⊢;have s912:=s911.trans uw;have V12:=(V10.same s11).same uw;have f1:Y6 g.length 0<=13:=by unfold Y6;lia
  have tr12:JJ g A B LM (u7 g A B U) H12 (Y6 g.length 0) 0 tr:=JJ.keep (λb xs e=>s912 _ _ e) tree2;refine A6 rfl ⟨t2,_,B8 rfl rfl ⟨JL.of (s912 _ _ et2),E2 (j:=1) rfl,?_⟩⟩;refine⟨p,v,D2,wt,tr,g,_,A,B,LM,U,λ_=>True,0,rfl,⟨V12,nd,ln,net,JL.of ew,uw _ _ eD2,le3,Mx net out3⟩,J_.zero _,trivial,tr12.up f1,λH13 s13=>⟨_,rfl,S6 (hN10 _ _ (B9 λN11 hN11=>?_))⟩⟩;have W:=s912.trans s13;have K13:=K9.trans (KP.same W);have k13:=k9.trans W.sm;have T13:=p8 W T9;have er13:=W _ _ er2;have et13:=W _ _ et2;have at13:∀t∈O,H13 t.1=some (.lst (t.2.map V.str)):=λt L=>W _ _ (LL2.at_ t L);have tr13:JJ g A B LM (u7 g A B U) H13 (Y6 g.length 0) 0 tr:=JJ.keep (λb xs e=>s13 _ _ e) tr12;have edr13:=K13 _ _ Z (λ_ z=>by cases z);have dat13:∀t∈dts,H13 t.1=some (.lst (t.2.map V.str)):=λt L=>K13 _ _ (dat8 t L) (λ_ z=>by cases z);have W13:=K13.web W8;clear tr12 V12 V10 dat10 edr10 K10 oa ob s912 s911 s10 s11 uw eD2 ew s13 hN10 hD2 tree2;have ndt:=LL2.nd;have neT:∀{b ys},H13 b=some (.tup ys)->∀t∈O,b≠t.1:=λe t L z=>by
   rw[z,at13 t L]at e;cases e
  refine A6 rfl ⟨t2,_,B8 rfl rfl ⟨JL.of et13,E2 (j:=0) rfl,⟨r2,rfl,⟨_,IV.of er13⟩,?_⟩⟩⟩;refine Zf (ON (K:=K) (IV.of er13)) (λi' σ G=>(∃v10,σ = [some (.ref u),some (.int (i:Int)),some (.ref n),some (.ref a),some (.ref v),some (.ref D),some (.ref dr),some (.ref x),some (.ref t2),some (.ref D2),v10])/\(∀a o,H13 a=some o->a∉(O.take i').map (λt=>t.1)->G a=some o)/\∀t∈O.take i',G t.1=some (.lst (t.2.map V.str ++ [V.str "q"]))) ⟨⟨_,rfl⟩,λa o e _=>e,λt h=>absurd h BB⟩ (λi' σ G hi h o e=>h.2.1 _ _ e λz=>?_) (λi' σ G y hx h=>?_) λσ G h=>hN11 _ _ (B9 λN12 hN12=>?_)
  .obtain⟨Y,I,e⟩:=AJ.mp z;exact nr2 Y (CK I) e
  .obtain⟨⟨v10,rfl⟩,k,kq⟩:=h;rw[AI]at hx;obtain⟨Y,I,rfl⟩:=BC.mp hx;have mt:=AM I;have nin:Y.1∉(O.take i').map λt=>t.1:=λz=>by
    obtain⟨t1,ht1,e⟩:=AJ.mp z;obtain⟨j,hj⟩:=CV.mp ht1;have lj:j<i':=by have:=(AE.mp hj).1;rw[AS]at this;lia
    rw[List.getElem?_take,AQ lj]at hj;have:=J9 ndt (show(O.map λt=>t.1)[j]?=some Y.1 by rw[AI,hj,<-e];rfl) (show(O.map λt=>t.1)[i']?=some Y.1 by rw[AI,I];rfl);lia
   have e1:=k _ _ (at13 Y mt) nin;have lu:=(okS eM2 Y mt).1;refine A6 rfl ⟨.inl ⟨rfl,_,IV.of e1⟩,⟨Y.1,_,_,rfl,rfl,e1,by rw[AB,sizeLine_eq];lia,⟨_,rfl⟩,λa o e n=>?_,λt L=>?_⟩⟩
   .rw[JE I,AR]at n;exact(B6 λz=>n (BO _ (by rw[z];exact .head _))).trans (k a o e λz=>n (FI _ z))
   .rw[JE I]at L;rcases A_.mp L with h | h
    .exact(B6 λz=>nin (by rw[<-z];exact AJ.mpr ⟨t,h,rfl⟩)).trans (kq t h)
    .rw[AG.mp h,A9]
  obtain⟨⟨v10,rfl⟩,k,kq⟩:=h;rw[AB,CA]at k kq;have newT:∀{b o},H8 b=some o->b∉O.map λt=>t.1:=λe z=>by
   obtain⟨Y,I,e'⟩:=AJ.mp z;rw[<-e',LL2.new Y I]at e;cases e
  have S:=k _ _ er13 λz=>by
   obtain⟨Y,I,e⟩:=AJ.mp z;exact nr2 Y I e
  have tupT:∀{b ys},H13 b=some (.tup ys)->G b=some (.tup ys):=λe=>k _ _ e λz=>by
   obtain⟨Y,I,e'⟩:=AJ.mp z;exact neT e Y I e'.symm
  have et14:=tupT et13;have K14:KP H8 G:=λb o e nt=>k _ _ (K13 b o e nt) (newT e);have k14:Sm [T.ab] H8 G:=λb o e n=>k _ _ (k13 b o e n) (newT e);have T14:=Wh k (λl hl=>by
   obtain⟨Y,I,e⟩:=AJ.mp hl;exact⟨_,e▸at13 Y I⟩) T13
  have tr14:JJ g A B LM (u7 g A B U) G (Y6 g.length 0) 0 tr:=JJ.keep (λb xs e=>tupT e) tr13;clear tr13 dat13 edr13 T13 K13 k13 at13 et13 er13 neT;refine A6 rfl ⟨t2,_,B8 rfl rfl ⟨JL.of et14,E2 (j:=0) rfl,⟨r2,rfl,⟨_,IV.of S⟩,λD3 hD3=>?_⟩⟩⟩;refine Gy (rv:=λt:A3×A1 Str=>V.ref t.1) (λt=>t.2) (ON (IV.of S)) (by lia) hD3 (λt L G2 R s2 hR=>?_) λσ' G2 ts3 s14 eD3 L3 n3 m3=>?_
  .have e1:=s2 _ _ (kq t L);refine A6 rfl ⟨_,rfl,A6 rfl ⟨t.1,_,rfl,IV.of e1,λc hc=>?_⟩⟩;rw[Xo];exact hR c _ hc (F1.new hc) A9
  have ed14:=K14 _ _ Z (λ_ z=>by cases z);have rp1:=Zi (K:=K) eD3 L3.at_;have rp2:=Zi (K:=K) (s14 _ _ ed14) λt L=>s14 _ _ (K14 _ _ (dat8 t L) (λ_ z=>by cases z));rw[m3]at rp1;rw[X,<-eM2]at rp2;refine A6 rfl (zBw rp1 rp2 (zFp λl hl y hy=>?_) ⟨_,rfl,S6 (hN12 _ _ (B9 λN13 hN13=>?_))⟩)
  .obtain⟨Y,I,rfl⟩:=AJ.mp hl;exact nmn y ((okd eM2 Y I).2.1 y hy)
  refine A6 rfl ⟨t2,_,B8 rfl rfl ⟨JL.of (s14 _ _ et14),E2 (j:=0) rfl,⟨.inl ⟨rfl,_,IV.of (s14 _ _ S)⟩,CY _,λb hb=>?_⟩⟩⟩;have s15:=s14.trans (F1.new (o:=.lst []) hb);refine⟨r2,_,_,rfl,rfl,s15 _ _ S,by rw[AB,sizeLine_eq];lia,hN13 _ _ ?_⟩;have k15:∀c o,G c=some o->c≠r2->(IT (IT G2 b (.lst [])) r2 (.lst (O.map (λt=>V.ref t.1) ++ [V.ref b]))) c=some o:=λc o e n=>(B6 n).trans (s15 _ _ e);have T15:=zBe (o:=.lst (O.map (λt=>V.ref t.1) ++ [V.ref b])) (s15 _ _ S) (p8 s15 T14);generalize IT (IT G2 b (.lst [])) r2 (.lst (O.map (λt=>V.ref t.1) ++ [V.ref b]))=G3 at k15 T15⊢;have ner:∀{c o},H8 c=some o->c≠r2:=λe z=>by rw[z,hr2]at e;cases e
  have K15:KP H8 G3:=λc o e nt=>k15 _ _ (K14 c o e nt) (ner e);have kk15:Sm [T.ab] H8 G3:=λc o e n=>k15 _ _ (k14 c o e n) (ner e);have tup15:∀{c ys},G c=some (.tup ys)->G3 c=some (.tup ys):=λe=>k15 _ _ e λz=>by rw[z,S]at e;cases e
  have tr15:JJ g A B LM (u7 g A B U) G3 (Y6 g.length 0) 0 tr:=JJ.keep (λb xs e=>tup15 e) tr14;have et15:=tup15 et14;clear tr14 et14 S K14 k14 T14 ed14 rp1 rp2 k kq newT tupT;refine A6 rfl ⟨x,g,qs,A,B,LM,rfl,K15.web W8,ln,T15,mA',mB',hLM,λt3 r3 tr3 ts4 Ms4 H16 k16 T16 ht3 hr3 et3 er3 LL3 nr3 eM4 ndM4 mm4 le4 srt4 tree4=>?_⟩;obtain⟨o3,_,_⟩:=zIq nmn nd ln (Yv nmn) (λm h=>h.1) hr3 et3 er3 LL3 nr3 eM4 ndM4 mm4 le4 srt4 tree4;have K16:=KP.of T15 k16;have KE:=K15.trans K16;refine A6 rfl (A6 rfl ⟨t2,_,B8 rfl rfl ⟨JL.of (K16 _ _ et15 (λ_ z=>by cases z)),E2 (j:=1) rfl,by show 2<=sizeLine;decide,λtt htt=>?_⟩⟩);have ut:=F1.new (o:=.tup [.ref dr,.ref tr]) htt;have od:=Fx (n:=36) (ut _ _ (KE _ _ Z (λ_ z=>by cases z))) (λt L=>ut _ _ (KE _ _ (dat8 t L) (λ_ z=>by cases z))) led (okS X);have ot:=(Kl nmn (by lia) (Yv nmn) (JJ.keep (λb xs e=>ut _ _ (K16 _ _ e (λ_ z=>by cases z))) tr15)).up (m:=39) (by lia);have o4:=Ow.two (n:=39) (l:=tt) A9 od ot;rw[X,es3]at o4;refine Ow.alike (n:=40) (o3.same ut) o4 λH17 s17=>⟨_,rfl,S6 (hD1 _ _ ⟨⟨_,_,_,_,_,_,_,_,_,_,rfl⟩,?_,p8 (ut.trans s17) T16⟩)⟩;exact k8.trans (kk15.trans (k16.trans (ut.trans s17).sm))
end
section
variable{K:VN}{h:IU}{mg:Str->A5 A2}
theorem SB{us:A1 A2}(h:us.length=1):∃a,us = [a]:=List.length_eq_one_iff.mp h
theorem RV{us:A1 A2}(h:us.length=2):∃a b,us = [a,b]:=by
 cases us with
 | nil=>cases h
 | cons a r=>obtain⟨b,rfl⟩:=SB (Nat.succ.inj h);exact⟨a,b,rfl⟩
theorem SW{us:A1 A2}(h:us.length=3):∃a b c,us = [a,b,c]:=by
 cases us with
 | nil=>cases h
 | cons a r=>obtain⟨b,c,rfl⟩:=RV (Nat.succ.inj h);exact⟨a,b,c,rfl⟩
theorem UB{us:A1 A2}(h:us.length=4):∃a b c d,us = [a,b,c,d]:=by
 cases us with
 | nil=>cases h
 | cons a r=>obtain⟨b,c,d,rfl⟩:=SW (Nat.succ.inj h);exact⟨a,b,c,d,rfl⟩
theorem UA{us:A1 A2}(h:us.length=5):∃a b c d e,us = [a,b,c,d,e]:=by
 cases us with
 | nil=>cases h
 | cons a r=>obtain⟨b,c,d,e,rfl⟩:=UB (Nat.succ.inj h);exact⟨a,b,c,d,e,rfl⟩
theorem VB{us:A1 A2}(h:us.length=6):∃a b c d e f,us = [a,b,c,d,e,f]:=by
 cases us with
 | nil=>cases h
 | cons a r=>obtain⟨b,c,d,e,f,rfl⟩:=UA (Nat.succ.inj h);exact⟨a,b,c,d,e,f,rfl⟩
def JF{x:Str}{st:JD}{m:A1 Str}{f:A3}{q:A2}{r n:A5 A3}{o:CM (A5 A2)}{kV i p g ct:A2}(X:K.In h)(G:h.Ns mainGlobals mg)(a:PySem.W.nsIn K mainGlobals x=some (some (.ref f)))
  (l:K.lookup f=some ⟨q,r,.func (PySem.W.fnOf x x (U1 st) (P2 st) (B7 st) .none kV i p n g ct),o⟩) (c:PySem.W.codeIn K g x=true) (k:PySem.W.keepIn K (.ref f)=true)
  (s:∀(kV i p:A2) (n:A5 A3) (g ct:A2) (us:A1 A2),us.length=m.length->bindArgs (PySem.W.fnOf x x (U1 st) (P2 st) (B7 st) .none kV i p n g ct) ⟨us,[]⟩=pure (m.zip us):=by intro _ _ _ _ _ _ us j;first | (obtain rfl:=List.length_eq_zero_iff.mp j;rfl) | (obtain⟨a,rfl⟩:=Sw.SB j;rfl) | (obtain⟨a,b,rfl⟩:=Sw.RV j;rfl) | (obtain⟨a,b,c,rfl⟩:=Sw.SW j;rfl) | (obtain⟨a,b,c,d,rfl⟩:=Sw.UB j;rfl) | (obtain⟨a,b,c,d,e,rfl⟩:=Sw.UA j;rfl) | (obtain⟨a,b,c,d,e,f,rfl⟩:=Sw.VB j;rfl)):Fn K mg x st m :=
 ⟨f,_,MT l c k,(MT l c k).binds s,PySem.W.mg_of X G a⟩
def MO{C:A3}{x q:Str}{st:JD}{m:A1 Str}{f:A3}{r:A2}{s n:A5 A3}{o:CM (A5 A2)}{kV h p g ct:A2}(a:PySem.W.findIn K (.ref C) x=some (some (.ref f)))(i:PySem.W.isFn K (.ref f)=true)
  (l:K.lookup f=some ⟨r,s,.func (PySem.W.fnOf x q (U1 st) (P2 st) (B7 st) .none kV h p n g ct),o⟩) (c:PySem.W.codeIn K g q=true) (k:PySem.W.keepIn K (.ref f)=true)
  (t:∀(kV h p:A2) (n:A5 A3) (g ct:A2) (us:A1 A2),us.length=m.length->bindArgs (PySem.W.fnOf x q (U1 st) (P2 st) (B7 st) .none kV h p n g ct) ⟨us,[]⟩=pure (m.zip us):=by intro _ _ _ _ _ _ us j;first | (obtain rfl:=List.length_eq_zero_iff.mp j;rfl) | (obtain⟨a,rfl⟩:=Sw.SB j;rfl) | (obtain⟨a,b,rfl⟩:=Sw.RV j;rfl) | (obtain⟨a,b,c,rfl⟩:=Sw.SW j;rfl) | (obtain⟨a,b,c,d,rfl⟩:=Sw.UB j;rfl) | (obtain⟨a,b,c,d,e,rfl⟩:=Sw.UA j;rfl) | (obtain⟨a,b,c,d,e,f,rfl⟩:=Sw.VB j;rfl)):Mt K C x q st m :=
 ⟨f,_,MT l c k,(MT l c k).binds t,⟨a,i,k⟩⟩
theorem TZ{x z:Str}{v:A2}(X:K.In h)(G:h.Ns mainGlobals mg)(a:PySem.W.nsIn K mainGlobals x=some (some v))(e:∃t,v = .str z t):∃t,mg x=some (.str z t):=by
 obtain⟨t,rfl⟩:=e;exact⟨t,PySem.W.mg_of X G a⟩
theorem SD{x:Str}{z:Int}{v:A2}(X:K.In h)(G:h.Ns mainGlobals mg)(a:PySem.W.nsIn K mainGlobals x=some (some v))(e:∃t,v = .int z t):∃t,mg x=some (.int z t):=by
 obtain⟨t,rfl⟩:=e;exact⟨t,PySem.W.mg_of X G a⟩
def zFb(vs:CM A2)(c p:A3):Bool:=decide (vs[11]?=some (.ref p)) &&(match vs.getD 18 .none with | .str _ _=>true | _=>false) &&(match vs.getD 7 .none with | .int _ _=>true | _=>false) &&(match vs.getD 9 .none with | .bool _=>true | _=>false) &&(match vs.getD 10 .none with | .int _ _=>true | _=>false)&&decide (c≠p)&&decide (mainGlobals≠p)
theorem TY{c p:A3}{y:A5 A3}{vs:CM A2}{z:CM (A5 A2)}(l:K.lookup c=some ⟨.type "code",y,.fields vs,z⟩)(A:vs.getD 11 .none = .ref p)(e:zFb vs c p=true):TabAt K mg c p:=by
 unfold zFb at e;simp only[BL,decide_eq_true_eq]at e;obtain⟨⟨⟨⟨⟨⟨i,f⟩,w⟩,x⟩,h⟩,j⟩,m⟩:=e;have b:∃a t,vs.getD 18 .none = .str a t:=by cases q:vs.getD 18 .none<;>rw[q]at f<;>first | exact⟨_,_,rfl⟩ | cases f
 have n:∃a t,vs.getD 7 .none = .int a t:=by cases q:vs.getD 7 .none<;>rw[q]at w<;>first | exact⟨_,_,rfl⟩ | cases w
 have o:∃a,vs.getD 9 .none = .bool a:=by cases q:vs.getD 9 .none<;>rw[q]at x<;>first | exact⟨_,rfl⟩ | cases x
 have d:∃a t,vs.getD 10 .none = .int a t:=by cases q:vs.getD 10 .none<;>rw[q]at h<;>first | exact⟨_,_,rfl⟩ | cases h
 obtain⟨r,s,b⟩:=b;obtain⟨B,C,n⟩:=n;obtain⟨D,o⟩:=o;obtain⟨u,v,d⟩:=d;exact⟨λg k=>⟨_,vs,r,s,B,C,D,u,v,k _ _ l,rfl,rfl,i,A,b,n,o,d,j⟩,m⟩
theorem JZ{C:A3}{f:Str}(h:PySem.W.findIn K (.ref C) f=some none):KC K C f:=h
end
def UD{l:PySem.W.OpenLaw}{w:F8}{K:VN}{h:IU}{mg:Str->A5 A2}{n f d:A3}{u:A2}{x q:A5 A3}{i:CM (A5 A2)}{kV g r b ct:A2}(X:K.In h)(G:h.Ns mainGlobals mg)(j:mg "law" = some (.ref n))
  (T:Tx K mg) (a:PySem.W.nsIn K mainGlobals "law" = some (some (.ref f))) (lk:K.lookup f=some ⟨u,x,.func (PySem.W.fnOf "law" "law" (U1 PK) (P2 PK) (B7 PK) .none kV g r q b ct),i⟩) (c:PySem.W.codeIn K b "law" = true) (k:PySem.W.keepIn K (.ref f)=true) (ep:T.ab=d) (y:K.lookup d=none) :
  (∀p∈[d],isCodeTable h p)/\(∀p∈[d],K.lookup p=none)/\∃t:JC,(∀(s:A4) (v:A2),BindsTo s t ⟨[v],[]⟩ [("_law_script",v)])/\∀base:IU,K.In base->base.Ns mainGlobals mg->(∀p∈[d],base.BuiltinsAt mg p)->IZ l.prog w K mg base JK 41 n t ["_law_script"] (Na K d):=by
 subst ep;have e:=j.symm.trans (PySem.W.mg_of X G a);cases e;refine⟨λp m=>?_,λp m=>by rw[AG.mp m];exact y,PySem.W.fnOf "law" "law" (U1 PK) (P2 PK) (B7 PK) .none kV g r q b ct,λs v=>.of_eq rfl,λbase _ _ z=>zEm T (z _ (AG.mpr rfl)) (MT lk c k)⟩;obtain⟨o,A,_,_,_,_,_,_,_,B,C,D,E,_⟩:=T.br.hd h X;rw[AG.mp m];exact⟨_,o,A,B,C,D,E⟩
def walk{l:PySem.W.OpenLaw}{q:A7}{c:A1 Str}{o:(Str->A5 A2)->IU->Prop}{e:F8->IU->Prop}{d:DefRec}{K:Params->VN}{b:A3}(r:l.most=some 63)(g:d.params.defaults = [])
  (t:∀(w:F8) (h:IU),e w h->(K w.params).In h) (i:∀(w:F8) (h:IU),e w h->∀p∈[b],h.get? p=some (PySem.W.tabObj #[]))
  (F:∀(w:F8) (mg:Str->A5 A2) (j:A3) (h:IU),(K w.params).In h->h.Ns mainGlobals mg->mg d.name=some (.ref j) ->
   (∀p∈[b],isCodeTable h p)/\(∀p∈[b],(K w.params).lookup p=none)/\∃m:JC,(∀(s:A4) (u:A2),BindsTo s m ⟨[u],[]⟩ [("_law_script",u)])/\∀base:IU,(K w.params).In base->base.Ns mainGlobals mg->(∀p∈[b],base.BuiltinsAt mg p)->IZ l.prog w (K w.params) mg base JK 41 j m ["_law_script"] (Na (K w.params) b)) :
  PySem.W.WalkO q c o e l.row.toRowW d [] (λf vs=>PySem.call f vs) :=
 L2.R_ (n:=63) (k:=41) (x := "_law_script") (ts:=[b]) (sp:=λw=>Na (K w.params) b) r (by decide) g ⟨rfl,by decide,by decide⟩ t i F (λ_ _ a v y z A=>⟨a,v,rfl,A,y,⟨#[],z b (AG.mpr rfl),trivial,λ_ _=>.inl rfl⟩,λ_=>rfl⟩)
end Sw
open PySem PySem.W PyProof.Rows
set_option maxRecDepth 100000 in
set_option maxHeartbeats 0 in
theorem PySem.Challenge.cw_strikeweave_k33_outright_ones_and_no_oth_holds : PySem.Challenge.rw_strikeweave_k33_outright_ones_and_no_oth.Holds := by
 w_on;o_law;k_head;(case hw=>w_witness2)
 k_fill
 refine Sw.walk (l:=PySem.Challenge.rw_strikeweave_k33_outright_ones_and_no_oth) rfl rfl (λw h Y=>PySem.W.km_in_of Y) (λw h Y=>PySem.W.km_tabs_of Y) ?F
 case F =>
  intro w mg fa h KX G hmg;refine' Sw.UD KX G hmg (Sw.Tx.mk (Sw.JF KX G ?a1 ?l2 ?c3 ?k4)
   (Sw.JF KX G ?a5 ?l6 ?c7 ?k8)
   (Sw.JF KX G ?a9 ?l10 ?c11 ?k12)
   (Sw.JF KX G ?a13 ?l14 ?c15 ?k16)
   (Sw.JF KX G ?a17 ?l18 ?c19 ?k20)
   (Sw.JF KX G ?a21 ?l22 ?c23 ?k24)
   (Sw.JF KX G ?a25 ?l26 ?c27 ?k28)
   (Sw.JF KX G ?a29 ?l30 ?c31 ?k32)
   (Sw.JF KX G ?a33 ?l34 ?c35 ?k36)
   (Sw.JF KX G ?a37 ?l38 ?c39 ?k40)
   (Sw.JF KX G ?a41 ?l42 ?c43 ?k44)
   (Sw.JF KX G ?a45 ?l46 ?c47 ?k48)
   (Sw.JF KX G ?a49 ?l50 ?c51 ?k52)
   _
   _
   (Sw.TY ?l54 ?r55 ?r56)
   ?r53
   (Sw.JF KX G ?a57 ?l58 ?c59 ?k60)
   (Sw.JF KX G ?a61 ?l62 ?c63 ?k64)
   (Sw.JF KX G ?a65 ?l66 ?c67 ?k68)
   (Sw.JF KX G ?a69 ?l70 ?c71 ?k72)
   (Sw.JF KX G ?a73 ?l74 ?c75 ?k76)
   (Sw.JF KX G ?a77 ?l78 ?c79 ?k80)
   (Sw.JF KX G ?a81 ?l82 ?c83 ?k84)
   (Sw.JF KX G ?a85 ?l86 ?c87 ?k88)
   (Sw.JF KX G ?a89 ?l90 ?c91 ?k92)
   (Sw.JF KX G ?a93 ?l94 ?c95 ?k96)
   (Sw.JF KX G ?a97 ?l98 ?c99 ?k100)
   (Sw.JF KX G ?a101 ?l102 ?c103 ?k104)
   (Sw.JF KX G ?a105 ?l106 ?c107 ?k108)
   (Sw.JF KX G ?a109 ?l110 ?c111 ?k112)
   (Sw.JF KX G ?a113 ?l114 ?c115 ?k116)
   (Sw.JF KX G ?a117 ?l118 ?c119 ?k120)
   (Sw.JF KX G ?a121 ?l122 ?c123 ?k124)
   (Sw.JF KX G ?a125 ?l126 ?c127 ?k128)
   (Sw.JF KX G ?a129 ?l130 ?c131 ?k132)
   (Sw.JF KX G ?a133 ?l134 ?c135 ?k136)
   (Sw.JF KX G ?a137 ?l138 ?c139 ?k140)
   (Sw.JF KX G ?a141 ?l142 ?c143 ?k144)
   (Sw.JF KX G ?a145 ?l146 ?c147 ?k148)
   (Sw.JF KX G ?a149 ?l150 ?c151 ?k152)
   (Sw.JF KX G ?a153 ?l154 ?c155 ?k156)
   (Sw.JF KX G ?a157 ?l158 ?c159 ?k160)
   (Sw.JF KX G ?a161 ?l162 ?c163 ?k164)
   (Sw.JF KX G ?a165 ?l166 ?c167 ?k168)
   (Sw.JF KX G ?a169 ?l170 ?c171 ?k172)
   (Sw.JF KX G ?a173 ?l174 ?c175 ?k176)
   _
   ⟨?g178,?g179,?g180,?g181⟩
   (PySem.W.mg_of KX G ?q177)
   (Sw.JZ ?n182)
   (Sw.JZ ?n183)
   (Sw.JZ ?n184)
   (Sw.JZ ?n185)
   (Sw.JZ ?n186)
   (Sw.JZ ?n187)
   _
   _
   (L2.MT ?l190 ?c191 ?k192)
   (L2.QT.binds (L2.MT ?l190 ?c191 ?k192) (λ_ _ _ _ _ _ us hl=>by obtain⟨a,b,rfl⟩:=Sw.RV hl;rfl))
   ⟨?g193,?a188,?i189,?k194⟩
   (Sw.MO ?a195 ?i196 ?l197 ?c198 ?k199)
   (Sw.MO ?a200 ?i201 ?l202 ?c203 ?k204)
   (Sw.MO ?a205 ?i206 ?l207 ?c208 ?k209)
   (Sw.MO ?a210 ?i211 ?l212 ?c213 ?k214)
   (Sw.MO ?a215 ?i216 ?l217 ?c218 ?k219)
   (Sw.MO ?a220 ?i221 ?l222 ?c223 ?k224)
   (Sw.MO ?a225 ?i226 ?l227 ?c228 ?k229)
   (Sw.MO ?a230 ?i231 ?l232 ?c233 ?k234)
   _
   ⟨?g236,?g237,?g238,?g239⟩
   (PySem.W.mg_of KX G ?q235)
   (Sw.JZ ?n240)
   (Sw.JZ ?n241)
   (Sw.JZ ?n242)
   (Sw.JZ ?n243)
   _
   _
   (L2.MT ?l246 ?c247 ?k248)
   (L2.QT.binds (L2.MT ?l246 ?c247 ?k248) (λ_ _ _ _ _ _ us hl=>by obtain⟨a,b,c,rfl⟩:=Sw.SW hl;rfl))
   ⟨?g249,?a244,?i245,?k250⟩
   (Sw.MO ?a251 ?i252 ?l253 ?c254 ?k255)
   (Sw.MO ?a256 ?i257 ?l258 ?c259 ?k260)
   (Sw.MO ?a261 ?i262 ?l263 ?c264 ?k265)
   (Sw.MO ?a266 ?i267 ?l268 ?c269 ?k270)
   (Sw.MO ?a271 ?i272 ?l273 ?c274 ?k275)
   (Sw.SD KX G ?v276 ?e277)
   (Sw.TZ KX G ?v278 ?e279)
   (Sw.SD KX G ?v280 ?e281)
   (VZ KX G ?z282)
   (VZ KX G ?z283)
   (VZ KX G ?z284)
   (VZ KX G ?z285)
   (VZ KX G ?z286)
   (VZ KX G ?z287)
   (VZ KX G ?z288)
   (VZ KX G ?z289)
   (VZ KX G ?z290)
   (VZ KX G ?z291)
   (VZ KX G ?z292)
   (VZ KX G ?z293)
   (VZ KX G ?z294)
   (VZ KX G ?z295)
   (VZ KX G ?z296)
   (VZ KX G ?z297)
   (VZ KX G ?z298)
   (VZ KX G ?z299)
   (VZ KX G ?z300)) ?aL ?lL ?cL ?kL ?rP ?tP
  case a1|l2|c3|k4|a5|l6|c7|k8|a9|l10|c11|k12|a13|l14|c15|k16|a17|l18|c19|k20|a21|l22|c23|k24|a25|l26|c27|k28|a29|l30|c31|k32|a33|l34|c35|k36|a37|l38|c39|k40|a41|l42|c43|k44|a45|l46|c47|k48|a49|l50|c51|k52=>k_is
  case r53=>rfl
  case l54=>k_is
  case r55=>rfl
  case r56=>rfl
  case a57|l58|c59|k60|a61|l62|c63|k64|a65|l66|c67|k68|a69|l70|c71|k72|a73|l74|c75|k76|a77|l78|c79|k80|a81|l82|c83|k84|a85|l86|c87|k88|a89|l90|c91|k92|a93|l94|c95|k96|a97|l98|c99|k100|a101|l102|c103|k104|a105|l106|c107|k108|a109|l110|c111|k112|a113|l114|c115|k116|a117|l118|c119|k120|a121|l122|c123|k124|a125|l126|c127|k128|a129|l130|c131|k132|a133|l134|c135|k136|a137|l138|c139|k140|a141|l142|c143|k144|a145|l146|c147|k148|a149|l150|c151|k152|a153|l154|c155|k156|a157|l158|c159|k160|a161|l162|c163|k164|a165|l166|c167|k168|a169|l170|c171|k172|a173|l174|c175|k176|q177|g178|g179|g180|g181|n182|n183|n184|n185|n186|n187|a188|i189|l190|c191|k192|g193|k194|a195|i196|l197|c198|k199|a200|i201|l202|c203|k204|a205|i206|l207|c208|k209|a210|i211|l212|c213|k214|a215|i216|l217|c218|k219|a220|i221|l222|c223|k224|a225|i226|l227|c228|k229|a230|i231|l232|c233|k234|q235|g236|g237|g238|g239|n240|n241|n242|n243|a244|i245|l246|c247|k248|g249|k250|a251|i252|l253|c254|k255|a256|i257|l258|c259|k260|a261|i262|l263|c264|k265|a266|i267|l268|c269|k270|a271|i272|l273|c274|k275|v276=>k_is
  case e277=>exact⟨_,rfl⟩
  case v278=>k_is
  case e279=>exact⟨_,rfl⟩
  case v280=>k_is
  case e281=>exact⟨_,rfl⟩
  case z282|z283|z284|z285|z286|z287|z288|z289|z290|z291|z292|z293|z294|z295|z296|z297|z298|z299|z300|aL|lL|cL|kL=>k_is
  case rP=>rfl
  case tP=>kernel_rfl
